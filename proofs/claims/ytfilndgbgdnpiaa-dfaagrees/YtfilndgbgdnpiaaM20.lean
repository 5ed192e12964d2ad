/-
  Texts put together: Contracts over this program: the document's Longest (fretsawref08), Ints (fretsawref07), short. Over this program: a region that draws its order, walked by hand: loads, moves and assignments are taken first, calls come up one behind the other.
-/
import Derived.Test.YtfilndgbgdnpiaaM01
import Derived.Deep.RegionHeld3
import Derived.Deep.MidRow
import Derived.OrdersHeld
namespace Go.Proofs.Ytfilndgbgdnpiaa.df
open Go.RowKit Go.Shelf
set_option linter.unusedVariables false

theorem ints_last {w : World} {o : Option Addr} {cap : Nat} {l : List Int} (h : Row (In w) w iv o cap l) (hl : 1 ≤ l.length) :
    ∃ b off, o = some ⟨b, off, none⟩ ∧ b < w.heap.size ∧ w.cell? ⟨b, off + (l.length - 1), none⟩ = some (.int .i64 (l.getLast?.getD (-1))) := by
  obtain ⟨b, off, e, hb, hc⟩ := h.lie (l.length - 1) (by omega)
  refine ⟨b, off, e, hb, ?_⟩
  rw [hc, List.getLast?_eq_getElem?, List.getElem?_eq_getElem (by omega)]
  rfl
def IntsIs (l m : List Int) (r : Bool) : Prop := ∀ v1 v2 w, IntsV w v1 l → IntsV w v2 m → Calls Try.prog 14 #[v1, v2] w fun e w' => e = .returned (.bool r) ∧ Below w.heap.size w w'
theorem take_snoc {l : List Int} {i : Nat} (h : i < l.length) : l.take (i + 1) = l.take i ++ [l[i]] := by
  rw [List.take_add_one, List.getElem?_eq_getElem h]; rfl
set_option maxHeartbeats 1000000 in
theorem ints_any (l m : List Int) (r : Bool) (hr : r = decide (l = m)) : IntsIs l m r := by
  intro v1 v2 w h1 h2
  obtain ⟨o, cap, rfl, h1⟩ := h1
  obtain ⟨o', cap', rfl, h2⟩ := h2
  have f1 := h1.fit
  have f2 := h1.top
  have f3 := h2.fit
  have f4 := h2.top
  have H1 : Hid (Row (In w) w iv o cap l) := h1
  have H2 : Hid (Row (In w) w iv o' cap' m) := h2
  have HR : Hid (r = decide (l = m)) := hr
  clear h1 h2 hr
  by_cases hne : l.length = m.length
  · have g1 : ((l.length : Int) == (m.length : Int)) = true := beq_iff_eq.2 (by omega)
    have g2 : ((l.length : Int) != (m.length : Int)) = false := by rw [bne, g1]; rfl
    have HL : Hid (l.length = m.length) := hne
    clear hne
    go_enter Try.func14, Try.ntmps14
    go_wp2_with (fail)
    go_loopw [13] (fun y wr => ∃ i : Nat, y = .int .i64 i ∧ i ≤ l.length ∧ Hid (l.take i = m.take i) ∧ Below w.heap.size w wr) (fun y _ => l.length - (intOf y).toNat)
    case atStart => exact ⟨0, rfl, by omega, by show _ = _; simp, Below.refl _ _⟩
    case round =>
      obtain ⟨i, rfl, hil, HI, hB⟩ := hrel
      by_cases hend : i < l.length
      · have hend2 : i < m.length := by have := HL.out; omega
        obtain ⟨b, off, rfl, hb, hc⟩ := H1.out.lie i hend
        obtain ⟨b', off', rfl, hb', hc'⟩ := H2.out.lie i hend2
        have k1 := (hB.cell (p := ⟨b, off + i, none⟩) hb).trans hc
        have k2 := (hB.cell (p := ⟨b', off' + i, none⟩) hb').trans hc'
        have HT : Hid (l[i] = m[i] → l.take (i + 1) = m.take (i + 1)) := fun h => by rw [take_snoc hend, take_snoc hend2, HI.out, h]
        have HN : Hid (l[i] ≠ m[i] → r = false) := fun h => by
          rw [HR.out]
          exact decide_eq_false (fun e => h (by subst e; rfl))
        generalize l[i] = x at *
        generalize m[i] = y at *
        clear hc hc' HI
        by_cases hxy : x = y
        · have q1 : (x == y) = true := beq_iff_eq.2 hxy
          have q2 : (x != y) = false := by rw [bne, q1]; rfl
          have HT2 : Hid (l.take (i + 1) = m.take (i + 1)) := HT.out hxy
          clear hxy HT HN
          go_wp2_with (fail)
          go_quiet (fail)
          go_wp2_with (fail)
          go_roundw
          case rel => exact ⟨i + 1, by go_num, by omega, HT2, below_drewN hB _⟩
          case measure => simp [intOf]; omega
        · have q1 : (x == y) = false := beq_eq_false_iff_ne.2 hxy
          have q2 : (x != y) = true := bne_iff_ne.2 hxy
          have HF : Hid (r = false) := HN.out hxy
          clear hxy HT HN
          go_wp2_with (fail)
          go_quiet (fail)
          go_wp2_with (fail)
          go_ret
          exact ⟨by rw [HF.out]; rfl, below_drewN hB _⟩
      · have HF : Hid (r = true) := by
          show _ = _
          rw [HR.out]
          refine decide_eq_true ?_
          have := HI.out
          rw [List.take_of_length_le (by omega), List.take_of_length_le (by have := HL.out; omega)] at this
          exact this
        go_wp2_with (fail)
        go_ret
        exact ⟨by rw [HF.out]; rfl, hB⟩
  · have g1 : ((l.length : Int) == (m.length : Int)) = false := beq_eq_false_iff_ne.2 (by omega)
    have g2 : ((l.length : Int) != (m.length : Int)) = true := bne_iff_ne.2 (by omega)
    have HF : Hid (r = false) := by
      show _ = _
      rw [HR.out]
      exact decide_eq_false (fun e => hne (by rw [e]))
    clear hne
    go_enter Try.func14, Try.ntmps14
    go_wp2_with (fail)
    go_ret
    exact ⟨by rw [HF.out]; rfl, Below.refl _ _⟩

def cut (s : ByteArray) (n : Nat) : ByteArray := if s.size ≤ n then s else s.extract 0 n
theorem cut_size (s : ByteArray) (n : Nat) : (cut s n).size ≤ n := by
  unfold cut
  split
  · assumption
  · simp; omega
set_option maxHeartbeats 1000000 in
theorem short_any (f : Nat) (hf : f = 20) (s : ByteArray) (n : Nat) (hs : s.size ≤ 9223372036854775807) (hn : n ≤ 100000) (w : World) : Calls Try.prog 20 #[.string s, .int .i64 (n : Int)] w fun e w' => e = .returned (.string (cut s n)) ∧ w' = w := by
  by_cases h : s.size ≤ n
  · have e : cut s n = s := by unfold cut; rw [if_pos h]
    rw [e]
    go_enter Try.func20, Try.ntmps20
    go_wp2
    go_ret
    exact ⟨rfl, rfl⟩
  · have HE : Hid (cut s n = s.extract 0 n) := by show _ = _; unfold cut; rw [if_neg h]
    have hn2 : n < s.size := by omega
    clear h
    go_enter Try.func20, Try.ntmps20
    go_wp2
    go_ret
    exact ⟨by rw [HE.out]; rfl, rfl⟩
end Go.Proofs.Ytfilndgbgdnpiaa.df

namespace Go.Proofs.Ytfilndgbgdnpiaa.df
open Go.RowKit
set_option linter.unusedVariables false

section
variable {ops : Array Oper} {S : World → Prop} {op : Oper} {a : Act} {Q : Exit → Act → World → Prop} {fuel : Nat} {listed : Array Bool} {w : World}
theorem yields_load (hw : Region.wanted op (yielded ops a.tmps) = true) (x : Operand) (ho : op.op = .load 51 x) (g : Nat) (hx : a.eval x = .pointer (some ⟨g, 0, none⟩)) (cs : Array Value) (hs : cs.size = 258) (hS : ∀ W, S W → DBox W g cs) : YieldsIf Try.prog ops S op (.agg cs) a :=
  .inl ⟨hw, fun w h => by
    unfold execOp
    simp only [ho, hx, Instr.loadAt, Instr.sureAddr, Sem.run_bind, Sem.run_pure, Result.andThen_ok, run_loadVar_row w g 51 51 cs (0, 0) _ (hS w h) Try.underlying51 rfl (info51 cs hs)]⟩
theorem yields_move (hw : Region.wanted op (yielded ops a.tmps) = true) (x : Operand) (ho : op.op = .move x) : YieldsIf Try.prog ops S op (a.eval x) a :=
  .inl ⟨hw, fun w h => by unfold execOp; rw [ho]; rfl⟩
theorem yields_assign (hw : Region.wanted op (yielded ops a.tmps) = true) (x : Operand) (ho : op.op = .assign x) : YieldsIf Try.prog ops S op (a.eval x) a :=
  .inl ⟨hw, fun w h => by unfold execOp; rw [ho]; rfl⟩
theorem take_op {i : Nat} (k : Nat) {v : Value} (hi : ops[i]? = some op) (hd : op.dst = some k) (hy : YieldsIf Try.prog ops S op v a) (hs : Region.noSelect ops = true) (hf : Region.free .any ops listed i = true) (hr : (Region.ready .any ops listed).contains i = true)
    (hQ : ∀ c a w, Q (.panic c) (a.put (some k) v) w → Q (.panic c) a w) (hS : S w)
    (h : wpAnyH Try.prog .any ops Q S fuel (listed.setIfInBounds i true) (a.put (some k) v) w) : wpAnyH Try.prog .any ops Q S (fuel + 1) listed a w :=
  wpAnyH_take hi hs hf hr (by rw [hd]; exact hQ) hy hS (by rw [hd]; exact h)
theorem call_op (i k : Nat) {f : FuncId} {args : Array Value} (hr : Region.ready .any ops listed = [i]) (ho : ops[i]? = some op) (hd : op.dst = some k) (hw : Region.wanted op (yielded ops a.tmps) = true) (hx : (execOp a.eval op).run Try.prog w = .ok (.enter f args) w)
    (hc : Calls Try.prog f args w fun e w' => ∃ v, e = .returned v ∧ S w' ∧ wpAnyH Try.prog .any ops Q S fuel (listed.setIfInBounds i true) (a.put (some k) v) w') : wpAnyH Try.prog .any ops Q S (fuel + 1) listed a w := by
  refine wpAnyH_all hr (by simp) (fun j hj => ?_)
  simp at hj
  subst hj
  unfold wpOp
  simp only [ho, hw, if_true]
  refine .inl ?_
  unfold Oper.wp
  rw [hx]
  simp only [Oper.upon]
  refine hc.mono ?_
  rintro e w' ⟨v, rfl, h1, h2⟩
  rw [hd]
  exact ⟨h1, h2⟩
theorem done_op (hr : Region.ready .any ops listed = []) (h : Q .normal a w) : wpAnyH Try.prog .any ops Q S fuel listed a w := wpAnyH_done hr h fuel
end
end Go.Proofs.Ytfilndgbgdnpiaa.df
