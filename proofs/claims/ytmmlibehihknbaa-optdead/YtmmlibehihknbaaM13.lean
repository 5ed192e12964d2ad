/-
  Texts put together: Plain mathematics: the places at which what a dfa takes may end. Over this program: the iterator that hands on the places of Ends (dfa.taken's closure), for every body that keeps its memory. Over this program: the iterator that hands on the places of Ends goes on (dfa.taken's closure). Contracts over this program: dfa.taken, slices.AppendSeq and slices.Collect over it, dfa.Ends, dfa.Longest. Contracts over this program: the document's Ends and Longest (fretsawref08), Ints (fretsawref07), short. Contracts over this program: the document's Longest (fretsawref08), Ints (fretsawref07), short.
-/
import Derived.Test.YtmmlibehihknbaaM12
import Derived.RangeFuncNested
import Derived.RangeFuncBound
import Derived.RangeFuncCalls
import Derived.RangeFuncLeaves
import Derived.RangeFuncBox
import Derived.Shelf.Abstract
import Derived.Shelf.RegionOpen
import Derived.OwnWalkIn
import Derived.TacticsInMore
import Derived.LoopNIn
import Derived.LoopIn
import Derived.Sort.QuietIn
import Derived.Maps.AppendAt
import Derived.Laws.OwnMore
import Derived.OwnWalk
import Derived.Deep.RegionHeld3
import Derived.Deep.MidRow
namespace Go.Proofs.Ytmmlibehihknbaa.df
set_option linter.unusedVariables false

def nxt (d : Dfa) (q c : Nat) : Int := (d.next[q]?.getD [])[c]?.getD (-1)
def acpt (d : Dfa) (q : Nat) : Bool := d.acc[q]?.getD false
def byteAt (s : ByteArray) (i : Nat) : Nat := (s[i]?.getD 0).toNat
def here (d : Dfa) (q at' : Nat) : List Int := if acpt d q then [(at' : Int)] else []
def ends (d : Dfa) (s : ByteArray) : Nat → Int → Nat → List Int
  | 0, q, at' => if q < 0 then [] else here d q.toNat at'
  | f + 1, q, at' => if q < 0 then [] else here d q.toNat at' ++ ends d s f (nxt d q.toNat (d.cls (byteAt s at'))) (at' + 1)

theorem ends_neg (d : Dfa) (s : ByteArray) (f : Nat) (q : Int) (at' : Nat) (h : q < 0) : ends d s f q at' = [] := by
  cases f <;> simp [ends, h]
theorem ends_zero (d : Dfa) (s : ByteArray) (q at' : Nat) : ends d s 0 (q : Int) at' = here d q at' := by
  have : ¬ ((q : Int) < 0) := by omega
  simp [ends, this]
theorem ends_succ (d : Dfa) (s : ByteArray) (f q at' : Nat) : ends d s (f + 1) (q : Int) at' = here d q at' ++ ends d s f (nxt d q (d.cls (byteAt s at'))) (at' + 1) := by
  have : ¬ ((q : Int) < 0) := by omega
  simp [ends, this]
theorem here_len (d : Dfa) (q at' : Nat) : (here d q at').length ≤ 1 := by unfold here; split <;> simp
theorem ends_len (d : Dfa) (s : ByteArray) : ∀ f q at', (ends d s f q at').length ≤ f + 1
  | 0, q, at' => by
    unfold ends
    split
    · simp
    · exact here_len _ _ _
  | f + 1, q, at' => by
    unfold ends
    split
    · simp
    · have := here_len d q.toNat at'
      have := ends_len d s f (nxt d q.toNat (d.cls (byteAt s at'))) (at' + 1)
      rw [List.length_append]
      omega

structure Ok (d : Dfa) : Prop where
  one : 1 ≤ d.next.length
  most : d.next.length ≤ 400
  accs : d.acc.length = d.next.length
  cl : ∀ i, i < 256 → d.cls i < width d
  wide : ∀ i (h : i < d.next.length), d.next[i].length = width d
  k256 : width d ≤ 256
  st : ∀ i (h : i < d.next.length) j (hj : j < d.next[i].length), -1 ≤ d.next[i][j] ∧ d.next[i][j] < (d.next.length : Int)
theorem ok_of (d : Dfa) (h : right d = true) : Ok d := by
  unfold right at h
  simp only [Bool.and_eq_true, decide_eq_true_eq, beq_iff_eq] at h
  obtain ⟨⟨⟨⟨⟨⟨h1, h2⟩, h3⟩, h4⟩, h5⟩, h6⟩, h7⟩ := h
  unfold clsOk at h7
  rw [List.all_eq_true] at h6 h7
  have hrow : ∀ i (h : i < d.next.length), rowOk d.next.length (width d) d.next[i] = true := fun i h => h6 _ (List.getElem_mem h)
  refine ⟨h1, h2, h3, fun i hi => by simpa using h7 i (List.mem_range.2 hi), fun i hi => ?_, h5, fun i hi j hj => ?_⟩
  · have := hrow i hi
    unfold rowOk at this
    simp only [Bool.and_eq_true, beq_iff_eq] at this
    exact this.1
  · have := hrow i hi
    unfold rowOk goOn at this
    simp only [Bool.and_eq_true, beq_iff_eq, List.all_eq_true, decide_eq_true_eq] at this
    exact this.2 _ (List.getElem_mem hj)
theorem byte_lt (s : ByteArray) (i : Nat) : byteAt s i < 256 := by unfold byteAt; exact UInt8.toNat_lt _
theorem byte_eq (s : ByteArray) (i : Nat) (h : i < s.size) : byteAt s i = s[i].toNat := by
  unfold byteAt
  rw [getElem?_pos s i h]
  rfl
theorem nxt_ok {d : Dfa} (h : Ok d) (q c : Nat) (hq : q < d.next.length) (hc : c < width d) : -1 ≤ nxt d q c ∧ nxt d q c < (d.next.length : Int) := by
  unfold nxt
  rw [List.getElem?_eq_getElem hq]
  have hw := h.wide q hq
  have := h.st q hq c (by omega)
  rw [Option.getD_some, List.getElem?_eq_getElem (by omega)]
  exact this
end Go.Proofs.Ytmmlibehihknbaa.df

namespace Go.Proofs.Ytmmlibehihknbaa.df
open Go.RowKit Go.Shelf
set_option linter.unusedVariables false
attribute [local go_sem] Oper.semAt_some

theorem wpListIn_load_row {F : Fence} {n : Nat} {P : Program} {ops : Array Oper} {rest : List Oper} {o : Oper} {a : Act} {w : World} {Q : Exit → Act → World → Prop} (hgd : o.guard = none) (ty : TypeId) (x : Operand) (ho : o.op = .load ty x)
    (g : Nat) (hx : a.eval x = .pointer (some ⟨g, 0, none⟩)) (t : TypeId) (cs : Array Value) (fr : Nat × Nat) (d : TypeDesc) (hg : w.heap[g]? = some (.cells cs t fr))
    (hu : P.underlying ty = some d) (hd : (match d with | .struct _ | .array _ _ => true | _ => false) = true) (hi : (P.info? ty).map (·.size) = some cs.size)
    (h : wpListIn F n P ops Q rest (a.put o.dst (.agg cs)) w) : wpListIn F n P ops Q (o :: rest) a w := by
  refine wpListIn_plain hgd fun K hK' => ?_
  unfold Oper.wpIn
  refine ⟨?_, ?_⟩
  · simp [Oper.about, ho]
  · rw [Oper.semAt_plain F _ _ (by rw [ho]; intro c hc'; cases hc')]
    unfold execOp
    simp only [ho, hx, Instr.loadAt, Instr.sureAddr, Sem.run_bind, Sem.run_pure, Result.andThen_ok, run_loadVar_row w g t ty cs fr d hg hu hd hi]
    exact hK' _ _ h

/-- what a round keeps: blocks of which P is said -/
def Kp (P : Nat → Prop) (W W' : World) : Prop := W.heap.size ≤ W'.heap.size ∧ ∀ b, P b → W'.heap[b]? = W.heap[b]?
theorem Kp.trans {P : Nat → Prop} {A B C : World} (h : Kp P A B) (k : Kp P B C) : Kp P A C := ⟨Nat.le_trans h.1 k.1, fun b hb => (k.2 b hb).trans (h.2 b hb)⟩
theorem Kp.book {P : Nat → Prop} {w : World} (hP : ∀ b, P b → b < w.heap.size) (W : World) (l : Nat) (o o' : Obj) (hl : w.heap.size ≤ l) (h : W.heap[l]? = some o) (_ : o.isCells = false) (_ : o.isWalk = false) : Kp P W (W.putObj l o') :=
  ⟨by simp, fun b hb => World.putObj_heap_other (fun e => by have := hP b hb; omega)⟩
theorem Kp.below {P : Nat → Prop} {n : Nat} {W W' : World} (b : Below n W W') (hn : W.heap.size ≤ W'.heap.size) (hP : ∀ b, P b → b < n) : Kp P W W' := ⟨hn, fun k hk => b.block k (hP k hk)⟩
theorem grown_of {w w' : World} (b : Below w.heap.size w w') : w.grownBy w' none := ⟨b.os, b.tape, b.output, b.size, fun k hk _ => b.block k hk⟩
theorem grown_drewN (w : World) (n : Nat) : w.grownBy (w.drewN n) none := ⟨rfl, rfl, rfl, Nat.le_refl _, fun _ _ _ => rfl⟩

structure Mem (P : Nat → Prop) (W : World) (d : Dfa) (cs : Array Value) (s : ByteArray) (gd gs : Nat) (o : Option Addr) (cap : Nat) (ao : Option Addr) (acap : Nat) : Prop where
  dt : DAt P W d cs o cap ao acap
  bx : DBox W gd cs
  sx : Boxed W gs 9 (.string s)
  pd : P gd
  ps : P gs
  lt : ∀ b, P b → b < W.heap.size
theorem Mem.carry {P : Nat → Prop} {W W' : World} {d : Dfa} {cs : Array Value} {s : ByteArray} {gd gs : Nat} {o ao : Option Addr} {cap acap : Nat} (h : Mem P W d cs s gd gs o cap ao acap) (k : Kp P W W') : Mem P W' d cs s gd gs o cap ao acap :=
  ⟨h.dt.carry k.2 (fun _ => id), (k.2 gd h.pd).trans h.bx, (k.2 gs h.ps).trans h.sx, h.pd, h.ps, fun b hb => Nat.lt_of_lt_of_le (h.lt b hb) k.1⟩

theorem acc_at {P : Nat → Prop} {W : World} {d : Dfa} {cs : Array Value} {o ao : Option Addr} {cap acap : Nat} (h : DAt P W d cs o cap ao acap) (q : Nat) (hq : q < d.acc.length) :
    ∃ b off, ao = some ⟨b, off, none⟩ ∧ P b ∧ W.cell? ⟨b, off + q, none⟩ = some (.bool (acpt d q)) := by
  obtain ⟨b, off, e, hp, hc⟩ := h.accs.lie q hq
  refine ⟨b, off, e, hp, ?_⟩
  unfold acpt
  rw [List.getElem?_eq_getElem hq]
  exact hc
theorem nxt_at {P : Nat → Prop} {W : World} {d : Dfa} {cs : Array Value} {o ao : Option Addr} {cap acap : Nat} (h : DAt P W d cs o cap ao acap) (k : Ok d) (q c : Nat) (hq : q < d.next.length) (hc : c < width d) :
    ∃ b off b' off' ci, o = some ⟨b, off, none⟩ ∧ W.cell? ⟨b, off + q, none⟩ = some (.slice (some ⟨b', off', none⟩) (width d) ci) ∧ width d ≤ ci ∧ ci ≤ 9223372036854775807 ∧ W.cell? ⟨b', off' + c, none⟩ = some (.int .i64 (nxt d q c)) := by
  obtain ⟨b, off, oi, ci, e, hp, hx, hr⟩ := h.rows.lie q hq
  have hw := k.wide q hq
  obtain ⟨b', off', rfl, hp', hy⟩ := hr.lie c (by omega)
  rw [hw] at hx
  have hf := hr.fit
  refine ⟨b, off, b', off', ci, e, hx, by omega, hr.top, ?_⟩
  unfold nxt
  rw [List.getElem?_eq_getElem hq, Option.getD_some, List.getElem?_eq_getElem (by omega)]
  exact hy

end Go.Proofs.Ytmmlibehihknbaa.df

namespace Go.Proofs.Ytmmlibehihknbaa.df
open Go.RowKit Go.Shelf
set_option linter.unusedVariables false
attribute [local go_sem] Oper.semAt_some

theorem ends_end (d : Dfa) (s : ByteArray) (q t : Nat) (h : t = s.size) : ends d s (s.size - t) (q : Int) t = here d q t := by
  rw [h, Nat.sub_self, ends_zero]
theorem ends_more (d : Dfa) (s : ByteArray) (q t : Nat) (h : t < s.size) : ends d s (s.size - t) (q : Int) t = here d q t ++ ends d s (s.size - (t + 1)) (nxt d q (d.cls s[t].toNat)) (t + 1) := by
  have e : s.size - t = (s.size - (t + 1)) + 1 := by omega
  rw [e, ends_succ, byte_eq s t h]
theorem here_yes (d : Dfa) (q t : Nat) (h : acpt d q = true) : here d q t = [(t : Int)] := by unfold here; rw [h]; rfl
theorem here_no (d : Dfa) (q t : Nat) (h : acpt d q = false) : here d q t = [] := by unfold here; rw [h]; rfl
end Go.Proofs.Ytmmlibehihknbaa.df

namespace Go.Proofs.Ytmmlibehihknbaa.df
open Go.RowKit Go.Shelf
set_option linter.unusedVariables false
attribute [local go_sem] Oper.semAt_some

def endsOf (d : Dfa) (s : ByteArray) (at' : Int) : List Int := if right d = true ∧ 0 ≤ at' ∧ at' ≤ (s.size : Int) then ends d s (s.size - at'.toNat) 0 at'.toNat else []
theorem endsOf_len (d : Dfa) (s : ByteArray) (at' : Int) : (endsOf d s at').length ≤ s.size + 1 := by
  unfold endsOf
  split
  · exact Nat.le_trans (ends_len _ _ _ _ _) (by omega)
  · simp

/-- a slice of ints, as a value -/
def IntsV (w : World) (v : Value) (l : List Int) : Prop := ∃ o cap, v = .slice o l.length cap ∧ Row (In w) w iv o cap l
theorem IntsV.later {w w' : World} {v : Value} {l : List Int} (h : IntsV w v l) (b : Below w.heap.size w w') : IntsV w' v l := by
  obtain ⟨o, cap, e, hr⟩ := h
  exact ⟨o, cap, e, hr.carry (fun k hk => b.block k hk) (fun k hk => Nat.lt_of_lt_of_le hk b.size)⟩
theorem ints_of_owns {w : World} {base : Nat} {v : Value} {l : List Int} (h : w.ownsRow base 3 1 v l.length (l.map (Value.int .i64))) : IntsV w v l := by
  have h0 := h
  rcases h.2 with ⟨rfl, hl⟩ | ⟨g, cap, cur, rfl, hb, hg, hn, hc, hs, ht⟩
  · have : l = [] := List.length_eq_zero_iff.1 hl
    subst this
    exact ⟨none, 0, rfl, Nat.le_refl _, by omega, fun i hi => by simp at hi⟩
  · unfold maxLen at hc
    refine ⟨some ⟨g, 0, none⟩, cap, rfl, hn, hc, fun i hi => ⟨g, 0, rfl, (Array.getElem?_eq_some_iff.1 hg).1, ?_⟩⟩
    have := World.ownsRow.cellAt h0 i (by omega)
    rw [Nat.zero_add, this, List.getElem?_map, List.getElem?_eq_getElem hi]
    rfl

theorem info3 : (Try.prog.info? 3).map (fun i => (i.zero, i.size, i.bytes)) = some (some (.int .i64 0), 1, 8) := by kernel_rfl

def EdIs (f : Nat) (d : Dfa) (s : ByteArray) (at' : Int) : Prop := ∀ cs o cap ao acap w, DAt (In w) w d cs o cap ao acap → Calls Try.prog f #[.agg cs, .string s, .int .i64 at'] w fun e w' => ∃ v, e = .returned v ∧ IntsV w' v (endsOf d s at') ∧ Below w.heap.size w w'
theorem taken_mem (Q : Nat → Prop) {d : Dfa} {cs : Array Value} {o ao : Option Addr} {cap acap : Nat} {w1 : World} (s : ByteArray) (at' : Int) (D1 : DAt (fun b => In w1 b ∧ Q b) w1 d cs o cap ao acap) :
    Mem (fun b => (b < w1.heap.size ∧ Q b) ∨ (w1.heap.size ≤ b ∧ b < w1.heap.size + 1 + 1 + 1)) (((w1.alloc (.cells cs 36)).alloc (.cells #[.string s] 9)).alloc (.cells #[.int .i64 at'] 3)) d cs s w1.heap.size (w1.heap.size + 1) o cap ao acap ∧
    Boxed (((w1.alloc (.cells cs 36)).alloc (.cells #[.string s] 9)).alloc (.cells #[.int .i64 at'] 3)) (w1.heap.size + 1 + 1) 3 (.int .i64 at') ∧
    Below w1.heap.size w1 (((w1.alloc (.cells cs 36)).alloc (.cells #[.string s] 9)).alloc (.cells #[.int .i64 at'] 3)) := by
  have X1 := dbox_new w1 cs
  have Y1 := Boxed.new (w1.alloc (.cells cs 36)) 9 (.string s)
  have Z1 := Boxed.new ((w1.alloc (.cells cs 36)).alloc (.cells #[.string s] 9)) 3 (.int .i64 at')
  have HB3 : Below w1.heap.size w1 (((w1.alloc (.cells cs 36)).alloc (.cells #[.string s] 9)).alloc (.cells #[.int .i64 at'] 3)) := (((Below.refl _ w1).alloc (Nat.le_refl _) _).alloc (by simp) _).alloc (by simp; omega) _
  simp only [World.size_alloc] at Y1 Z1
  refine ⟨⟨D1.carry (fun b hb => HB3.block b hb.1) (fun b hb => .inl hb), (Below.heap_alloc _ _ _ (by simp; omega)).trans ((Below.heap_alloc _ _ _ (by simp)).trans X1), (Below.heap_alloc _ _ _ (by simp)).trans Y1, .inr (by omega), .inr (by omega), fun b hb => ?_⟩, Z1, HB3⟩
  simp only [World.size_alloc]
  rcases hb with h | h <;> omega
theorem last_snoc (pre : List Int) (x : Int) : (pre ++ [x]).getLast?.getD (-1) = x := by simp
def LgIs (f : Nat) (d : Dfa) (s : ByteArray) (at' : Int) (r : Int) : Prop := ∀ cs o cap ao acap w, DAt (In w) w d cs o cap ao acap → Calls Try.prog f #[.agg cs, .string s, .int .i64 at'] w fun e w' => e = .returned (.int .i64 r) ∧ Below w.heap.size w w'
end Go.Proofs.Ytmmlibehihknbaa.df

namespace Go.Proofs.Ytmmlibehihknbaa.df
open Go.RowKit Go.Shelf
set_option linter.unusedVariables false

abbrev Owns (w : World) (B : Nat) (v : Value) (l : List Int) : Prop := w.ownsRow B 3 1 v l.length (l.map (Value.int .i64))
theorem wpList_append_int {ops : Array Oper} {rest : List Oper} {o : Oper} {a : Act} {w : World} {Q : Exit → Act → World → Prop} (hgd : o.guard = none) (s x : Operand)
    (ho : o.op = Op.call { callee := Callee.builtin Builtin.append, args := #[s, x], argTypes := #[25, 25] }) (B : Nat) (v : Value) (l : List Int) (y : Int) (g : Nat)
    (hs : a.eval s = v) (hx : a.eval x = .slice (some ⟨g, 0, none⟩) 1 1) (hown : Owns w B v l) (hc : w.cell? ⟨g, 0, none⟩ = some (.int .i64 y)) (hl : l.length ≤ 1000000000001) (hB : B ≤ w.heap.size)
    (hK : ∀ g' cap' w', Owns w' B (.slice (some ⟨g', 0, none⟩) (l.length + 1) cap') (l ++ [y]) → w.grownBy w' v.ownBlock → wpList Try.prog ops Q rest (a.put o.dst (.slice (some ⟨g', 0, none⟩) (l.length + 1) cap')) w') : wpList Try.prog ops Q (o :: rest) a w := by
  obtain ⟨i0, hi, hz0, hz1, hz2⟩ := info_parts info3
  refine wpList_append_own w hgd s x 25 ho B 3 i0 (.int .i64 0) 1 8 Try.underlying25 hi hz0 hz1 hz2 rfl (by decide) v l.length _ hs hown ⟨g, 0, none⟩ 1 1 [.int .i64 y] hx rfl (fun j u hu => ?_) (by simp [Value.oneCell']) (by unfold maxLen; omega) (by omega) hB ?_
  · rcases j with _ | j
    · simp at hu
      subst hu
      simpa [Addr.add] using hc
    · simp at hu
  · intro v' w' hown' hgrow _
    obtain ⟨g', cap', rfl⟩ := ownsRow_succ hown'
    refine hK g' cap' w' ?_ hgrow
    simpa [Owns] using hown'
theorem own_ge {w : World} {B : Nat} {v : Value} {l : List Int} (h : Owns w B v l) : ∀ k, v.ownBlock = some k → B ≤ k := by
  intro k e
  rcases h.2 with ⟨rfl, _⟩ | ⟨g, cap, cur, rfl, hb, _⟩
  · cases e
  · cases e; exact hb
theorem own_slice {w : World} {B : Nat} {v : Value} {l : List Int} (h : Owns w B v l) : ∃ g cap, v = .slice g l.length cap := by
  rcases h.2 with ⟨rfl, hl⟩ | ⟨g, cap, cur, rfl, hb, _⟩
  · rw [hl]; exact ⟨_, _, rfl⟩
  · exact ⟨_, _, rfl⟩
theorem owns_drewN {w : World} {B : Nat} {v : Value} {l : List Int} (h : Owns w B v l) (n : Nat) : Owns (w.drewN n) B v l := h
end Go.Proofs.Ytmmlibehihknbaa.df

namespace Go.Proofs.Ytmmlibehihknbaa.df
open Go.RowKit Go.Shelf
set_option linter.unusedVariables false

theorem ints_last {w : World} {o : Option Addr} {cap : Nat} {l : List Int} (h : Row (In w) w iv o cap l) (hl : 1 ≤ l.length) :
    ∃ b off, o = some ⟨b, off, none⟩ ∧ b < w.heap.size ∧ w.cell? ⟨b, off + (l.length - 1), none⟩ = some (.int .i64 (l.getLast?.getD (-1))) := by
  obtain ⟨b, off, e, hb, hc⟩ := h.lie (l.length - 1) (by omega)
  refine ⟨b, off, e, hb, ?_⟩
  rw [hc, List.getLast?_eq_getElem?, List.getElem?_eq_getElem (by omega)]
  rfl
def IntsIs (l m : List Int) (r : Bool) : Prop := ∀ v1 v2 w, IntsV w v1 l → IntsV w v2 m → Calls Try.prog 11 #[v1, v2] w fun e w' => e = .returned (.bool r) ∧ Below w.heap.size w w'
theorem take_snoc {l : List Int} {i : Nat} (h : i < l.length) : l.take (i + 1) = l.take i ++ [l[i]] := by
  rw [List.take_add_one, List.getElem?_eq_getElem h]; rfl
set_option maxHeartbeats 1000000 in
theorem ints_any (l m : List Int) (r : Bool) (hr : r = decide (l = m)) : IntsIs l m r := by
  intro v1 v2 w h1 h2
  obtain ⟨o, cap, rfl, h1⟩ := h1
  obtain ⟨o', cap', rfl, h2⟩ := h2
  have f1 := h1.fit
  have f2 := h1.top
  have f3 := h2.fit
  have f4 := h2.top
  have H1 : Hid (Row (In w) w iv o cap l) := h1
  have H2 : Hid (Row (In w) w iv o' cap' m) := h2
  have HR : Hid (r = decide (l = m)) := hr
  clear h1 h2 hr
  by_cases hne : l.length = m.length
  · have g1 : ((l.length : Int) == (m.length : Int)) = true := beq_iff_eq.2 (by omega)
    have g2 : ((l.length : Int) != (m.length : Int)) = false := by rw [bne, g1]; rfl
    have HL : Hid (l.length = m.length) := hne
    clear hne
    go_enter Try.func11, Try.ntmps11
    go_wp2_with (fail)
    go_loopw [13] (fun y wr => ∃ i : Nat, y = .int .i64 i ∧ i ≤ l.length ∧ Hid (l.take i = m.take i) ∧ Below w.heap.size w wr) (fun y _ => l.length - (intOf y).toNat)
    case atStart => exact ⟨0, rfl, by omega, by show _ = _; simp, Below.refl _ _⟩
    case round =>
      obtain ⟨i, rfl, hil, HI, hB⟩ := hrel
      by_cases hend : i < l.length
      · have hend2 : i < m.length := by have := HL.out; omega
        obtain ⟨b, off, rfl, hb, hc⟩ := H1.out.lie i hend
        obtain ⟨b', off', rfl, hb', hc'⟩ := H2.out.lie i hend2
        have k1 := (hB.cell (p := ⟨b, off + i, none⟩) hb).trans hc
        have k2 := (hB.cell (p := ⟨b', off' + i, none⟩) hb').trans hc'
        have HT : Hid (l[i] = m[i] → l.take (i + 1) = m.take (i + 1)) := fun h => by rw [take_snoc hend, take_snoc hend2, HI.out, h]
        have HN : Hid (l[i] ≠ m[i] → r = false) := fun h => by
          rw [HR.out]
          exact decide_eq_false (fun e => h (by subst e; rfl))
        generalize l[i] = x at *
        generalize m[i] = y at *
        clear hc hc' HI
        by_cases hxy : x = y
        · have q1 : (x == y) = true := beq_iff_eq.2 hxy
          have q2 : (x != y) = false := by rw [bne, q1]; rfl
          have HT2 : Hid (l.take (i + 1) = m.take (i + 1)) := HT.out hxy
          clear hxy HT HN
          go_wp2_with (fail)
          go_quiet (fail)
          go_wp2_with (fail)
          go_roundw
          case rel => exact ⟨i + 1, by go_num, by omega, HT2, below_drewN hB _⟩
          case measure => simp [intOf]; omega
        · have q1 : (x == y) = false := beq_eq_false_iff_ne.2 hxy
          have q2 : (x != y) = true := bne_iff_ne.2 hxy
          have HF : Hid (r = false) := HN.out hxy
          clear hxy HT HN
          go_wp2_with (fail)
          go_quiet (fail)
          go_wp2_with (fail)
          go_ret
          exact ⟨by rw [HF.out]; rfl, below_drewN hB _⟩
      · have HF : Hid (r = true) := by
          show _ = _
          rw [HR.out]
          refine decide_eq_true ?_
          have := HI.out
          rw [List.take_of_length_le (by omega), List.take_of_length_le (by have := HL.out; omega)] at this
          exact this
        go_wp2_with (fail)
        go_ret
        exact ⟨by rw [HF.out]; rfl, hB⟩
  · have g1 : ((l.length : Int) == (m.length : Int)) = false := beq_eq_false_iff_ne.2 (by omega)
    have g2 : ((l.length : Int) != (m.length : Int)) = true := bne_iff_ne.2 (by omega)
    have HF : Hid (r = false) := by
      show _ = _
      rw [HR.out]
      exact decide_eq_false (fun e => hne (by rw [e]))
    clear hne
    go_enter Try.func11, Try.ntmps11
    go_wp2_with (fail)
    go_ret
    exact ⟨by rw [HF.out]; rfl, Below.refl _ _⟩

def cut (s : ByteArray) (n : Nat) : ByteArray := if s.size ≤ n then s else s.extract 0 n
theorem cut_size (s : ByteArray) (n : Nat) : (cut s n).size ≤ n := by
  unfold cut
  split
  · assumption
  · simp; omega
end Go.Proofs.Ytmmlibehihknbaa.df
