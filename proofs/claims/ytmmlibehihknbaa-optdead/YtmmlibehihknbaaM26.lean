/-
  Texts put together: Over this program: the statement of opt.partsOf that copies three stages in any order. Over this program: parts are built (opt.partsOf).
-/
import Derived.Test.YtmmlibehihknbaaM31
import Derived.Test.YtmmlibehihknbaaM36
namespace Go.Proofs.Ytmmlibehihknbaa.op
open Go.ChangeShapes Go.WideShapes Go.ChangeAt Go.RowKit
open mg (chain below_alloc)
set_option linter.unusedVariables false
set_option linter.unusedSimpArgs false
set_option maxRecDepth 100000

def opsP : Array Oper := #[
  { dst := some 13, op := Op.move (Operand.tmp 0), type := 22, pos := "parts.go:26", after := #[], guard := none },
  { dst := some 14, op := Op.move (Operand.tmp 3), type := 3, pos := "parts.go:26", after := #[], guard := none },
  { dst := some 15, op := Op.indexAddr 22 (Operand.tmp 13) (Operand.tmp 14), type := 0, pos := "parts.go:26", after := #[{ on := 0, ground := Ground.data }, { on := 1, ground := Ground.data }], guard := none },
  { dst := some 16, op := Op.load 39 (Operand.tmp 15), type := 39, pos := "parts.go:26", after := #[{ on := 2, ground := Ground.data }], guard := none },
  { dst := some 17, op := Op.move (Operand.tmp 0), type := 22, pos := "parts.go:26", after := #[{ on := 17, ground := Ground.gcOnly Departure.lateStores }], guard := none },
  { dst := some 18, op := Op.move (Operand.tmp 3), type := 3, pos := "parts.go:26", after := #[{ on := 17, ground := Ground.gcOnly Departure.lateStores }], guard := none },
  { dst := some 19, op := Op.binOp BinOp.add 3 (Operand.tmp 18) (Operand.const (Value.int IntKind.i64 1)) 3, type := 3, pos := "parts.go:26", after := #[{ on := 5, ground := Ground.data }, { on := 17, ground := Ground.gcOnly Departure.lateStores }], guard := none },
  { dst := some 20, op := Op.indexAddr 22 (Operand.tmp 17) (Operand.tmp 19), type := 0, pos := "parts.go:26", after := #[{ on := 4, ground := Ground.data }, { on := 6, ground := Ground.data }, { on := 17, ground := Ground.gcOnly Departure.lateStores }], guard := none },
  { dst := some 21, op := Op.load 39 (Operand.tmp 20), type := 39, pos := "parts.go:26", after := #[{ on := 7, ground := Ground.data }, { on := 17, ground := Ground.gcOnly Departure.lateStores }], guard := none },
  { dst := some 22, op := Op.move (Operand.tmp 0), type := 22, pos := "parts.go:26", after := #[{ on := 18, ground := Ground.gcOnly Departure.lateStores }], guard := none },
  { dst := some 23, op := Op.move (Operand.tmp 3), type := 3, pos := "parts.go:26", after := #[{ on := 18, ground := Ground.gcOnly Departure.lateStores }], guard := none },
  { dst := some 24, op := Op.binOp BinOp.add 3 (Operand.tmp 23) (Operand.const (Value.int IntKind.i64 2)) 3, type := 3, pos := "parts.go:26", after := #[{ on := 10, ground := Ground.data }, { on := 18, ground := Ground.gcOnly Departure.lateStores }], guard := none },
  { dst := some 25, op := Op.indexAddr 22 (Operand.tmp 22) (Operand.tmp 24), type := 0, pos := "parts.go:26", after := #[{ on := 9, ground := Ground.data }, { on := 11, ground := Ground.data }, { on := 18, ground := Ground.gcOnly Departure.lateStores }], guard := none },
  { dst := some 26, op := Op.load 39 (Operand.tmp 25), type := 39, pos := "parts.go:26", after := #[{ on := 12, ground := Ground.data }, { on := 18, ground := Ground.gcOnly Departure.lateStores }], guard := none },
  { dst := some 4, op := Op.alloc 39, type := 0, pos := "parts.go:26", after := #[], guard := none },
  { dst := some 5, op := Op.alloc 39, type := 0, pos := "parts.go:26", after := #[], guard := none },
  { dst := some 6, op := Op.alloc 39, type := 0, pos := "parts.go:26", after := #[], guard := none },
  { dst := none, op := Op.store 39 (Operand.tmp 4) (Operand.tmp 16), type := 0, pos := "parts.go:26", after := #[{ on := 14, ground := Ground.data }, { on := 3, ground := Ground.data }, { on := 0, ground := Ground.phase }, { on := 1, ground := Ground.phase }, { on := 2, ground := Ground.phase }, { on := 3, ground := Ground.phase }, { on := 4, ground := Ground.textOnly Departure.lateStores }, { on := 5, ground := Ground.textOnly Departure.lateStores }, { on := 6, ground := Ground.textOnly Departure.lateStores }, { on := 7, ground := Ground.textOnly Departure.lateStores }, { on := 8, ground := Ground.textOnly Departure.lateStores }, { on := 9, ground := Ground.textOnly Departure.lateStores }, { on := 10, ground := Ground.textOnly Departure.lateStores }, { on := 11, ground := Ground.textOnly Departure.lateStores }, { on := 12, ground := Ground.textOnly Departure.lateStores }, { on := 13, ground := Ground.textOnly Departure.lateStores }, { on := 14, ground := Ground.phase }, { on := 15, ground := Ground.phase }, { on := 16, ground := Ground.phase }], guard := none },
  { dst := none, op := Op.store 39 (Operand.tmp 5) (Operand.tmp 21), type := 0, pos := "parts.go:26", after := #[{ on := 15, ground := Ground.data }, { on := 8, ground := Ground.data }, { on := 17, ground := Ground.chain }, { on := 0, ground := Ground.phase }, { on := 1, ground := Ground.phase }, { on := 2, ground := Ground.phase }, { on := 3, ground := Ground.phase }, { on := 4, ground := Ground.phase }, { on := 5, ground := Ground.phase }, { on := 6, ground := Ground.phase }, { on := 7, ground := Ground.phase }, { on := 8, ground := Ground.phase }, { on := 9, ground := Ground.textOnly Departure.lateStores }, { on := 10, ground := Ground.textOnly Departure.lateStores }, { on := 11, ground := Ground.textOnly Departure.lateStores }, { on := 12, ground := Ground.textOnly Departure.lateStores }, { on := 13, ground := Ground.textOnly Departure.lateStores }, { on := 14, ground := Ground.phase }, { on := 15, ground := Ground.phase }, { on := 16, ground := Ground.phase }, { on := 17, ground := Ground.phase }], guard := none },
  { dst := none, op := Op.store 39 (Operand.tmp 6) (Operand.tmp 26), type := 0, pos := "parts.go:26", after := #[{ on := 16, ground := Ground.data }, { on := 13, ground := Ground.data }, { on := 18, ground := Ground.chain }, { on := 0, ground := Ground.phase }, { on := 1, ground := Ground.phase }, { on := 2, ground := Ground.phase }, { on := 3, ground := Ground.phase }, { on := 4, ground := Ground.phase }, { on := 5, ground := Ground.phase }, { on := 6, ground := Ground.phase }, { on := 7, ground := Ground.phase }, { on := 8, ground := Ground.phase }, { on := 9, ground := Ground.phase }, { on := 10, ground := Ground.phase }, { on := 11, ground := Ground.phase }, { on := 12, ground := Ground.phase }, { on := 13, ground := Ground.phase }, { on := 14, ground := Ground.phase }, { on := 15, ground := Ground.phase }, { on := 16, ground := Ground.phase }, { on := 17, ground := Ground.phase }, { on := 18, ground := Ground.phase }], guard := none }]

section
variable {o : Oper} {a : Act} {w : World}
theorem x_addc {x : Operand} {i c j : Nat} (h : o.op = .binOp .add 3 x (.const (.int .i64 (c : Int))) 3) (hx : a.eval x = .int .i64 (i : Int)) (hj : i + c = j) (hb : j ≤ 1000000) : (execOp a.eval o).run Try.prog w = .ok (.value (.int .i64 (j : Int))) w := by
  have e3 : (a.eval (.const (.int .i64 (c : Int)))) = .int .i64 (c : Int) := rfl
  have e4 : IntKind.i64.wrap ((i : Int) + (c : Int)) = (j : Int) := by rw [IntKind.wrap_i64]; omega
  unfold execOp; rw [h]; simp only [hx, e3]; go_simp
theorem x_index22 {x y : Operand} {b off n cap i : Nat} (h : o.op = .indexAddr 22 x y) (hx : a.eval x = .slice (some ⟨b, off, none⟩) n cap) (hy : a.eval y = .int .i64 (i : Int)) (hi : i < n) : (execOp a.eval o).run Try.prog w = .ok (.value (.pointer (some ⟨b, off + i * 523, none⟩))) w := by
  unfold execOp; rw [h]
  have hs : (sizeOf 39).run Try.prog w = .ok 523 w := Try.sizeOf39 w
  have hb : (0 : Int) ≤ (i : Int) ∧ (i : Int) < (n : Int) := by omega
  simp only [Instr.indexAt, hx, hy, asIntOf, Sem.run_bind, Sem.run_pure, Result.andThen_ok, run_underlying Try.underlying22, hb, and_self, if_true, hs, Int.toNat_natCast, Addr.add_mid]
theorem x_load39 {x : Operand} {b off : Nat} {C : Array Value} (h : o.op = .load 39 x) (hx : a.eval x = .pointer (some ⟨b, off, none⟩)) (hr : w.rangeAt b off C.toList) (hs : C.size = 523) : (execOp a.eval o).run Try.prog w = .ok (.value (.agg C)) w := by
  have hi : (Try.prog.info? 39).map (·.size) = some C.toList.length := by rw [Array.length_toList, hs]; exact ir.info39
  unfold execOp; rw [h]
  simp only [hx, Sem.run_bind, run_loadAt_mid (P := Try.prog) w b off 39 C.toList _ hr Try.underlying39 rfl hi, Result.andThen_ok, Sem.run_pure, Array.toArray_toList]
theorem x_alloc39 {Z : Array Value} (h : o.op = .alloc 39) (hz : (zeroValue 39).run Try.prog w = .ok (.agg Z) w) : (execOp a.eval o).run Try.prog w = .ok (.value (.pointer (some ⟨w.heap.size, 0, none⟩))) (w.alloc (.cells Z 39)) := by
  unfold execOp; rw [h]; simp only []; go_simp
end
/-- the three blocks between two operations -/
structure Wp (W : World) (Cs : Nat → Array Value) (Z : Array Value) (d : Nat → Prop) (vals : Nat → Value) (w : World) : Prop where
  be : Below W.heap.size W w
  al : ∀ i, i < 3 → d (14 + i) → ∃ g, vals (14 + i) = .pointer (some ⟨g, 0, none⟩) ∧ W.heap.size ≤ g ∧ g < w.heap.size ∧ (d (17 + i) → w.heap[g]? = some (.cells (Cs i) 39 (0, 0))) ∧ (¬ d (17 + i) → w.heap[g]? = some (.cells Z 39 (0, 0)))
  ap : ∀ i j, i < 3 → j < 3 → i ≠ j → d (14 + i) → d (14 + j) → vals (14 + i) ≠ vals (14 + j)
section
variable {W : World} {Cs : Nat → Array Value} {Z : Array Value} {d : Nat → Prop} {vals : Nat → Value} {w : World}
theorem Wp.plain (q : Wp W Cs Z d vals w) {x : Nat} (hx : x < 14) (v : Value) : Wp W Cs Z (fun j => j = x ∨ d j) (dw.upd vals x v) w := by
  have e : ∀ i, (dw.upd vals x v) (14 + i) = vals (14 + i) := fun i => dw.upd_ne _ _ (by omega)
  have e2 : ∀ i, ((14 + i = x) ∨ d (14 + i)) ↔ d (14 + i) := fun i => ⟨fun h => h.resolve_left (by omega), .inr⟩
  have e3 : ∀ i, ((17 + i = x) ∨ d (17 + i)) ↔ d (17 + i) := fun i => ⟨fun h => h.resolve_left (by omega), .inr⟩
  refine ⟨q.be, fun i hi h => ?_, fun i j hi hj hne h1 h2 => ?_⟩
  · obtain ⟨g, a1, a2, a3, a4, a5⟩ := q.al i hi ((e2 i).1 h)
    exact ⟨g, by rw [e]; exact a1, a2, a3, fun h => a4 ((e3 i).1 h), fun h => a5 fun h' => h ((e3 i).2 h')⟩
  · rw [e, e]
    exact q.ap i j hi hj hne ((e2 i).1 h1) ((e2 j).1 h2)
theorem Wp.alloc (q : Wp W Cs Z d vals w) {x : Nat} (hx : x < 3) (hn : ¬ d (17 + x)) : Wp W Cs Z (fun j => j = 14 + x ∨ d j) (dw.upd vals (14 + x) (.pointer (some ⟨w.heap.size, 0, none⟩))) (w.alloc (.cells Z 39)) := by
  have e3 : ∀ i, ((17 + i = 14 + x) ∨ d (17 + i)) → d (17 + i) := fun i h => h.resolve_left (by omega)
  have hb := below_alloc w (.cells Z 39)
  have key : ∀ i, i < 3 → ((14 + i = 14 + x) ∨ d (14 + i)) → ∃ g, dw.upd vals (14 + x) (.pointer (some ⟨w.heap.size, 0, none⟩)) (14 + i) = .pointer (some ⟨g, 0, none⟩) ∧ ((i = x ∧ g = w.heap.size) ∨ (i ≠ x ∧ g < w.heap.size ∧ vals (14 + i) = .pointer (some ⟨g, 0, none⟩))) := fun i hi h => by
    by_cases e : i = x
    · subst e
      exact ⟨_, dw.upd_same _ _ _, .inl ⟨rfl, rfl⟩⟩
    · obtain ⟨g, a1, _, a3, _⟩ := q.al i hi (h.resolve_left (by omega))
      exact ⟨g, by rw [dw.upd_ne _ _ (by omega)]; exact a1, .inr ⟨e, a3, a1⟩⟩
  refine ⟨q.be.alloc q.be.size _, fun i hi h => ?_, fun i j hi hj hne h1 h2 => ?_⟩
  · by_cases e : i = x
    · subst e
      exact ⟨w.heap.size, dw.upd_same _ _ _, q.be.size, by simp, fun h' => absurd (e3 i h') hn, fun _ => heap_alloc_new w _⟩
    · obtain ⟨g, a1, a2, a3, a4, a5⟩ := q.al i hi (h.resolve_left (by omega))
      exact ⟨g, by rw [dw.upd_ne _ _ (by omega)]; exact a1, a2, Nat.lt_of_lt_of_le a3 hb.size, fun h' => (hb.block g a3).trans (a4 (e3 i h')), fun h' => (hb.block g a3).trans (a5 fun h2 => h' (.inr h2))⟩
  · obtain ⟨g1, b1, c1⟩ := key i hi h1
    obtain ⟨g2, b2, c2⟩ := key j hj h2
    rw [b1, b2]
    intro e
    have e' : g1 = g2 := by simpa using e
    rcases c1 with ⟨_, c1⟩ | ⟨n1, c1, v1⟩ <;> rcases c2 with ⟨_, c2⟩ | ⟨n2, c2, v2⟩
    · omega
    · omega
    · omega
    · exact q.ap i j hi hj hne (h1.resolve_left (by omega)) (h2.resolve_left (by omega)) (by rw [v1, v2, e'])
theorem Wp.store (q : Wp W Cs Z d vals w) {x g : Nat} (hx : x < 3) (hd : d (14 + x)) (hg : vals (14 + x) = .pointer (some ⟨g, 0, none⟩)) (h17 : ¬ d (17 + x)) (v : Value) : Wp W Cs Z (fun j => j = 17 + x ∨ d j) (dw.upd vals (17 + x) v) (w.setRow g (Cs x)) := by
  obtain ⟨g0, a1, a2, a3, _, a5⟩ := q.al x hx hd
  rw [hg] at a1
  have eg : g = g0 := by simpa using a1
  subst eg
  have e : ∀ i, i < 3 → (dw.upd vals (17 + x) v) (14 + i) = vals (14 + i) := fun i hi => dw.upd_ne _ _ (by omega)
  have e2 : ∀ i, i < 3 → ((14 + i = 17 + x) ∨ d (14 + i)) → d (14 + i) := fun i hi h => h.resolve_left (by omega)
  refine ⟨below_row q.be a2 (Nat.le_refl _) _, fun i hi h => ?_, fun i j hi hj hne h1 h2 => ?_⟩
  · obtain ⟨g', b1, b2, b3, b4, b5⟩ := q.al i hi (e2 i hi h)
    by_cases ei : i = x
    · subst ei
      rw [hg] at b1
      have eg : g = g' := by simpa using b1
      subst eg
      exact ⟨g, by rw [e i hi]; exact hg, b2, by simpa using b3, fun _ => setRow_heap w g _ _ _ _ (a5 h17), fun h' => absurd (.inl rfl) h'⟩
    · have hne : g' ≠ g := fun eg => q.ap i x hi hx ei (e2 i hi h) hd (by rw [b1, hg, eg])
      refine ⟨g', by rw [e i hi]; exact b1, b2, by simpa using b3, fun h' => ?_, fun h' => ?_⟩
      · rw [setRow_other _ _ _ _ hne]
        exact b4 (h'.resolve_left (by omega))
      · rw [setRow_other _ _ _ _ hne]
        exact b5 fun h2 => h' (.inr h2)
  · rw [e i hi, e j hj]
    exact q.ap i j hi hj hne (e2 i hi h1) (e2 j hj h2)
end
structure CxP where
  b : Nat
  off : Nat
  n : Nat
  cap : Nat
  k : Nat
  k1 : Nat
  k2 : Nat
def CxP.fix (c : CxP) (Cs : Nat → Array Value) (i : Nat) : Option Value := [some (.slice (some ⟨c.b, c.off, none⟩) c.n c.cap), some (.int .i64 (c.k : Int)), some (.pointer (some ⟨c.b, c.off + c.k * 523, none⟩)), some (.agg (Cs 0)), some (.slice (some ⟨c.b, c.off, none⟩) c.n c.cap), some (.int .i64 (c.k : Int)), some (.int .i64 (c.k1 : Int)), some (.pointer (some ⟨c.b, c.off + c.k1 * 523, none⟩)), some (.agg (Cs 1)), some (.slice (some ⟨c.b, c.off, none⟩) c.n c.cap), some (.int .i64 (c.k : Int)), some (.int .i64 (c.k2 : Int)), some (.pointer (some ⟨c.b, c.off + c.k2 * 523, none⟩)), some (.agg (Cs 2)), none, none, none, none, none, none].getD i none
theorem below_drew (w : World) : Below w.heap.size w w.drew := (Below.refl _ _).drew
set_option maxHeartbeats 2000000 in
theorem regP {Q : Exit → Act → World → Prop} {a0 : Act} {id : Nat} (hsz : a0.tmps.size = 62) (c : CxP) (Cs : Nat → Array Value) (Z : Array Value) (e0 : a0.eval (.tmp 0) = .slice (some ⟨c.b, c.off, none⟩) c.n c.cap) (e3 : a0.eval (.tmp 3) = .int .i64 (c.k : Int)) {W : World}
    (h1 : c.k + 1 = c.k1) (h2 : c.k + 2 = c.k2) (hb : c.k2 ≤ 1000) (l0 : c.k < c.n) (l1 : c.k1 < c.n) (l2 : c.k2 < c.n) (hsz0 : (Cs 0).size = 523) (hsz1 : (Cs 1).size = 523) (hsz2 : (Cs 2).size = 523) (hone0 : (Cs 0).all (·.oneCell') = true) (hone1 : (Cs 1).all (·.oneCell') = true) (hone2 : (Cs 2).all (·.oneCell') = true)
    (hz : ∀ w, (zeroValue 39).run Try.prog w = .ok (.agg Z) w) (hzs : Z.size = 523)
    (hr0 : ∀ w, Below W.heap.size W w → w.rangeAt c.b (c.off + c.k * 523) (Cs 0).toList) (hr1 : ∀ w, Below W.heap.size W w → w.rangeAt c.b (c.off + c.k1 * 523) (Cs 1).toList) (hr2 : ∀ w, Below W.heap.size W w → w.rangeAt c.b (c.off + c.k2 * 523) (Cs 2).toList)
    (fin : ∀ vals g0 g1 g2 w, Below W.heap.size W w → vals 14 = .pointer (some ⟨g0, 0, none⟩) → vals 15 = .pointer (some ⟨g1, 0, none⟩) → vals 16 = .pointer (some ⟨g2, 0, none⟩) → w.heap[g0]? = some (.cells (Cs 0) 39 (0, 0)) → w.heap[g1]? = some (.cells (Cs 1) 39 (0, 0)) → w.heap[g2]? = some (.cells (Cs 2) 39 (0, 0)) → (∀ j, j < 20 → ∀ u, c.fix Cs j = some u → vals j = u) → Q .normal (dw.fold opsP.toList 0 vals a0) w) : (Code.region id opsP true).wp Try.prog Q a0 W := by
  refine dw.region (by kernel_rfl) (by rw [hsz]; kernel_rfl) (c.fix Cs) (Wp W Cs Z) (fun vals => ⟨below_drew W, fun i hi h => h.elim, fun i j hi hj hne h => h.elim⟩) ?_ ?_
  · intro i hi
    match i, hi with
    | 0, _ => intro d vals a w o ho hn hd hdl hcl hf hx hw K Q' E hk; exact dw.s_val (dw.gd_of ho rfl) ((dw.x_move (dw.op_of ho rfl)).trans (by rw [((hf.base 0 fun i hi => (by decide +kernel : ∀ i, i < opsP.size → dw.slot opsP i ≠ some 0) i (hdl i hi)).trans e0)])) (hk _ w (fun u hu => by cases hu; rfl) (hw.plain (by decide) _))
    | 1, _ => intro d vals a w o ho hn hd hdl hcl hf hx hw K Q' E hk; exact dw.s_val (dw.gd_of ho rfl) ((dw.x_move (dw.op_of ho rfl)).trans (by rw [((hf.base 3 fun i hi => (by decide +kernel : ∀ i, i < opsP.size → dw.slot opsP i ≠ some 3) i (hdl i hi)).trans e3)])) (hk _ w (fun u hu => by cases hu; rfl) (hw.plain (by decide) _))
    | 2, _ => intro d vals a w o ho hn hd hdl hcl hf hx hw K Q' E hk; exact dw.s_val (dw.gd_of ho rfl) (x_index22 (dw.op_of ho rfl) ((hf.eval 0 (hd 0 (by kernel_rfl)) (t := 13) rfl).trans (hx 0 (hd 0 (by kernel_rfl)) _ rfl)) ((hf.eval 1 (hd 1 (by kernel_rfl)) (t := 14) rfl).trans (hx 1 (hd 1 (by kernel_rfl)) _ rfl)) l0) (hk _ w (fun u hu => by cases hu; rfl) (hw.plain (by decide) _))
    | 3, _ => intro d vals a w o ho hn hd hdl hcl hf hx hw K Q' E hk; exact dw.s_val (dw.gd_of ho rfl) (x_load39 (dw.op_of ho rfl) ((hf.eval 2 (hd 2 (by kernel_rfl)) (t := 15) rfl).trans (hx 2 (hd 2 (by kernel_rfl)) _ rfl)) (hr0 w hw.be) (hsz0)) (hk _ w (fun u hu => by cases hu; rfl) (hw.plain (by decide) _))
    | 4, _ => intro d vals a w o ho hn hd hdl hcl hf hx hw K Q' E hk; exact dw.s_val (dw.gd_of ho rfl) ((dw.x_move (dw.op_of ho rfl)).trans (by rw [((hf.base 0 fun i hi => (by decide +kernel : ∀ i, i < opsP.size → dw.slot opsP i ≠ some 0) i (hdl i hi)).trans e0)])) (hk _ w (fun u hu => by cases hu; rfl) (hw.plain (by decide) _))
    | 5, _ => intro d vals a w o ho hn hd hdl hcl hf hx hw K Q' E hk; exact dw.s_val (dw.gd_of ho rfl) ((dw.x_move (dw.op_of ho rfl)).trans (by rw [((hf.base 3 fun i hi => (by decide +kernel : ∀ i, i < opsP.size → dw.slot opsP i ≠ some 3) i (hdl i hi)).trans e3)])) (hk _ w (fun u hu => by cases hu; rfl) (hw.plain (by decide) _))
    | 6, _ => intro d vals a w o ho hn hd hdl hcl hf hx hw K Q' E hk; exact dw.s_val (dw.gd_of ho rfl) (x_addc (c := 1) (dw.op_of ho rfl) ((hf.eval 5 (hd 5 (by kernel_rfl)) (t := 18) rfl).trans (hx 5 (hd 5 (by kernel_rfl)) _ rfl)) h1 (by omega)) (hk _ w (fun u hu => by cases hu; rfl) (hw.plain (by decide) _))
    | 7, _ => intro d vals a w o ho hn hd hdl hcl hf hx hw K Q' E hk; exact dw.s_val (dw.gd_of ho rfl) (x_index22 (dw.op_of ho rfl) ((hf.eval 4 (hd 4 (by kernel_rfl)) (t := 17) rfl).trans (hx 4 (hd 4 (by kernel_rfl)) _ rfl)) ((hf.eval 6 (hd 6 (by kernel_rfl)) (t := 19) rfl).trans (hx 6 (hd 6 (by kernel_rfl)) _ rfl)) l1) (hk _ w (fun u hu => by cases hu; rfl) (hw.plain (by decide) _))
    | 8, _ => intro d vals a w o ho hn hd hdl hcl hf hx hw K Q' E hk; exact dw.s_val (dw.gd_of ho rfl) (x_load39 (dw.op_of ho rfl) ((hf.eval 7 (hd 7 (by kernel_rfl)) (t := 20) rfl).trans (hx 7 (hd 7 (by kernel_rfl)) _ rfl)) (hr1 w hw.be) (hsz1)) (hk _ w (fun u hu => by cases hu; rfl) (hw.plain (by decide) _))
    | 9, _ => intro d vals a w o ho hn hd hdl hcl hf hx hw K Q' E hk; exact dw.s_val (dw.gd_of ho rfl) ((dw.x_move (dw.op_of ho rfl)).trans (by rw [((hf.base 0 fun i hi => (by decide +kernel : ∀ i, i < opsP.size → dw.slot opsP i ≠ some 0) i (hdl i hi)).trans e0)])) (hk _ w (fun u hu => by cases hu; rfl) (hw.plain (by decide) _))
    | 10, _ => intro d vals a w o ho hn hd hdl hcl hf hx hw K Q' E hk; exact dw.s_val (dw.gd_of ho rfl) ((dw.x_move (dw.op_of ho rfl)).trans (by rw [((hf.base 3 fun i hi => (by decide +kernel : ∀ i, i < opsP.size → dw.slot opsP i ≠ some 3) i (hdl i hi)).trans e3)])) (hk _ w (fun u hu => by cases hu; rfl) (hw.plain (by decide) _))
    | 11, _ => intro d vals a w o ho hn hd hdl hcl hf hx hw K Q' E hk; exact dw.s_val (dw.gd_of ho rfl) (x_addc (c := 2) (dw.op_of ho rfl) ((hf.eval 10 (hd 10 (by kernel_rfl)) (t := 23) rfl).trans (hx 10 (hd 10 (by kernel_rfl)) _ rfl)) h2 (by omega)) (hk _ w (fun u hu => by cases hu; rfl) (hw.plain (by decide) _))
    | 12, _ => intro d vals a w o ho hn hd hdl hcl hf hx hw K Q' E hk; exact dw.s_val (dw.gd_of ho rfl) (x_index22 (dw.op_of ho rfl) ((hf.eval 9 (hd 9 (by kernel_rfl)) (t := 22) rfl).trans (hx 9 (hd 9 (by kernel_rfl)) _ rfl)) ((hf.eval 11 (hd 11 (by kernel_rfl)) (t := 24) rfl).trans (hx 11 (hd 11 (by kernel_rfl)) _ rfl)) l2) (hk _ w (fun u hu => by cases hu; rfl) (hw.plain (by decide) _))
    | 13, _ => intro d vals a w o ho hn hd hdl hcl hf hx hw K Q' E hk; exact dw.s_val (dw.gd_of ho rfl) (x_load39 (dw.op_of ho rfl) ((hf.eval 12 (hd 12 (by kernel_rfl)) (t := 25) rfl).trans (hx 12 (hd 12 (by kernel_rfl)) _ rfl)) (hr2 w hw.be) (hsz2)) (hk _ w (fun u hu => by cases hu; rfl) (hw.plain (by decide) _))
    | 14, _ => intro d vals a w o ho hn hd hdl hcl hf hx hw K Q' E hk; exact dw.s_val (dw.gd_of ho rfl) (x_alloc39 (dw.op_of ho rfl) (hz w)) (hk _ _ (fun u hu => by cases hu) (hw.alloc (x := 0) (by decide) (fun h => hn (hcl 17 14 h (by kernel_rfl)))))
    | 15, _ => intro d vals a w o ho hn hd hdl hcl hf hx hw K Q' E hk; exact dw.s_val (dw.gd_of ho rfl) (x_alloc39 (dw.op_of ho rfl) (hz w)) (hk _ _ (fun u hu => by cases hu) (hw.alloc (x := 1) (by decide) (fun h => hn (hcl 18 15 h (by kernel_rfl)))))
    | 16, _ => intro d vals a w o ho hn hd hdl hcl hf hx hw K Q' E hk; exact dw.s_val (dw.gd_of ho rfl) (x_alloc39 (dw.op_of ho rfl) (hz w)) (hk _ _ (fun u hu => by cases hu) (hw.alloc (x := 2) (by decide) (fun h => hn (hcl 19 16 h (by kernel_rfl)))))
    | 17, _ =>
        intro d vals a w o ho hn hd hdl hcl hf hx hw K Q' E hk
        have hd1 : d 14 := hd 14 (by kernel_rfl)
        obtain ⟨g, hg, _, _, _, hgz⟩ := hw.al 0 (by decide) hd1
        have vp := (hf.eval 14 hd1 (t := 4) rfl).trans hg
        have vc := ((hf.eval 3 (hd 3 (by kernel_rfl)) (t := 16) rfl).trans (hx 3 (hd 3 (by kernel_rfl)) _ rfl))
        have hwt : Region.wanted o (yielded opsP a.tmps) = true := by simp [Region.wanted, dw.gd_of (ops := opsP) ho rfl]
        rw [if_pos hwt]
        exact wp_store_row 39 (.tmp 4) (.tmp 16) (dw.op_of ho rfl) g (Cs 0) vp vc 39 Z (hgz hn) (by rw [hsz0]; exact ir.info39) (by rw [hsz0]; exact hzs) hone0 (hk _ _ (fun u hu => by cases hu) (hw.store (x := 0) (by decide) hd1 hg hn _))
    | 18, _ =>
        intro d vals a w o ho hn hd hdl hcl hf hx hw K Q' E hk
        have hd1 : d 15 := hd 15 (by kernel_rfl)
        obtain ⟨g, hg, _, _, _, hgz⟩ := hw.al 1 (by decide) hd1
        have vp := (hf.eval 15 hd1 (t := 5) rfl).trans hg
        have vc := ((hf.eval 8 (hd 8 (by kernel_rfl)) (t := 21) rfl).trans (hx 8 (hd 8 (by kernel_rfl)) _ rfl))
        have hwt : Region.wanted o (yielded opsP a.tmps) = true := by simp [Region.wanted, dw.gd_of (ops := opsP) ho rfl]
        rw [if_pos hwt]
        exact wp_store_row 39 (.tmp 5) (.tmp 21) (dw.op_of ho rfl) g (Cs 1) vp vc 39 Z (hgz hn) (by rw [hsz1]; exact ir.info39) (by rw [hsz1]; exact hzs) hone1 (hk _ _ (fun u hu => by cases hu) (hw.store (x := 1) (by decide) hd1 hg hn _))
    | 19, _ =>
        intro d vals a w o ho hn hd hdl hcl hf hx hw K Q' E hk
        have hd1 : d 16 := hd 16 (by kernel_rfl)
        obtain ⟨g, hg, _, _, _, hgz⟩ := hw.al 2 (by decide) hd1
        have vp := (hf.eval 16 hd1 (t := 6) rfl).trans hg
        have vc := ((hf.eval 13 (hd 13 (by kernel_rfl)) (t := 26) rfl).trans (hx 13 (hd 13 (by kernel_rfl)) _ rfl))
        have hwt : Region.wanted o (yielded opsP a.tmps) = true := by simp [Region.wanted, dw.gd_of (ops := opsP) ho rfl]
        rw [if_pos hwt]
        exact wp_store_row 39 (.tmp 6) (.tmp 26) (dw.op_of ho rfl) g (Cs 2) vp vc 39 Z (hgz hn) (by rw [hsz2]; exact ir.info39) (by rw [hsz2]; exact hzs) hone2 (hk _ _ (fun u hu => by cases hu) (hw.store (x := 2) (by decide) hd1 hg hn _))
    | i + 20, hi => exact absurd hi (by simp [opsP])
  · intro vals w hx hw
    obtain ⟨g0, a0, _, _, b0, _⟩ := hw.al 0 (by decide) (by decide)
    obtain ⟨g1, a1, _, _, b1, _⟩ := hw.al 1 (by decide) (by decide)
    obtain ⟨g2, a2, _, _, b2, _⟩ := hw.al 2 (by decide) (by decide)
    exact fin vals g0 g1 g2 w hw.be a0 a1 a2 (b0 (by decide)) (b1 (by decide)) (b2 (by decide)) hx
theorem foldP (vals : Nat → Value) (a : Act) : dw.fold opsP.toList 0 vals a = (((((((((((((((((a.put (some 13) (vals 0)).put (some 14) (vals 1)).put (some 15) (vals 2)).put (some 16) (vals 3)).put (some 17) (vals 4)).put (some 18) (vals 5)).put (some 19) (vals 6)).put (some 20) (vals 7)).put (some 21) (vals 8)).put (some 22) (vals 9)).put (some 23) (vals 10)).put (some 24) (vals 11)).put (some 25) (vals 12)).put (some 26) (vals 13)).put (some 4) (vals 14)).put (some 5) (vals 15)).put (some 6) (vals 16)) := by
  unfold opsP
  simp only [dw.fold, dw.put_none, Nat.zero_add, Nat.reduceAdd]
end Go.Proofs.Ytmmlibehihknbaa.op

namespace Go.Proofs.Ytmmlibehihknbaa.op
open Go.ChangeShapes Go.WideShapes Go.ChangeAt Go.RowKit
open mg (chain below_alloc IntsV Mgs)
open tr (Mc Mp mv MAt)
open ir (Sm SmAt Gs svL SBox)
set_option linter.unusedVariables false
set_option linter.unusedSimpArgs false
set_option maxRecDepth 100000

def z87 : Array Value := ([Value.slice none 0 0] ++ (List.replicate 256 (Value.int .u8 0) ++ ([Value.slice none 0 0, .slice none 0 0] ++ (List.replicate 256 (Value.int .u8 0) ++ List.replicate 4 (Value.slice none 0 0))))).toArray
theorem z87_size : z87.size = 519 := by unfold z87; simp
theorem built_fill87 (parts : List (Nat × Value)) : Try.prog.built 87 parts = Instr.fill (#[(0, 1), (1, 258), (259, 256), (515, 1), (516, 1), (517, 1), (518, 1)][·]?) z87 parts := by kernel_rfl
theorem z87_0 : z87[0]? = some (.slice none 0 0) := rfl
/-- the parts' cells where they are read -/
structure PC (X : Array Value) (M : List Value) (vm vd : Value) : Prop where
  size : X.size = 519
  c0 : X[0]? = some (.slice none 0 0)
  tos : ∀ x, x < 256 → X[259 + x]? = M[x]?
  mg : X[515]? = some vm
  dr : X[516]? = some vd
theorem cells1 {v : Value} (h : ∃ o n c, v = .slice o n c) : v.cells = #[v] := by
  obtain ⟨o, n, c, rfl⟩ := h
  rfl
theorem built87 (D M : List Value) (hD : D.length = 258) (hM : M.length = 256) (vm vd vb va : Value) (h1 : ∃ o n c, vm = .slice o n c) (h2 : ∃ o n c, vd = .slice o n c) (h3 : ∃ o n c, vb = .slice o n c) (h4 : ∃ o n c, va = .slice o n c) : ∃ X, Try.prog.built 87 [(1, .agg D.toArray), (2, .agg M.toArray), (3, vm), (4, vd), (5, vb), (6, va)] = some X ∧ PC X M vm vd := by
  rw [built_fill87]
  have hz := z87_size
  obtain ⟨Y, hY⟩ : ∃ Y, Y = (D.zipIdx 0).foldl (fun (acc : Array Value) (p : Value × Nat) => acc.setIfInBounds (1 + p.2) p.1) z87 := ⟨_, rfl⟩
  obtain ⟨X, hX⟩ : ∃ X, X = (M.zipIdx 0).foldl (fun (acc : Array Value) (p : Value × Nat) => acc.setIfInBounds (259 + p.2) p.1) Y := ⟨_, rfl⟩
  have hYs : Y.size = 519 := by rw [hY, ir.fold_size]; exact hz
  have hXs : X.size = 519 := by rw [hX, ir.fold_size]; exact hYs
  have hY2 : Array.foldl (fun (cs : Array Value) (x : Value × Nat) => cs.setIfInBounds (1 + x.snd) x.fst) z87 D.toArray.zipIdx 0 258 = Y := by
    rw [hY]
    simp [hD]
  have hX2 : Array.foldl (fun (cs : Array Value) (x : Value × Nat) => cs.setIfInBounds (259 + x.snd) x.fst) Y M.toArray.zipIdx 0 256 = X := by
    rw [hX]
    simp [hM]
  obtain ⟨o1, n1, c1, rfl⟩ := h1
  obtain ⟨o2, n2, c2, rfl⟩ := h2
  obtain ⟨o3, n3, c3, rfl⟩ := h3
  obtain ⟨o4, n4, c4, rfl⟩ := h4
  refine ⟨(((X.setIfInBounds 515 (.slice o1 n1 c1)).setIfInBounds 516 (.slice o2 n2 c2)).setIfInBounds 517 (.slice o3 n3 c3)).setIfInBounds 518 (.slice o4 n4 c4), ?_, ⟨by simp [hXs], ?_, fun x hx => ?_, ?_, ?_⟩⟩
  · simp [Instr.fill, Value.cells, hD, hM, hz, hY2, hYs, hX2, hXs]
  · have : X[0]? = some (.slice none 0 0) := by
      rw [hX, ir.fold_at, if_neg (by omega), hY, ir.fold_at, if_neg (by omega)]
      exact z87_0
    simp [Array.getElem?_setIfInBounds, this]
  · have : X[259 + x]? = M[x]? := by
      rw [hX, ir.fold_at, if_pos (by omega)]
      simp
    simp only [Array.getElem?_setIfInBounds]
    rw [if_neg (by omega), if_neg (by omega), if_neg (by omega), if_neg (by omega)]
    exact this
  · simp [Array.getElem?_setIfInBounds, hXs]
  · simp [Array.getElem?_setIfInBounds, hXs]
theorem wp_build87 {oo : Oper} {a : Act} {w : World} {K : Act → World → Prop} {Q : Exit → Act → World → Prop} (x1 x2 x3 x4 x5 x6 : Operand) (ho : oo.op = .build 87 #[(1, x1), (2, x2), (3, x3), (4, x4), (5, x5), (6, x6)]) (v1 v2 v3 v4 v5 v6 : Value) (h1 : a.eval x1 = v1) (h2 : a.eval x2 = v2) (h3 : a.eval x3 = v3) (h4 : a.eval x4 = v4) (h5 : a.eval x5 = v5) (h6 : a.eval x6 = v6) (cells : Array Value) (hb : Try.prog.built 87 [(1, v1), (2, v2), (3, v3), (4, v4), (5, v5), (6, v6)] = some cells)
    (h : K (a.put oo.dst (.agg cells)) w) : oo.wp Try.prog a w K Q := by
  have e := run_build (P := Try.prog) w 87 #[(1, v1), (2, v2), (3, v3), (4, v4), (5, v5), (6, v6)] cells hb
  unfold Oper.wp execOp
  rw [ho]
  simp only [List.map_toArray, List.map_cons, List.map_nil, h1, h2, h3, h4, h5, h6, Sem.run_bind, e, Result.andThen_ok]
  exact h
theorem wpList_build87 {ops : Array Oper} {rest : List Oper} {oo : Oper} {a : Act} {w : World} {Q : Exit → Act → World → Prop} (hgd : oo.guard = none) (x1 x2 x3 x4 x5 x6 : Operand) (ho : oo.op = .build 87 #[(1, x1), (2, x2), (3, x3), (4, x4), (5, x5), (6, x6)]) (v1 v2 v3 v4 v5 v6 : Value) (h1 : a.eval x1 = v1) (h2 : a.eval x2 = v2) (h3 : a.eval x3 = v3) (h4 : a.eval x4 = v4) (h5 : a.eval x5 = v5) (h6 : a.eval x6 = v6) (cells : Array Value) (hb : Try.prog.built 87 [(1, v1), (2, v2), (3, v3), (4, v4), (5, v5), (6, v6)] = some cells)
    (h : wpList Try.prog ops Q rest (a.put oo.dst (.agg cells)) w) : wpList Try.prog ops Q (oo :: rest) a w :=
  wpList_plain hgd fun _ hK => wp_build87 x1 x2 x3 x4 x5 x6 ho v1 v2 v3 v4 v5 v6 h1 h2 h3 h4 h5 h6 cells hb (hK _ _ h)
/-- the machines' cells, one behind the other -/
def mcells (l : List Sm) (i : Nat) : List Value := ((l.take i).map fun x => (mv x.m x.q).toList).flatten
theorem mcells_succ (l : List Sm) (i : Nat) (h : i < l.length) : mcells l (i + 1) = mcells l i ++ (mv l[i].m l[i].q).toList := by
  unfold mcells
  rw [List.take_add_one, List.getElem?_eq_getElem h, List.map_append, List.flatten_append]
  simp
theorem mcells_len (l : List Sm) : ∀ i, i ≤ l.length → (mcells l i).length = i * 4
  | 0, h => by simp [mcells]
  | i + 1, h => by
    rw [mcells_succ l i (by omega), List.length_append, mcells_len l i (by omega)]
    simp [mv]
    omega
theorem mcells_at (l : List Sm) (k i : Nat) (hi : i < l.length) (hk : k ≤ l.length) (h : i < k) (j : Nat) (v : Value) (hj : (mv l[i].m l[i].q).toList[j]? = some v) : (mcells l k)[i * 4 + j]? = some v := by
  obtain ⟨d, rfl⟩ : ∃ d, k = i + 1 + d := ⟨k - (i + 1), by omega⟩
  clear h
  induction d with
  | zero =>
    rw [Nat.add_zero, mcells_succ l i (by omega), List.getElem?_append_right (by rw [mcells_len l i (by omega)]; omega), mcells_len l i (by omega), Nat.add_sub_cancel_left]
    exact hj
  | succ d ih =>
    rw [show i + 1 + (d + 1) = (i + 1 + d) + 1 by omega, mcells_succ l (i + 1 + d) (by omega)]
    have h1 := ih (by omega)
    rw [List.getElem?_append_left (List.getElem?_eq_some_iff.1 h1).1]
    exact h1
end Go.Proofs.Ytmmlibehihknbaa.op
