/-
  Texts put together: Over this program: two statements of builder.spread, in all their orders. Contracts over this program: sets of bytes are handed on over Free edges (builder.spread). Plain mathematics: where a set of states comes to over each byte (builder.step), before what is free. Contracts over this program: where a set of states comes to over each byte (builder.step). Contracts over this program: the number of any set (builder.number), the row of a set (builder.row). Contracts over this program: the row of a set (builder.row). Contracts over this program: the first set is numbered (builder.begin). The library's sort of ints, laid at this program; what it leaves of an own row. Contracts over this program: the states that are reached over nothing (nfa.Free). Contracts over this program: the first set is numbered (builder.begin), the walk. Over this program: the rows of edges of a builder that is being made. Over this program: the statements of newBuilder that draw their order. Over this program: a builder is laid.
-/
import Derived.Test.YtkdkibnjfgcppaaM05
import Derived.Deep.MidRow
import Derived.Laws.StructEq
import Derived.ChangeKeysEq
import Derived.Test.YtkdkibnjfgcppaaM04
import Derived.Shelf.Sort.Plain
import Derived.Shelf.Slices.In.SortNone
import Derived.Ground.NamesProg
import Derived.Laws.Tables
namespace Go.Proofs.Ytkdkibnjfgcppaa.bd
open Go.Sort Go.ChangeShapes Go.WideShapes Go.ChangeAt Go.RowKit Go.Maps
open df (Kp Row iv In IntsV Owns)
open st (Q4 none4 Fits has nth jn Blk)
set_option linter.unusedVariables false
set_option maxRecDepth 10000

abbrev V4 (q : Q4) : Value := .agg #[.int .u64 q.a, .int .u64 q.b, .int .u64 q.c, .int .u64 q.d]
def eq4 (a b c d a' b' c' d' : Int) : Bool := a == a' && (b == b' && (c == c' && d == d'))
theorem info42 : (Try.prog.info? 42).map (fun i => (i.zero, i.size, i.bytes)) = some (some (.int .u64 0), 1, 8) := by kernel_rfl
theorem eq58 (a b c d a' b' c' d' : Int) (W : World) : (Op.equalIn 9999 43 (.agg #[.int .u64 a, .int .u64 b, .int .u64 c, .int .u64 d]) (.agg #[.int .u64 a', .int .u64 b', .int .u64 c', .int .u64 d'])).run Try.prog W = .ok (eq4 a b c d a' b' c' d') W := by
  obtain ⟨i, hi, _, _, _⟩ := info_parts info42
  have c22 : Try.prog.cellsOf 42 = 1 := by kernel_rfl
  have r4 : List.range 4 = [0, 1, 2, 3] := rfl
  have he : ∀ x y : Int, (Op.equalIn 9998 42 (.int .u64 x) (.int .u64 y)).run Try.prog W = .ok (x == y) W := fun x y => run_equalIn_int W 9997 42 .u64 .u64 x y Try.underlying42
  rw [run_equalIn_array W 9998 _ _ Try.underlying43 hi, c22, r4]
  unfold eq4
  cases h1 : a == a' <;> cases h2 : b == b' <;> cases h3 : c == c' <;> cases h4 : d == d' <;> simp [Op.eqItems, part, Try.isAgg42, he, h1, h2, h3, h4]
theorem eq4_iff {q r : Q4} : eq4 q.a q.b q.c q.d r.a r.b r.c r.d = decide (q = r) := by
  unfold eq4
  cases q; cases r
  rw [Bool.eq_iff_iff]
  simp
  omega
section
variable {o : Oper} {a : Act} {w : World}
theorem four_at {w : World} {b off : Nat} {q : Q4} (hc : w.cell? ⟨b, off, none⟩ = some (.int .u64 q.a) ∧ w.cell? ⟨b, off + 1, none⟩ = some (.int .u64 q.b) ∧ w.cell? ⟨b, off + 2, none⟩ = some (.int .u64 q.c) ∧ w.cell? ⟨b, off + 3, none⟩ = some (.int .u64 q.d)) : w.rangeAt b off [.int .u64 q.a, .int .u64 q.b, .int .u64 q.c, .int .u64 q.d] := by
  intro j v hv
  match j, hv with
  | 0, hv => simp at hv; subst hv; exact hc.1
  | 1, hv => simp at hv; subst hv; exact hc.2.1
  | 2, hv => simp at hv; subst hv; exact hc.2.2.1
  | 3, hv => simp at hv; subst hv; exact hc.2.2.2
  | j + 4, hv => simp at hv
theorem x_load60 {x : Operand} {b off : Nat} {q : Q4} (h : o.op = .load 45 x) (hx : a.eval x = .pointer (some ⟨b, off, none⟩)) (hc : w.cell? ⟨b, off, none⟩ = some (.int .u64 q.a) ∧ w.cell? ⟨b, off + 1, none⟩ = some (.int .u64 q.b) ∧ w.cell? ⟨b, off + 2, none⟩ = some (.int .u64 q.c) ∧ w.cell? ⟨b, off + 3, none⟩ = some (.int .u64 q.d)) :
    (execOp a.eval o).run Try.prog w = .ok (.value (V4 q)) w := by
  unfold execOp; rw [h]
  simp only [hx, Sem.run_bind, run_loadAt_mid (P := Try.prog) w b off 45 _ _ (four_at hc) Try.underlying45 rfl (by kernel_rfl), Result.andThen_ok, Sem.run_pure]
theorem x_index108 {x y : Operand} {b n cap i : Nat} (h : o.op = .indexAddr 108 x y) (hx : a.eval x = .slice (some ⟨b, 0, none⟩) n cap) (hy : a.eval y = .int .i64 (i : Int)) (hi : i < n) : (execOp a.eval o).run Try.prog w = .ok (.value (.pointer (some ⟨b, i * 4, none⟩))) w := by
  unfold execOp; rw [h]
  obtain ⟨i0, hi0, hz0, hz1, hz2⟩ := info_parts st.info45
  have hs : (sizeOf 45).run Try.prog w = .ok 4 w := by simp [sizeOf, typeInfo, hi0, hz1, Sem.run_bind]
  have hb : (0 : Int) ≤ (i : Int) ∧ (i : Int) < (n : Int) := by omega
  simp only [Instr.indexAt, hx, hy, asIntOf, Sem.run_bind, Sem.run_pure, Result.andThen_ok, run_underlying Try.underlying108, hb, and_self, if_true, hs, Int.toNat_natCast, Addr.add_mid, Nat.zero_add]
theorem x_call77 {x y : Operand} (h : o.op = .call { callee := .value (.func 78), args := #[x, y], argTypes := #[45, 45] }) : (execOp a.eval o).run Try.prog w = .ok (.enter 78 #[a.eval x, a.eval y]) w := by
  unfold execOp; rw [h]; kernel_rfl
theorem x_alloc60 (h : o.op = .alloc 45) : (execOp a.eval o).run Try.prog w = .ok (.value (.pointer (some ⟨w.heap.size, 0, none⟩))) (w.alloc (.cells #[.int .u64 none4.a, .int .u64 none4.b, .int .u64 none4.c, .int .u64 none4.d] 45)) := by
  unfold execOp; rw [h]; kernel_rfl
theorem x_store60 {x y : Operand} {g : Nat} {q q0 : Q4} (h : o.op = .store 45 x y) (hx : a.eval x = .pointer (some ⟨g, 0, none⟩)) (hy : a.eval y = V4 q) (hb : Blk w g q0) : (execOp a.eval o).run Try.prog w = .ok .skip ((((w.setCell ⟨g, 0, none⟩ (.int .u64 q.a)).setCell ⟨g, 1, none⟩ (.int .u64 q.b)).setCell ⟨g, 2, none⟩ (.int .u64 q.c)).setCell ⟨g, 3, none⟩ (.int .u64 q.d)) := by
  have c0 := hb.c0
  have c1 := hb.c1
  have c2 := hb.c2
  have c3 := hb.c3
  have f0 := hb.fz 0
  have f1 := hb.fz 1
  have f2 := hb.fz 2
  have f3 := hb.fz 3
  unfold execOp; rw [h]; simp only [hx, hy]; go_simp
theorem x_neq60 {x y : Operand} {q r : Q4} (h : o.op = .binOp .neq 45 x y 45) (hx : a.eval x = V4 q) (hy : a.eval y = V4 r) : (execOp a.eval o).run Try.prog w = .ok (.value (.bool (!decide (q = r)))) w := by
  have e := eq58 q.a q.b q.c q.d r.a r.b r.c r.d
  rw [← eq4_iff]
  unfold execOp; rw [h]; simp only [hx, hy]; go_simp
  generalize eq4 q.a q.b q.c q.d r.a r.b r.c r.d = z
  cases z <;> rfl
end
def ops78_14 : Array Oper := #[
  { dst := some 52, op := Op.move (Operand.tmp 1), type := 108, pos := "build.go:109", after := #[], guard := none },
  { dst := some 53, op := Op.move (Operand.tmp 10), type := 3, pos := "build.go:109", after := #[], guard := none },
  { dst := some 54, op := Op.indexAddr 108 (Operand.tmp 52) (Operand.tmp 53), type := 0, pos := "build.go:109", after := #[{ on := 0, ground := Ground.data }, { on := 1, ground := Ground.data }], guard := none },
  { dst := some 55, op := Op.load 45 (Operand.tmp 54), type := 45, pos := "build.go:109", after := #[{ on := 2, ground := Ground.data }], guard := none },
  { dst := some 56, op := Op.move (Operand.tmp 1), type := 108, pos := "build.go:109", after := #[], guard := none },
  { dst := some 57, op := Op.move (Operand.tmp 8), type := 3, pos := "build.go:109", after := #[], guard := none },
  { dst := some 58, op := Op.indexAddr 108 (Operand.tmp 56) (Operand.tmp 57), type := 0, pos := "build.go:109", after := #[{ on := 4, ground := Ground.data }, { on := 5, ground := Ground.data }], guard := none },
  { dst := some 59, op := Op.load 45 (Operand.tmp 58), type := 45, pos := "build.go:109", after := #[{ on := 6, ground := Ground.data }], guard := none },
  { dst := some 60, op := Op.call { callee := Callee.value (Operand.func 78), args := #[Operand.tmp 55, Operand.tmp 59], argTypes := #[45, 45] }, type := 45, pos := "build.go:109", after := #[{ on := 3, ground := Ground.data }, { on := 7, ground := Ground.data }], guard := none },
  { dst := some 11, op := Op.alloc 45, type := 0, pos := "build.go:109", after := #[], guard := none },
  { dst := none, op := Op.store 45 (Operand.tmp 11) (Operand.tmp 60), type := 0, pos := "build.go:109", after := #[{ on := 9, ground := Ground.data }, { on := 8, ground := Ground.data }, { on := 8, ground := Ground.chain }, { on := 0, ground := Ground.phase }, { on := 1, ground := Ground.phase }, { on := 2, ground := Ground.phase }, { on := 3, ground := Ground.phase }, { on := 4, ground := Ground.phase }, { on := 5, ground := Ground.phase }, { on := 6, ground := Ground.phase }, { on := 7, ground := Ground.phase }, { on := 8, ground := Ground.phase }, { on := 9, ground := Ground.phase }], guard := none }]
structure C14 where
  g : Nat
  n : Nat
  t : Nat
  s : Nat
  R : List Q4
  J : Q4
def C14.fix (c : C14) (i : Nat) : Option Value := [some (.slice (some ⟨c.g, 0, none⟩) c.n c.n), some (.int .i64 (c.t : Int)), some (.pointer (some ⟨c.g, c.t * 4, none⟩)), some (V4 (nth c.R c.t)), some (.slice (some ⟨c.g, 0, none⟩) c.n c.n), some (.int .i64 (c.s : Int)), some (.pointer (some ⟨c.g, c.s * 4, none⟩)), some (V4 (nth c.R c.s)), some (V4 c.J), none, none].getD i none
structure W14 (W : World) (c : C14) (d : Nat → Prop) (vals : Nat → Value) (w : World) : Prop where
  be : Below W.heap.size W w
  nw : d 9 → ∃ p, vals 9 = .pointer (some ⟨p, 0, none⟩) ∧ W.heap.size ≤ p ∧ (¬ d 10 → Blk w p none4) ∧ (d 10 → Blk w p c.J)
theorem W14.plain {W : World} {c : C14} {d : Nat → Prop} {vals : Nat → Value} {w : World} (k : W14 W c d vals w) {i : Nat} (h1 : i ≠ 9) (h2 : i ≠ 10) (v : Value) : W14 W c (fun j => j = i ∨ d j) (dw.upd vals i v) w :=
  ⟨k.be, fun a => by
    obtain ⟨p, e, hp, x, y⟩ := k.nw (a.resolve_left (fun e => h1 e.symm))
    exact ⟨p, by rw [dw.upd_ne _ _ (Ne.symm h1)]; exact e, hp, fun z => x fun u => z (.inr u), fun z => y (z.resolve_left (fun e => h2 e.symm))⟩⟩
theorem W14.later {W : World} {c : C14} {d : Nat → Prop} {vals : Nat → Value} {w w' : World} (k : W14 W c d vals w) (hb : Below w.heap.size w w') : W14 W c d vals w' :=
  ⟨st.chain k.be hb, fun a => by
    obtain ⟨p, e, hp, x, y⟩ := k.nw a
    exact ⟨p, e, hp, fun z => (x z).later hb, fun z => (y z).later hb⟩⟩
set_option maxHeartbeats 1000000 in
theorem reg14 {Q : Exit → Act → World → Prop} {a0 : Act} {id : Nat} (hsz : a0.tmps.size = 76) (c : C14) (e1 : a0.eval (.tmp 1) = .slice (some ⟨c.g, 0, none⟩) c.n c.n) (e10 : a0.eval (.tmp 10) = .int .i64 (c.t : Int)) (e8 : a0.eval (.tmp 8) = .int .i64 (c.s : Int)) {W : World} (hR : SRow W c.g c.R) (hl : c.R.length = c.n) (ht : c.t < c.n) (hs : c.s < c.n)
    (h77 : ∀ w, Calls Try.prog 78 #[V4 (nth c.R c.t), V4 (nth c.R c.s)] w fun ev w' => ev = .returned (V4 c.J) ∧ Below w.heap.size w w')
    (fin : ∀ vals w p, (∀ j, j < 11 → ∀ u, c.fix j = some u → vals j = u) → vals 9 = .pointer (some ⟨p, 0, none⟩) → W.heap.size ≤ p → Blk w p c.J → Below W.heap.size W w → Q .normal (dw.fold ops78_14.toList 0 vals a0) w) : (Code.region id ops78_14 true).wp Try.prog Q a0 W := by
  refine dw.region (by kernel_rfl) (by rw [hsz]; kernel_rfl) c.fix (W14 W c) (fun vals => ⟨below_drew W, fun x => x.elim⟩) ?_ ?_
  · intro i hi
    match i, hi with
    | 0, _ => intro d vals a w o ho hn hd hdl hcl hf hx hw K Q' E hk; exact dw.s_val (dw.gd_of ho rfl) ((dw.x_move (dw.op_of ho rfl)).trans (by rw [((hf.base 1 fun i hi => (by decide +kernel : ∀ i, i < ops78_14.size → dw.slot ops78_14 i ≠ some 1) i (hdl i hi)).trans e1)])) (hk _ w (fun u hu => by cases hu; rfl) (hw.plain (by decide) (by decide) _))
    | 1, _ => intro d vals a w o ho hn hd hdl hcl hf hx hw K Q' E hk; exact dw.s_val (dw.gd_of ho rfl) ((dw.x_move (dw.op_of ho rfl)).trans (by rw [((hf.base 10 fun i hi => (by decide +kernel : ∀ i, i < ops78_14.size → dw.slot ops78_14 i ≠ some 10) i (hdl i hi)).trans e10)])) (hk _ w (fun u hu => by cases hu; rfl) (hw.plain (by decide) (by decide) _))
    | 2, _ => intro d vals a w o ho hn hd hdl hcl hf hx hw K Q' E hk; exact dw.s_val (dw.gd_of ho rfl) (x_index108 (dw.op_of ho rfl) ((hf.eval 0 (hd 0 (by kernel_rfl)) (t := 52) rfl).trans (hx 0 (hd 0 (by kernel_rfl)) _ rfl)) ((hf.eval 1 (hd 1 (by kernel_rfl)) (t := 53) rfl).trans (hx 1 (hd 1 (by kernel_rfl)) _ rfl)) ht) (hk _ w (fun u hu => by cases hu; rfl) (hw.plain (by decide) (by decide) _))
    | 3, _ => intro d vals a w o ho hn hd hdl hcl hf hx hw K Q' E hk; exact dw.s_val (dw.gd_of ho rfl) (x_load60 (dw.op_of ho rfl) ((hf.eval 2 (hd 2 (by kernel_rfl)) (t := 54) rfl).trans (hx 2 (hd 2 (by kernel_rfl)) _ rfl)) ((hR.later hw.be).cells c.t (by omega))) (hk _ w (fun u hu => by cases hu; rfl) (hw.plain (by decide) (by decide) _))
    | 4, _ => intro d vals a w o ho hn hd hdl hcl hf hx hw K Q' E hk; exact dw.s_val (dw.gd_of ho rfl) ((dw.x_move (dw.op_of ho rfl)).trans (by rw [((hf.base 1 fun i hi => (by decide +kernel : ∀ i, i < ops78_14.size → dw.slot ops78_14 i ≠ some 1) i (hdl i hi)).trans e1)])) (hk _ w (fun u hu => by cases hu; rfl) (hw.plain (by decide) (by decide) _))
    | 5, _ => intro d vals a w o ho hn hd hdl hcl hf hx hw K Q' E hk; exact dw.s_val (dw.gd_of ho rfl) ((dw.x_move (dw.op_of ho rfl)).trans (by rw [((hf.base 8 fun i hi => (by decide +kernel : ∀ i, i < ops78_14.size → dw.slot ops78_14 i ≠ some 8) i (hdl i hi)).trans e8)])) (hk _ w (fun u hu => by cases hu; rfl) (hw.plain (by decide) (by decide) _))
    | 6, _ => intro d vals a w o ho hn hd hdl hcl hf hx hw K Q' E hk; exact dw.s_val (dw.gd_of ho rfl) (x_index108 (dw.op_of ho rfl) ((hf.eval 4 (hd 4 (by kernel_rfl)) (t := 56) rfl).trans (hx 4 (hd 4 (by kernel_rfl)) _ rfl)) ((hf.eval 5 (hd 5 (by kernel_rfl)) (t := 57) rfl).trans (hx 5 (hd 5 (by kernel_rfl)) _ rfl)) hs) (hk _ w (fun u hu => by cases hu; rfl) (hw.plain (by decide) (by decide) _))
    | 7, _ => intro d vals a w o ho hn hd hdl hcl hf hx hw K Q' E hk; exact dw.s_val (dw.gd_of ho rfl) (x_load60 (dw.op_of ho rfl) ((hf.eval 6 (hd 6 (by kernel_rfl)) (t := 58) rfl).trans (hx 6 (hd 6 (by kernel_rfl)) _ rfl)) ((hR.later hw.be).cells c.s (by omega))) (hk _ w (fun u hu => by cases hu; rfl) (hw.plain (by decide) (by decide) _))
    | 8, _ =>
        intro d vals a w o ho hn hd hdl hcl hf hx hw K Q' E hk
        have v3 := ((hf.eval 3 (hd 3 (by kernel_rfl)) (t := 55) rfl).trans (hx 3 (hd 3 (by kernel_rfl)) _ rfl))
        have v7 := ((hf.eval 7 (hd 7 (by kernel_rfl)) (t := 59) rfl).trans (hx 7 (hd 7 (by kernel_rfl)) _ rfl))
        refine dw.s_call (dw.gd_of ho rfl) (x_call77 (dw.op_of ho rfl)) (by rw [v3, v7]; exact h77 w) ?_
        rintro ev w' ⟨rfl, hb⟩
        exact ⟨_, rfl, hk _ w' (fun u hu => by cases hu; rfl) ((hw.later hb).plain (by decide) (by decide) _)⟩
    | 9, _ =>
        intro d vals a w o ho hn hd hdl hcl hf hx hw K Q' E hk
        have n10 : ¬ d 10 := fun x => hn (hcl 10 9 x (by kernel_rfl))
        refine dw.s_val (dw.gd_of ho rfl) (x_alloc60 (dw.op_of ho rfl)) (hk _ _ (fun u hu => by cases hu) ⟨hw.be.alloc hw.be.size _, fun _ => ⟨w.heap.size, by rw [dw.upd_same], hw.be.size, fun _ => st.blk_new w none4, fun x => absurd (x.resolve_left (by decide)) n10⟩⟩)
    | 10, _ =>
        intro d vals a w o ho hn hd hdl hcl hf hx hw K Q' E hk
        obtain ⟨p, e, hp, x, y⟩ := hw.nw (hd 9 (by kernel_rfl))
        have v8 := ((hf.eval 8 (hd 8 (by kernel_rfl)) (t := 60) rfl).trans (hx 8 (hd 8 (by kernel_rfl)) _ rfl))
        have v9 := (hf.eval 9 (hd 9 (by kernel_rfl)) (t := 11) rfl).trans e
        exact dw.s_skip (dw.gd_of ho rfl) (x_store60 (dw.op_of ho rfl) v9 v8 (x hn)) (hk _ _ (fun u hu => by cases hu) ⟨st.Below.set4 hw.be hp _, fun _ => ⟨p, by rw [dw.upd_ne _ _ (by decide)]; exact e, hp, fun z => absurd (.inl rfl) z, fun _ => st.set4 (x hn) _⟩⟩)
    | i + 11, hi => exact absurd hi (by simp [ops78_14])
  · intro vals w hx hw
    obtain ⟨p, e, hp, _, y⟩ := hw.nw (by decide)
    exact fin vals w p hx e hp (y (by decide)) hw.be
def ops78_15 : Array Oper := #[
  { dst := some 61, op := Op.load 45 (Operand.tmp 11), type := 45, pos := "build.go:109", after := #[], guard := none },
  { dst := some 62, op := Op.move (Operand.tmp 1), type := 108, pos := "build.go:109", after := #[], guard := none },
  { dst := some 63, op := Op.move (Operand.tmp 10), type := 3, pos := "build.go:109", after := #[], guard := none },
  { dst := some 64, op := Op.indexAddr 108 (Operand.tmp 62) (Operand.tmp 63), type := 0, pos := "build.go:109", after := #[{ on := 1, ground := Ground.data }, { on := 2, ground := Ground.data }], guard := none },
  { dst := some 65, op := Op.load 45 (Operand.tmp 64), type := 45, pos := "build.go:109", after := #[{ on := 3, ground := Ground.data }], guard := none },
  { dst := some 66, op := Op.binOp BinOp.neq 45 (Operand.tmp 61) (Operand.tmp 65) 45, type := 4, pos := "build.go:109", after := #[{ on := 0, ground := Ground.data }, { on := 4, ground := Ground.data }], guard := none }]
structure C15 where
  g : Nat
  n : Nat
  t : Nat
  p : Nat
  R : List Q4
  J : Q4
def C15.fix (c : C15) (i : Nat) : Option Value := [some (V4 c.J), some (.slice (some ⟨c.g, 0, none⟩) c.n c.n), some (.int .i64 (c.t : Int)), some (.pointer (some ⟨c.g, c.t * 4, none⟩)), some (V4 (nth c.R c.t)), some (.bool (!decide (c.J = nth c.R c.t)))].getD i none
set_option maxHeartbeats 1000000 in
theorem reg15 {Q : Exit → Act → World → Prop} {a0 : Act} {id : Nat} (hsz : a0.tmps.size = 76) (c : C15) (e1 : a0.eval (.tmp 1) = .slice (some ⟨c.g, 0, none⟩) c.n c.n) (e10 : a0.eval (.tmp 10) = .int .i64 (c.t : Int)) (e11 : a0.eval (.tmp 11) = .pointer (some ⟨c.p, 0, none⟩)) {W : World} (hR : SRow W c.g c.R) (hJ : Blk W c.p c.J) (hl : c.R.length = c.n) (ht : c.t < c.n)
    (fin : ∀ vals, (∀ j, j < 6 → ∀ u, c.fix j = some u → vals j = u) → Q .normal (dw.fold ops78_15.toList 0 vals a0) W.drew) : (Code.region id ops78_15 true).wp Try.prog Q a0 W := by
  refine dw.region (by kernel_rfl) (by rw [hsz]; kernel_rfl) c.fix (fun d vals w => w = W.drew) (fun vals => rfl) ?_ ?_
  · intro i hi
    match i, hi with
    | 0, _ => intro d vals a w o ho hn hd hdl hcl hf hx hw K Q' E hk; exact dw.s_val (dw.gd_of ho rfl) (x_load60 (dw.op_of ho rfl) ((hf.base 11 fun i hi => (by decide +kernel : ∀ i, i < ops78_15.size → dw.slot ops78_15 i ≠ some 11) i (hdl i hi)).trans e11) (by rw [hw]; exact ⟨hJ.c0, hJ.c1, hJ.c2, hJ.c3⟩)) (hk _ w (fun u hu => by cases hu; rfl) hw)
    | 1, _ => intro d vals a w o ho hn hd hdl hcl hf hx hw K Q' E hk; exact dw.s_val (dw.gd_of ho rfl) ((dw.x_move (dw.op_of ho rfl)).trans (by rw [((hf.base 1 fun i hi => (by decide +kernel : ∀ i, i < ops78_15.size → dw.slot ops78_15 i ≠ some 1) i (hdl i hi)).trans e1)])) (hk _ w (fun u hu => by cases hu; rfl) hw)
    | 2, _ => intro d vals a w o ho hn hd hdl hcl hf hx hw K Q' E hk; exact dw.s_val (dw.gd_of ho rfl) ((dw.x_move (dw.op_of ho rfl)).trans (by rw [((hf.base 10 fun i hi => (by decide +kernel : ∀ i, i < ops78_15.size → dw.slot ops78_15 i ≠ some 10) i (hdl i hi)).trans e10)])) (hk _ w (fun u hu => by cases hu; rfl) hw)
    | 3, _ => intro d vals a w o ho hn hd hdl hcl hf hx hw K Q' E hk; exact dw.s_val (dw.gd_of ho rfl) (x_index108 (dw.op_of ho rfl) ((hf.eval 1 (hd 1 (by kernel_rfl)) (t := 62) rfl).trans (hx 1 (hd 1 (by kernel_rfl)) _ rfl)) ((hf.eval 2 (hd 2 (by kernel_rfl)) (t := 63) rfl).trans (hx 2 (hd 2 (by kernel_rfl)) _ rfl)) ht) (hk _ w (fun u hu => by cases hu; rfl) hw)
    | 4, _ => intro d vals a w o ho hn hd hdl hcl hf hx hw K Q' E hk; exact dw.s_val (dw.gd_of ho rfl) (x_load60 (dw.op_of ho rfl) ((hf.eval 3 (hd 3 (by kernel_rfl)) (t := 64) rfl).trans (hx 3 (hd 3 (by kernel_rfl)) _ rfl)) (by rw [hw]; exact hR.cells c.t (by omega))) (hk _ w (fun u hu => by cases hu; rfl) hw)
    | 5, _ => intro d vals a w o ho hn hd hdl hcl hf hx hw K Q' E hk; exact dw.s_val (dw.gd_of ho rfl) (x_neq60 (dw.op_of ho rfl) ((hf.eval 0 (hd 0 (by kernel_rfl)) (t := 61) rfl).trans (hx 0 (hd 0 (by kernel_rfl)) _ rfl)) ((hf.eval 4 (hd 4 (by kernel_rfl)) (t := 65) rfl).trans (hx 4 (hd 4 (by kernel_rfl)) _ rfl))) (hk _ w (fun u hu => by cases hu; rfl) hw)
    | i + 6, hi => exact absurd hi (by simp [ops78_15])
  · intro vals w hx hw
    rw [hw]
    exact fin vals hx
theorem fold78_14 (vals : Nat → Value) (a : Act) : dw.fold ops78_14.toList 0 vals a = ((((((((((a.put (some 52) (vals 0)).put (some 53) (vals 1)).put (some 54) (vals 2)).put (some 55) (vals 3)).put (some 56) (vals 4)).put (some 57) (vals 5)).put (some 58) (vals 6)).put (some 59) (vals 7)).put (some 60) (vals 8)).put (some 11) (vals 9)) := by
  unfold ops78_14
  simp only [dw.fold, dw.put_none, Nat.zero_add, Nat.reduceAdd]
theorem fold78_15 (vals : Nat → Value) (a : Act) : dw.fold ops78_15.toList 0 vals a = ((((((a.put (some 61) (vals 0)).put (some 62) (vals 1)).put (some 63) (vals 2)).put (some 64) (vals 3)).put (some 65) (vals 4)).put (some 66) (vals 5)) := by
  unfold ops78_15
  simp only [dw.fold, Nat.zero_add, Nat.reduceAdd]
end Go.Proofs.Ytkdkibnjfgcppaa.bd

namespace Go.Proofs.Ytkdkibnjfgcppaa.bd
open Go.Sort Go.ChangeShapes Go.WideShapes Go.ChangeAt Go.RowKit Go.Maps
open df (Kp Row iv In IntsV Owns)
open nf (Nfa Rt)
open st (Q4 none4 Fits has nth jn Blk)
set_option linter.unusedVariables false
set_option maxRecDepth 10000

/-- the rows of a state's Free edges -/
structure Fre (X : Nat → Prop) (W : World) (fb cap n : Nat) (F : Nat → List Int) : Prop where
  fit : n ≤ cap
  top : cap ≤ 9223372036854775807
  blk : X fb
  row : ∀ s, s < n → ∃ v, W.cell? ⟨fb, s, none⟩ = some v ∧ RowV X W v (F s)
theorem Fre.carry {X Y : Nat → Prop} {W W' : World} {fb cap n : Nat} {F : Nat → List Int} (h : Fre X W fb cap n F) (hk : ∀ b, X b → W'.heap[b]? = W.heap[b]?) (hq : ∀ b, X b → Y b) : Fre Y W' fb cap n F :=
  ⟨h.fit, h.top, hq _ h.blk, fun s hs => by
    obtain ⟨v, h1, h2⟩ := h.row s hs
    exact ⟨v, by simp only [World.cell?, hk fb h.blk] at h1 ⊢; exact h1, h2.carry hk hq⟩⟩
def SpreadIs (x : Nfa) (n : Nat) (F : Nat → List Int) : Prop := ∀ (X : Nat → Prop) (W : World) (b g fb cap : Nat) (R0 : List Q4), SRow W g R0 → R0.length = n → (∀ q ∈ R0, Fits q) → Fre X W fb cap n F → W.cell? ⟨b, 5, none⟩ = some (.slice (some ⟨fb, 0, none⟩) n cap) → X b → ¬ X g → (∀ k, X k → k < W.heap.size) →
  Calls Try.prog 79 #[.pointer (some ⟨b, 0, none⟩), .slice (some ⟨g, 0, none⟩) n n] W fun e W' => (∃ v, e = .returned v) ∧ ∃ R, SRow W' g R ∧ R.length = n ∧ (∀ q ∈ R, Fits q) ∧ (∀ i c, i < n → c < 256 → (has (nth R i) c = true ↔ nf.Reach x (At R0 c) (i : Int))) ∧ W.grownBy W' (some g)

structure Sp (W : World) (g : Nat) (R : List Q4) (y : Value) (q : List Int) (wr : World) : Prop where
  gr : W.grownBy wr (some g)
  row : SRow wr g R
  ow : Owns wr W.heap.size y q
section
variable {W wr w' : World} {g : Nat} {R : List Q4} {y : Value} {q : List Int}
theorem gr_trans {W wr w' : World} {g : Nat} {r : Option Nat} (h : W.grownBy wr (some g)) (k : wr.grownBy w' r) (hr : ∀ j, r = some j → j = g ∨ W.heap.size ≤ j) : W.grownBy w' (some g) :=
  ⟨k.os.trans h.os, k.tape.trans h.tape, k.output.trans h.output, Nat.le_trans h.size k.size, fun j hj hne => by
    rw [k.block j (Nat.lt_of_lt_of_le hj h.size) (fun e => by
      rcases hr j e.symm with h1 | h1
      · exact hne (by rw [h1])
      · omega)]
    exact h.block j hj hne⟩
theorem Sp.later (h : Sp W g R y q wr) (b : Below wr.heap.size wr w') : Sp W g R y q w' :=
  ⟨gr_trans h.gr (df.grown_of b) (fun j e => by cases e), h.row.later b, owns_later h.ow b⟩
theorem Sp.app (hg : g < W.heap.size) (h : Sp W g R y q wr) {y' : Value} {q' : List Int} (ho : Owns w' W.heap.size y' q') (k : wr.grownBy w' y.ownBlock) : Sp W g R y' q' w' :=
  ⟨gr_trans h.gr k (fun j e => .inr (df.own_ge h.ow j e)), h.row.keep (k.block g h.row.lt (fun e => by have := df.own_ge h.ow g e.symm; omega)), ho⟩
theorem Sp.put (hg : g < W.heap.size) (h : Sp W g R y q wr) (i : Nat) (hi : i < R.length) (q4 : Q4) : Sp W g (R.set i q4) y q ((((wr.setCell ⟨g, i * 4, none⟩ (.int .u64 q4.a)).setCell ⟨g, i * 4 + 1, none⟩ (.int .u64 q4.b)).setCell ⟨g, i * 4 + 2, none⟩ (.int .u64 q4.c)).setCell ⟨g, i * 4 + 3, none⟩ (.int .u64 q4.d)) := by
  refine ⟨gr_trans h.gr ⟨rfl, rfl, rfl, by simp, fun j hj hne => set4_other wr g j (fun e => hne (by rw [e])) i _ _ _ _⟩ (fun j e => .inl (Option.some.inj e).symm), h.row.put i hi q4, ?_⟩
  exact ow.keep h.ow fun j e => set4_other wr g j (fun e2 => by have := df.own_ge h.ow j e; omega) i _ _ _ _
theorem own_pop {wr : World} {B : Nat} {q0 : List Int} {t : Int} {gy : Option Addr} {cy : Nat} (h : Owns wr B (.slice gy (q0 ++ [t]).length cy) (q0 ++ [t])) : Owns wr B (.slice gy q0.length cy) q0 := by
  rcases h.2 with ⟨h0, h1⟩ | ⟨gg, cap, cur, e, hb, hgg, hn, hc, hs, ht⟩
  · simp at h1
  · simp only [Value.slice.injEq] at e
    obtain ⟨rfl, _, rfl⟩ := e
    rw [List.length_append] at hn ht
    simp only [List.length_cons, List.length_nil] at hn ht
    refine ⟨by simp, .inr ⟨_, _, cur, rfl, hb, hgg, by omega, hc, hs, ?_⟩⟩
    have := congrArg (List.take (q0.length * 1)) ht
    rw [List.take_take] at this
    simpa [Nat.min_def] using this
theorem Sp.pop {q0 : List Int} {t : Int} {gy : Option Addr} {cy : Nat} (h : Sp W g R (.slice gy (q0 ++ [t]).length cy) (q0 ++ [t]) wr) : Sp W g R (.slice gy q0.length cy) q0 wr := ⟨h.gr, h.row, own_pop h.ow⟩
end
theorem miss_le (R : List Q4) : miss R ≤ 256 * R.length := by
  induction R with
  | nil => simp [miss]
  | cons q R ih => simp [miss] at ih ⊢; omega
def startTo (R : List Q4) (i : Nat) : List Int := ((List.range i).filter fun j => !decide (nth R j = none4)).map fun j : Nat => (j : Int)
theorem start_yes (R : List Q4) (i : Nat) (h : nth R i ≠ none4) : startTo R (i + 1) = startTo R i ++ [(i : Int)] := by
  unfold startTo
  rw [List.range_succ, List.filter_append]
  simp [h]
theorem start_no (R : List Q4) (i : Nat) (h : nth R i = none4) : startTo R (i + 1) = startTo R i := by
  unfold startTo
  rw [List.range_succ, List.filter_append]
  simp [h]
theorem start_len (R : List Q4) (i : Nat) : (startTo R i).length ≤ i := by
  unfold startTo
  rw [List.length_map]
  exact Nat.le_trans (List.length_filter_le _ _) (by simp)
theorem start_held {x : Nfa} {n : Nat} {F : Nat → List Int} {R : List Q4} (hl : R.length = n) (hf : ∀ q ∈ R, Fits q) : Held x n F R R (startTo R n) :=
  ⟨hl, hf, fun i c _ _ h => h, fun i c hi hc h => .base ⟨i, by omega, rfl, h⟩, fun i hi hn t ht c hc h => by
    have : nth R i = none4 := by
      by_cases e : nth R i = none4
      · exact e
      · exact absurd (by unfold startTo; rw [List.mem_map]; exact ⟨i, by rw [List.mem_filter]; exact ⟨List.mem_range.2 hi, by simp [e]⟩, rfl⟩) hn
    rw [this, st.has_none] at h
    exact absurd h (by simp), fun t ht => by
    unfold startTo at ht
    rw [List.mem_map] at ht
    obtain ⟨i, h1, rfl⟩ := ht
    rw [List.mem_filter, List.mem_range] at h1
    omega⟩
theorem eq4_zero {q : Q4} : eq4 q.a q.b q.c q.d 0 0 0 0 = decide (q = none4) := eq4_iff (q := q) (r := none4)
theorem join77 (q r : Q4) (hq : Fits q) (hr : Fits r) (w : World) : Calls Try.prog 78 #[V4 q, V4 r] w fun ev w' => ev = .returned (V4 (jn q r)) ∧ Below w.heap.size w w' := st.join_any q r (jn q r) hq hr rfl w

set_option maxHeartbeats 4000000 in
set_option maxRecDepth 100000 in
theorem spread_any (x : Nfa) (n : Nat) (R1 : Rt x n) (F : Nat → List Int) (hF : Tgt x n F) : SpreadIs x n F := by
  intro X W b g fb cap R0 hR hl hf hFr h5 hXb hXg hXl
  have hn2 := R1.n2
  have hgW := hR.lt
  have HR1 := (show Hid (Rt x n) from R1)
  have HF := (show Hid (Tgt x n F) from hF)
  have HFR := (show Hid (Fre X W fb cap n F) from hFr)
  have hfit := hFr.fit
  have htop := hFr.top
  have HX := (show Hid (∀ k, X k → k < W.heap.size ∧ k ≠ g) from fun k hk => ⟨hXl k hk, fun e => hXg (e ▸ hk)⟩)
  have HH0 := (show Hid (Held x n F R0 R0 (startTo R0 n)) from start_held hl hf)
  have HFT := (show Hid (∀ q ∈ R0, Fits q) from hf)
  have HB5 := (show Hid (∀ wr : World, W.grownBy wr (some g) → wr.cell? ⟨b, 5, none⟩ = some (.slice (some ⟨fb, 0, none⟩) n cap)) from fun wr hg => by
    have := hg.block b (hXl b hXb) (fun e => hXg (by cases e; exact hXb))
    simp only [World.cell?, this] at h5 ⊢
    exact h5)
  have e58 := eq58
  have s0 : Sp W g R0 (.slice none 0 0) (startTo R0 0) W := ⟨⟨rfl, rfl, rfl, Nat.le_refl _, fun _ _ _ => rfl⟩, hR, ⟨by simp [startTo], .inl ⟨rfl, rfl⟩⟩⟩
  clear R1 hF hFr hXl hXg hXb h5 hf
  go_enter Try.func79, Try.ntmps79
  go_wp2_with (fail)
  go_loopw [4, 14] (fun y z wr => ∃ (i : Nat) (gy : Option Addr) (cy : Nat), y = .slice gy (startTo R0 i).length cy ∧ z = .int .i64 i ∧ i ≤ n ∧ Sp W g R0 (.slice gy (startTo R0 i).length cy) (startTo R0 i) wr) (fun _ z _ => n - (intOf z).toNat)
  case atStart => exact ⟨0, none, 0, rfl, rfl, by omega, s0⟩
  case round =>
    obtain ⟨i, gy, cy, rfl, rfl, hi, hS⟩ := hrel
    clear s0
    by_cases hend : i < n
    · obtain ⟨c0, c1, c2, c3⟩ := hS.row.cells i (by omega)
      have hln := start_len R0 i
      have HS := (show Hid _ from hS)
      have S1 := hS.later (nf.below_alloc wr (.cells #[.int .u64 (nth R0 i).a, .int .u64 (nth R0 i).b, .int .u64 (nth R0 i).c, .int .u64 (nth R0 i).d] 45))
      have HS1 := (show Hid _ from S1)
      have hBs : W.heap.size ≤ (wr.alloc (.cells #[.int .u64 (nth R0 i).a, .int .u64 (nth R0 i).b, .int .u64 (nth R0 i).c, .int .u64 (nth R0 i).d] 45)).heap.size := S1.gr.size
      have HBs := (show Hid _ from hBs)
      clear S1 hBs hS
      by_cases hz : nth R0 i = none4
      · have z1 : eq4 (nth R0 i).a (nth R0 i).b (nth R0 i).c (nth R0 i).d 0 0 0 0 = true := by rw [eq4_zero]; simpa using hz
        have HN : Hid (startTo R0 (i + 1) = startTo R0 i) := start_no R0 i hz
        clear hz HB5 HH0 HFR HX
        generalize nth R0 i = u at *
        go_wp2_with (fail)
        go_roundw
        case rel => exact ⟨i + 1, gy, cy, by rw [HN.out], by go_num, by omega, by rw [HN.out]; exact HS1.out⟩
        case measure => simp [intOf]; omega
      · have z1 : eq4 (nth R0 i).a (nth R0 i).b (nth R0 i).c (nth R0 i).d 0 0 0 0 = false := by rw [eq4_zero]; simpa using hz
        have HN : Hid (startTo R0 (i + 1) = startTo R0 i ++ [(i : Int)]) := start_yes R0 i hz
        clear hz HB5 HH0 HFR HX
        generalize nth R0 i = u at *
        obtain ⟨w1, HW1⟩ : ∃ w1, Hid (w1 = wr.alloc (.cells #[.int .u64 u.a, .int .u64 u.b, .int .u64 u.c, .int .u64 u.d] 45)) := ⟨_, rfl⟩
        rw [← HW1.out] at HS1 HBs
        go_wp2_with (at_builtin; rw [← HW1.out]; refine nf.wpList_append_at (by rfl) (.tmp 22) (.tmp 24) (by rfl) W.heap.size (.slice gy (startTo R0 i).length cy) (startTo R0 i) (i : Int) w1.heap.size (by rfl) (by rw [HW1.out]; simp [Act.eval]) (owns_later HS1.out.ow (nf.below_alloc _ _)) (nf.tmp_cell _ _ _ rfl) (by omega) (by have := HBs.out; simp; omega) ?_; intro g' cap' w2 hown2 hgr2 hw2; have HS2 := (show Hid _ from Sp.app hgW (HS1.out.later (nf.below_alloc _ _)) hown2 hgr2); clear hown2 hgr2 hw2)
        go_roundw
        case rel => exact ⟨i + 1, some ⟨g', 0, none⟩, cap', by rw [HN.out]; simp, by go_num, by omega, by rw [HN.out]; simpa using HS2.out⟩
        case measure => simp [intOf]; omega
    · have he : i = n := by omega
      subst he
      clear hend hi HFT
      go_wp2_with (fail)
      go_loopg [4] (miss R0 + (startTo R0 i).length) (fun k y wr => ∃ (R : List Q4) (q : List Int) (gy : Option Addr) (cy : Nat), y = .slice gy q.length cy ∧ Hid (k = miss R + q.length) ∧ Hid (miss R + q.length ≤ 600000) ∧ Hid (Held x i F R0 R q) ∧ Sp W g R (.slice gy q.length cy) q wr)
      case atStart => exact ⟨R0, startTo R0 i, gy, cy, rfl, rfl, by have := miss_le R0; have := start_len R0 i; show _ ≤ _; omega, HH0, hS⟩
      case round =>
        obtain ⟨R, q, gy, cy, rfl, HK, H6, HH, hS⟩ := hrel
        clear HH0
        rcases List.eq_nil_or_concat q with rfl | ⟨q0, t, rfl⟩
        · have HA : Hid (∀ j c, j < i → c < 256 → (has (nth R j) c = true ↔ nf.Reach x (At R0 c) (j : Int))) := fun j c h1 h2 => Held.all HR1.out HF.out hl HH.out j c h1 h2
          have HS := (show Hid _ from hS)
          clear HK hS
          go_wp2_with (fail)
          go_end0
          exact ⟨⟨_, rfl⟩, R, HS.out.row, HH.out.len, HH.out.fits, HA.out, HS.out.gr⟩
        · rw [List.concat_eq_append] at *
          have ht := HH.out.rng t (by simp)
          obtain ⟨s, rfl⟩ : ∃ s : Nat, t = (s : Int) := ⟨t.toNat, by omega⟩
          have hs : s < i := by omega
          obtain ⟨b1, rfl, k2, k3⟩ := nf.own_cell hS.ow q0.length (by simp)
          rw [List.getElem_concat_length rfl] at k2
          obtain ⟨_, hc1, hc2⟩ := nf.own_cap hS.ow
          simp only [List.length_append, List.length_cons, List.length_nil, Nat.zero_add] at hc1
          obtain ⟨vv, cfW, fo, fc, rfl, hrowW⟩ := HFR.out.row s hs
          have HCF := (show Hid (∀ w2 : World, W.grownBy w2 (some g) → w2.cell? ⟨fb, s, none⟩ = some (.slice fo (F s).length fc)) from fun w2 hg => by
            have := hg.block fb (HX.out fb HFR.out.blk).1 (fun e => (HX.out fb HFR.out.blk).2 (Option.some.inj e))
            simp only [World.cell?, this] at cfW ⊢
            exact cfW)
          have HRW := (show Hid (∀ w2 : World, W.grownBy w2 (some g) → Row X w2 iv fo fc (F s)) from fun w2 hg => hrowW.carry (fun k hk => hg.block k (HX.out k hk).1 (fun e => (HX.out k hk).2 (Option.some.inj e))) (fun _ h => h))
          have rfit := hrowW.fit
          have rtop := hrowW.top
          have cf := HCF.out wr hS.gr
          have c5 := HB5.out wr hS.gr
          have HP := (show Hid _ from hS.pop)
          have HD := (show Hid (Hand x i F R0 R q0 s ((F s).take 0)) from HH.out.pop)
          have HM := (show Hid (miss R + q0.length < gk) from by have := HK.out; simp at this; show _ < _; omega)
          have H62 := (show Hid (miss R + q0.length ≤ 600000) from by have := H6.out; simp at this; show _ ≤ _; omega)
          clear cfW hrowW hS HH HK H6 HCF
          simp only [List.length_append, List.length_cons, List.length_nil, Nat.zero_add]
          go_wp2_with (fail)
          go_loopw [4, 48] (fun y z wr => ∃ (j : Nat) (R : List Q4) (q : List Int) (gy : Option Addr) (cy : Nat), y = .slice gy q.length cy ∧ z = .int .i64 j ∧ j ≤ (F s).length ∧ Hid (Hand x i F R0 R q s ((F s).take j)) ∧ Hid (miss R + q.length < gk) ∧ Hid (miss R + q.length ≤ 600000) ∧ Hid (Sp W g R (.slice gy q.length cy) q wr)) (fun _ z _ => (F s).length - (intOf z).toNat)
          case atStart => exact ⟨0, R, q0, some ⟨b1, 0, none⟩, cy, rfl, rfl, by omega, HD, HM, H62, HP.out⟩
          case round =>
            obtain ⟨j, R, q, gy, cy, rfl, rfl, hj, HD, HM, H6, HS⟩ := hrel
            clear HP H62 k2 k3 c5 cf
            by_cases hje : j < (F s).length
            · obtain ⟨b2, off, rfl, _, hcell⟩ := (HRW.out wr HS.out.gr).lie j hje
              have HTK : Hid ((F s).take (j + 1) = (F s).take j ++ [(F s)[j]]) := List.take_succ_eq_append_getElem hje
              have HMEM : Hid ((F s)[j] ∈ F s) := List.getElem_mem hje
              obtain ⟨t, ht⟩ : ∃ t : Nat, (F s)[j] = (t : Int) ∧ t < i := by
                obtain ⟨e, a1, a2, a3, a4⟩ := (HF.out s hs _).1 HMEM.out
                have := HR1.out.to e a1
                exact ⟨(F s)[j].toNat, by omega, by omega⟩
              obtain ⟨ht, hti⟩ := ht
              rw [ht] at HTK HMEM hcell
              have HRL := (show Hid (R.length = i) from HD.out.len)
              have hft := fits_nth HD.out.fits t (by rw [HRL.out]; exact hti)
              have hfs := fits_nth HD.out.fits s (by rw [HRL.out]; exact hs)
              clear ht
              go_wp2_with (fail)
              refine reg14 rfl ⟨g, i, t, s, R, jn (nth R t) (nth R s)⟩ rfl rfl rfl HS.out.row HRL.out hti hs (join77 _ _ hft hfs) ?_
              intro vals w3 p hx hp9 hpW hJ hB
              rw [fold78_14, hp9]
              have HS3 := (show Hid _ from HS.out.later hB)
              go_wp2_with (fail)
              refine reg15 rfl ⟨g, i, t, p, R, jn (nth R t) (nth R s)⟩ rfl rfl rfl HS3.out.row hJ HRL.out hti ?_
              intro vals2 hx2
              rw [fold78_15, hx2 5 (by decide) _ rfl]
              have HS4 := (show Hid _ from HS3.out.later (below_drew w3))
              have j0 := (hJ.later (below_drew w3)).c0
              have j1 := (hJ.later (below_drew w3)).c1
              have j2 := (hJ.later (below_drew w3)).c2
              have j3 := (hJ.later (below_drew w3)).c3
              obtain ⟨r0, r1, r2, r3⟩ := HS4.out.row.cells t (by rw [HRL.out]; exact hti)
              have z0 := HS4.out.row.fz (t * 4)
              have z1 := HS4.out.row.fz (t * 4 + 1)
              have z2 := HS4.out.row.fz (t * 4 + 2)
              have z3 := HS4.out.row.fz (t * 4 + 3)
              have hln : q.length ≤ 600000 := by have := H6.out; omega
              clear hx hx2 hp9 hJ hB HS3 HS
              generalize w3.drew = w4 at *
              by_cases he : jn (nth R t) (nth R s) = nth R t
              · have hb : (!decide (jn (nth R t) (nth R s) = nth R t)) = false := by simp [he]
                have HD2 := (show Hid (Hand x i F R0 R q s ((F s).take (j + 1))) from by rw [HTK.out]; exact HD.out.same hti hs he)
                simp only [hb]
                clear he hb HD j0 j1 j2 j3 r0 r1 r2 r3 z0 z1 z2 z3 HTK HMEM
                go_wp2_with (fail)
                go_roundw
                case rel => exact ⟨j + 1, R, q, gy, cy, rfl, by go_num, by omega, HD2, HM, H6, HS4.out⟩
                case measure => simp [intOf]; omega
              · have hb : (!decide (jn (nth R t) (nth R s) = nth R t)) = true := by simp [he]
                have HD2 := (show Hid (Hand x i F R0 (R.set t (jn (nth R t) (nth R s))) (q ++ [(t : Int)]) s ((F s).take (j + 1))) from by rw [HTK.out]; exact HD.out.more HR1.out HF.out hti hs HMEM.out he)
                have HMS := (show Hid (miss (R.set t (jn (nth R t) (nth R s))) < miss R) from miss_set R t (by rw [HRL.out]; exact hti) _ (by rw [← nth_get R t (by rw [HRL.out]; exact hti)]; exact cnt_more hft hfs he))
                simp only [hb]
                have HS5 := (show Hid _ from Sp.put hgW HS4.out t (by rw [HRL.out]; exact hti) (jn (nth R t) (nth R s)))
                have HM2 := (show Hid (miss (R.set t (jn (nth R t) (nth R s))) + (q ++ [(t : Int)]).length < gk) from by have := HM.out; have := HMS.out; simp; show _ < _; omega)
                have H62 := (show Hid (miss (R.set t (jn (nth R t) (nth R s))) + (q ++ [(t : Int)]).length ≤ 600000) from by have := H6.out; have := HMS.out; simp; show _ ≤ _; omega)
                clear he hb HD HTK HMEM HM H6 HMS hft hfs
                generalize jn (nth R t) (nth R s) = J at *
                obtain ⟨w5, HW5⟩ : ∃ w5, Hid (w5 = (((w4.setCell ⟨g, t * 4, none⟩ (.int .u64 J.a)).setCell ⟨g, t * 4 + 1, none⟩ (.int .u64 J.b)).setCell ⟨g, t * 4 + 2, none⟩ (.int .u64 J.c)).setCell ⟨g, t * 4 + 3, none⟩ (.int .u64 J.d)) := ⟨_, rfl⟩
                rw [← HW5.out] at HS5
                have HBS := (show Hid (W.heap.size ≤ w5.heap.size) from HS5.out.gr.size)
                go_wp2_with (at_builtin; rw [← HW5.out]; refine nf.wpList_append_at (by rfl) (.tmp 71) (.tmp 73) (by rfl) W.heap.size (.slice gy q.length cy) q (t : Int) w5.heap.size (by rfl) (by rw [HW5.out]; simp [Act.eval]) (owns_later HS5.out.ow (nf.below_alloc _ _)) (nf.tmp_cell _ _ _ rfl) (by omega) (by have := HBS.out; simp; omega) ?_; intro g' cap' w2 hown2 hgr2 hw2; have HS6 := (show Hid _ from Sp.app hgW (HS5.out.later (nf.below_alloc _ _)) hown2 hgr2); clear hown2 hgr2 hw2)
                go_roundw
                case rel => exact ⟨j + 1, R.set t J, q ++ [(t : Int)], some ⟨g', 0, none⟩, cap', by simp, by go_num, by omega, HD2, HM2, H62, by show Sp _ _ _ _ _ _; simpa using HS6.out⟩
                case measure => simp [intOf]; omega
            · have HD2 := (show Hid (Held x i F R0 R q) from by
                have := HD.out
                rw [List.take_of_length_le (by omega)] at this
                exact this.done)
              clear HD HRW
              go_wp2_with (fail)
              go_roundg (miss R + q.length)
              case rel => exact ⟨R, q, gy, cy, rfl, rfl, H6, HD2, HS.out⟩
              case measure => exact HM.out
end Go.Proofs.Ytkdkibnjfgcppaa.bd

namespace Go.Proofs.Ytkdkibnjfgcppaa.bd
open nf (Nfa Ed Over Rt hasE setOf)
open st (Q4 none4 Fits has nth jn sig)
set_option linter.unusedVariables false

def joinE (R : List Q4) (e : Ed) : List Q4 := R.set e.to.toNat (jn (nth R e.to.toNat) (setOf e))
def stepR (E : Nat → List Ed) (n : Nat) (l : List Int) : List Q4 := l.foldl (fun R s => (E s.toNat).foldl joinE R) (List.replicate n none4)
theorem stepR_snoc (E : Nat → List Ed) (n : Nat) (l : List Int) (s : Int) : stepR E n (l ++ [s]) = (E s.toNat).foldl joinE (stepR E n l) := by unfold stepR; rw [List.foldl_append]; rfl
theorem joinE_snoc (R : List Q4) (es : List Ed) (e : Ed) : (es ++ [e]).foldl joinE R = joinE (es.foldl joinE R) e := by rw [List.foldl_append]; rfl
/-- the edges of a state that are not Free -/
def Edg (x : Nfa) (n : Nat) (E : Nat → List Ed) : Prop := ∀ s, s < n → ∀ e, e ∈ E s ↔ e ∈ x.edges ∧ e.free = false ∧ e.fr = (s : Int)
structure Rs (n : Nat) (R : List Q4) (P : Nat → Nat → Prop) : Prop where
  len : R.length = n
  fits : ∀ q ∈ R, Fits q
  mem : ∀ i c, i < n → c < 256 → (has (nth R i) c = true ↔ P i c)
theorem fits_ed {e : Ed} (h : nf.Fits e) : Fits (setOf e) := nf.fits_of h
theorem rs_join {n : Nat} {R : List Q4} {P : Nat → Nat → Prop} (h : Rs n R P) {e : Ed} (hf : nf.Fits e) {t : Nat} (ht : e.to = (t : Int)) (htn : t < n) : Rs n (joinE R e) (fun i c => P i c ∨ (i = t ∧ hasE e c = true)) := by
  have hl := h.len
  have e1 : e.to.toNat = t := by omega
  unfold joinE
  rw [e1]
  refine ⟨by simpa using hl, fits_set h.fits t (st.fits_jn (fits_nth h.fits t (by omega)) (fits_ed hf)), fun i c hi hc => ?_⟩
  rw [nth_set R t i _ (by omega) (by omega)]
  by_cases e2 : i = t
  · rw [if_pos e2, st.has_jn _ _ c hc, Bool.or_eq_true, ← e2, h.mem i c hi hc]
    simp [hasE]
  · rw [if_neg e2, h.mem i c hi hc]
    simp [e2]
theorem rs_edges {n : Nat} {R : List Q4} {P : Nat → Nat → Prop} (h : Rs n R P) : ∀ es : List Ed, (∀ e ∈ es, nf.Fits e ∧ 0 ≤ e.to ∧ e.to < (n : Int)) → Rs n (es.foldl joinE R) (fun i c => P i c ∨ ∃ e ∈ es, e.to = (i : Int) ∧ hasE e c = true) := by
  intro es
  induction es generalizing R P with
  | nil => intro _; exact ⟨h.len, h.fits, fun i c hi hc => by rw [List.foldl_nil, h.mem i c hi hc]; simp⟩
  | cons e es ih =>
    intro he
    obtain ⟨h1, h2, h3⟩ := he e List.mem_cons_self
    have k := ih (rs_join h h1 (t := e.to.toNat) (by omega) (by omega)) (fun e' h' => he e' (List.mem_cons_of_mem _ h'))
    refine ⟨k.len, k.fits, fun i c hi hc => (k.mem i c hi hc).trans ?_⟩
    constructor
    · rintro ((a | ⟨a, b⟩) | ⟨e', a, b, d⟩)
      · exact .inl a
      · exact .inr ⟨e, List.mem_cons_self, by omega, b⟩
      · exact .inr ⟨e', List.mem_cons_of_mem _ a, b, d⟩
    · rintro (a | ⟨e', a, b, d⟩)
      · exact .inl (.inl a)
      · rcases List.mem_cons.1 a with rfl | a
        · exact .inl (.inr ⟨by omega, d⟩)
        · exact .inr ⟨e', a, b, d⟩
theorem rs_zero (n : Nat) : Rs n (List.replicate n none4) (fun _ _ => False) :=
  ⟨by simp, fun q hq => by rw [List.eq_of_mem_replicate hq]; exact st.fits_none, fun i c hi hc => by
    rw [nth_get _ _ (by simpa using hi), List.getElem_replicate, st.has_none]; simp⟩
theorem rs_states {x : Nfa} {n : Nat} {E : Nat → List Ed} (R1 : Rt x n) (hfit : ∀ e ∈ x.edges, nf.Fits e) (hE : Edg x n E) : ∀ (l : List Int) (R : List Q4) (P : Nat → Nat → Prop), Rs n R P → (∀ s ∈ l, 0 ≤ s ∧ s < (n : Int)) → Rs n (l.foldl (fun R s => (E s.toNat).foldl joinE R) R) (fun i c => P i c ∨ Over x c (fun s => s ∈ l) (i : Int))
  | [], R, P, h, _ => ⟨h.len, h.fits, fun i c hi hc => (h.mem i c hi hc).trans ⟨.inl, fun a => a.elim id (fun ⟨e, _, _, _, _, g⟩ => by simp at g)⟩⟩
  | s :: l, R, P, h, hl => by
    obtain ⟨s1, s2⟩ := hl s List.mem_cons_self
    have hs : s.toNat < n := by omega
    have he : ∀ e ∈ E s.toNat, nf.Fits e ∧ 0 ≤ e.to ∧ e.to < (n : Int) := fun e h => by
      have := ((hE _ hs e).1 h).1
      exact ⟨hfit e this, R1.to e this⟩
    have k := rs_states R1 hfit hE l _ _ (rs_edges h (E s.toNat) he) (fun t ht => hl t (List.mem_cons_of_mem _ ht))
    rw [List.foldl_cons]
    refine ⟨k.len, k.fits, fun i c hi hc => (k.mem i c hi hc).trans ?_⟩
    constructor
    · rintro ((a | ⟨e, a, b, d⟩) | ⟨e, a, b, d, f, g⟩)
      · exact .inl a
      · obtain ⟨a1, a2, a3⟩ := (hE _ hs e).1 a
        exact .inr ⟨e, a1, a2, d, b, by rw [a3, show ((s.toNat : Nat) : Int) = s by omega]; exact List.mem_cons_self⟩
      · exact .inr ⟨e, a, b, d, f, List.mem_cons_of_mem _ g⟩
    · rintro (a | ⟨e, a, b, d, f, g⟩)
      · exact .inl (.inl a)
      · rcases List.mem_cons.1 g with g | g
        · exact .inl (.inr ⟨e, (hE _ hs e).2 ⟨a, b, by omega⟩, f, d⟩)
        · exact .inr ⟨e, a, b, d, f, g⟩
theorem rs_step {x : Nfa} {n : Nat} {E : Nat → List Ed} (R1 : Rt x n) (hfit : ∀ e ∈ x.edges, nf.Fits e) (hE : Edg x n E) (l : List Int) (hl : ∀ s ∈ l, 0 ≤ s ∧ s < (n : Int)) : Rs n (stepR E n l) (fun i c => Over x c (fun s => s ∈ l) (i : Int)) := by
  have k := rs_states R1 hfit hE l _ _ (rs_zero n) hl
  exact ⟨k.len, k.fits, fun i c hi hc => (k.mem i c hi hc).trans ⟨fun a => a.elim (fun h => h.elim) id, .inr⟩⟩
theorem at_step {x : Nfa} {n : Nat} {R : List Q4} {S : Int → Prop} (R1 : Rt x n) {c : Nat} (hc : c < 256) (h : Rs n R (fun i c => Over x c S (i : Int))) (t : Int) : At R c t ↔ Over x c S t := by
  constructor
  · rintro ⟨j, h1, rfl, h3⟩
    exact (h.mem j c (by rw [← h.len]; exact h1) hc).1 h3
  · intro ho
    have := over_in R1 t ho
    exact ⟨t.toNat, by rw [h.len]; omega, by omega, (h.mem t.toNat c (by omega) hc).2 (by rw [show ((t.toNat : Nat) : Int) = t by omega]; exact ho)⟩
theorem sig_set {x : Nfa} {n : Nat} {R0 R : List Q4} {S : Int → Prop} (R1 : Rt x n) {c : Nat} (hc : c < 256) (h : Rs n R0 (fun i c => Over x c S (i : Int))) (hl : R.length = n) (hR : ∀ i c, i < n → c < 256 → (has (nth R i) c = true ↔ nf.Reach x (At R0 c) (i : Int))) : IsSet n (fun t => nf.Reach x (Over x c S) t) (sig R c) :=
  ⟨by rw [st.sig_length]; exact hl, fun i hi => by
    have hi2 : i < n := by rw [st.sig_length] at hi; omega
    have e : (sig R c)[i] = has (nth R i) c := by rw [← st.sig_at R c i (by omega), List.getD_eq_getElem?_getD, List.getElem?_eq_getElem hi]; rfl
    rw [e, hR i c hi2 hc]
    exact ⟨fun r => r.mono fun t => (at_step R1 hc h t).1, fun r => r.mono fun t => (at_step R1 hc h t).2⟩⟩
theorem to_of {x : Nfa} {c : Nat} {σ : List Bool} {t : Int} : nf.Reach x (Over x c (fun s => s ∈ onTo σ σ.length)) t ↔ To x c σ t :=
  ⟨fun r => r.mono fun t h => over_mono (fun u hu => (mem_onTo σ u).1 hu) h, fun r => r.mono fun t h => over_mono (fun u hu => (mem_onTo σ u).2 hu) h⟩
end Go.Proofs.Ytkdkibnjfgcppaa.bd

namespace Go.Proofs.Ytkdkibnjfgcppaa.bd
open Go.Sort Go.ChangeShapes Go.WideShapes Go.ChangeAt Go.RowKit Go.Maps
open df (Kp Row iv In IntsV Owns)
open nf (Nfa Ed EdAt Rt setOf Over)
open st (Q4 none4 Fits has nth jn Blk sig)
set_option linter.unusedVariables false
set_option maxRecDepth 10000

theorem f62_1 (b : Nat) (w : World) : (Instr.fieldAt 105 (.pointer (some ⟨b, 0, none⟩)) 1).run Try.prog w = .ok (.pointer (some ⟨b, 1, none⟩)) w := by go_simp
theorem f62_3 (b : Nat) (w : World) : (Instr.fieldAt 105 (.pointer (some ⟨b, 0, none⟩)) 3).run Try.prog w = .ok (.pointer (some ⟨b, 3, none⟩)) w := by go_simp
theorem x_store60_at {o : Oper} {a : Act} {w : World} {x y : Operand} {g i : Nat} {q : Q4} {R : List Q4} (h : o.op = .store 45 x y) (hx : a.eval x = .pointer (some ⟨g, i * 4, none⟩)) (hy : a.eval y = V4 q) (hb : SRow w g R) (hi : i < R.length) : (execOp a.eval o).run Try.prog w = .ok .skip ((((w.setCell ⟨g, i * 4, none⟩ (.int .u64 q.a)).setCell ⟨g, i * 4 + 1, none⟩ (.int .u64 q.b)).setCell ⟨g, i * 4 + 2, none⟩ (.int .u64 q.c)).setCell ⟨g, i * 4 + 3, none⟩ (.int .u64 q.d)) := by
  obtain ⟨c0, c1, c2, c3⟩ := hb.cells i hi
  have f0 := hb.fz (i * 4)
  have f1 := hb.fz (i * 4 + 1)
  have f2 := hb.fz (i * 4 + 2)
  have f3 := hb.fz (i * 4 + 3)
  unfold execOp; rw [h]; simp only [hx, hy]; go_simp
/-- an edge in a block of its own -/
def EBox (w : World) (p : Nat) (e : Ed) : Prop := w.heap[p]? = some (.cells #[.int .i64 e.fr, .int .i64 e.to, .bool e.free, .int .u64 e.a, .int .u64 e.b, .int .u64 e.c, .int .u64 e.d] 105 (0, 0))
theorem EBox.lt {w : World} {p : Nat} {e : Ed} (h : EBox w p e) : p < w.heap.size := (Array.getElem?_eq_some_iff.1 h).1
theorem EBox.later {w w' : World} {p : Nat} {e : Ed} (h : EBox w p e) (b : Below w.heap.size w w') : EBox w' p e := by unfold EBox; rw [b.block p h.lt]; exact h
theorem EBox.c1 {w : World} {p : Nat} {e : Ed} (h : EBox w p e) : w.cell? ⟨p, 1, none⟩ = some (.int .i64 e.to) := by rw [Lib.cell_of_heap h]; rfl
theorem EBox.c3 {w : World} {p : Nat} {e : Ed} (h : EBox w p e) : w.cell? ⟨p, 3, none⟩ = some (.int .u64 (setOf e).a) ∧ w.cell? ⟨p, 3 + 1, none⟩ = some (.int .u64 (setOf e).b) ∧ w.cell? ⟨p, 3 + 2, none⟩ = some (.int .u64 (setOf e).c) ∧ w.cell? ⟨p, 3 + 3, none⟩ = some (.int .u64 (setOf e).d) := by
  refine ⟨?_, ?_, ?_, ?_⟩ <;> rw [Lib.cell_of_heap h] <;> rfl
def ops58_8 : Array Oper := #[
  { dst := some 30, op := Op.move (Operand.tmp 5), type := 108, pos := "build.go:89", after := #[], guard := none },
  { dst := some 31, op := Op.fieldAddr 105 (Operand.tmp 9) 1, type := 0, pos := "build.go:89", after := #[], guard := none },
  { dst := some 32, op := Op.load 3 (Operand.tmp 31), type := 3, pos := "build.go:89", after := #[{ on := 1, ground := Ground.data }], guard := none },
  { dst := some 33, op := Op.move (Operand.tmp 5), type := 108, pos := "build.go:89", after := #[], guard := none },
  { dst := some 34, op := Op.fieldAddr 105 (Operand.tmp 9) 1, type := 0, pos := "build.go:89", after := #[], guard := none },
  { dst := some 35, op := Op.load 3 (Operand.tmp 34), type := 3, pos := "build.go:89", after := #[{ on := 4, ground := Ground.data }], guard := none },
  { dst := some 36, op := Op.indexAddr 108 (Operand.tmp 33) (Operand.tmp 35), type := 0, pos := "build.go:89", after := #[{ on := 3, ground := Ground.data }, { on := 5, ground := Ground.data }], guard := none },
  { dst := some 37, op := Op.load 45 (Operand.tmp 36), type := 45, pos := "build.go:89", after := #[{ on := 6, ground := Ground.data }], guard := none },
  { dst := some 38, op := Op.fieldAddr 105 (Operand.tmp 9) 3, type := 0, pos := "build.go:89", after := #[], guard := none },
  { dst := some 39, op := Op.load 45 (Operand.tmp 38), type := 45, pos := "build.go:89", after := #[{ on := 8, ground := Ground.data }], guard := none },
  { dst := some 40, op := Op.call { callee := Callee.value (Operand.func 78), args := #[Operand.tmp 37, Operand.tmp 39], argTypes := #[45, 45] }, type := 45, pos := "build.go:89", after := #[{ on := 7, ground := Ground.data }, { on := 9, ground := Ground.data }], guard := none },
  { dst := some 41, op := Op.indexAddr 108 (Operand.tmp 30) (Operand.tmp 32), type := 0, pos := "build.go:89", after := #[{ on := 0, ground := Ground.data }, { on := 2, ground := Ground.data }, { on := 0, ground := Ground.phase }, { on := 1, ground := Ground.phase }, { on := 2, ground := Ground.phase }, { on := 3, ground := Ground.phase }, { on := 4, ground := Ground.phase }, { on := 5, ground := Ground.phase }, { on := 6, ground := Ground.phase }, { on := 7, ground := Ground.phase }, { on := 8, ground := Ground.phase }, { on := 9, ground := Ground.phase }, { on := 10, ground := Ground.phase }], guard := none },
  { dst := none, op := Op.store 45 (Operand.tmp 41) (Operand.tmp 40), type := 0, pos := "build.go:89", after := #[{ on := 11, ground := Ground.data }, { on := 10, ground := Ground.data }, { on := 10, ground := Ground.chain }, { on := 0, ground := Ground.phase }, { on := 1, ground := Ground.phase }, { on := 2, ground := Ground.phase }, { on := 3, ground := Ground.phase }, { on := 4, ground := Ground.phase }, { on := 5, ground := Ground.phase }, { on := 6, ground := Ground.phase }, { on := 7, ground := Ground.phase }, { on := 8, ground := Ground.phase }, { on := 9, ground := Ground.phase }, { on := 10, ground := Ground.phase }], guard := none }]
structure C58 where
  g : Nat
  n : Nat
  t : Nat
  p : Nat
  e : Ed
  R : List Q4
  J : Q4
def C58.fix (c : C58) (i : Nat) : Option Value := [some (.slice (some ⟨c.g, 0, none⟩) c.n c.n), some (.pointer (some ⟨c.p, 1, none⟩)), some (.int .i64 (c.t : Int)), some (.slice (some ⟨c.g, 0, none⟩) c.n c.n), some (.pointer (some ⟨c.p, 1, none⟩)), some (.int .i64 (c.t : Int)), some (.pointer (some ⟨c.g, c.t * 4, none⟩)), some (V4 (nth c.R c.t)), some (.pointer (some ⟨c.p, 3, none⟩)), some (V4 (setOf c.e)), some (V4 c.J), some (.pointer (some ⟨c.g, c.t * 4, none⟩)), none].getD i none
structure W58 (W : World) (c : C58) (d : Nat → Prop) (vals : Nat → Value) (w : World) : Prop where
  be : ¬ d 12 → Below W.heap.size W w
  en : d 12 → ∃ w1, Below W.heap.size W w1 ∧ w = ((((w1.setCell ⟨c.g, c.t * 4, none⟩ (.int .u64 c.J.a)).setCell ⟨c.g, c.t * 4 + 1, none⟩ (.int .u64 c.J.b)).setCell ⟨c.g, c.t * 4 + 2, none⟩ (.int .u64 c.J.c)).setCell ⟨c.g, c.t * 4 + 3, none⟩ (.int .u64 c.J.d))
theorem W58.plain {W : World} {c : C58} {d : Nat → Prop} {vals : Nat → Value} {w : World} (k : W58 W c d vals w) {i : Nat} (h2 : i ≠ 12) (v : Value) : W58 W c (fun j => j = i ∨ d j) (dw.upd vals i v) w :=
  ⟨fun a => k.be fun b => a (.inr b), fun a => k.en (a.resolve_left (fun e => h2 e.symm))⟩
set_option maxHeartbeats 1000000 in
theorem reg58 {Q : Exit → Act → World → Prop} {a0 : Act} {id : Nat} (hsz : a0.tmps.size = 48) (c : C58) (e5 : a0.eval (.tmp 5) = .slice (some ⟨c.g, 0, none⟩) c.n c.n) (e9 : a0.eval (.tmp 9) = .pointer (some ⟨c.p, 0, none⟩)) {W : World} (hR : SRow W c.g c.R) (hE : EBox W c.p c.e) (hte : c.e.to = (c.t : Int)) (hl : c.R.length = c.n) (ht : c.t < c.n)
    (h77 : ∀ w, Calls Try.prog 78 #[V4 (nth c.R c.t), V4 (setOf c.e)] w fun ev w' => ev = .returned (V4 c.J) ∧ Below w.heap.size w w')
    (fin : ∀ vals w1, Below W.heap.size W w1 → Q .normal (dw.fold ops58_8.toList 0 vals a0) ((((w1.setCell ⟨c.g, c.t * 4, none⟩ (.int .u64 c.J.a)).setCell ⟨c.g, c.t * 4 + 1, none⟩ (.int .u64 c.J.b)).setCell ⟨c.g, c.t * 4 + 2, none⟩ (.int .u64 c.J.c)).setCell ⟨c.g, c.t * 4 + 3, none⟩ (.int .u64 c.J.d))) : (Code.region id ops58_8 true).wp Try.prog Q a0 W := by
  refine dw.region (by kernel_rfl) (by rw [hsz]; kernel_rfl) c.fix (W58 W c) (fun vals => ⟨fun _ => below_drew W, fun x => x.elim⟩) ?_ ?_
  · intro i hi
    match i, hi with
    | 0, _ => intro d vals a w o ho hn hd hdl hcl hf hx hw K Q' E hk; have n12 : ¬ d 12 := fun x => hn (hcl 12 0 x (by kernel_rfl)); have hb := hw.be n12; exact dw.s_val (dw.gd_of ho rfl) ((dw.x_move (dw.op_of ho rfl)).trans (by rw [((hf.base 5 fun i hi => (by decide +kernel : ∀ i, i < ops58_8.size → dw.slot ops58_8 i ≠ some 5) i (hdl i hi)).trans e5)])) (hk _ w (fun u hu => by cases hu; rfl) (hw.plain (by decide) _))
    | 1, _ => intro d vals a w o ho hn hd hdl hcl hf hx hw K Q' E hk; have n12 : ¬ d 12 := fun x => hn (hcl 12 1 x (by kernel_rfl)); have hb := hw.be n12; exact dw.s_val (dw.gd_of ho rfl) (dw.x_field (dw.op_of ho rfl) ((hf.base 9 fun i hi => (by decide +kernel : ∀ i, i < ops58_8.size → dw.slot ops58_8 i ≠ some 9) i (hdl i hi)).trans e9) (f62_1 _ _)) (hk _ w (fun u hu => by cases hu; rfl) (hw.plain (by decide) _))
    | 2, _ => intro d vals a w o ho hn hd hdl hcl hf hx hw K Q' E hk; have n12 : ¬ d 12 := fun x => hn (hcl 12 2 x (by kernel_rfl)); have hb := hw.be n12; exact dw.s_val (dw.gd_of ho rfl) (x_load3 (dw.op_of ho rfl) ((hf.eval 1 (hd 1 (by kernel_rfl)) (t := 31) rfl).trans (hx 1 (hd 1 (by kernel_rfl)) _ rfl)) ((hE.later hb).c1.trans (by rw [hte]))) (hk _ w (fun u hu => by cases hu; rfl) (hw.plain (by decide) _))
    | 3, _ => intro d vals a w o ho hn hd hdl hcl hf hx hw K Q' E hk; have n12 : ¬ d 12 := fun x => hn (hcl 12 3 x (by kernel_rfl)); have hb := hw.be n12; exact dw.s_val (dw.gd_of ho rfl) ((dw.x_move (dw.op_of ho rfl)).trans (by rw [((hf.base 5 fun i hi => (by decide +kernel : ∀ i, i < ops58_8.size → dw.slot ops58_8 i ≠ some 5) i (hdl i hi)).trans e5)])) (hk _ w (fun u hu => by cases hu; rfl) (hw.plain (by decide) _))
    | 4, _ => intro d vals a w o ho hn hd hdl hcl hf hx hw K Q' E hk; have n12 : ¬ d 12 := fun x => hn (hcl 12 4 x (by kernel_rfl)); have hb := hw.be n12; exact dw.s_val (dw.gd_of ho rfl) (dw.x_field (dw.op_of ho rfl) ((hf.base 9 fun i hi => (by decide +kernel : ∀ i, i < ops58_8.size → dw.slot ops58_8 i ≠ some 9) i (hdl i hi)).trans e9) (f62_1 _ _)) (hk _ w (fun u hu => by cases hu; rfl) (hw.plain (by decide) _))
    | 5, _ => intro d vals a w o ho hn hd hdl hcl hf hx hw K Q' E hk; have n12 : ¬ d 12 := fun x => hn (hcl 12 5 x (by kernel_rfl)); have hb := hw.be n12; exact dw.s_val (dw.gd_of ho rfl) (x_load3 (dw.op_of ho rfl) ((hf.eval 4 (hd 4 (by kernel_rfl)) (t := 34) rfl).trans (hx 4 (hd 4 (by kernel_rfl)) _ rfl)) ((hE.later hb).c1.trans (by rw [hte]))) (hk _ w (fun u hu => by cases hu; rfl) (hw.plain (by decide) _))
    | 6, _ => intro d vals a w o ho hn hd hdl hcl hf hx hw K Q' E hk; have n12 : ¬ d 12 := fun x => hn (hcl 12 6 x (by kernel_rfl)); have hb := hw.be n12; exact dw.s_val (dw.gd_of ho rfl) (x_index108 (dw.op_of ho rfl) ((hf.eval 3 (hd 3 (by kernel_rfl)) (t := 33) rfl).trans (hx 3 (hd 3 (by kernel_rfl)) _ rfl)) ((hf.eval 5 (hd 5 (by kernel_rfl)) (t := 35) rfl).trans (hx 5 (hd 5 (by kernel_rfl)) _ rfl)) ht) (hk _ w (fun u hu => by cases hu; rfl) (hw.plain (by decide) _))
    | 7, _ => intro d vals a w o ho hn hd hdl hcl hf hx hw K Q' E hk; have n12 : ¬ d 12 := fun x => hn (hcl 12 7 x (by kernel_rfl)); have hb := hw.be n12; exact dw.s_val (dw.gd_of ho rfl) (x_load60 (dw.op_of ho rfl) ((hf.eval 6 (hd 6 (by kernel_rfl)) (t := 36) rfl).trans (hx 6 (hd 6 (by kernel_rfl)) _ rfl)) ((hR.later hb).cells c.t (by omega))) (hk _ w (fun u hu => by cases hu; rfl) (hw.plain (by decide) _))
    | 8, _ => intro d vals a w o ho hn hd hdl hcl hf hx hw K Q' E hk; have n12 : ¬ d 12 := fun x => hn (hcl 12 8 x (by kernel_rfl)); have hb := hw.be n12; exact dw.s_val (dw.gd_of ho rfl) (dw.x_field (dw.op_of ho rfl) ((hf.base 9 fun i hi => (by decide +kernel : ∀ i, i < ops58_8.size → dw.slot ops58_8 i ≠ some 9) i (hdl i hi)).trans e9) (f62_3 _ _)) (hk _ w (fun u hu => by cases hu; rfl) (hw.plain (by decide) _))
    | 9, _ => intro d vals a w o ho hn hd hdl hcl hf hx hw K Q' E hk; have n12 : ¬ d 12 := fun x => hn (hcl 12 9 x (by kernel_rfl)); have hb := hw.be n12; exact dw.s_val (dw.gd_of ho rfl) (x_load60 (dw.op_of ho rfl) ((hf.eval 8 (hd 8 (by kernel_rfl)) (t := 38) rfl).trans (hx 8 (hd 8 (by kernel_rfl)) _ rfl)) (hE.later hb).c3) (hk _ w (fun u hu => by cases hu; rfl) (hw.plain (by decide) _))
    | 10, _ =>
        intro d vals a w o ho hn hd hdl hcl hf hx hw K Q' E hk
        have n12 : ¬ d 12 := fun x => hn (hcl 12 10 x (by kernel_rfl))
        have v7 := ((hf.eval 7 (hd 7 (by kernel_rfl)) (t := 37) rfl).trans (hx 7 (hd 7 (by kernel_rfl)) _ rfl))
        have v9 := ((hf.eval 9 (hd 9 (by kernel_rfl)) (t := 39) rfl).trans (hx 9 (hd 9 (by kernel_rfl)) _ rfl))
        refine dw.s_call (dw.gd_of ho rfl) (x_call77 (dw.op_of ho rfl)) (by rw [v7, v9]; exact h77 w) ?_
        rintro ev w' ⟨rfl, hb⟩
        exact ⟨_, rfl, hk _ w' (fun u hu => by cases hu; rfl) ⟨fun a => st.chain (hw.be n12) hb, fun a => absurd (a.resolve_left (by decide)) n12⟩⟩
    | 11, _ => intro d vals a w o ho hn hd hdl hcl hf hx hw K Q' E hk; have n12 : ¬ d 12 := fun x => hn (hcl 12 11 x (by kernel_rfl)); have hb := hw.be n12; exact dw.s_val (dw.gd_of ho rfl) (x_index108 (dw.op_of ho rfl) ((hf.eval 0 (hd 0 (by kernel_rfl)) (t := 30) rfl).trans (hx 0 (hd 0 (by kernel_rfl)) _ rfl)) ((hf.eval 2 (hd 2 (by kernel_rfl)) (t := 32) rfl).trans (hx 2 (hd 2 (by kernel_rfl)) _ rfl)) ht) (hk _ w (fun u hu => by cases hu; rfl) (hw.plain (by decide) _))
    | 12, _ =>
        intro d vals a w o ho hn hd hdl hcl hf hx hw K Q' E hk
        have hb := hw.be hn
        have v11 := ((hf.eval 11 (hd 11 (by kernel_rfl)) (t := 41) rfl).trans (hx 11 (hd 11 (by kernel_rfl)) _ rfl))
        have v10 := ((hf.eval 10 (hd 10 (by kernel_rfl)) (t := 40) rfl).trans (hx 10 (hd 10 (by kernel_rfl)) _ rfl))
        exact dw.s_skip (dw.gd_of ho rfl) (x_store60_at (dw.op_of ho rfl) v11 v10 (hR.later hb) (by omega)) (hk _ _ (fun u hu => by cases hu) ⟨fun a => absurd (.inl rfl) a, fun _ => ⟨w, hb, rfl⟩⟩)
    | i + 13, hi => exact absurd hi (by simp [ops58_8])
  · intro vals w hx hw
    obtain ⟨w1, h1, h2⟩ := hw.en (by decide)
    rw [h2]
    exact fin vals w1 h1
theorem fold58_8 (vals : Nat → Value) (a : Act) : dw.fold ops58_8.toList 0 vals a = ((((((((((((a.put (some 30) (vals 0)).put (some 31) (vals 1)).put (some 32) (vals 2)).put (some 33) (vals 3)).put (some 34) (vals 4)).put (some 35) (vals 5)).put (some 36) (vals 6)).put (some 37) (vals 7)).put (some 38) (vals 8)).put (some 39) (vals 9)).put (some 40) (vals 10)).put (some 41) (vals 11)) := by
  unfold ops58_8
  simp only [dw.fold, dw.put_none, Nat.zero_add, Nat.reduceAdd]
/-- the rows of a state's other edges -/
structure RowE (X : Nat → Prop) (W : World) (o : Option Addr) (cap : Nat) (l : List Ed) : Prop where
  fit : l.length ≤ cap
  top : cap ≤ 9223372036854775807
  lie : ∀ i (h : i < l.length), ∃ b off, o = some ⟨b, off, none⟩ ∧ X b ∧ EdAt W b (off + i * 7) l[i]
theorem RowE.carry {X Y : Nat → Prop} {W W' : World} {o : Option Addr} {cap : Nat} {l : List Ed} (h : RowE X W o cap l) (hk : ∀ b, X b → W'.heap[b]? = W.heap[b]?) (hq : ∀ b, X b → Y b) : RowE Y W' o cap l :=
  ⟨h.fit, h.top, fun i hi => by
    obtain ⟨b, off, e, h1, h2⟩ := h.lie i hi
    exact ⟨b, off, e, hq b h1, h2.same (hk b h1)⟩⟩
structure Ovr (X : Nat → Prop) (W : World) (ob cap n : Nat) (E : Nat → List Ed) : Prop where
  fit : n ≤ cap
  top : cap ≤ 9223372036854775807
  blk : X ob
  row : ∀ s, s < n → ∃ o c, W.cell? ⟨ob, s, none⟩ = some (.slice o (E s).length c) ∧ RowE X W o c (E s)
theorem Ovr.carry {X Y : Nat → Prop} {W W' : World} {ob cap n : Nat} {E : Nat → List Ed} (h : Ovr X W ob cap n E) (hk : ∀ b, X b → W'.heap[b]? = W.heap[b]?) (hq : ∀ b, X b → Y b) : Ovr Y W' ob cap n E :=
  ⟨h.fit, h.top, hq _ h.blk, fun s hs => by
    obtain ⟨o, c, h1, h2⟩ := h.row s hs
    exact ⟨o, c, by simp only [World.cell?, hk ob h.blk] at h1 ⊢; exact h1, h2.carry hk hq⟩⟩
def StpIs (x : Nfa) (n : Nat) (E : Nat → List Ed) (F : Nat → List Int) (σ : List Bool) : Prop := ∀ (X : Nat → Prop) (W : World) (b ob ocap fb fcap : Nat) (v : Value), Ovr X W ob ocap n E → Fre X W fb fcap n F → W.cell? ⟨b, 0, none⟩ = some (.int .i64 (n : Int)) → W.cell? ⟨b, 4, none⟩ = some (.slice (some ⟨ob, 0, none⟩) n ocap) → W.cell? ⟨b, 5, none⟩ = some (.slice (some ⟨fb, 0, none⟩) n fcap) → X b → (∀ k, X k → k < W.heap.size) → RowV X W v (onTo σ σ.length) →
  Calls Try.prog 59 #[.pointer (some ⟨b, 0, none⟩), v] W fun e W' => ∃ R, e = .returned (.slice (some ⟨W.heap.size, 0, none⟩) n n) ∧ SRow W' W.heap.size R ∧ R.length = n ∧ (∀ q ∈ R, Fits q) ∧ (∀ c, c < 256 → IsSet n (To x c σ) (sig R c)) ∧ Below W.heap.size W W'
theorem foldl_take {E : Nat → List Ed} {n : Nat} {l : List Int} {i : Nat} (hi : i < l.length) : stepR E n (l.take (i + 1)) = (E l[i].toNat).foldl joinE (stepR E n (l.take i)) := by
  rw [List.take_succ_eq_append_getElem hi, stepR_snoc]
theorem on_range (σ : List Bool) : ∀ t ∈ onTo σ σ.length, 0 ≤ t ∧ t < (σ.length : Int) := fun t ht => by
  obtain ⟨i, rfl, h⟩ := (mem_onTo σ t).1 ht
  have := (List.getElem?_eq_some_iff.1 h).1
  omega
set_option maxHeartbeats 4000000 in
set_option maxRecDepth 100000 in
theorem step_any (x : Nfa) (n : Nat) (R1 : Rt x n) (hfit : ∀ e ∈ x.edges, nf.Fits e) (E : Nat → List Ed) (hE : Edg x n E) (F : Nat → List Int) (hF : Tgt x n F) (σ : List Bool) (hσ : σ.length = n) : StpIs x n E F σ := by
  intro X W b ob ocap fb fcap v hO hFr h0 h4 h5 hXb hXl hv
  obtain ⟨lo, lc, rfl, hL⟩ := hv
  have hn2 := R1.n2
  have hof := hO.fit
  have hot := hO.top
  have hlf := hL.fit
  have hlt := hL.top
  have now := now_any n (by omega)
  have h78 := spread_any x n R1 F hF
  unfold NowIs at now
  have HLR := (show Hid (∀ t ∈ onTo σ σ.length, 0 ≤ t ∧ t < (n : Int)) from by rw [← hσ]; exact on_range σ)
  have HRS := (show Hid (Rs n (stepR E n (onTo σ σ.length)) (fun i c => Over x c (fun s => s ∈ onTo σ σ.length) (i : Int))) from rs_step R1 hfit hE _ HLR.out)
  have HFIT := (show Hid (∀ s, s < n → ∀ e ∈ E s, nf.Fits e ∧ 0 ≤ e.to ∧ e.to < (n : Int)) from fun s hs e he => by
    have := ((hE s hs e).1 he).1
    exact ⟨hfit e this, R1.to e this⟩)
  have HR1 := (show Hid (Rt x n) from R1)
  have HO := (show Hid (∀ wr : World, Below W.heap.size W wr → Ovr X wr ob ocap n E) from fun wr hb => hO.carry (fun k hk => hb.block k (hXl k hk)) (fun _ h => h))
  have HFR := (show Hid (∀ wr : World, Below W.heap.size W wr → Fre X wr fb fcap n F) from fun wr hb => hFr.carry (fun k hk => hb.block k (hXl k hk)) (fun _ h => h))
  have HL := (show Hid (∀ wr : World, Below W.heap.size W wr → Row X wr iv lo lc (onTo σ σ.length)) from fun wr hb => hL.carry (fun k hk => hb.block k (hXl k hk)) (fun _ h => h))
  have HCC := (show Hid (∀ wr : World, Below W.heap.size W wr → wr.cell? ⟨b, 4, none⟩ = some (.slice (some ⟨ob, 0, none⟩) n ocap) ∧ wr.cell? ⟨b, 5, none⟩ = some (.slice (some ⟨fb, 0, none⟩) n fcap)) from fun wr hb => ⟨(hb.cell (p := ⟨b, 4, none⟩) (hXl b hXb)).trans h4, (hb.cell (p := ⟨b, 5, none⟩) (hXl b hXb)).trans h5⟩)
  have HXL := (show Hid (X b ∧ ∀ k, X k → k < W.heap.size) from ⟨hXb, hXl⟩)
  have r0 := srow_new W (List.replicate n none4)
  have B0 := nf.below_alloc W (.cells (scells (List.replicate n none4)) 45)
  have HSR := (show Hid (∀ i : Nat, (stepR E n ((onTo σ σ.length).take i)).length = n ∧ ∀ q ∈ stepR E n ((onTo σ σ.length).take i), Fits q) from fun i => by
    have k := rs_step R1 hfit hE ((onTo σ σ.length).take i) (fun t ht => HLR.out t (List.mem_of_mem_take ht))
    exact ⟨k.len, k.fits⟩)
  have HSE := (show Hid (∀ (i : Nat) (es : List Ed), (∀ e ∈ es, nf.Fits e ∧ 0 ≤ e.to ∧ e.to < (n : Int)) → (es.foldl joinE (stepR E n ((onTo σ σ.length).take i))).length = n ∧ ∀ q ∈ es.foldl joinE (stepR E n ((onTo σ σ.length).take i)), Fits q) from fun i es he => by
    have k := rs_edges (rs_step R1 hfit hE ((onTo σ σ.length).take i) (fun t ht => HLR.out t (List.mem_of_mem_take ht))) es he
    exact ⟨k.len, k.fits⟩)
  generalize hLL : onTo σ σ.length = l at *
  have HLL := (show Hid (onTo σ σ.length = l) from hLL)
  clear hLL hO hFr hL h4 h5 hXb hXl R1 hfit hE hF
  go_enter Try.func59, Try.ntmps59
  go_wp2_with (go_at_call 54; refine (now b _ h0).mono ?_; rintro e w1 ⟨rfl, hw1⟩; rw [← hw1] at r0 B0; clear hw1)
  go_loopw [14] (fun z wr => ∃ i : Nat, z = .int .i64 i ∧ i ≤ l.length ∧ Hid (SRow wr W.heap.size (stepR E n (l.take i))) ∧ Hid (Below W.heap.size W wr)) (fun z _ => l.length - (intOf z).toNat)
  case atStart => exact ⟨0, rfl, by omega, r0, B0⟩
  case round =>
    obtain ⟨i, rfl, hi, HS, HB⟩ := hrel
    clear r0 B0 now
    by_cases hend : i < l.length
    · obtain ⟨b2, off, rfl, _, hcell⟩ := (HL.out wr HB.out).lie i hend
      obtain ⟨s, hs, hsn⟩ : ∃ s : Nat, l[i] = (s : Int) ∧ s < n := by
        have := HLR.out l[i] (List.getElem_mem hend)
        exact ⟨l[i].toNat, by omega, by omega⟩
      have HTK := (show Hid (stepR E n (l.take (i + 1)) = (E s).foldl joinE (stepR E n (l.take i))) from by have := foldl_take (E := E) (n := n) hend; rw [hs] at this; show _ = _; simpa using this)
      rw [hs] at hcell
      obtain ⟨c4, c5⟩ := HCC.out wr HB.out
      obtain ⟨eo, ec, cEW, hREW⟩ := (HO.out W (Below.refl _ _)).row s hsn
      have ef := hREW.fit
      have et := hREW.top
      have HRE := (show Hid (∀ w2 : World, Below W.heap.size W w2 → RowE X w2 eo ec (E s)) from fun w2 hb => hREW.carry (fun k hk => hb.block k (HXL.out.2 k hk)) (fun _ h => h))
      have cE := (HB.out.cell (p := ⟨ob, s, none⟩) (HXL.out.2 ob (HO.out W (Below.refl _ _)).blk)).trans cEW
      clear hs c5 hREW cEW
      go_wp2_with (fail)
      go_loopw [26] (fun z wr => ∃ j : Nat, z = .int .i64 j ∧ j ≤ (E s).length ∧ Hid (SRow wr W.heap.size (((E s).take j).foldl joinE (stepR E n (l.take i)))) ∧ Hid (Below W.heap.size W wr)) (fun z _ => (E s).length - (intOf z).toNat)
      case atStart => exact ⟨0, rfl, by omega, HS, HB⟩
      case round =>
        obtain ⟨j, rfl, hj, HS2, HB2⟩ := hrel
        clear c4 hcell cE HS HB
        by_cases hje : j < (E s).length
        · obtain ⟨b3, off3, rfl, hXb3, hed⟩ := (HRE.out wr HB2.out).lie j hje
          have hmem : (E s)[j] ∈ E s := List.getElem_mem hje
          obtain ⟨hfe, ht0, htn⟩ := HFIT.out s hsn _ hmem
          have HTJ := (show Hid (((E s).take (j + 1)).foldl joinE (stepR E n (l.take i)) = joinE (((E s).take j).foldl joinE (stepR E n (l.take i))) (E s)[j]) from by show _ = _; rw [List.take_succ_eq_append_getElem hje, joinE_snoc])
          have HLN := (show Hid _ from HSE.out i ((E s).take j) (fun e he => HFIT.out s hsn e (List.mem_of_mem_take he)))
          obtain ⟨c0, c1, c2, c3, c4, c5, c6⟩ := hed
          generalize (E s)[j] = y at *
          obtain ⟨t, ht⟩ : ∃ t : Nat, y.to = (t : Int) := ⟨y.to.toNat, by omega⟩
          have HT := (show Hid (y.to = (t : Int)) from ht)
          have htn2 : t < n := by omega
          generalize ((E s).take j).foldl joinE (stepR E n (l.take i)) = R at *
          obtain ⟨w2, HW2⟩ : ∃ w2, Hid (w2 = wr.alloc (.cells #[.int .i64 y.fr, .int .i64 y.to, .bool y.free, .int .u64 y.a, .int .u64 y.b, .int .u64 y.c, .int .u64 y.d] 105)) := ⟨_, rfl⟩
          have HEB := (show Hid (EBox w2 wr.heap.size y) from by rw [HW2.out]; exact heap_alloc_new wr _)
          have HB3 := (show Hid (Below W.heap.size W w2) from by rw [HW2.out]; exact HB2.out.alloc HB2.out.size _)
          have HS3 := (show Hid (SRow w2 W.heap.size R) from by rw [HW2.out]; exact HS2.out.later (nf.below_alloc _ _))
          clear ht hmem
          go_wp2_with (fail)
          rw [← HW2.out]
          refine reg58 rfl ⟨W.heap.size, n, t, wr.heap.size, y, R, jn (nth R t) (setOf y)⟩ rfl rfl HS3.out HEB.out HT.out HLN.out.1 htn2 (join77 _ _ (fits_nth HLN.out.2 t (by rw [HLN.out.1]; exact htn2)) (fits_ed hfe)) ?_
          intro vals w4 hB4
          rw [fold58_8]
          have HS5 := (show Hid _ from (HS3.out.later hB4).put t (by rw [HLN.out.1]; exact htn2) (jn (nth R t) (setOf y)))
          have HB5 := (show Hid _ from below_set4 (st.chain HB3.out hB4) (g := W.heap.size) (Nat.le_refl _) t (.int .u64 (jn (nth R t) (setOf y)).a) (.int .u64 (jn (nth R t) (setOf y)).b) (.int .u64 (jn (nth R t) (setOf y)).c) (.int .u64 (jn (nth R t) (setOf y)).d))
          have HJE := (show Hid (joinE R y = R.set t (jn (nth R t) (setOf y))) from by show _ = _; unfold joinE; rw [HT.out]; rfl)
          clear hB4 HS3 HB3 HEB HS2 HB2
          generalize jn (nth R t) (setOf y) = J at *
          generalize (((w4.setCell ⟨W.heap.size, t * 4, none⟩ (.int .u64 J.a)).setCell ⟨W.heap.size, t * 4 + 1, none⟩ (.int .u64 J.b)).setCell ⟨W.heap.size, t * 4 + 2, none⟩ (.int .u64 J.c)).setCell ⟨W.heap.size, t * 4 + 3, none⟩ (.int .u64 J.d) = w5 at *
          go_wp2_with (fail)
          go_roundw
          case rel => exact ⟨j + 1, by go_num, by omega, by rw [HTJ.out, HJE.out]; exact HS5, HB5⟩
          case measure => simp [intOf]; omega
        · have HS3 := (show Hid (SRow wr W.heap.size (stepR E n (l.take (i + 1)))) from by
            have := HS2.out
            rw [List.take_of_length_le (l := E s) (by omega)] at this
            show SRow _ _ _
            rw [HTK.out]; exact this)
          clear HS2 HTK
          go_wp2_with (fail)
          go_roundw
          case rel => exact ⟨i + 1, by go_num, by omega, HS3, HB2⟩
          case measure => simp [intOf]; omega
    · have HS3 := (show Hid (SRow wr W.heap.size (stepR E n l)) from by
        have := HS.out
        rw [List.take_of_length_le (l := l) (by omega)] at this
        exact this)
      have c5 := (HCC.out wr HB.out).2
      have hsp := h78 X wr b W.heap.size fb fcap (stepR E n l) HS3.out HRS.out.len HRS.out.fits (HFR.out wr HB.out) c5 HXL.out.1 (fun h => Nat.lt_irrefl _ (HXL.out.2 _ h)) (fun k hk => Nat.lt_of_lt_of_le (HXL.out.2 k hk) HB.out.size)
      clear HS
      go_wp2_with (go_at_call 79; refine hsp.mono ?_; rintro e w6 ⟨⟨v, rfl⟩, R, hr6, hl6, hf6, hm6, hg6⟩)
      go_ret
      refine ⟨R, rfl, hr6, hl6, hf6, fun c hc => ?_, HB.out.grown hg6 HB.out.size (fun k hk => by cases hk; exact Nat.le_refl _)⟩
      refine (sig_set HR1.out hc HRS.out hl6 hm6).congr fun i _ => ?_
      rw [← HLL.out]
      exact to_of
end Go.Proofs.Ytkdkibnjfgcppaa.bd

namespace Go.Proofs.Ytkdkibnjfgcppaa.bd
open Go.Sort Go.ChangeShapes Go.WideShapes Go.ChangeAt Go.RowKit Go.Maps
open df (Kp Row iv In IntsV Owns)
open nf (Nfa Ed Rt IRow)
open st (Q4 none4 Fits has nth jn sig)
set_option linter.unusedVariables false
set_option maxRecDepth 10000

/-- a set's number, among those that are numbered then -/
def Nr (n : Nat) (L L' : List (List Bool)) (σ : List Bool) (r : Int) : Prop := (r = -1 ∧ σ = off n ∧ L' = L) ∨ ∃ k : Nat, r = (k : Int) ∧ L'[k]? = some σ ∧ (L' = L ∨ (L' = L ++ [σ] ∧ σ ≠ off n ∧ σ ∉ L))
def NumIs (X Y : Nat → Prop) (W : World) (B b mb : Nat) (h : Hd) (n e : Nat) (L : List (List Bool)) (nn : List Value) (σ : List Bool) : Prop := Calls Try.prog 58 #[.pointer (some ⟨b, 0, none⟩), .string (txtB σ)] W fun ev W' => ∃ r L' X' Y' vs vn va ss m D, ev = .returned (.int .i64 r) ∧ Nr n L L' σ r ∧ (∀ k, X k → X' k) ∧ (∀ k, X' k → X k ∨ W.heap.size ≤ k) ∧ (∀ k, Y k → Y' k) ∧ (∀ k, Y' k → Y k ∨ W.heap.size ≤ k) ∧ Bst X' Y' W' B b mb h n e L' nn vs vn va ss m D ∧ Mv X B W W'
theorem number_any {X Y : Nat → Prop} {W : World} {B b mb : Nat} {h : Hd} {n e : Nat} {L : List (List Bool)} {nn : List Value} {vs vn va : Value} {ss : List Value} {m : Nat} {D : DataW Unit} (k : Bst X Y W B b mb h n e L nn vs vn va ss m D) (σ : List Bool) (hs : σ.length = n) (hL : L.length ≤ 500000) : NumIs X Y W B b mb h n e L nn σ := by
  by_cases h1 : σ = off n
  · refine (number_old k σ hs (-1) (.inl ⟨h1, rfl⟩)).mono ?_
    rintro ev W' ⟨rfl, rfl⟩
    exact ⟨-1, L, X, Y, vs, vn, va, ss, m, D, rfl, .inl ⟨rfl, h1, rfl⟩, fun _ h => h, fun _ h => .inl h, fun _ h => h, fun _ h => .inl h, k, Mv.refl _ _ _⟩
  · by_cases h2 : σ ∈ L
    · obtain ⟨i, hi⟩ := List.getElem?_of_mem h2
      refine (number_old k σ hs (i : Int) (.inr ⟨i, hi, rfl⟩)).mono ?_
      rintro ev W' ⟨rfl, rfl⟩
      exact ⟨i, L, X, Y, vs, vn, va, ss, m, D, rfl, .inr ⟨i, rfl, hi, .inl rfl⟩, fun _ h => h, fun _ h => .inl h, fun _ h => h, fun _ h => .inl h, k, Mv.refl _ _ _⟩
    · refine (number_new k σ hs h1 h2 hL).mono ?_
      rintro ev W' ⟨rfl, X', Y', vs', vn', va', ss', m', D', a1, a2, a3, a4, k', m1⟩
      exact ⟨L.length, L ++ [σ], X', Y', vs', vn', va', ss', m', D', rfl, .inr ⟨L.length, rfl, by simp, .inr ⟨rfl, h1, h2⟩⟩, a1, a2, a3, a4, k', m1⟩
theorem Nr.pre {n : Nat} {L L' : List (List Bool)} {σ : List Bool} {r : Int} (h : Nr n L L' σ r) : L <+: L' := by
  rcases h with ⟨_, _, rfl⟩ | ⟨k, _, _, rfl | ⟨rfl, _⟩⟩
  · exact List.prefix_refl _
  · exact List.prefix_refl _
  · exact List.prefix_append _ _
theorem Nr.len {n : Nat} {L L' : List (List Bool)} {σ : List Bool} {r : Int} (h : Nr n L L' σ r) : L'.length ≤ L.length + 1 := by
  rcases h with ⟨_, _, rfl⟩ | ⟨k, _, _, rfl | ⟨rfl, _⟩⟩
  · omega
  · omega
  · simp
/-- what stays so of the numbered sets -/
theorem Nr.nums {x : Nfa} {n : Nat} {L L' : List (List Bool)} {σ ρ : List Bool} {r : Int} (h : Nr n L L' σ r) (k : Nums x n L) (hs : σ.length = n) {j c : Nat} (hj : L[j]? = some ρ) (hc : c < 256) (hρ : IsSet n (To x c ρ) σ) : Nums x n L' := by
  rcases h with ⟨_, _, rfl⟩ | ⟨i, _, _, rfl | ⟨rfl, h1, h2⟩⟩
  · exact k
  · exact k
  · refine ⟨fun τ hτ => ?_, ?_, fun τ hτ => ?_, ?_, fun i τ hi => ?_⟩
    · rcases List.mem_append.1 hτ with h | h
      · exact k.len τ h
      · rw [List.mem_singleton.1 h]; exact hs
    · rw [List.nodup_append]
      refine ⟨k.nd, by simp, fun a ha b hb e => h2 ?_⟩
      rw [← List.mem_singleton.1 hb, ← e]; exact ha
    · rcases List.mem_append.1 hτ with h | h
      · exact k.ne τ h
      · rw [List.mem_singleton.1 h]; exact h1
    · obtain ⟨τ, a, b⟩ := k.first
      exact ⟨τ, get_pre (List.prefix_append _ _) a, b⟩
    · by_cases hl : i + 1 < L.length
      · rw [List.getElem?_append_left hl] at hi
        obtain ⟨j', c', ρ', a1, a2, a3, a4⟩ := k.par i τ hi
        exact ⟨j', c', ρ', a1, a2, get_pre (List.prefix_append _ _) a3, a4⟩
      · have hlt := (List.getElem?_eq_some_iff.1 hi).1
        simp at hlt
        have e : i + 1 = L.length := by omega
        rw [e, List.getElem?_append_right (Nat.le_refl _)] at hi
        simp at hi
        subst hi
        have := (List.getElem?_eq_some_iff.1 hj).1
        exact ⟨j, c, ρ, by omega, hc, get_pre (List.prefix_append _ _) hj, hρ⟩
/-- what stays of the builder's rows -/
structure Net (X : Nat → Prop) (W : World) (h : Hd) (n : Nat) (E : Nat → List Ed) (F : Nat → List Int) (ls : List Nat) (ob oc fb fc : Nat) (lo : Option Addr) (lc : Nat) : Prop where
  vo : h.vo = .slice (some ⟨ob, 0, none⟩) n oc
  ovr : Ovr X W ob oc n E
  vf : h.vf = .slice (some ⟨fb, 0, none⟩) n fc
  fre : Fre X W fb fc n F
  vl : h.vl = .slice lo ls.length lc
  lst : Row X W (fun y : Nat => Value.int .u8 (y : Int)) lo lc ls
theorem Net.carry {X Y : Nat → Prop} {W W' : World} {h : Hd} {n : Nat} {E : Nat → List Ed} {F : Nat → List Int} {ls : List Nat} {ob oc fb fc : Nat} {lo : Option Addr} {lc : Nat} (k : Net X W h n E F ls ob oc fb fc lo lc) (hk : ∀ b, X b → W'.heap[b]? = W.heap[b]?) (hq : ∀ b, X b → Y b) : Net Y W' h n E F ls ob oc fb fc lo lc :=
  ⟨k.vo, k.ovr.carry hk hq, k.vf, k.fre.carry hk hq, k.vl, k.lst.carry hk hq⟩
theorem text_sig (l : List Q4) (hf : ∀ q ∈ l, Fits q) (hlen : l.length ≤ 1000000) (hpos : 1 ≤ l.length) (c : Nat) (hc : c < 256) : TextIs l c (txtB (sig l c)) := text_any l hf hlen hpos c hc _ (by rw [key_txt])
/-- a row that is being filled -/
structure Fil (x : Nfa) (n : Nat) (ls : List Nat) (L : List (List Bool)) (σ : List Bool) (i : Nat) (r : List Int) : Prop where
  len : r.length = ls.length
  at' : ∀ (c : Nat) y, c < i → ls[c]? = some y → ∃ τ, IsSet n (To x y σ) τ ∧ (r[c]? = some (-1) ∧ τ = off n ∨ ∃ k : Nat, r[c]? = some (k : Int) ∧ L[k]? = some τ)
theorem Fil.put {x : Nfa} {n : Nat} {ls : List Nat} {L L' : List (List Bool)} {σ τ : List Bool} {i y : Nat} {r : List Int} {v : Int} (h : Fil x n ls L σ i r) (hy : ls[i]? = some y) (ht : IsSet n (To x y σ) τ) (hn : Nr n L L' τ v) : Fil x n ls L' σ (i + 1) (r.set i v) := by
  have hi := (List.getElem?_eq_some_iff.1 hy).1
  have hil : i < r.length := by rw [h.len]; exact hi
  refine ⟨by rw [List.length_set]; exact h.len, fun c z hc hz => ?_⟩
  by_cases e : c = i
  · subst e
    rw [hy] at hz
    cases hz
    refine ⟨τ, ht, ?_⟩
    rw [List.getElem?_set_self hil]
    rcases hn with ⟨rfl, a, _⟩ | ⟨k, rfl, a, _⟩
    · exact .inl ⟨rfl, a⟩
    · exact .inr ⟨k, rfl, a⟩
  · obtain ⟨ρ, h1, h2⟩ := h.at' c z (by omega) hz
    refine ⟨ρ, h1, ?_⟩
    rw [List.getElem?_set_ne (fun e2 => e e2.symm)]
    rcases h2 with a | ⟨k, a, b⟩
    · exact .inl a
    · exact .inr ⟨k, a, get_pre hn.pre b⟩
theorem Fil.done {x : Nfa} {n : Nat} {ls : List Nat} {L : List (List Bool)} {σ : List Bool} {r : List Int} (h : Fil x n ls L σ ls.length r) : RowOf x n ls L σ r := ⟨h.len, fun c y hc => h.at' c y (List.getElem?_eq_some_iff.1 hc).1 hc⟩
/-- a cell of a block of the rest is set -/
theorem Bst.set {X Y : Nat → Prop} {W : World} {B b mb : Nat} {h : Hd} {n e : Nat} {L : List (List Bool)} {nn : List Value} {vs vn va : Value} {ss : List Value} {m : Nat} {D : DataW Unit} (k : Bst X Y W B b mb h n e L nn vs vn va ss m D) {g : Nat} (hX : X g) (hY : ¬ Y g) (i : Nat) (v : Value) : Bst X Y (W.setCell ⟨g, i, none⟩ v) B b mb h n e L nn vs vn va ss m D := by
  have hh : ∀ j, j ≠ g → (W.setCell ⟨g, i, none⟩ v).heap[j]? = W.heap[j]? := fun j hj => Below.heap_setCell _ _ _ j hj
  obtain ⟨a1, a2, a3, a4, a5, a6⟩ := k.bu.ap g hX
  exact ⟨k.bu.keep (by simp) (hh b (Ne.symm a2)) (hh mb (Ne.symm a3)) (fun j e => hh j (fun e2 => a4 (by rw [← e2]; exact e.symm))) (fun j e => hh j (fun e2 => a5 (by rw [← e2]; exact e.symm))) (fun j e => hh j (fun e2 => a6 (by rw [← e2]; exact e.symm))), k.rs.carry (fun j hj => hh j (fun e => hY (e ▸ hj))) (fun _ h => h), k.yx, k.mp, k.m1, k.hn, k.he, k.en, k.n2, k.ln⟩
theorem Bst.more {X Y Z : Nat → Prop} {W W' : World} {B b mb : Nat} {h : Hd} {n e : Nat} {L : List (List Bool)} {nn : List Value} {vs vn va : Value} {ss : List Value} {m : Nat} {D : DataW Unit} (k : Bst X Y W B b mb h n e L nn vs vn va ss m D) (c : Below W.heap.size W W') (hx : ∀ g, X g → Z g) (hz : ∀ g, Z g → X g ∨ (W.heap.size ≤ g ∧ g < W'.heap.size)) : Bst Z Y W' B b mb h n e L nn vs vn va ss m D :=
  ⟨k.bu.more c hz, k.rs.carry (fun j hj => c.block j (k.bu.ap j (k.yx j hj)).1) (fun _ h => h), fun j hj => hx j (k.yx j hj), k.mp, k.m1, k.hn, k.he, k.en, k.n2, k.ln⟩
end Go.Proofs.Ytkdkibnjfgcppaa.bd

namespace Go.Proofs.Ytkdkibnjfgcppaa.bd
open Go.Sort Go.ChangeShapes Go.WideShapes Go.ChangeAt Go.RowKit Go.Maps
open df (Kp Row iv In IntsV Owns)
open nf (Nfa Ed Rt IRow icells)
open st (Q4 none4 Fits has nth jn sig)
set_option linter.unusedVariables false
set_option maxRecDepth 10000

structure Mid (X Y Z : Nat → Prop) (x : Nfa) (n e : Nat) (E : Nat → List Ed) (F : Nat → List Int) (ls : List Nat) (ob oc fb fc : Nat) (lo : Option Addr) (lc : Nat) (W : World) (B b mb : Nat) (h : Hd) (nn : List Value) (L : List (List Bool)) (σ : List Bool) (R : List Q4) (g0 g1 N : Nat) (i : Nat) (wr : World) (X1 Y1 : Nat → Prop) (L1 : List (List Bool)) (r : List Int) (vs vn va : Value) (ss : List Value) (m : Nat) (D : DataW Unit) : Prop where
  st : Bst X1 Y1 wr B b mb h n e L1 nn vs vn va ss m D
  zx : ∀ g, Z g → X1 g
  yy : ∀ g, Y g → Y1 g
  y1 : ∀ g, Y1 g → Y g ∨ N ≤ g
  ir : IRow wr g1 r
  fl : Fil x n ls L1 σ i r
  sr : SRow wr g0 R
  pr : L <+: L1
  ln : L1.length ≤ L.length + i
  nm : Nums x n L1
  mv : Mv X B W wr
  nt : Net Y wr h n E F ls ob oc fb fc lo lc
def RowIs (X Y : Nat → Prop) (W : World) (x : Nfa) (n e : Nat) (ls : List Nat) (B b mb : Nat) (h : Hd) (nn : List Value) (L : List (List Bool)) (σ : List Bool) (v : Value) : Prop := Calls Try.prog 36 #[.pointer (some ⟨b, 0, none⟩), v] W fun ev W' => ∃ g r L' X' Y' vs vn va ss m D, ev = .returned (.slice (some ⟨g, 0, none⟩) ls.length ls.length) ∧ W.heap.size ≤ g ∧ IRow W' g r ∧ RowOf x n ls L' σ r ∧ L <+: L' ∧ L'.length ≤ L.length + ls.length ∧ Nums x n L' ∧ (∀ k, X k → X' k) ∧ (∀ k, Y k → Y' k) ∧ X' g ∧ ¬ Y' g ∧ Bst X' Y' W' B b mb h n e L' nn vs vn va ss m D ∧ Mv X B W W'
set_option maxHeartbeats 4000000 in
set_option maxRecDepth 100000 in
theorem row_any {X Y : Nat → Prop} {W : World} {x : Nfa} {n e : Nat} (R1 : Rt x n) (hfit : ∀ e ∈ x.edges, nf.Fits e) {E : Nat → List Ed} (hE : Edg x n E) {F : Nat → List Int} (hF : Tgt x n F) {ls : List Nat} (hl2 : ls.length ≤ 256) (hlb : ∀ y ∈ ls, y < 256) {ob oc fb fc : Nat} {lo : Option Addr} {lc B b mb : Nat} {h : Hd} {nn : List Value} {L : List (List Bool)} {vs vn va : Value} {ss : List Value} {m : Nat} {D : DataW Unit} (k : Bst X Y W B b mb h n e L nn vs vn va ss m D) (hN : Net Y W h n E F ls ob oc fb fc lo lc) (hM : Nums x n L) (hLl : L.length ≤ 400) {σ : List Bool} {j : Nat} (hj : L[j]? = some σ) {v : Value} (hv : RowV Y W v (onTo σ σ.length)) : RowIs X Y W x n e ls B b mb h nn L σ v := by
  have hσ : σ.length = n := k.ln σ (List.mem_of_getElem? hj)
  have hYl : ∀ g, Y g → g < W.heap.size := fun g hg => (k.bu.ap g (k.yx g hg)).1
  have hn1 := R1.n1
  have hn2 := R1.n2
  have h58 := step_any x n R1 hfit E hE F hF σ hσ (fun g => g < W.heap.size) W b ob oc fb fc v (hN.ovr.carry (fun _ _ => rfl) hYl) (hN.fre.carry (fun _ _ => rfl) hYl) (by rw [k.bu.box.c0, k.hn]) (by rw [k.bu.box.c4, hN.vo]) (by rw [k.bu.box.c5, hN.vf]) k.bu.box.lt (fun _ h => h) (hv.carry (fun _ _ => rfl) hYl)
  obtain ⟨vo, vc, rfl, _⟩ := hv
  have mk := nf.make39 ls.length (by omega)
  have lfit := hN.lst.fit
  have ltop := hN.lst.top
  have HK := (show Hid (Bst X Y W B b mb h n e L nn vs vn va ss m D) from k)
  have HN := (show Hid (Net Y W h n E F ls ob oc fb fc lo lc) from hN)
  have HM := (show Hid (Nums x n L) from hM)
  have HJ := (show Hid (L[j]? = some σ) from hj)
  have HLB := (show Hid (∀ y ∈ ls, y < 256) from hlb)
  have HB6 := (show Hid (∀ (X1 Y1 : Nat → Prop) (wr : World) (L1 : List (List Bool)) (vs vn va : Value) (ss : List Value) (m : Nat) (D : DataW Unit), Bst X1 Y1 wr B b mb h n e L1 nn vs vn va ss m D → wr.cell? ⟨b, 6, none⟩ = some (.slice lo ls.length lc)) from fun X1 Y1 wr L1 vs vn va ss m D k1 => by rw [k1.bu.box.c6, hN.vl])
  have HYL := (show Hid (∀ g, Y g → g < W.heap.size) from hYl)
  clear k hN hM hj hlb hYl hfit hE hF R1 hσ
  go_enter Try.func36, Try.ntmps36
  go_wp2_with (go_at_call 59; refine h58.mono ?_; rintro ev w1 ⟨R, rfl, hh1⟩; have HH1 := (show Hid _ from hh1); have c6 := HB6.out _ _ _ _ _ _ _ _ _ _ (HK.out.more (Z := X) hh1.2.2.2.2 (fun _ h => h) (fun _ h => .inl h)); have c62 := ((nf.below_alloc w1 (.cells (icells (List.replicate ls.length 0)) 3)).cell (p := ⟨b, 6, none⟩) (HK.out.more (Z := X) hh1.2.2.2.2 (fun _ h => h) (fun _ h => .inl h)).bu.box.lt).trans c6; clear hh1)
  obtain ⟨sr1, rl, rf, rs, b1⟩ := HH1.out
  have b2 := st.chain b1 (nf.below_alloc w1 (.cells (icells (List.replicate ls.length 0)) 3))
  have HK2 := (show Hid (Bst (fun g => X g ∨ g = W.heap.size ∨ g = w1.heap.size) Y (w1.alloc (.cells (icells (List.replicate ls.length 0)) 3)) B b mb h n e L nn vs vn va ss m D) from HK.out.more b2 (fun _ h => .inl h) (fun g hg => by
    have s1 := b1.size
    have s2 := sr1.lt
    rcases hg with h1 | h1 | h1
    · exact .inl h1
    · exact .inr ⟨by omega, by simp; omega⟩
    · exact .inr ⟨by omega, by simp; omega⟩))
  have HST := (show Hid (Mid X Y (fun g => X g ∨ g = W.heap.size ∨ g = w1.heap.size) x n e E F ls ob oc fb fc lo lc W B b mb h nn L σ R W.heap.size w1.heap.size (w1.heap.size + 1) 0 (w1.alloc (.cells (icells (List.replicate ls.length 0)) 3)) (fun g => X g ∨ g = W.heap.size ∨ g = w1.heap.size) Y L (List.replicate ls.length 0) vs vn va ss m D) from ⟨HK2.out, fun _ h => h, fun _ h => h, fun _ h => .inl h, nf.irow_new w1 _, ⟨by simp, fun c y hc => absurd hc (by omega)⟩, sr1.later (nf.below_alloc _ _), List.prefix_refl _, by omega, HM.out, (Mv.refl X B W).later b2 (fun g hg => (HK.out.bu.ap g hg).1) HK.out.bu.size, HN.out.carry (fun g hg => b2.block g (HYL.out g hg)) (fun _ h => h)⟩)
  have hlt01 := sr1.lt
  have HRL := (show Hid (R.length = n) from rl)
  have HRF := (show Hid (∀ q ∈ R, Fits q) from rf)
  have HRS := (show Hid (∀ c, c < 256 → IsSet n (To x c σ) (sig R c)) from rs)
  have hb1s := b1.size
  clear sr1 rl rf rs b1 b2 c6 HK2 HH1
  obtain ⟨w2, HW2⟩ : ∃ w2, Hid (w2 = w1.alloc (.cells (icells (List.replicate ls.length 0)) 3)) := ⟨_, rfl⟩
  rw [← HW2.out] at HST c62 ⊢
  go_loopw [23] (fun z wr => ∃ (i : Nat) (X1 Y1 : Nat → Prop) (L1 : List (List Bool)) (r : List Int) (vs vn va : Value) (ss : List Value) (m : Nat) (D : DataW Unit), z = .int .i64 i ∧ i ≤ ls.length ∧ Hid (Mid X Y (fun g => X g ∨ g = W.heap.size ∨ g = w1.heap.size) x n e E F ls ob oc fb fc lo lc W B b mb h nn L σ R W.heap.size w1.heap.size (w1.heap.size + 1) i wr X1 Y1 L1 r vs vn va ss m D)) (fun z _ => ls.length - (intOf z).toNat)
  case atStart => exact ⟨0, _, Y, L, _, vs, vn, va, ss, m, D, rfl, by omega, HST⟩
  case round =>
    obtain ⟨i, X1, Y1, L1, r, vs1, vn1, va1, ss1, m1, D1, rfl, hi, HI⟩ := hrel
    clear HST c62 HW2
    by_cases hend : i < ls.length
    · obtain ⟨lb, loff, rfl, _, lcell⟩ := HI.out.nt.lst.lie i hend
      have HLY := (show Hid (ls[i]? = some ls[i]) from List.getElem?_eq_getElem hend)
      have hy := HLB.out ls[i] (List.getElem_mem hend)
      have HSET := (show Hid _ from HRS.out ls[i] hy)
      have h53 := text_sig R HRF.out (by rw [HRL.out]; omega) (by rw [HRL.out]; omega) ls[i] hy b (.slice (some ⟨W.heap.size, 0, none⟩) n n) wr HI.out.st.bu.box.lt (by rw [HI.out.st.bu.box.c0, HI.out.st.hn, HRL.out]) (by have := HI.out.sr.sets (by rw [HRL.out]; omega); rw [HRL.out] at this; exact this)
      have hrl := HI.out.fl.len
      have hL1 : L1.length ≤ 1000 := by have := HI.out.ln; omega
      have HSL := (show Hid ((sig R ls[i]).length = n) from by rw [st.sig_length]; exact HRL.out)
      generalize ls[i] = y at *
      have HSTEP := (show Hid (∀ (w3 w4 : World) (rr : Int) (L' : List (List Bool)) (X' Y' : Nat → Prop) (vs' vn' va' : Value) (ss' : List Value) (m' : Nat) (D' : DataW Unit), Below wr.heap.size wr w3 → Nr n L1 L' (sig R y) rr → (∀ k, X1 k → X' k) → (∀ k, X' k → X1 k ∨ w3.heap.size ≤ k) → (∀ k, Y1 k → Y' k) → (∀ k, Y' k → Y1 k ∨ w3.heap.size ≤ k) → Bst X' Y' w4 B b mb h n e L' nn vs' vn' va' ss' m' D' → Mv X1 B w3 w4 → IRow w4 w1.heap.size r ∧ Mid X Y (fun g => X g ∨ g = W.heap.size ∨ g = w1.heap.size) x n e E F ls ob oc fb fc (some ⟨lb, loff, none⟩) lc W B b mb h nn L σ R W.heap.size w1.heap.size (w1.heap.size + 1) (i + 1) (w4.setCell ⟨w1.heap.size, i, none⟩ (.int .i64 rr)) X' Y' L' (r.set i rr) vs' vn' va' ss' m' D') from by
        intro w3 w4 rr L' X' Y' vs' vn' va' ss' m' D' b3 hnr a1 a2 a3 a4 k' m4
        have M := HI.out
        have hg1 : X1 w1.heap.size := M.zx _ (.inr (.inr rfl))
        have hg0 : X1 W.heap.size := M.zx _ (.inr (.inl rfl))
        have s1 := M.ir.lt
        have s0 := M.sr.lt
        have sb := b3.size
        have hny : ¬ Y w1.heap.size := fun hh => by have := HYL.out _ hh; omega
        have hn1y : ¬ Y1 w1.heap.size := fun hh => (M.y1 _ hh).elim hny (fun h => by omega)
        have hnY : ¬ Y' w1.heap.size := fun hh => (a4 _ hh).elim hn1y (fun h => by omega)
        have hnum := k'.bu.size
        have hir : IRow w4 w1.heap.size r := (M.ir.later b3).keep (m4.kp.2 _ hg1)
        have hsr : SRow w4 W.heap.size R := (M.sr.later b3).keep (m4.kp.2 _ hg0)
        have hX1 : ∀ g, X g → X1 g := fun g hg => M.zx g (.inl hg)
        have hYX : ∀ g, Y g → X g := HK.out.yx
        have hnw : w1.heap.size + 1 ≤ wr.heap.size := s1
        refine ⟨hir, k'.set (a1 _ hg1) hnY i _, fun g hg => a1 g (M.zx g hg), fun g hg => a3 g (M.yy g hg), fun g hg => ?_, hir.put i rr, M.fl.put HLY.out HSET.out hnr, ?_, M.pr.trans hnr.pre, ?_, ?_, ?_, ?_⟩
        · rcases a4 g hg with h1 | h1
          · exact M.y1 g h1
          · exact .inr (by omega)
        · exact (Below.heap_setCell _ _ _ _ (show W.heap.size ≠ w1.heap.size by omega)).trans hsr
        · have := hnr.len; have := M.ln; omega
        · exact hnr.nums M.nm HSL.out (get_pre M.pr HJ.out) hy HSET.out
        · exact ((M.mv.later b3 (fun g hg => (M.st.bu.ap g (hX1 g hg)).1) M.st.bu.size).trans (m4.less hX1)).set (g := w1.heap.size) (fun g hg e => by have := (HK.out.bu.ap g hg).1; omega) (by have := HK.out.bu.size; omega) i _
        · refine ((M.nt.carry (fun g hg => b3.block g (M.st.bu.ap g (hX1 g (hYX g hg))).1) (fun _ h => h)).carry (fun g hg => m4.kp.2 g (hX1 g (hYX g hg))) (fun _ h => h)).carry (fun g hg => Below.heap_setCell _ _ _ _ (fun e : g = w1.heap.size => hny (e ▸ hg))) (fun _ h => h))
      have HNUM := (show Hid (∀ w3 : World, Below wr.heap.size wr w3 → NumIs X1 Y1 w3 B b mb h n e L1 nn (sig R y)) from fun w3 b3 => number_any (HI.out.st.more (Z := X1) b3 (fun _ h => h) (fun _ h => .inl h)) (sig R y) HSL.out (by omega))
      generalize sig R y = τ at *
      clear HLY HSET HSL HRS HRF HLB
      go_wp2_with (first | (go_at_call 53; refine h53.mono ?_; rintro ev w3 ⟨rfl, b3⟩; have hnum := HNUM.out w3 b3; unfold NumIs at hnum) | (go_at_call 58; refine hnum.mono ?_; rintro ev w4 ⟨rr, L', X', Y', vs', vn', va', ss', m', D', rfl, hnr, a1, a2, a3, a4, k', m4⟩; obtain ⟨i4, M4⟩ := HSTEP.out w3 w4 rr L' X' Y' vs' vn' va' ss' m' D' b3 hnr a1 a2 a3 a4 k' m4; have q1 := i4.cell i (by omega); have q2 := i4.fz i; have HM4 := (show Hid _ from M4); clear M4 hnr a1 a2 a3 a4 k' m4 i4))
      go_roundw
      case rel => exact ⟨i + 1, X', Y', L', r.set i rr, vs', vn', va', ss', m', D', by go_num, by omega, HM4⟩
      case measure => simp [intOf]; omega
    · have he : i = ls.length := by omega
      subst he
      have HRES := (show Hid (W.heap.size ≤ w1.heap.size ∧ IRow wr w1.heap.size r ∧ RowOf x n ls L1 σ r ∧ L <+: L1 ∧ L1.length ≤ L.length + ls.length ∧ Nums x n L1 ∧ (∀ k, X k → X1 k) ∧ (∀ k, Y k → Y1 k) ∧ X1 w1.heap.size ∧ ¬ Y1 w1.heap.size ∧ Bst X1 Y1 wr B b mb h n e L1 nn vs1 vn1 va1 ss1 m1 D1 ∧ Mv X B W wr) from by
        have M := HI.out
        refine ⟨hb1s, M.ir, M.fl.done, M.pr, M.ln, M.nm, fun g hg => M.zx g (.inl hg), M.yy, M.zx _ (.inr (.inr rfl)), fun hh => ?_, M.st, M.mv⟩
        rcases M.y1 _ hh with h1 | h1
        · have := HYL.out _ h1; omega
        · omega)
      clear HI HRS HRF HLB
      go_wp2_with (fail)
      go_ret
      exact ⟨w1.heap.size, r, L1, X1, Y1, vs1, vn1, va1, ss1, m1, D1, rfl, HRES.out⟩
end Go.Proofs.Ytkdkibnjfgcppaa.bd

namespace Go.Proofs.Ytkdkibnjfgcppaa.bd
open Go.Sort Go.ChangeShapes Go.WideShapes Go.ChangeAt Go.RowKit Go.Maps
open df (Kp Row iv In IntsV Owns)
open nf (Nfa Ed Rt IRow icells Eds nfaV)
open st (Q4 none4 Fits has nth jn sig Blk)
set_option linter.unusedVariables false
set_option maxRecDepth 10000

theorem f24_1 (b : Nat) (w : World) : (Instr.fieldAt 52 (.pointer (some ⟨b, 0, none⟩)) 1).run Try.prog w = .ok (.pointer (some ⟨b, 1, none⟩)) w := by go_simp
section
variable {o : Oper} {a : Act} {w : World}
theorem x_load24 {x : Operand} {b : Nat} {n s e : Int} {eo : Option Addr} {em ec : Nat} (h : o.op = .load 52 x) (hx : a.eval x = .pointer (some ⟨b, 0, none⟩)) (h0 : w.cell? ⟨b, 0, none⟩ = some (.int .i64 n)) (h1 : w.cell? ⟨b, 1, none⟩ = some (.int .i64 s)) (h2 : w.cell? ⟨b, 2, none⟩ = some (.int .i64 e)) (h3 : w.cell? ⟨b, 3, none⟩ = some (.slice eo em ec)) :
    (execOp a.eval o).run Try.prog w = .ok (.value (nfaV n s e eo em ec)) w := by
  have hr : w.rangeAt b 0 [.int .i64 n, .int .i64 s, .int .i64 e, .slice eo em ec] := by
    intro j v hv
    match j, hv with
    | 0, hv => simp at hv; subst hv; exact h0
    | 1, hv => simp at hv; subst hv; exact h1
    | 2, hv => simp at hv; subst hv; exact h2
    | 3, hv => simp at hv; subst hv; exact h3
    | j + 4, hv => simp at hv
  unfold execOp; rw [h]
  simp only [hx, Sem.run_bind, run_loadAt_mid (P := Try.prog) w b 0 52 _ _ hr Try.underlying52 rfl (by kernel_rfl), Result.andThen_ok, Sem.run_pure]
theorem x_build25 {x : Operand} {r : Int} (h : o.op = .buildSlice 39 1 #[(0, x)]) (hx : a.eval x = .int .i64 r) : (execOp a.eval o).run Try.prog w = .ok (.value (.slice (some ⟨w.heap.size, 0, none⟩) 1 1)) (w.alloc (.cells #[.int .i64 r] 3)) := by
  unfold execOp; rw [h]; simp only [List.map_toArray, List.map, hx]; go_simp
theorem x_call12 {x y : Operand} (h : o.op = .call { callee := .value (.func 57), args := #[x, y], argTypes := #[52, 39] }) : (execOp a.eval o).run Try.prog w = .ok (.enter 57 #[a.eval x, a.eval y]) w := by
  unfold execOp; rw [h]; kernel_rfl
theorem x_len25 {x : Operand} {g : Option Addr} {n cap : Nat} (h : o.op = .call { callee := .builtin .len, args := #[x], argTypes := #[39] }) (hx : a.eval x = .slice g n cap) : (execOp a.eval o).run Try.prog w = .ok (.value (.int .i64 (n : Int))) w := by
  unfold execOp
  simp only [h, resolve, invoke, builtin, Sem.run_bind, Sem.run_pure, Result.andThen_ok, List.map_toArray, List.map_cons, List.map_nil, hx]
  go_simp
theorem x_const {v : Value} (h : o.op = .move (.const v)) : (execOp a.eval o).run Try.prog w = .ok (.value v) w := by
  unfold execOp; rw [h]; rfl
end
def ops42_1 : Array Oper := #[
  { dst := some 9, op := Op.move (Operand.tmp 0), type := 72, pos := "build.go:68", after := #[], guard := none },
  { dst := some 10, op := Op.nilCheck (Operand.tmp 9), type := 0, pos := "build.go:68", after := #[{ on := 0, ground := Ground.data }], guard := none },
  { dst := some 11, op := Op.fieldAddr 77 (Operand.tmp 10) 0, type := 0, pos := "build.go:68", after := #[{ on := 1, ground := Ground.data }], guard := none },
  { dst := some 12, op := Op.load 52 (Operand.tmp 11), type := 52, pos := "build.go:68", after := #[{ on := 2, ground := Ground.data }], guard := none },
  { dst := some 13, op := Op.move (Operand.tmp 0), type := 72, pos := "build.go:68", after := #[], guard := none },
  { dst := some 14, op := Op.nilCheck (Operand.tmp 13), type := 0, pos := "build.go:68", after := #[{ on := 4, ground := Ground.data }], guard := none },
  { dst := some 15, op := Op.fieldAddr 77 (Operand.tmp 14) 0, type := 0, pos := "build.go:68", after := #[{ on := 5, ground := Ground.data }], guard := none },
  { dst := some 16, op := Op.fieldAddr 52 (Operand.tmp 15) 1, type := 0, pos := "build.go:68", after := #[{ on := 6, ground := Ground.data }], guard := none },
  { dst := some 17, op := Op.load 3 (Operand.tmp 16), type := 3, pos := "build.go:68", after := #[{ on := 7, ground := Ground.data }], guard := none },
  { dst := some 18, op := Op.buildSlice 39 1 #[(0, Operand.tmp 17)], type := 39, pos := "build.go:68", after := #[{ on := 8, ground := Ground.data }], guard := none },
  { dst := some 19, op := Op.call { callee := Callee.value (Operand.func 57), args := #[Operand.tmp 12, Operand.tmp 18], argTypes := #[52, 39] }, type := 39, pos := "build.go:68", after := #[{ on := 3, ground := Ground.data }, { on := 9, ground := Ground.data }], guard := none },
  { dst := some 20, op := Op.call { callee := Callee.builtin Builtin.len, args := #[Operand.tmp 19], argTypes := #[39] }, type := 3, pos := "build.go:68", after := #[{ on := 10, ground := Ground.data }], guard := none },
  { dst := some 21, op := Op.move (Operand.const (Value.int IntKind.i64 0)), type := 3, pos := "build.go:68", after := #[], guard := none }]
structure C42 where
  b : Nat
  x : Nfa
  eo : Option Addr
  ec : Nat
  L : List Int
def C42.fix (c : C42) (i : Nat) : Option Value := [some (.pointer (some ⟨c.b, 0, none⟩)), some (.pointer (some ⟨c.b, 0, none⟩)), some (.pointer (some ⟨c.b, 0, none⟩)), some (nfaV c.x.n c.x.s c.x.e c.eo c.x.edges.length c.ec), some (.pointer (some ⟨c.b, 0, none⟩)), some (.pointer (some ⟨c.b, 0, none⟩)), some (.pointer (some ⟨c.b, 0, none⟩)), some (.pointer (some ⟨c.b, 1, none⟩)), some (.int .i64 c.x.s), none, none, some (.int .i64 (c.L.length : Int)), some (.int .i64 0)].getD i none
structure W42 (W : World) (c : C42) (d : Nat → Prop) (vals : Nat → Value) (w : World) : Prop where
  be : Below W.heap.size W w
  el : d 9 → ¬ d 10 → ∃ g, vals 9 = .slice (some ⟨g, 0, none⟩) 1 1 ∧ Row (In w) w iv (some ⟨g, 0, none⟩) 1 [c.x.s]
  vl : d 10 → IntsV w (vals 10) c.L
theorem W42.plain {W : World} {c : C42} {d : Nat → Prop} {vals : Nat → Value} {w : World} (k : W42 W c d vals w) {i : Nat} (h1 : i ≠ 9) (h2 : i ≠ 10) (v : Value) : W42 W c (fun j => j = i ∨ d j) (dw.upd vals i v) w :=
  ⟨k.be, fun a b => by
    rw [dw.upd_ne _ _ (Ne.symm h1)]
    exact k.el (a.resolve_left (fun e => h1 e.symm)) fun x => b (.inr x), fun a => by
    rw [dw.upd_ne _ _ (Ne.symm h2)]
    exact k.vl (a.resolve_left (fun e => h2 e.symm))⟩
theorem one_row (W : World) (y : Int) : Row (In (W.alloc (.cells #[.int .i64 y] 3))) (W.alloc (.cells #[.int .i64 y] 3)) iv (some ⟨W.heap.size, 0, none⟩) 1 [y] :=
  ⟨Nat.le_refl _, by omega, fun i hi => ⟨W.heap.size, 0, rfl, by simp, by
    have : i = 0 := by simpa using hi
    subst this
    rw [Lib.cell_of_heap (World.alloc_heap_new W _)]; rfl⟩⟩
set_option maxHeartbeats 1000000 in
theorem reg42 {Q : Exit → Act → World → Prop} {a0 : Act} {id : Nat} (hsz : a0.tmps.size = 35) (c : C42) (e0 : a0.eval (.tmp 0) = .pointer (some ⟨c.b, 0, none⟩)) {W : World} (hc : ∀ w, Below W.heap.size W w → w.cell? ⟨c.b, 0, none⟩ = some (.int .i64 c.x.n) ∧ w.cell? ⟨c.b, 1, none⟩ = some (.int .i64 c.x.s) ∧ w.cell? ⟨c.b, 2, none⟩ = some (.int .i64 c.x.e) ∧ w.cell? ⟨c.b, 3, none⟩ = some (.slice c.eo c.x.edges.length c.ec))
    (h12 : ∀ w lo lcap, Below W.heap.size W w → Row (In w) w iv lo lcap [c.x.s] → Calls Try.prog 57 #[nfaV c.x.n c.x.s c.x.e c.eo c.x.edges.length c.ec, .slice lo 1 lcap] w fun ev w' => ∃ v, ev = .returned v ∧ IntsV w' v c.L ∧ Below w.heap.size w w')
    (fin : ∀ vals w, vals 11 = .int .i64 (c.L.length : Int) → vals 12 = .int .i64 0 → IntsV w (vals 10) c.L → Below W.heap.size W w → Q .normal (dw.fold ops42_1.toList 0 vals a0) w) : (Code.region id ops42_1 true).wp Try.prog Q a0 W := by
  refine dw.region (by kernel_rfl) (by rw [hsz]; kernel_rfl) c.fix (W42 W c) (fun vals => ⟨below_drew W, fun x => x.elim, fun x => x.elim⟩) ?_ ?_
  · intro i hi
    match i, hi with
    | 0, _ => intro d vals a w o ho hn hd hdl hcl hf hx hw K Q' E hk; exact dw.s_val (dw.gd_of ho rfl) ((dw.x_move (dw.op_of ho rfl)).trans (by rw [((hf.base 0 fun i hi => (by decide +kernel : ∀ i, i < ops42_1.size → dw.slot ops42_1 i ≠ some 0) i (hdl i hi)).trans e0)])) (hk _ w (fun u hu => by cases hu; rfl) (hw.plain (by decide) (by decide) _))
    | 1, _ => intro d vals a w o ho hn hd hdl hcl hf hx hw K Q' E hk; exact dw.s_val (dw.gd_of ho rfl) (dw.x_nil (dw.op_of ho rfl) ((hf.eval 0 (hd 0 (by kernel_rfl)) (t := 9) rfl).trans (hx 0 (hd 0 (by kernel_rfl)) _ rfl))) (hk _ w (fun u hu => by cases hu; rfl) (hw.plain (by decide) (by decide) _))
    | 2, _ => intro d vals a w o ho hn hd hdl hcl hf hx hw K Q' E hk; exact dw.s_val (dw.gd_of ho rfl) (dw.x_field (dw.op_of ho rfl) ((hf.eval 1 (hd 1 (by kernel_rfl)) (t := 10) rfl).trans (hx 1 (hd 1 (by kernel_rfl)) _ rfl)) (f77_0 _ _)) (hk _ w (fun u hu => by cases hu; rfl) (hw.plain (by decide) (by decide) _))
    | 3, _ => intro d vals a w o ho hn hd hdl hcl hf hx hw K Q' E hk; obtain ⟨q0, q1, q2, q3⟩ := hc w hw.be; exact dw.s_val (dw.gd_of ho rfl) (x_load24 (dw.op_of ho rfl) ((hf.eval 2 (hd 2 (by kernel_rfl)) (t := 11) rfl).trans (hx 2 (hd 2 (by kernel_rfl)) _ rfl)) q0 q1 q2 q3) (hk _ w (fun u hu => by cases hu; rfl) (hw.plain (by decide) (by decide) _))
    | 4, _ => intro d vals a w o ho hn hd hdl hcl hf hx hw K Q' E hk; exact dw.s_val (dw.gd_of ho rfl) ((dw.x_move (dw.op_of ho rfl)).trans (by rw [((hf.base 0 fun i hi => (by decide +kernel : ∀ i, i < ops42_1.size → dw.slot ops42_1 i ≠ some 0) i (hdl i hi)).trans e0)])) (hk _ w (fun u hu => by cases hu; rfl) (hw.plain (by decide) (by decide) _))
    | 5, _ => intro d vals a w o ho hn hd hdl hcl hf hx hw K Q' E hk; exact dw.s_val (dw.gd_of ho rfl) (dw.x_nil (dw.op_of ho rfl) ((hf.eval 4 (hd 4 (by kernel_rfl)) (t := 13) rfl).trans (hx 4 (hd 4 (by kernel_rfl)) _ rfl))) (hk _ w (fun u hu => by cases hu; rfl) (hw.plain (by decide) (by decide) _))
    | 6, _ => intro d vals a w o ho hn hd hdl hcl hf hx hw K Q' E hk; exact dw.s_val (dw.gd_of ho rfl) (dw.x_field (dw.op_of ho rfl) ((hf.eval 5 (hd 5 (by kernel_rfl)) (t := 14) rfl).trans (hx 5 (hd 5 (by kernel_rfl)) _ rfl)) (f77_0 _ _)) (hk _ w (fun u hu => by cases hu; rfl) (hw.plain (by decide) (by decide) _))
    | 7, _ => intro d vals a w o ho hn hd hdl hcl hf hx hw K Q' E hk; exact dw.s_val (dw.gd_of ho rfl) (dw.x_field (dw.op_of ho rfl) ((hf.eval 6 (hd 6 (by kernel_rfl)) (t := 15) rfl).trans (hx 6 (hd 6 (by kernel_rfl)) _ rfl)) (f24_1 _ _)) (hk _ w (fun u hu => by cases hu; rfl) (hw.plain (by decide) (by decide) _))
    | 8, _ => intro d vals a w o ho hn hd hdl hcl hf hx hw K Q' E hk; exact dw.s_val (dw.gd_of ho rfl) (x_load3 (dw.op_of ho rfl) ((hf.eval 7 (hd 7 (by kernel_rfl)) (t := 16) rfl).trans (hx 7 (hd 7 (by kernel_rfl)) _ rfl)) (hc w hw.be).2.1) (hk _ w (fun u hu => by cases hu; rfl) (hw.plain (by decide) (by decide) _))
    | 9, _ =>
        intro d vals a w o ho hn hd hdl hcl hf hx hw K Q' E hk
        have n10 : ¬ d 10 := fun x => hn (hcl 10 9 x (by kernel_rfl))
        exact dw.s_val (dw.gd_of ho rfl) (x_build25 (dw.op_of ho rfl) ((hf.eval 8 (hd 8 (by kernel_rfl)) (t := 17) rfl).trans (hx 8 (hd 8 (by kernel_rfl)) _ rfl))) (hk _ _ (fun u hu => by cases hu) ⟨hw.be.alloc hw.be.size _, fun _ _ => ⟨w.heap.size, by rw [dw.upd_same], one_row w _⟩, fun x => absurd (x.resolve_left (by decide)) n10⟩)
    | 10, _ =>
        intro d vals a w o ho hn hd hdl hcl hf hx hw K Q' E hk
        obtain ⟨g, e, hr⟩ := hw.el (hd 9 (by kernel_rfl)) hn
        have v3 := ((hf.eval 3 (hd 3 (by kernel_rfl)) (t := 12) rfl).trans (hx 3 (hd 3 (by kernel_rfl)) _ rfl))
        have v9 := (hf.eval 9 (hd 9 (by kernel_rfl)) (t := 18) rfl).trans e
        refine dw.s_call (dw.gd_of ho rfl) (x_call12 (dw.op_of ho rfl)) (by rw [v3, v9]; exact h12 w (some ⟨g, 0, none⟩) 1 hw.be hr) ?_
        rintro ev w' ⟨v, rfl, hv, hb⟩
        exact ⟨v, rfl, hk _ w' (fun u hu => by cases hu) ⟨st.chain hw.be hb, fun _ x => absurd (.inl rfl) x, fun _ => by rw [dw.upd_same]; exact hv⟩⟩
    | 11, _ =>
        intro d vals a w o ho hn hd hdl hcl hf hx hw K Q' E hk
        obtain ⟨vo, vc, e, _⟩ := hw.vl (hd 10 (by kernel_rfl))
        have v10 := (hf.eval 10 (hd 10 (by kernel_rfl)) (t := 19) rfl).trans e
        exact dw.s_val (dw.gd_of ho rfl) (x_len25 (dw.op_of ho rfl) v10) (hk _ w (fun u hu => by cases hu; rfl) (hw.plain (by decide) (by decide) _))
    | 12, _ => intro d vals a w o ho hn hd hdl hcl hf hx hw K Q' E hk; exact dw.s_val (dw.gd_of ho rfl) (x_const (dw.op_of ho rfl)) (hk _ w (fun u hu => by cases hu; rfl) (hw.plain (by decide) (by decide) _))
    | i + 13, hi => exact absurd hi (by simp [ops42_1])
  · intro vals w hx hw
    exact fin vals w (hx 11 (by decide) _ rfl) (hx 12 (by decide) _ rfl) (hw.vl (by decide)) hw.be
theorem fold42_1 (vals : Nat → Value) (a : Act) : dw.fold ops42_1.toList 0 vals a = (((((((((((((a.put (some 9) (vals 0)).put (some 10) (vals 1)).put (some 11) (vals 2)).put (some 12) (vals 3)).put (some 13) (vals 4)).put (some 14) (vals 5)).put (some 15) (vals 6)).put (some 16) (vals 7)).put (some 17) (vals 8)).put (some 18) (vals 9)).put (some 19) (vals 10)).put (some 20) (vals 11)).put (some 21) (vals 12)) := by
  unfold ops42_1
  simp only [dw.fold, Nat.zero_add, Nat.reduceAdd]
theorem full_has (c : Nat) (hc : c < 256) : has (st.rng 0 255) c = true := by
  unfold st.rng
  rw [st.has_such _ _ hc]
  simp
  omega
def setAll (R : List Q4) (q : Q4) (l : List Int) : List Q4 := l.foldl (fun R t => R.set t.toNat q) R
theorem setAll_snoc (R : List Q4) (q : Q4) (l : List Int) (t : Int) : setAll R q (l ++ [t]) = (setAll R q l).set t.toNat q := by unfold setAll; rw [List.foldl_append]; rfl
theorem setAll_rs {n : Nat} {q : Q4} (hq : Fits q) : ∀ (l : List Int) (R : List Q4), R.length = n → (∀ r ∈ R, Fits r) → (∀ t ∈ l, 0 ≤ t ∧ t < (n : Int)) → (setAll R q l).length = n ∧ (∀ r ∈ setAll R q l, Fits r) ∧ ∀ i, i < n → nth (setAll R q l) i = if (i : Int) ∈ l then q else nth R i
  | [], R, hl, hf, _ => ⟨hl, hf, fun i hi => by simp [setAll]⟩
  | t :: l, R, hl, hf, ht => by
    obtain ⟨t1, t2⟩ := ht t List.mem_cons_self
    obtain ⟨a, b, c⟩ := setAll_rs hq l (R.set t.toNat q) (by simpa using hl) (fits_set hf _ hq) (fun u hu => ht u (List.mem_cons_of_mem _ hu))
    refine ⟨a, b, fun i hi => ?_⟩
    have e : setAll R q (t :: l) = setAll (R.set t.toNat q) q l := rfl
    rw [e, c i hi, nth_set R t.toNat i q (by omega) (by omega)]
    by_cases h1 : (i : Int) ∈ l
    · rw [if_pos h1, if_pos (List.mem_cons_of_mem _ h1)]
    · rw [if_neg h1]
      by_cases h2 : i = t.toNat
      · rw [if_pos h2, if_pos (by rw [show (i : Int) = t by omega]; exact List.mem_cons_self)]
      · rw [if_neg h2, if_neg (fun h => by
          rcases List.mem_cons.1 h with h | h
          · omega
          · exact h1 h)]
theorem begin_set {x : Nfa} {n : Nat} (R1 : Rt x n) {L : List Int} (hL : nf.IsFree x [x.s] L) : IsSet n (Begin x) (sig (setAll (List.replicate n none4) (st.rng 0 255) L) 0) := by
  have hr : ∀ t ∈ L, 0 ≤ t ∧ t < (n : Int) := fun t ht => reach_in R1 (fun u hu => by have := R1.hx; omega) t ((hL.mem t).1 ht)
  obtain ⟨a, b, c⟩ := setAll_rs (n := n) (q := st.rng 0 255) (st.fits_such _) L (List.replicate n none4) (by simp) (fun r hr => by rw [List.eq_of_mem_replicate hr]; exact st.fits_none) hr
  refine ⟨by rw [st.sig_length]; exact a, fun i hi => ?_⟩
  have hi2 : i < n := by rw [st.sig_length] at hi; omega
  have e : (sig (setAll (List.replicate n none4) (st.rng 0 255) L) 0)[i] = has (nth (setAll (List.replicate n none4) (st.rng 0 255) L) i) 0 := by rw [← st.sig_at _ 0 i (by omega), List.getD_eq_getElem?_getD, List.getElem?_eq_getElem hi]; rfl
  have hb : (i : Int) ∈ L ↔ Begin x (i : Int) := (hL.mem _).trans ⟨fun r => r.mono fun t h => List.mem_singleton.1 h.1, fun r => r.mono fun t h => ⟨by rw [h]; simp, by rw [h]; exact R1.s.1, by rw [h, R1.hx]; exact R1.s.2⟩⟩
  rw [e, c i hi2, ← hb]
  by_cases h : (i : Int) ∈ L
  · rw [if_pos h]; simp [h, full_has 0 (by omega)]
  · rw [if_neg h, nth_get _ _ (by simpa using hi2), List.getElem_replicate, st.has_none]; simp [h]
end Go.Proofs.Ytkdkibnjfgcppaa.bd

namespace Go.Proofs.Ytkdkibnjfgcppaa.nf
open Go.RowKit Go.Shelf Go.Sort
set_option linter.unusedVariables false
open df (Kp Owns)

def ren : Go.Shelf.Ren := ⟨fun | 189 => 75 | 125 => 86 | 257 => 85 | 128 => 102 | 129 => 103 | 294 => 93 | 295 => 94 | 296 => 95 | 297 => 96 | 298 => 97 | 299 => 98 | 216 => 99 | 300 => 100 | 301 => 101 | 328 => 104 | 329 => 105 | 330 => 106 | 331 => 107 | 332 => 108 | 215 => 109 | 343 => 110 | n => n, fun | 28 => 39 | 3 => 3 | 46 => 143 | 0 => 0 | 51 => 163 | 53 => 42 | 4 => 4 | 183 => 171 | 182 => 170 | 131 => 125 | 5 => 5 | 9 => 9 | 218 => 178 | 222 => 95 | 228 => 183 | 229 => 184 | n => n, fun | n => n⟩
theorem lays189 : Go.Proofs.Lays.n189 Try.prog ren := {
  mixed := by kernel_rfl
  f125 := Try.func86.trans (congrArg some (by kernel_rfl))
  f128 := Try.func102.trans (congrArg some (by kernel_rfl))
  f129 := Try.func103.trans (congrArg some (by kernel_rfl))
  f189 := Try.func75.trans (congrArg some (by kernel_rfl))
  f215 := Try.func109.trans (congrArg some (by kernel_rfl))
  f216 := Try.func99.trans (congrArg some (by kernel_rfl))
  f257 := Try.func85.trans (congrArg some (by kernel_rfl))
  f294 := Try.func93.trans (congrArg some (by kernel_rfl))
  f295 := Try.func94.trans (congrArg some (by kernel_rfl))
  f296 := Try.func95.trans (congrArg some (by kernel_rfl))
  f297 := Try.func96.trans (congrArg some (by kernel_rfl))
  f298 := Try.func97.trans (congrArg some (by kernel_rfl))
  f299 := Try.func98.trans (congrArg some (by kernel_rfl))
  f300 := Try.func100.trans (congrArg some (by kernel_rfl))
  f301 := Try.func101.trans (congrArg some (by kernel_rfl))
  f328 := Try.func104.trans (congrArg some (by kernel_rfl))
  f329 := Try.func105.trans (congrArg some (by kernel_rfl))
  f330 := Try.func106.trans (congrArg some (by kernel_rfl))
  f331 := Try.func107.trans (congrArg some (by kernel_rfl))
  f332 := Try.func108.trans (congrArg some (by kernel_rfl))
  f343 := Try.func110.trans (congrArg some (by kernel_rfl))
  t0 := Try.underlying0
  a0 := Try.isAgg0
  z0 := Try.sizeOf0
  v0 := Try.zeroValue0
  t3 := Try.underlying3
  a3 := Try.isAgg3
  z3 := Try.sizeOf3
  v3 := Try.zeroValue3
  t4 := Try.underlying4
  a4 := Try.isAgg4
  z4 := Try.sizeOf4
  v4 := Try.zeroValue4
  t5 := Try.underlying5
  a5 := Try.isAgg5
  z5 := Try.sizeOf5
  v5 := Try.zeroValue5
  t9 := Try.underlying9
  a9 := Try.isAgg9
  z9 := Try.sizeOf9
  v9 := Try.zeroValue9
  t28 := Try.underlying39
  a28 := Try.isAgg39
  z28 := Try.sizeOf39
  v28 := Try.zeroValue39
  t46 := Try.underlying143
  a46 := Try.isAgg143
  z46 := Try.sizeOf143
  v46 := Try.zeroValue143
  t51 := Try.underlying163
  a51 := Try.isAgg163
  z51 := Try.sizeOf163
  v51 := Try.zeroValue163
  t53 := Try.underlying42
  a53 := Try.isAgg42
  z53 := Try.sizeOf42
  v53 := Try.zeroValue42
  t131 := Try.underlying125
  a131 := Try.isAgg125
  z131 := Try.sizeOf125
  v131 := Try.zeroValue125
  t182 := Try.underlying170
  a182 := Try.isAgg170
  z182 := Try.sizeOf170
  v182 := Try.zeroValue170
  t183 := Try.underlying171
  a183 := Try.isAgg171
  z183 := Try.sizeOf171
  v183 := Try.zeroValue171
  t218 := Try.underlying178
  a218 := Try.isAgg178
  z218 := Try.sizeOf178
  v218 := Try.zeroValue178
  t222 := Try.underlying95
  a222 := Try.isAgg95
  z222 := Try.sizeOf95
  v222 := Try.zeroValue95
  t228 := Try.underlying183
  a228 := Try.isAgg183
  z228 := Try.sizeOf183
  v228 := Try.zeroValue183
  t229 := Try.underlying184
  a229 := Try.isAgg184
  z229 := Try.sizeOf184
  v229 := Try.zeroValue184 }

theorem put_block {α : Type} [Inhabited α] (enc : α → Value) (w : World) (blk off : Nat) (d : Array α) (k : Nat) (h : k ≠ blk) : (putRow enc w blk off d).heap[k]? = w.heap[k]? := by
  unfold putRow mapBlock
  show (w.heap.modify blk _)[k]? = _
  rw [Array.getElem?_modify, if_neg (fun e => h e.symm)]
theorem grow_block (w : World) (os : Array Obj) (k : Nat) (h : k < w.heap.size) : (grow w os).heap[k]? = w.heap[k]? := by
  unfold grow
  rw [Array.getElem?_append_left h]
def sorted (l : List Int) : List Int := l.mergeSort fun x y => decide (x ≤ y)
def SortIs (l : List Int) : Prop := ∀ B v w, Owns w B v l → Calls Try.prog 75 #[v] w fun e w' => (∃ r, e = .returned r) ∧ Owns w' B v (sorted l) ∧ w.grownBy w' v.ownBlock
theorem sort_any (l : List Int) (hl : l.length ≤ 1000000) : SortIs l := by
  intro B v w ho
  have ho0 := ho
  rcases ho.2 with ⟨rfl, h0⟩ | ⟨g, cap, cur, rfl, hb, hg, hn, hc, hs, ht⟩
  · have e0 : l = [] := List.length_eq_zero_iff.1 h0
    subst e0
    refine (Any.slices_Sort_int_none lays189 none 0 w).mono ?_
    rintro e w' ⟨rfl, rfl⟩
    exact ⟨⟨_, rfl⟩, by unfold sorted; simpa using ho0, ⟨rfl, rfl, rfl, Nat.le_refl _, fun _ _ _ => rfl⟩⟩
  · have hlt := (Array.getElem?_eq_some_iff.1 hg).1
    have hH : Holds (Value.int .i64) w g 0 l.toArray := fun j hj => by
      have hj2 : j < l.length := by simpa using hj
      refine ⟨?_, ?_⟩
      · rw [Nat.zero_add, World.ownsRow.cellAt ho0 j (by omega), List.getElem?_map, List.getElem?_eq_getElem hj2, getElem!_pos _ j hj]
        simp
      · exact Lib.frozen_of_heap hg _
    refine (Any.slices_Sort_int lays189 g 0 cap l w hH hlt (by omega)).mono ?_
    rintro e w' ⟨rfl, n, os, rfl⟩
    refine ⟨⟨_, rfl⟩, ?_, ?_⟩
    · have hls : (sorted l).length = l.length := List.length_mergeSort l
      have hblk : (grow (putRow (Value.int .i64) (Sort.ahead w n) g 0 (sorted l).toArray) os).heap[g]? = some (.cells (putCells (Value.int .i64) 0 (sorted l).toArray cur) 3 (0, 0)) := by
        rw [grow_block _ _ _ (by simpa [Sort.ahead] using hlt)]
        unfold putRow mapBlock
        show (w.heap.modify g _)[g]? = _
        rw [Array.getElem?_modify, if_pos rfl, hg]
        rfl
      refine ⟨by simp, .inr ⟨g, cap, _, by rw [hls], hb, hblk, by omega, hc, ?_, ?_⟩⟩
      · unfold putCells; simpa using hs
      · apply List.ext_getElem?
        intro i
        rw [List.getElem?_take]
        by_cases hi : i < (sorted l).length * 1
        · rw [if_pos hi, Array.getElem?_toList]
          unfold putCells
          rw [Array.getElem?_mapIdx]
          have hi2 : i < cur.size := by omega
          rw [Array.getElem?_eq_getElem hi2, Option.map_some, if_pos ⟨by omega, by simpa using hi⟩, List.getElem?_map, List.getElem?_eq_getElem (by omega)]
          congr 2
          rw [getElem!_pos _ _ (by simpa using hi)]
          simp
        · rw [if_neg hi, List.getElem?_eq_none (by simp; omega)]
    · refine ⟨rfl, rfl, rfl, ?_, fun k hk hne => ?_⟩
      · show _ ≤ (_ ++ os).size
        simp [Sort.ahead]
      · rw [grow_block _ _ _ (by simpa [Sort.ahead] using hk), put_block _ _ _ _ _ _ (fun e => hne (by rw [e]; rfl))]
        rfl
end Go.Proofs.Ytkdkibnjfgcppaa.nf

namespace Go.Proofs.Ytkdkibnjfgcppaa.nf
open Go.RowKit Go.Shelf
set_option linter.unusedVariables false
open df (Kp Owns Row iv In IntsV)
set_option maxHeartbeats 1000000 in
theorem sorted_up (l : List Int) (h : l.Nodup) : (sorted l).Pairwise (· < ·) := by
  have h1 : (sorted l).Pairwise (fun a b => decide (a ≤ b) = true) := List.pairwise_mergeSort (le := fun a b => decide (a ≤ b)) (fun a b c h1 h2 => by simp at *; omega) (fun a b => by simp; omega) l
  have h2 : (sorted l).Nodup := (List.mergeSort_perm l _).nodup_iff.2 h
  have h3 := h1.and h2
  exact h3.imp (fun {a b} ⟨a1, a2⟩ => by simp at a1; omega)
theorem sorted_mem (l : List Int) (t : Int) : t ∈ sorted l ↔ t ∈ l := (List.mergeSort_perm l _).mem_iff
set_option maxHeartbeats 4000000 in
set_option maxRecDepth 100000 in
theorem free_yes (x : Nfa) (n : Nat) (R : Rt x n) (l : List Int) (h : right x = true) (L : List Int) (hL0 : IsFree x l L) : FreeIs 57 x l L := by
  intro o cap lo lcap w hE hL
  have hcap := hE.fit
  have htop := hE.top
  have hlf := hL.fit
  have hlt := hL.top
  have h11 := right_any x true h.symm o cap
  have h30 := new_any n R.n2 x.s x.e o x.edges.length cap
  have h29 := weave_any x n R.hx R.n2 R.m (fun i hi => R.fr _ (List.getElem_mem hi)) o cap
  have h32 : SpreadIs x n := spread_any x n R.n2 R.m R.to
  unfold SpreadIs at h32
  have hx := R.hx
  have hn1 := R.n1
  have hn2 := R.n2
  have hm := R.m
  rw [hx] at h11 h29 ⊢
  have b0 := box_new w (n : Int) x.s x.e o x.edges.length cap
  have B1 := below_alloc w (.cells #[.int .i64 (n : Int), .int .i64 x.s, .int .i64 x.e, .slice o x.edges.length cap] 52)
  obtain ⟨w1, hw1⟩ : ∃ w1, w1 = w.alloc (.cells #[.int .i64 (n : Int), .int .i64 x.s, .int .i64 x.e, .slice o x.edges.length cap] 52) := ⟨_, rfl⟩
  rw [← hw1] at b0 B1
  have r1 := h11 w1 (hE.later B1)
  have HE := (show Hid (Eds w o cap x.edges) from hE)
  have HL := (show Hid (Row (In w) w iv lo lcap l) from hL)
  clear hE hL h11 h
  go_enter Try.func57, Try.ntmps57
  go_wp2_with (first | (go_at_call 33; rw [← hw1]; refine r1.mono ?_; rintro e w2 ⟨rfl, b2⟩; have x2 := b0.later b2; have d0 := x2.c0; have d1 := x2.c1; have d2 := x2.c2; have d3 := x2.c3) | (go_at_call 71; refine (h30 (fun b => b < w2.heap.size) w2 (fun _ h => h)).mono ?_; rintro e w3 ⟨c, sb, rfl, hC3, b3, o3⟩))
  have B2 : Below w.heap.size w w2 := chain B1 b2
  have s12 := B2.size
  have x3 := x2.later b3
  have M33 : Moved (fun b => b < w2.heap.size) w2.heap.size w3 w3 := Moved.refl _ _ _
  go_loopw [15] (fun y wr => ∃ i : Nat, y = .int .i64 i ∧ i ≤ l.length ∧ Hid (Cr (fun b => b < w2.heap.size) wr w2.heap.size c sb n (addL n (l.take i)).1 (addL n (l.take i)).2) ∧ Hid (Moved (fun b => b < w2.heap.size) w2.heap.size w3 wr)) (fun y _ => l.length - (intOf y).toNat)
  case atStart => exact ⟨0, rfl, by omega, by show Cr _ _ _ _ _ _ _ _; simpa [addL] using hC3, M33⟩
  case round =>
    obtain ⟨i, rfl, hi, HC, HM⟩ := hrel
    clear hC3 M33 d0 d1 d2 d3
    have kp := HM.out.kp
    have hxr : Box wr w.heap.size (n : Int) x.s x.e o x.edges.length cap := (kp.2 _ x2.lt).trans x3
    have hold : ∀ b, b < w.heap.size → wr.heap[b]? = w.heap[b]? := fun b hb => (kp.2 b (by show b < w2.heap.size; omega)).trans ((b3.block b (by omega)).trans (B2.block b hb))
    have d0 := hxr.c0
    have d1 := hxr.c1
    have d2 := hxr.c2
    have d3 := hxr.c3
    by_cases hend : i < l.length
    · obtain ⟨b, off, rfl, hb, hc⟩ := HL.out.lie i hend
      have hc2 : wr.cell? ⟨b, off + i, none⟩ = some (.int .i64 l[i]) := by simp only [World.cell?, hold b hb] at hc ⊢; exact hc
      have hst := st_any (n : Int) l[i] _ rfl
      unfold StIs at hst
      have hsn : addL n (l.take (i + 1)) = addS n (addL n (l.take i)) l[i] := by rw [List.take_succ_eq_append_getElem hend, addL_snoc]
      have HSN := (show Hid (addL n (l.take (i + 1)) = addS n (addL n (l.take i)) l[i]) from hsn)
      generalize l[i] = u at *
      clear hsn hc
      cases hu : isSt (n : Int) u with
      | false =>
        rw [hu] at hst
        have hno : ¬ (0 ≤ u ∧ u < (n : Int)) := fun hh => by unfold isSt at hu; rw [decide_eq_true hh.1, decide_eq_true hh.2] at hu; cases hu
        have HN : Hid (addL n (l.take (i + 1)) = addL n (l.take i)) := by show _ = _; rw [HSN.out]; unfold addS; rw [if_neg hno]
        clear hu hno HSN
        go_wp2_with (go_at_call 52; (with_reducible refine (hst _ _ _ _ _ _).mono ?_); rintro e w4 ⟨rfl, b4⟩)
        go_roundw
        case rel => exact ⟨i + 1, by go_num, by omega, by rw [HN.out]; exact HC.out.later b4, HM.out.trans (moved_of b4 (fun b hb => Nat.lt_of_lt_of_le (Nat.lt_of_lt_of_le hb b3.size) kp.1) (Nat.le_trans b3.size kp.1))⟩
        case measure => simp [intOf]; omega
      | true =>
        rw [hu] at hst
        have hyes : 0 ≤ u ∧ u < (n : Int) := by unfold isSt at hu; simpa using hu
        obtain ⟨k, rfl⟩ : ∃ k : Nat, u = (k : Int) := ⟨u.toNat, by omega⟩
        have HN : Hid (addL n (l.take (i + 1)) = addE (addL n (l.take i)) (k : Int)) := by show _ = _; rw [HSN.out]; unfold addS; rw [if_pos hyes]
        have hadd := add_any (fun b => b < w2.heap.size) w2.heap.size c sb n hn2 (addL n (l.take i)).1 (addL n (l.take i)).2 k (by omega)
        unfold AddIs at hadd
        clear hu hyes HSN
        go_wp2_with (first | (go_at_call 52; (with_reducible refine (hst _ _ _ _ _ _).mono ?_); rintro e w4 ⟨rfl, b4⟩; have HC4 := (show Hid _ from HC.out.later b4)) | (go_at_call 72; refine (hadd _ HC4.out).mono ?_; rintro e w5 ⟨⟨v5, rfl⟩, hC5, hM5⟩))
        go_roundw
        case rel => exact ⟨i + 1, by go_num, by omega, by rw [HN.out]; exact hC5, (HM.out.trans (moved_of b4 (fun b hb => Nat.lt_of_lt_of_le (Nat.lt_of_lt_of_le hb b3.size) kp.1) (Nat.le_trans b3.size kp.1))).trans hM5⟩
        case measure => simp [intOf]; omega
    · have ei : l.take i = l := List.take_of_length_le (by omega)
      rw [ei] at HC
      obtain ⟨hq1, hq2⟩ := addL_spec n l
      have E5 : Eds wr o cap x.edges := eds_keep HE.out hold (Nat.le_trans s12 (Nat.le_trans b3.size kp.1))
      have r29 := h29 wr E5
      have HI : Hid (Inv x (fun s => s ∈ l ∧ 0 ≤ s ∧ s < x.n) (addL n l).1 (addL n l).2) := ⟨fun t ht => by rw [hq1]; exact ht, fun t ht => .base (by rw [hx]; exact (hq2 t).1 ht), fun t ht hq => absurd (hq1 ▸ ht) hq⟩
      clear ei
      have hCr := HC.out
      go_wp2_with (first | (go_at_call 74; refine r29.mono ?_; rintro e w6 ⟨fb, nb, rfl, rf, rn, hfn, hf6, hn6, b6⟩; have hCy : Cr (fun b => b < w2.heap.size ∨ b = fb ∨ b = nb) w6 w2.heap.size c sb n (addL n l).1 (addL n l).2 := hCr.more b6 (more_of rf.lt rn.lt hf6 hn6); have hWy : WebAt (fun b => b < w2.heap.size ∨ b = fb ∨ b = nb) w6 x.edges n o cap fb nb := web_of HE.out (fun b hb => (b6.block b (Nat.lt_of_lt_of_le hb (Nat.le_trans s12 (Nat.le_trans b3.size kp.1)))).trans (hold b hb)) s12 rf rn (Nat.le_trans (Nat.le_trans b3.size kp.1) b6.size); have HCy := (show Hid _ from hCy); have HWy := (show Hid _ from hWy)) | (go_at_call 73; refine (h32 _ _ _ c sb _ _ o cap fb nb w6 HCy.out HI.out HWy.out).mono ?_; rintro e w7 ⟨⟨v7, rfl⟩, l', hC7, hI7, hs7, hM7⟩; obtain ⟨m7, va, vw, K7, hm7⟩ := hC7.lie; have hl7 := hC7.len; obtain ⟨ga, ca, hva⟩ := df.own_slice K7.all; subst hva; have k1 := K7.c1; have hsort := sort_any l' (by omega) w2.heap.size _ w7 K7.all) | (go_at_call 75; refine hsort.mono ?_; rintro e w8 ⟨⟨v8, rfl⟩, ho8, hg8⟩; have c8 : w8.cell? ⟨c, 1, none⟩ = some (.slice ga l'.length ca) := (World.cell?_of_block (a := ⟨c, 1, none⟩) (hg8.block c K7.lt K7.nac)).trans k1))
      go_ret
      have hLs : L = sorted l' := up_eq L (sorted l') hL0.up (sorted_up l' hC7.nd) (fun t => by
        rw [hL0.mem t, sorted_mem l' t]
        exact (inv_done hI7 (fun u hu => hs7 u ((hq2 u).2 ⟨hu.1, hu.2.1, by rw [← hx]; exact hu.2.2⟩)) t).symm)
      refine ⟨_, rfl, ?_, ?_⟩
      · rw [hLs]
        exact df.ints_of_owns ho8
      · have c1 : Below w.heap.size w w3 := chain B2 b3
        have c2 : Below w.heap.size w wr := c1.trans (HM.out.be.mono s12)
        have c3 : Below w.heap.size w w6 := c2.trans (b6.mono (Nat.le_trans s12 (Nat.le_trans b3.size kp.1)))
        have c4 : Below w.heap.size w w7 := c3.trans (hM7.be.mono s12)
        exact c4.grown hg8 (Nat.le_trans s12 K7.size) (fun k e => Nat.le_trans s12 (df.own_ge K7.all k e))
end Go.Proofs.Ytkdkibnjfgcppaa.nf

namespace Go.Proofs.Ytkdkibnjfgcppaa.bd
open Go.Sort Go.ChangeShapes Go.WideShapes Go.ChangeAt Go.RowKit Go.Maps
open df (Kp Row iv In IntsV Owns)
open nf (Nfa Ed Rt IRow icells Eds nfaV)
open st (Q4 none4 Fits has nth jn sig Blk)
set_option linter.unusedVariables false
set_option maxRecDepth 10000

theorem rng_fits : Fits (st.rng 0 255) := st.fits_such _
theorem range56 (w : World) : Calls Try.prog 56 #[.int .u8 0, .int .u8 255] w fun ev w' => ev = .returned (V4 (st.rng 0 255)) ∧ Below w.heap.size w w' := st.range_any 0 255 (by omega) (by omega) _ rfl w
theorem begin_nums {x : Nfa} {n : Nat} (R1 : Rt x n) {σ : List Bool} (h : IsSet n (Begin x) σ) : Nums x n [σ] ∧ σ ≠ off n := by
  have hs := R1.s
  have hne : σ ≠ off n := fun e => (off_iff h).1 e x.s.toNat (by omega) (by rw [show ((x.s.toNat : Nat) : Int) = x.s by omega]; exact .base rfl)
  refine ⟨⟨fun τ ht => by rw [List.mem_singleton.1 ht]; exact h.len, by simp, fun τ ht => by rw [List.mem_singleton.1 ht]; exact hne, ⟨σ, rfl, h⟩, fun k τ hk => by simp at hk⟩, hne⟩
theorem cells4_u64 (l : List Q4) : ∀ v ∈ st.cells4 l, ∃ z : Int, v = .int .u64 z := by
  induction l with
  | nil => intro v hv; simp [st.cells4] at hv
  | cons q l ih =>
    intro v hv
    simp only [st.cells4, List.mem_cons] at hv
    rcases hv with rfl | rfl | rfl | rfl | hv
    · exact ⟨_, rfl⟩
    · exact ⟨_, rfl⟩
    · exact ⟨_, rfl⟩
    · exact ⟨_, rfl⟩
    · exact ih v hv
theorem SRow.not_int {w : World} {g : Nat} {R : List Q4} (h : SRow w g R) (i : Nat) (t : Int) : w.cell? ⟨g, i, none⟩ ≠ some (.int .i64 t) := fun e => by
  rw [Lib.cell_of_heap h] at e
  simp only [scells, List.getElem?_toArray] at e
  obtain ⟨z, hz⟩ := cells4_u64 R _ (List.mem_of_getElem? e)
  cases hz
theorem grown_set4 {W wr : World} {g : Nat} (h : W.grownBy wr (some g)) (i : Nat) (a b c d : Value) : W.grownBy ((((wr.setCell ⟨g, i * 4, none⟩ a).setCell ⟨g, i * 4 + 1, none⟩ b).setCell ⟨g, i * 4 + 2, none⟩ c).setCell ⟨g, i * 4 + 3, none⟩ d) (some g) :=
  gr_trans h ⟨rfl, rfl, rfl, by simp, fun j hj hne => set4_other wr g j (fun e => hne (by rw [e])) i _ _ _ _⟩ (fun j e => .inl (Option.some.inj e).symm)
def BegIs (X Y : Nat → Prop) (W : World) (x : Nfa) (n e B b mb : Nat) (h : Hd) (nn : List Value) : Prop := Calls Try.prog 35 #[.pointer (some ⟨b, 0, none⟩)] W fun ev W' => ∃ σ X' Y' vs vn va ss m D, (∃ v, ev = .returned v) ∧ Nums x n [σ] ∧ (∀ k, X k → X' k) ∧ (∀ k, Y k → Y' k) ∧ Bst X' Y' W' B b mb h n e [σ] nn vs vn va ss m D ∧ Mv X B W W'
structure Bg (W : World) (V : Q4) (p : Nat) (R : List Q4) (wr : World) : Prop where
  be : Below W.heap.size W wr
  sr : SRow wr W.heap.size R
  bl : Blk wr p V
set_option maxHeartbeats 4000000 in
set_option maxRecDepth 100000 in
theorem begin_any {X Y : Nat → Prop} {W : World} {x : Nfa} {n e : Nat} (R1 : Rt x n) (hr : nf.right x = true) {B b mb : Nat} {h : Hd} {nn : List Value} {vs vn va : Value} {ss : List Value} {m : Nat} {D : DataW Unit} (k : Bst X Y W B b mb h n e [] nn vs vn va ss m D) (hE : Eds W h.eo h.ec x.edges) (h1 : h.n = x.n) (h2 : h.s = x.s) (h3 : h.e = x.e) (h4 : h.em = x.edges.length) : BegIs X Y W x n e B b mb h nn := by
  have hn1 := R1.n1
  have hn2 := R1.n2
  obtain ⟨FL, hFL, hFl⟩ := nf.free_ex x n R1 [x.s]
  have HF12 := (show Hid (∀ w lo lcap, Below W.heap.size W w → Row (In w) w iv lo lcap [x.s] → Calls Try.prog 57 #[nfaV x.n x.s x.e h.eo x.edges.length h.ec, .slice lo 1 lcap] w fun ev w' => ∃ v, ev = .returned v ∧ IntsV w' v FL ∧ Below w.heap.size w w') from fun w lo lcap hb hrw => nf.free_yes x n R1 [x.s] hr FL hFL h.eo h.ec lo lcap w (hE.later hb) hrw)
  have HSET := (show Hid (IsSet n (Begin x) (sig (setAll (List.replicate n none4) (st.rng 0 255) FL) 0)) from begin_set R1 hFL)
  have HRG := (show Hid (∀ t ∈ FL, 0 ≤ t ∧ t < (n : Int)) from fun t ht => reach_in R1 (fun u hu => by have := R1.hx; omega) t ((hFL.mem t).1 ht))
  have HRS := (show Hid (∀ i : Nat, (setAll (List.replicate n none4) (st.rng 0 255) (FL.take i)).length = n ∧ ∀ r ∈ setAll (List.replicate n none4) (st.rng 0 255) (FL.take i), Fits r) from fun i => by
    obtain ⟨a, b, _⟩ := setAll_rs (n := n) (q := st.rng 0 255) rng_fits (FL.take i) (List.replicate n none4) (by simp) (fun r hr => by rw [List.eq_of_mem_replicate hr]; exact st.fits_none) (fun t ht => HRG.out t (List.mem_of_mem_take ht))
    exact ⟨a, b⟩)
  have HC := (show Hid (∀ w, Below W.heap.size W w → w.cell? ⟨b, 0, none⟩ = some (.int .i64 x.n) ∧ w.cell? ⟨b, 1, none⟩ = some (.int .i64 x.s) ∧ w.cell? ⟨b, 2, none⟩ = some (.int .i64 x.e) ∧ w.cell? ⟨b, 3, none⟩ = some (.slice h.eo x.edges.length h.ec)) from fun w hb => by
    have k1 := (k.more (Z := X) hb (fun _ h => h) (fun _ h => .inl h)).bu.box
    exact ⟨by rw [k1.c0, h1], by rw [k1.c1, h2], by rw [k1.c2, h3], by rw [k1.c3, h4]⟩)
  have HK := (show Hid (Bst X Y W B b mb h n e [] nn vs vn va ss m D) from k)
  have HR1 := (show Hid (Rt x n) from R1)
  have now := now_any n (by omega) b W (by rw [k.bu.box.c0, k.hn])
  have h56 := range56
  have r0 := srow_new W (List.replicate n none4)
  have B0 := nf.below_alloc W (.cells (scells (List.replicate n none4)) 45)
  have hFl2 : FL.length ≤ 2000 := by omega
  clear k hE h1 h2 h3 h4 R1 hr hFL hFl
  generalize st.rng 0 255 = V at *
  go_enter Try.func35, Try.ntmps35
  go_wp2_with (first | (go_at_call 54; refine now.mono ?_; rintro ev w1 ⟨rfl, hw1⟩; rw [← hw1] at r0 B0; clear hw1) | (go_at_call 56; refine (h56 _).mono ?_; rintro ev w2 ⟨rfl, b2⟩; have r2 := r0.later b2; have B2 := st.chain B0 b2))
  obtain ⟨w3, HW3⟩ : ∃ w3, Hid (w3 = w2.alloc (.cells #[.int .u64 V.a, .int .u64 V.b, .int .u64 V.c, .int .u64 V.d] 45)) := ⟨_, rfl⟩
  have HB3 := (show Hid (Below W.heap.size W w3 ∧ SRow w3 W.heap.size (List.replicate n none4) ∧ Blk w3 w2.heap.size V ∧ W.heap.size < w2.heap.size) from by rw [HW3.out]; exact ⟨B2.alloc B2.size _, r2.later (nf.below_alloc _ _), st.blk_new w2 V, r2.lt⟩)
  rw [← HW3.out]
  clear r0 B0 r2 B2 b2 HW3 now h56
  refine reg42 rfl ⟨b, x, h.eo, h.ec, FL⟩ rfl (fun w hb => HC.out w (st.chain HB3.out.1 hb)) (fun w lo lcap hb hrw => HF12.out w lo lcap (st.chain HB3.out.1 hb) hrw) ?_
  intro vals w4 v11 v12 hv hB
  obtain ⟨vo, vc, e10, hrow⟩ := hv
  rw [fold42_1, v11, v12, e10]
  have rfit := hrow.fit
  have rtop := hrow.top
  have HROW := (show Hid (∀ wr : World, w4.grownBy wr (some W.heap.size) → ∀ i (hi : i < FL.length), ∃ b off, vo = some ⟨b, off, none⟩ ∧ wr.cell? ⟨b, off + i, none⟩ = some (.int .i64 FL[i])) from fun wr hg i hi => by
    obtain ⟨b', off, e1, e2, e3⟩ := hrow.lie i hi
    have hne : b' ≠ W.heap.size := fun e => (HB3.out.2.1.later hB).not_int (off + i) FL[i] (by rw [← e]; exact e3)
    refine ⟨b', off, e1, ?_⟩
    have := hg.block b' e2 (fun e => hne (Option.some.inj e))
    simp only [World.cell?, this] at e3 ⊢
    exact e3)
  have HST := (show Hid (w4.grownBy w4 (some W.heap.size) ∧ Bg W V w2.heap.size (setAll (List.replicate n none4) V (FL.take 0)) w4) from ⟨⟨rfl, rfl, rfl, Nat.le_refl _, fun _ _ _ => rfl⟩, st.chain HB3.out.1 hB, HB3.out.2.1.later hB, HB3.out.2.2.1.later hB⟩)
  have hlt2 := HB3.out.2.2.2
  clear v11 v12 e10 hrow hB HB3 HF12
  go_wp2_with (fail)
  go_loopw [21] (fun z wr => ∃ i : Nat, z = .int .i64 i ∧ i ≤ FL.length ∧ Hid (w4.grownBy wr (some W.heap.size) ∧ Bg W V w2.heap.size (setAll (List.replicate n none4) V (FL.take i)) wr)) (fun z _ => FL.length - (intOf z).toNat)
  case atStart => exact ⟨0, rfl, by omega, HST⟩
  case round =>
    obtain ⟨i, rfl, hi, HI⟩ := hrel
    clear HST
    by_cases hend : i < FL.length
    · obtain ⟨b3, off3, rfl, rcell⟩ := HROW.out wr HI.out.1 i hend
      obtain ⟨t, ht, htn⟩ : ∃ t : Nat, FL[i] = (t : Int) ∧ t < n := by
        have := HRG.out FL[i] (List.getElem_mem hend)
        exact ⟨FL[i].toNat, by omega, by omega⟩
      have HTK := (show Hid (setAll (List.replicate n none4) V (FL.take (i + 1)) = (setAll (List.replicate n none4) V (FL.take i)).set t V) from by show _ = _; rw [List.take_succ_eq_append_getElem hend, setAll_snoc, ht]; rfl)
      rw [ht] at rcell
      have hRl := (HRS.out i).1
      obtain ⟨c0, c1, c2, c3⟩ := HI.out.2.sr.cells t (by omega)
      have z0 := HI.out.2.sr.fz (t * 4)
      have z1 := HI.out.2.sr.fz (t * 4 + 1)
      have z2 := HI.out.2.sr.fz (t * 4 + 2)
      have z3 := HI.out.2.sr.fz (t * 4 + 3)
      have y0 := HI.out.2.bl.c0
      have y1 := HI.out.2.bl.c1
      have y2 := HI.out.2.bl.c2
      have y3 := HI.out.2.bl.c3
      have HN := (show Hid (w4.grownBy ((((wr.setCell ⟨W.heap.size, t * 4, none⟩ (.int .u64 V.a)).setCell ⟨W.heap.size, t * 4 + 1, none⟩ (.int .u64 V.b)).setCell ⟨W.heap.size, t * 4 + 2, none⟩ (.int .u64 V.c)).setCell ⟨W.heap.size, t * 4 + 3, none⟩ (.int .u64 V.d)) (some W.heap.size) ∧ Bg W V w2.heap.size ((setAll (List.replicate n none4) V (FL.take i)).set t V) ((((wr.setCell ⟨W.heap.size, t * 4, none⟩ (.int .u64 V.a)).setCell ⟨W.heap.size, t * 4 + 1, none⟩ (.int .u64 V.b)).setCell ⟨W.heap.size, t * 4 + 2, none⟩ (.int .u64 V.c)).setCell ⟨W.heap.size, t * 4 + 3, none⟩ (.int .u64 V.d))) from ⟨grown_set4 HI.out.1 t _ _ _ _, below_set4 HI.out.2.be (Nat.le_refl _) t _ _ _ _, HI.out.2.sr.put t (by omega) V, (set4_other wr W.heap.size w2.heap.size (by omega) t _ _ _ _).trans HI.out.2.bl⟩)
      generalize nth (setAll (List.replicate n none4) V (FL.take i)) t = u at *
      clear ht hRl
      go_wp2_with (fail)
      go_roundw
      case rel => exact ⟨i + 1, by go_num, by omega, by rw [HTK.out]; exact HN⟩
      case measure => simp [intOf]; omega
    · have he : i = FL.length := by omega
      have HI2 := (show Hid (Bg W V w2.heap.size (setAll (List.replicate n none4) V FL) wr) from by have := HI.out.2; rw [List.take_of_length_le (by omega)] at this; exact this)
      have HR2 := (show Hid ((setAll (List.replicate n none4) V FL).length = n ∧ ∀ r ∈ setAll (List.replicate n none4) V FL, Fits r) from by have := HRS.out FL.length; rw [List.take_of_length_le (Nat.le_refl _)] at this; exact this)
      clear HI HRS HROW HRG
      generalize setAll (List.replicate n none4) V FL = R at *
      have HKW := (show Hid _ from HK.out.more (Z := X) HI2.out.be (fun _ h => h) (fun _ h => .inl h))
      have h53 := text_sig R HR2.out.2 (by rw [HR2.out.1]; omega) (by rw [HR2.out.1]; omega) 0 (by omega) b (.slice (some ⟨W.heap.size, 0, none⟩) n n) wr HKW.out.bu.box.lt (by rw [HKW.out.bu.box.c0, HKW.out.hn, HR2.out.1]) (by have := HI2.out.sr.sets (by rw [HR2.out.1]; omega); rw [HR2.out.1] at this; exact this)
      have HNUM := (show Hid (∀ w3 : World, Below wr.heap.size wr w3 → NewIs X Y w3 B b mb h n e [] nn (sig R 0) 0) from fun w3 b3 => number_new (HKW.out.more (Z := X) b3 (fun _ h => h) (fun _ h => .inl h)) (sig R 0) HSET.out.len (begin_nums HR1.out HSET.out).2 (by simp) (by simp))
      have HFIN := (show Hid (Nums x n [sig R 0]) from (begin_nums HR1.out HSET.out).1)
      have HMV := (show Hid (∀ w3 : World, Below wr.heap.size wr w3 → Mv X B W w3) from fun w3 b3 => (Mv.refl X B W).later (st.chain HI2.out.be b3) (fun g hg => (HK.out.bu.ap g hg).1) HK.out.bu.size)
      have h53' : Calls Try.prog 53 #[.pointer (some ⟨b, 0, none⟩), .slice (some ⟨W.heap.size, 0, none⟩) n n, .int .u8 0] wr fun e w' => e = .returned (.string (txtB (sig R 0))) ∧ Below wr.heap.size wr w' := h53
      clear h53 HSET HC
      generalize sig R 0 = τ at *
      go_wp2_with (first | (go_at_call 53; refine h53'.mono ?_; rintro ev w5 ⟨rfl, b5⟩; have hnum := HNUM.out w5 b5; have HM5 := (show Hid _ from HMV.out w5 b5); unfold NewIs at hnum; clear b5) | (go_at_call 58; refine hnum.mono ?_; rintro ev w6 ⟨rfl, hh6⟩; have HH6 := (show Hid _ from hh6); clear hh6))
      go_end0
      obtain ⟨X', Y', vs', vn', va', ss', m', D', a1, a2, a3, a4, k', m6⟩ := HH6.out
      exact ⟨τ, X', Y', vs', vn', va', ss', m', D', ⟨_, rfl⟩, HFIN.out, a1, a3, k', HM5.out.trans m6⟩
end Go.Proofs.Ytkdkibnjfgcppaa.bd

namespace Go.Proofs.Ytkdkibnjfgcppaa.bd
open Go.Sort Go.ChangeShapes Go.WideShapes Go.ChangeAt Go.RowKit Go.Maps
open df (Kp Row iv In IntsV Owns)
open nf (Nfa Ed Rt EdAt Eds nfaV)
open st (Q4 none4 Fits has nth jn sig Blk)
set_option linter.unusedVariables false
set_option maxRecDepth 10000

def e7 (e : Ed) : List Value := [.int .i64 e.fr, .int .i64 e.to, .bool e.free, .int .u64 e.a, .int .u64 e.b, .int .u64 e.c, .int .u64 e.d]
def c7 : List Ed → List Value
  | [] => []
  | e :: l => e7 e ++ c7 l
theorem c7_snoc (l : List Ed) (e : Ed) : c7 (l ++ [e]) = c7 l ++ e7 e := by
  induction l with
  | nil => simp [c7]
  | cons x l ih => simp [c7, ih]
theorem c7_len (l : List Ed) : (c7 l).length = l.length * 7 := by
  induction l with
  | nil => rfl
  | cons x l ih => simp [c7, e7, ih]; omega
theorem c7_at : ∀ (l : List Ed) (i : Nat) (h : i < l.length) (j : Nat), j < 7 → (c7 l)[i * 7 + j]? = (e7 l[i])[j]?
  | e :: l, 0, _, j, hj => by
    simp only [c7, Nat.zero_mul, Nat.zero_add]
    rw [List.getElem?_append_left (by simpa [e7] using hj)]
    rfl
  | e :: l, i + 1, h, j, hj => by
    simp only [c7]
    rw [List.getElem?_append_right (by simp [e7]; omega)]
    have := c7_at l i (by simpa using h) j hj
    simp only [e7, List.length_cons, List.length_nil] at this ⊢
    rw [show (i + 1) * 7 + j - (0 + 1 + 1 + 1 + 1 + 1 + 1 + 1) = i * 7 + j by omega]
    exact this
/-- a row of edges that is owned reads as one -/
theorem own_edges {X : Nat → Prop} {W : World} {B : Nat} {v : Value} {l : List Ed} (h : W.ownsRow B 105 7 v l.length (c7 l)) (hx : ∀ g, some g = v.ownBlock → X g) : ∃ o c, v = .slice o l.length c ∧ RowE X W o c l := by
  obtain ⟨o, c, e, h1, h2⟩ := ow.form h
  refine ⟨o, c, e, h1, h2, fun i hi => ?_⟩
  have key : ∀ j, j < 7 → ∃ g cap, v = .slice (some ⟨g, 0, none⟩) l.length cap ∧ W.cell? ⟨g, i * 7 + j, none⟩ = (e7 l[i])[j]? := fun j hj => by
    have hl : i * 7 + j < (c7 l).length := by rw [c7_len]; omega
    obtain ⟨g, cap, e1, _, e2⟩ := ow.cell h (i * 7 + j) hl
    exact ⟨g, cap, e1, by rw [e2, ← List.getElem?_eq_getElem hl, c7_at l i hi j hj]⟩
  obtain ⟨g, cap, e1, k0⟩ := key 0 (by omega)
  have all : ∀ j, j < 7 → W.cell? ⟨g, i * 7 + j, none⟩ = (e7 l[i])[j]? := fun j hj => by
    obtain ⟨g', cap', e2, k⟩ := key j hj
    rw [e1] at e2
    simp only [Value.slice.injEq, Option.some.injEq, Addr.mk.injEq] at e2
    rw [e2.1.1]; exact k
  have e3 : o = some ⟨g, 0, none⟩ := by rw [e1] at e; simp only [Value.slice.injEq] at e; exact e.1.symm
  refine ⟨g, 0, e3, hx g (by rw [e1]; rfl), ?_⟩
  rw [Nat.zero_add]
  exact ⟨all 0 (by omega), all 1 (by omega), all 2 (by omega), all 3 (by omega), all 4 (by omega), all 5 (by omega), all 6 (by omega)⟩

structure Nb (B ob fb n : Nat) (Vo Vf : Nat → Value) (Es : Nat → List Ed) (Fs : Nat → List Int) (w : World) : Prop where
  orow : w.heap[ob]? = some (.cells ((List.range n).map Vo).toArray 50 (0, 0))
  frow : w.heap[fb]? = some (.cells ((List.range n).map Vf).toArray 39 (0, 0))
  oo : ∀ s, s < n → w.ownsRow B 105 7 (Vo s) (Es s).length (c7 (Es s))
  ff : ∀ s, s < n → Owns w B (Vf s) (Fs s)
  io : ∀ s t g, s < n → t < n → (Vo s).ownBlock = some g → (Vo t).ownBlock = some g → s = t
  jf : ∀ s t g, s < n → t < n → (Vf s).ownBlock = some g → (Vf t).ownBlock = some g → s = t
  bo : B ≤ ob
  bf : B ≤ fb
def up {α : Type} (f : Nat → α) (i : Nat) (v : α) : Nat → α := fun j => if j = i then v else f j
theorem up_same {α : Type} (f : Nat → α) (i : Nat) (v : α) : up f i v i = v := by simp [up]
theorem up_ne {α : Type} (f : Nat → α) {i j : Nat} (v : α) (h : j ≠ i) : up f i v j = f j := by simp [up, h]
theorem range_up {α : Type} (f : Nat → α) (n i : Nat) (v : α) : ((List.range n).map f).set i v = (List.range n).map (up f i v) := by
  refine List.ext_getElem (by simp) fun j h1 h2 => ?_
  rw [List.getElem_set]
  simp only [List.getElem_map, List.getElem_range]
  by_cases e : i = j
  · rw [if_pos e, e, up_same]
  · rw [if_neg e, up_ne _ _ (fun e2 => e e2.symm)]
section
variable {B ob fb n : Nat} {Vo Vf : Nat → Value} {Es : Nat → List Ed} {Fs : Nat → List Int} {w w' : World}
theorem Nb.olt (h : Nb B ob fb n Vo Vf Es Fs w) : ob < w.heap.size := (Array.getElem?_eq_some_iff.1 h.orow).1
theorem Nb.flt (h : Nb B ob fb n Vo Vf Es Fs w) : fb < w.heap.size := (Array.getElem?_eq_some_iff.1 h.frow).1
theorem Nb.keep (h : Nb B ob fb n Vo Vf Es Fs w) (hk : ∀ g, (g = ob ∨ g = fb ∨ (∃ s, s < n ∧ (Vo s).ownBlock = some g) ∨ ∃ s, s < n ∧ (Vf s).ownBlock = some g) → w'.heap[g]? = w.heap[g]?) : Nb B ob fb n Vo Vf Es Fs w' :=
  ⟨(hk ob (.inl rfl)).trans h.orow, (hk fb (.inr (.inl rfl))).trans h.frow, fun s hs => ow.keep (h.oo s hs) fun g e => hk g (.inr (.inr (.inl ⟨s, hs, e⟩))), fun s hs => ow.keep (h.ff s hs) fun g e => hk g (.inr (.inr (.inr ⟨s, hs, e⟩))), h.io, h.jf, h.bo, h.bf⟩
theorem Nb.lt (h : Nb B ob fb n Vo Vf Es Fs w) {g : Nat} (hg : g = ob ∨ g = fb ∨ (∃ s, s < n ∧ (Vo s).ownBlock = some g) ∨ ∃ s, s < n ∧ (Vf s).ownBlock = some g) : B ≤ g ∧ g < w.heap.size := by
  rcases hg with rfl | rfl | ⟨s, hs, e⟩ | ⟨s, hs, e⟩
  · exact ⟨h.bo, h.olt⟩
  · exact ⟨h.bf, h.flt⟩
  · exact ow.lt (h.oo s hs) e
  · exact ow.lt (h.ff s hs) e
theorem Nb.later (h : Nb B ob fb n Vo Vf Es Fs w) (b : Below w.heap.size w w') : Nb B ob fb n Vo Vf Es Fs w' := h.keep fun g hg => b.block g (h.lt hg).2
/-- no block of type t, other than these four, is touched by them -/
theorem Nb.apart (h : Nb B ob fb n Vo Vf Es Fs w) {g : Nat} {cs : Array Value} {t : TypeId} {fr : Nat × Nat} (hg : w.heap[g]? = some (.cells cs t fr)) (ht : t ≠ 50 ∧ t ≠ 39 ∧ t ≠ 105 ∧ t ≠ 3) : ¬ (g = ob ∨ g = fb ∨ (∃ s, s < n ∧ (Vo s).ownBlock = some g) ∨ ∃ s, s < n ∧ (Vf s).ownBlock = some g) := by
  rintro (rfl | rfl | ⟨s, hs, e⟩ | ⟨s, hs, e⟩)
  · have := h.orow; rw [hg] at this; cases this; exact ht.1 rfl
  · have := h.frow; rw [hg] at this; cases this; exact ht.2.1 rfl
  · exact ow.type (h.oo s hs) hg ht.2.2.1 e.symm
  · exact ow.type (h.ff s hs) hg ht.2.2.2 e.symm
theorem Nb.putF (h : Nb B ob fb n Vo Vf Es Fs w) {s : Nat} (hs : s < n) {t : Int} {g' k' cap' : Nat} (hk : k' = (Fs s).length + 1) (ho : Owns w' B (.slice (some ⟨g', 0, none⟩) k' cap') (Fs s ++ [t])) (hg : w.grownBy w' (Vf s).ownBlock) (hw : some g' = (Vf s).ownBlock ∨ w.heap.size ≤ g') :
    Nb B ob fb n Vo (up Vf s (.slice (some ⟨g', 0, none⟩) k' cap')) Es (up Fs s (Fs s ++ [t])) (w'.setCell ⟨fb, s, none⟩ (.slice (some ⟨g', 0, none⟩) k' cap')) := by
  have n1 : some ob ≠ (Vf s).ownBlock := ow.type (h.ff s hs) h.orow (by decide)
  have n2 : some fb ≠ (Vf s).ownBlock := ow.type (h.ff s hs) h.frow (by decide)
  have o1 := (hg.block ob h.olt n1).trans h.orow
  have f1 := (hg.block fb h.flt n2).trans h.frow
  have hne : ob ≠ fb := fun e => by have a := h.orow; have b := h.frow; rw [e, b] at a; injection a with a; injection a with _ a; exact absurd a (by decide)
  have hh : ∀ j, j ≠ fb → (w'.setCell ⟨fb, s, none⟩ (.slice (some ⟨g', 0, none⟩) k' cap')).heap[j]? = w'.heap[j]? := fun j hj => Below.heap_setCell _ _ _ j hj
  refine ⟨(hh ob hne).trans o1, ?_, fun u hu => ?_, fun u hu => ?_, h.io, ?_, h.bo, h.bf⟩
  · rw [nf.set_heap _ _ _ _ s _ f1, List.setIfInBounds_toArray, range_up]
  · have a1 := ow.keep (W' := w') (h.oo u hu) fun g e => hg.block g (ow.lt (h.oo u hu) e).2 (own_ne (h.oo u hu) (h.ff s hs) (by decide) g e)
    exact ow.keep a1 fun g e => hh g (fun e2 => ow.type a1 f1 (by decide) (by rw [← e2]; exact e.symm))
  · by_cases e : u = s
    · subst e
      rw [up_same, up_same]
      refine ow.keep ?_ fun g e => hh g (fun e2 => ow.type ho f1 (by decide) (by rw [← e2]; exact e.symm))
      exact ho
    · rw [up_ne _ _ e, up_ne _ _ e]
      have a1 := ow.keep (W' := w') (h.ff u hu) fun g e3 => hg.block g (ow.lt (h.ff u hu) e3).2 (fun e4 => e (h.jf u s g hu hs e3 e4.symm))
      exact ow.keep a1 fun g e3 => hh g (fun e2 => ow.type a1 f1 (by decide) (by rw [← e2]; exact e3.symm))
  · intro u v g hu hv e1 e2
    by_cases a : u = s
    · by_cases b : v = s
      · rw [a, b]
      · rw [a, up_same] at e1
        rw [up_ne _ _ b] at e2
        exfalso
        exact new_ne hw (ow.lt (h.ff v hv) e2).2 (fun e3 => b (h.jf v s g hv hs e2 e3.symm)) e1.symm
    · by_cases b : v = s
      · rw [b, up_same] at e2
        rw [up_ne _ _ a] at e1
        exfalso
        exact new_ne hw (ow.lt (h.ff u hu) e1).2 (fun e3 => a (h.jf u s g hu hs e1 e3.symm)) e2.symm
      · rw [up_ne _ _ a] at e1
        rw [up_ne _ _ b] at e2
        exact h.jf u v g hu hv e1 e2
theorem Nb.putO (h : Nb B ob fb n Vo Vf Es Fs w) {s : Nat} (hs : s < n) {y : Ed} {g' k' cap' : Nat} (hk : k' = (Es s).length + 1) (ho : w'.ownsRow B 105 7 (.slice (some ⟨g', 0, none⟩) k' cap') k' (c7 (Es s) ++ e7 y)) (hg : w.grownBy w' (Vo s).ownBlock) (hw : some g' = (Vo s).ownBlock ∨ w.heap.size ≤ g') :
    Nb B ob fb n (up Vo s (.slice (some ⟨g', 0, none⟩) k' cap')) Vf (up Es s (Es s ++ [y])) Fs (w'.setCell ⟨ob, s, none⟩ (.slice (some ⟨g', 0, none⟩) k' cap')) := by
  have n1 : some ob ≠ (Vo s).ownBlock := ow.type (h.oo s hs) h.orow (by decide)
  have n2 : some fb ≠ (Vo s).ownBlock := ow.type (h.oo s hs) h.frow (by decide)
  have o1 := (hg.block ob h.olt n1).trans h.orow
  have f1 := (hg.block fb h.flt n2).trans h.frow
  have hne : ob ≠ fb := fun e => by have a := h.orow; have b := h.frow; rw [e, b] at a; injection a with a; injection a with _ a; exact absurd a (by decide)
  have hh : ∀ j, j ≠ ob → (w'.setCell ⟨ob, s, none⟩ (.slice (some ⟨g', 0, none⟩) k' cap')).heap[j]? = w'.heap[j]? := fun j hj => Below.heap_setCell _ _ _ j hj
  refine ⟨?_, (hh fb (Ne.symm hne)).trans f1, fun u hu => ?_, fun u hu => ?_, ?_, h.jf, h.bo, h.bf⟩
  · rw [nf.set_heap _ _ _ _ s _ o1, List.setIfInBounds_toArray, range_up]
  · by_cases e : u = s
    · subst e
      subst hk
      rw [up_same, up_same, c7_snoc, List.length_append]
      exact ow.keep ho fun g e => hh g (fun e2 => ow.type ho o1 (by decide) (by rw [← e2]; exact e.symm))
    · rw [up_ne _ _ e, up_ne _ _ e]
      have a1 := ow.keep (W' := w') (h.oo u hu) fun g e3 => hg.block g (ow.lt (h.oo u hu) e3).2 (fun e4 => e (h.io u s g hu hs e3 e4.symm))
      exact ow.keep a1 fun g e3 => hh g (fun e2 => ow.type a1 o1 (by decide) (by rw [← e2]; exact e3.symm))
  · have a1 := ow.keep (W' := w') (h.ff u hu) fun g e => hg.block g (ow.lt (h.ff u hu) e).2 (own_ne (h.ff u hu) (h.oo s hs) (by decide) g e)
    exact ow.keep a1 fun g e => hh g (fun e2 => ow.type a1 o1 (by decide) (by rw [← e2]; exact e.symm))
  · intro u v g hu hv e1 e2
    by_cases a : u = s
    · by_cases b : v = s
      · rw [a, b]
      · rw [a, up_same] at e1
        rw [up_ne _ _ b] at e2
        exfalso
        exact new_ne hw (ow.lt (h.oo v hv) e2).2 (fun e3 => b (h.io v s g hv hs e2 e3.symm)) e1.symm
    · by_cases b : v = s
      · rw [b, up_same] at e2
        rw [up_ne _ _ a] at e1
        exfalso
        exact new_ne hw (ow.lt (h.oo u hu) e1).2 (fun e3 => a (h.io u s g hu hs e1 e3.symm)) e2.symm
      · rw [up_ne _ _ a] at e1
        rw [up_ne _ _ b] at e2
        exact h.io u v g hu hv e1 e2
end
end Go.Proofs.Ytkdkibnjfgcppaa.bd

namespace Go.Proofs.Ytkdkibnjfgcppaa.bd
open Go.Sort Go.ChangeShapes Go.WideShapes Go.ChangeAt Go.RowKit Go.Maps
open df (Kp Row iv In IntsV Owns)
open nf (Nfa Ed Rt EdAt Eds nfaV)
open st (Q4 none4 Fits has nth jn sig Blk)
set_option linter.unusedVariables false
set_option maxRecDepth 10000

theorem f77_1 (b : Nat) (w : World) : (Instr.fieldAt 77 (.pointer (some ⟨b, 0, none⟩)) 1).run Try.prog w = .ok (.pointer (some ⟨b, 4, none⟩)) w := by go_simp
theorem f77_2 (b : Nat) (w : World) : (Instr.fieldAt 77 (.pointer (some ⟨b, 0, none⟩)) 2).run Try.prog w = .ok (.pointer (some ⟨b, 5, none⟩)) w := by go_simp
theorem f62_0 (b : Nat) (w : World) : (Instr.fieldAt 105 (.pointer (some ⟨b, 0, none⟩)) 0).run Try.prog w = .ok (.pointer (some ⟨b, 0, none⟩)) w := by go_simp
theorem f24_0 (b : Nat) (w : World) : (Instr.fieldAt 52 (.pointer (some ⟨b, 0, none⟩)) 0).run Try.prog w = .ok (.pointer (some ⟨b, 0, none⟩)) w := by go_simp
theorem info105 : (Try.prog.info? 105).map (fun i => (i.zero, i.size, i.bytes)) = some (some (.agg #[.int .i64 0, .int .i64 0, .bool false, .int .u64 0, .int .u64 0, .int .u64 0, .int .u64 0]), 7, 56) := by kernel_rfl
theorem info50 : (Try.prog.info? 50).map (fun i => (i.zero, i.size, i.bytes)) = some (some (.slice none 0 0), 1, 24) := by kernel_rfl
theorem EBox.c0 {w : World} {p : Nat} {e : Ed} (h : EBox w p e) : w.cell? ⟨p, 0, none⟩ = some (.int .i64 e.fr) := by rw [Lib.cell_of_heap h]; rfl
section
variable {o : Oper} {a : Act} {w : World}
theorem x_load34 {x : Operand} {p : Addr} {v : Value} (h : o.op = .load 23 x) (hx : a.eval x = .pointer (some p)) (hc : w.cell? p = some v) : (execOp a.eval o).run Try.prog w = .ok (.value v) w := by
  unfold execOp; rw [h]; simp only [hx]; go_simp
theorem x_load73 {x : Operand} {p : Addr} {v : Value} (h : o.op = .load 74 x) (hx : a.eval x = .pointer (some p)) (hc : w.cell? p = some v) : (execOp a.eval o).run Try.prog w = .ok (.value v) w := by
  unfold execOp; rw [h]; simp only [hx]; go_simp
theorem x_load25 {x : Operand} {p : Addr} {v : Value} (h : o.op = .load 39 x) (hx : a.eval x = .pointer (some p)) (hc : w.cell? p = some v) : (execOp a.eval o).run Try.prog w = .ok (.value v) w := by
  unfold execOp; rw [h]; simp only [hx]; go_simp
theorem x_load22 {x : Operand} {p : Addr} {v : Value} (h : o.op = .load 50 x) (hx : a.eval x = .pointer (some p)) (hc : w.cell? p = some v) : (execOp a.eval o).run Try.prog w = .ok (.value v) w := by
  unfold execOp; rw [h]; simp only [hx]; go_simp
theorem x_index23 {x y : Operand} {b n cap i : Nat} (h : o.op = .indexAddr 23 x y) (hx : a.eval x = .slice (some ⟨b, 0, none⟩) n cap) (hy : a.eval y = .int .i64 (i : Int)) (hi : i < n) : (execOp a.eval o).run Try.prog w = .ok (.value (.pointer (some ⟨b, i, none⟩))) w := by
  unfold execOp; rw [h]
  obtain ⟨i0, hi0, hz0, hz1, hz2⟩ := info_parts info39
  have hs : (sizeOf 39).run Try.prog w = .ok 1 w := by simp [sizeOf, typeInfo, hi0, hz1, Sem.run_bind]
  have hb : (0 : Int) ≤ (i : Int) ∧ (i : Int) < (n : Int) := by omega
  simp only [Instr.indexAt, hx, hy, asIntOf, Sem.run_bind, Sem.run_pure, Result.andThen_ok, run_underlying Try.underlying23, hb, and_self, if_true, hs, Int.toNat_natCast, Addr.add_mid, Nat.zero_add, Nat.mul_one]
theorem x_index74 {x y : Operand} {b n cap i : Nat} (h : o.op = .indexAddr 74 x y) (hx : a.eval x = .slice (some ⟨b, 0, none⟩) n cap) (hy : a.eval y = .int .i64 (i : Int)) (hi : i < n) : (execOp a.eval o).run Try.prog w = .ok (.value (.pointer (some ⟨b, i, none⟩))) w := by
  unfold execOp; rw [h]
  obtain ⟨i0, hi0, hz0, hz1, hz2⟩ := info_parts info50
  have hs : (sizeOf 50).run Try.prog w = .ok 1 w := by simp [sizeOf, typeInfo, hi0, hz1, Sem.run_bind]
  have hb : (0 : Int) ≤ (i : Int) ∧ (i : Int) < (n : Int) := by omega
  simp only [Instr.indexAt, hx, hy, asIntOf, Sem.run_bind, Sem.run_pure, Result.andThen_ok, run_underlying Try.underlying74, hb, and_self, if_true, hs, Int.toNat_natCast, Addr.add_mid, Nat.zero_add, Nat.mul_one]
theorem x_store25 {x y : Operand} {p : Addr} {u : Value} {g : Option Addr} {n cap : Nat} (h : o.op = .store 39 x y) (hx : a.eval x = .pointer (some p)) (hy : a.eval y = .slice g n cap) (hc : w.cell? p = some u) (hf : w.frozen? p = false) : (execOp a.eval o).run Try.prog w = .ok .skip (w.setCell p (.slice g n cap)) := by
  unfold execOp; rw [h]; simp only [hx, hy]; go_simp
theorem x_store22 {x y : Operand} {p : Addr} {u : Value} {g : Option Addr} {n cap : Nat} (h : o.op = .store 50 x y) (hx : a.eval x = .pointer (some p)) (hy : a.eval y = .slice g n cap) (hc : w.cell? p = some u) (hf : w.frozen? p = false) : (execOp a.eval o).run Try.prog w = .ok .skip (w.setCell p (.slice g n cap)) := by
  unfold execOp; rw [h]; simp only [hx, hy]; go_simp
theorem x_load62 {x : Operand} {p : Nat} {e : Ed} (h : o.op = .load 105 x) (hx : a.eval x = .pointer (some ⟨p, 0, none⟩)) (hb : EBox w p e) : (execOp a.eval o).run Try.prog w = .ok (.value (nf.edV e)) w := by
  have hr : w.rangeAt p 0 (e7 e) := by
    intro j v hv
    rw [Nat.zero_add, Lib.cell_of_heap hb]
    show (e7 e).toArray[j]? = some v
    rw [List.getElem?_toArray]
    exact hv
  unfold execOp; rw [h]
  simp only [hx, Sem.run_bind, run_loadAt_mid (P := Try.prog) w p 0 105 _ _ hr Try.underlying105 rfl (by kernel_rfl), Result.andThen_ok, Sem.run_pure]
  rfl
theorem x_build22 {x : Operand} {e : Ed} (h : o.op = .buildSlice 50 1 #[(0, x)]) (hx : a.eval x = nf.edV e) : (execOp a.eval o).run Try.prog w = .ok (.value (.slice (some ⟨w.heap.size, 0, none⟩) 1 1)) (w.alloc (.cells (e7 e).toArray 105)) := by
  unfold execOp; rw [h]; simp only [List.map_toArray, List.map, hx]; go_simp; rfl
end
theorem new7 (W : World) (e : Ed) : ∀ j u, (e7 e)[j]? = some u → (W.alloc (.cells (e7 e).toArray 105)).cell? ((⟨W.heap.size, 0, none⟩ : Addr).add j) = some u := fun j u hu => by
  have ad : ((⟨W.heap.size, 0, none⟩ : Addr).add j) = ⟨W.heap.size, j, none⟩ := by unfold Addr.add; simp; omega
  rw [ad, Lib.cell_of_heap (World.alloc_heap_new W _), List.getElem?_toArray]
  exact hu
theorem one7 (e : Ed) : ∀ u ∈ e7 e, u.oneCell' = true := fun u hu => by
  simp only [e7, List.mem_cons, List.not_mem_nil, or_false] at hu
  rcases hu with rfl | rfl | rfl | rfl | rfl | rfl | rfl <;> rfl
theorem Nb.fc {B ob fb n : Nat} {Vo Vf : Nat → Value} {Es : Nat → List Ed} {Fs : Nat → List Int} {w : World} (h : Nb B ob fb n Vo Vf Es Fs w) {s : Nat} (hs : s < n) : w.cell? ⟨fb, s, none⟩ = some (Vf s) := by
  rw [Lib.cell_of_heap h.frow, List.getElem?_toArray]; simp [hs]
theorem Nb.oc {B ob fb n : Nat} {Vo Vf : Nat → Value} {Es : Nat → List Ed} {Fs : Nat → List Int} {w : World} (h : Nb B ob fb n Vo Vf Es Fs w) {s : Nat} (hs : s < n) : w.cell? ⟨ob, s, none⟩ = some (Vo s) := by
  rw [Lib.cell_of_heap h.orow, List.getElem?_toArray]; simp [hs]
def ops41_8 : Array Oper := #[
  { dst := some 36, op := Op.move (Operand.tmp 3), type := 72, pos := "build.go:45", after := #[], guard := none },
  { dst := some 37, op := Op.nilCheck (Operand.tmp 36), type := 0, pos := "build.go:45", after := #[{ on := 0, ground := Ground.data }], guard := none },
  { dst := some 38, op := Op.fieldAddr 77 (Operand.tmp 37) 2, type := 0, pos := "build.go:45", after := #[{ on := 1, ground := Ground.data }], guard := none },
  { dst := some 39, op := Op.load 23 (Operand.tmp 38), type := 23, pos := "build.go:45", after := #[{ on := 2, ground := Ground.data }], guard := none },
  { dst := some 40, op := Op.fieldAddr 105 (Operand.tmp 6) 0, type := 0, pos := "build.go:45", after := #[], guard := none },
  { dst := some 41, op := Op.load 3 (Operand.tmp 40), type := 3, pos := "build.go:45", after := #[{ on := 4, ground := Ground.data }], guard := none },
  { dst := some 42, op := Op.move (Operand.tmp 3), type := 72, pos := "build.go:45", after := #[], guard := none },
  { dst := some 43, op := Op.nilCheck (Operand.tmp 42), type := 0, pos := "build.go:45", after := #[{ on := 6, ground := Ground.data }], guard := none },
  { dst := some 44, op := Op.fieldAddr 77 (Operand.tmp 43) 2, type := 0, pos := "build.go:45", after := #[{ on := 7, ground := Ground.data }], guard := none },
  { dst := some 45, op := Op.load 23 (Operand.tmp 44), type := 23, pos := "build.go:45", after := #[{ on := 8, ground := Ground.data }], guard := none },
  { dst := some 46, op := Op.fieldAddr 105 (Operand.tmp 6) 0, type := 0, pos := "build.go:45", after := #[], guard := none },
  { dst := some 47, op := Op.load 3 (Operand.tmp 46), type := 3, pos := "build.go:45", after := #[{ on := 10, ground := Ground.data }], guard := none },
  { dst := some 48, op := Op.indexAddr 23 (Operand.tmp 45) (Operand.tmp 47), type := 0, pos := "build.go:45", after := #[{ on := 9, ground := Ground.data }, { on := 11, ground := Ground.data }], guard := none },
  { dst := some 49, op := Op.load 39 (Operand.tmp 48), type := 39, pos := "build.go:45", after := #[{ on := 12, ground := Ground.data }], guard := none },
  { dst := some 50, op := Op.fieldAddr 105 (Operand.tmp 6) 1, type := 0, pos := "build.go:45", after := #[], guard := none },
  { dst := some 51, op := Op.load 3 (Operand.tmp 50), type := 3, pos := "build.go:45", after := #[{ on := 14, ground := Ground.data }], guard := none },
  { dst := some 52, op := Op.buildSlice 39 1 #[(0, Operand.tmp 51)], type := 39, pos := "build.go:45", after := #[{ on := 15, ground := Ground.data }], guard := none },
  { dst := some 53, op := Op.call { callee := Callee.builtin Builtin.append, args := #[Operand.tmp 49, Operand.tmp 52], argTypes := #[39, 39] }, type := 39, pos := "build.go:45", after := #[{ on := 13, ground := Ground.data }, { on := 16, ground := Ground.data }], guard := none },
  { dst := some 54, op := Op.indexAddr 23 (Operand.tmp 39) (Operand.tmp 41), type := 0, pos := "build.go:45", after := #[{ on := 3, ground := Ground.data }, { on := 5, ground := Ground.data }, { on := 0, ground := Ground.phase }, { on := 1, ground := Ground.phase }, { on := 2, ground := Ground.phase }, { on := 3, ground := Ground.phase }, { on := 4, ground := Ground.phase }, { on := 5, ground := Ground.phase }, { on := 6, ground := Ground.phase }, { on := 7, ground := Ground.phase }, { on := 8, ground := Ground.phase }, { on := 9, ground := Ground.phase }, { on := 10, ground := Ground.phase }, { on := 11, ground := Ground.phase }, { on := 12, ground := Ground.phase }, { on := 13, ground := Ground.phase }, { on := 14, ground := Ground.phase }, { on := 15, ground := Ground.phase }, { on := 16, ground := Ground.phase }, { on := 17, ground := Ground.phase }], guard := none },
  { dst := none, op := Op.store 39 (Operand.tmp 54) (Operand.tmp 53), type := 0, pos := "build.go:45", after := #[{ on := 18, ground := Ground.data }, { on := 17, ground := Ground.data }, { on := 17, ground := Ground.chain }, { on := 0, ground := Ground.phase }, { on := 1, ground := Ground.phase }, { on := 2, ground := Ground.phase }, { on := 3, ground := Ground.phase }, { on := 4, ground := Ground.phase }, { on := 5, ground := Ground.phase }, { on := 6, ground := Ground.phase }, { on := 7, ground := Ground.phase }, { on := 8, ground := Ground.phase }, { on := 9, ground := Ground.phase }, { on := 10, ground := Ground.phase }, { on := 11, ground := Ground.phase }, { on := 12, ground := Ground.phase }, { on := 13, ground := Ground.phase }, { on := 14, ground := Ground.phase }, { on := 15, ground := Ground.phase }, { on := 16, ground := Ground.phase }, { on := 17, ground := Ground.phase }], guard := none }]
structure C41F where
  b : Nat
  r : Nat
  n : Nat
  s : Nat
  p : Nat
  y : Ed
  v : Value
def C41F.fix (c : C41F) (i : Nat) : Option Value := [some (.pointer (some ⟨c.b, 0, none⟩)), some (.pointer (some ⟨c.b, 0, none⟩)), some (.pointer (some ⟨c.b, 5, none⟩)), some (.slice (some ⟨c.r, 0, none⟩) c.n c.n), some (.pointer (some ⟨c.p, 0, none⟩)), some (.int .i64 (c.s : Int)), some (.pointer (some ⟨c.b, 0, none⟩)), some (.pointer (some ⟨c.b, 0, none⟩)), some (.pointer (some ⟨c.b, 5, none⟩)), some (.slice (some ⟨c.r, 0, none⟩) c.n c.n), some (.pointer (some ⟨c.p, 0, none⟩)), some (.int .i64 (c.s : Int)), some (.pointer (some ⟨c.r, c.s, none⟩)), some c.v, some (.pointer (some ⟨c.p, 1, none⟩)), some (.int .i64 c.y.to), none, none, some (.pointer (some ⟨c.r, c.s, none⟩)), none].getD i none
structure W41F (W : World) (B k : Nat) (xs : List Value) (c : C41F) (d : Nat → Prop) (vals : Nat → Value) (w : World) : Prop where
  be : ¬ d 17 → Below W.heap.size W w
  el : d 16 → ¬ d 17 → ∃ g, vals 16 = .slice (some ⟨g, 0, none⟩) 1 1 ∧ g < w.heap.size ∧ ∀ j u, [.int .i64 c.y.to][j]? = some u → w.cell? ((⟨g, 0, none⟩ : Addr).add j) = some u
  ap : d 17 → ¬ d 19 → ∃ g cap w1, vals 17 = .slice (some ⟨g, 0, none⟩) (k + 1) cap ∧ Below W.heap.size W w1 ∧ w.ownsRow B 3 1 (.slice (some ⟨g, 0, none⟩) (k + 1) cap) (k + 1) (xs ++ [.int .i64 c.y.to]) ∧ w1.grownBy w c.v.ownBlock ∧ (some g = c.v.ownBlock ∨ w1.heap.size ≤ g)
  fin : d 19 → ∃ g cap w1 w2, Below W.heap.size W w1 ∧ w2.ownsRow B 3 1 (.slice (some ⟨g, 0, none⟩) (k + 1) cap) (k + 1) (xs ++ [.int .i64 c.y.to]) ∧ w1.grownBy w2 c.v.ownBlock ∧ (some g = c.v.ownBlock ∨ w1.heap.size ≤ g) ∧ w = w2.setCell ⟨c.r, c.s, none⟩ (.slice (some ⟨g, 0, none⟩) (k + 1) cap)
theorem W41F.plain {W : World} {B k : Nat} {xs : List Value} {c : C41F} {d : Nat → Prop} {vals : Nat → Value} {w : World} (q : W41F W B k xs c d vals w) {i : Nat} (h1 : i ≠ 16) (h2 : i ≠ 17) (h3 : i ≠ 19) (v : Value) : W41F W B k xs c (fun j => j = i ∨ d j) (dw.upd vals i v) w :=
  ⟨fun a => q.be fun b => a (.inr b), fun a b => by
    rw [dw.upd_ne _ _ (Ne.symm h1)]
    exact q.el (a.resolve_left (fun e => h1 e.symm)) fun x => b (.inr x), fun a b => by
    rw [dw.upd_ne _ _ (Ne.symm h2)]
    exact q.ap (a.resolve_left (fun e => h2 e.symm)) fun x => b (.inr x), fun a => q.fin (a.resolve_left (fun e => h3 e.symm))⟩
theorem needF_9 (d : Nat → Prop) (hcl : ∀ k j, d k → dw.need ops41_8 k j = true → d j) (x : d 17) : d 9 := hcl 12 9 (hcl 13 12 (hcl 17 13 x (by kernel_rfl)) (by kernel_rfl)) (by kernel_rfl)
theorem needF_11 (d : Nat → Prop) (hcl : ∀ k j, d k → dw.need ops41_8 k j = true → d j) (x : d 17) : d 11 := hcl 12 11 (hcl 13 12 (hcl 17 13 x (by kernel_rfl)) (by kernel_rfl)) (by kernel_rfl)
theorem needF_13 (d : Nat → Prop) (hcl : ∀ k j, d k → dw.need ops41_8 k j = true → d j) (x : d 17) : d 13 := hcl 17 13 x (by kernel_rfl)
theorem needF_15 (d : Nat → Prop) (hcl : ∀ k j, d k → dw.need ops41_8 k j = true → d j) (x : d 17) : d 15 := hcl 16 15 (hcl 17 16 x (by kernel_rfl)) (by kernel_rfl)
set_option maxHeartbeats 1000000 in
theorem reg41_8 {Q : Exit → Act → World → Prop} {a0 : Act} {id : Nat} (hsz : a0.tmps.size = 118) (c : C41F) (e3 : a0.eval (.tmp 3) = .pointer (some ⟨c.b, 0, none⟩)) (e6 : a0.eval (.tmp 6) = .pointer (some ⟨c.p, 0, none⟩)) {W : World} {B kk : Nat} {xs : List Value} (hB : B ≤ W.heap.size) (hlen : kk ≤ 1000000) (hs : c.s < c.n) (hfr : c.y.fr = (c.s : Int)) (hE : EBox W c.p c.y)
    (hE2 : ∀ w1 w, Below W.heap.size W w1 → w1.grownBy w c.v.ownBlock → EBox w c.p c.y)
    (hc : ∀ w, Below W.heap.size W w → w.cell? ⟨c.b, 5, none⟩ = some (.slice (some ⟨c.r, 0, none⟩) c.n c.n))
    (hc2 : ∀ w1 w, Below W.heap.size W w1 → w1.grownBy w c.v.ownBlock → w.cell? ⟨c.b, 5, none⟩ = some (.slice (some ⟨c.r, 0, none⟩) c.n c.n))
    (hr : ∀ w, Below W.heap.size W w → w.cell? ⟨c.r, c.s, none⟩ = some c.v)
    (hown : ∀ w, Below W.heap.size W w → w.ownsRow B 3 1 c.v kk xs)
    (hst : ∀ w1 w, Below W.heap.size W w1 → w1.grownBy w c.v.ownBlock → w.cell? ⟨c.r, c.s, none⟩ = some c.v ∧ w.frozen? ⟨c.r, c.s, none⟩ = false)
    (fin : ∀ vals g cap w1 w2, Below W.heap.size W w1 → w2.ownsRow B 3 1 (.slice (some ⟨g, 0, none⟩) (kk + 1) cap) (kk + 1) (xs ++ [.int .i64 c.y.to]) → w1.grownBy w2 c.v.ownBlock → (some g = c.v.ownBlock ∨ w1.heap.size ≤ g) → Q .normal (dw.fold ops41_8.toList 0 vals a0) (w2.setCell ⟨c.r, c.s, none⟩ (.slice (some ⟨g, 0, none⟩) (kk + 1) cap))) : (Code.region id ops41_8 true).wp Try.prog Q a0 W := by
  refine dw.region (by kernel_rfl) (by rw [hsz]; kernel_rfl) c.fix (W41F W B kk xs c) (fun vals => ⟨fun _ => below_drew W, fun x => x.elim, fun x => x.elim, fun x => x.elim⟩) ?_ ?_
  · intro i hi
    match i, hi with
    | 0, _ => intro d vals a w o ho hn hd hdl hcl hf hx hw K Q' E hk; exact dw.s_val (dw.gd_of ho rfl) ((dw.x_move (dw.op_of ho rfl)).trans (by rw [((hf.base 3 fun i hi => (by decide +kernel : ∀ i, i < ops41_8.size → dw.slot ops41_8 i ≠ some 3) i (hdl i hi)).trans e3)])) (hk _ w (fun u hu => by cases hu; rfl) (hw.plain (by decide) (by decide) (by decide) _))
    | 1, _ => intro d vals a w o ho hn hd hdl hcl hf hx hw K Q' E hk; exact dw.s_val (dw.gd_of ho rfl) (dw.x_nil (dw.op_of ho rfl) ((hf.eval 0 (hd 0 (by kernel_rfl)) (t := 36) rfl).trans (hx 0 (hd 0 (by kernel_rfl)) _ rfl))) (hk _ w (fun u hu => by cases hu; rfl) (hw.plain (by decide) (by decide) (by decide) _))
    | 2, _ => intro d vals a w o ho hn hd hdl hcl hf hx hw K Q' E hk; exact dw.s_val (dw.gd_of ho rfl) (dw.x_field (dw.op_of ho rfl) ((hf.eval 1 (hd 1 (by kernel_rfl)) (t := 37) rfl).trans (hx 1 (hd 1 (by kernel_rfl)) _ rfl)) (f77_2 _ _)) (hk _ w (fun u hu => by cases hu; rfl) (hw.plain (by decide) (by decide) (by decide) _))
    | 3, _ =>
        intro d vals a w o ho hn hd hdl hcl hf hx hw K Q' E hk
        have nS : ¬ d 19 := fun x => hn (hcl 18 3 (hcl 19 18 x (by kernel_rfl)) (by kernel_rfl))
        have hq : w.cell? ⟨c.b, 5, none⟩ = some (.slice (some ⟨c.r, 0, none⟩) c.n c.n) := by
          by_cases dA : d 17
          · obtain ⟨g, cap, w1, e, hb, ho1, hg1, hw1⟩ := hw.ap dA nS
            exact hc2 w1 w hb hg1
          · have hb := hw.be dA
            exact hc w hb
        exact dw.s_val (dw.gd_of ho rfl) (x_load34 (dw.op_of ho rfl) ((hf.eval 2 (hd 2 (by kernel_rfl)) (t := 38) rfl).trans (hx 2 (hd 2 (by kernel_rfl)) _ rfl)) hq) (hk _ w (fun u hu => by cases hu; rfl) (hw.plain (by decide) (by decide) (by decide) _))
    | 4, _ => intro d vals a w o ho hn hd hdl hcl hf hx hw K Q' E hk; exact dw.s_val (dw.gd_of ho rfl) (dw.x_field (dw.op_of ho rfl) ((hf.base 6 fun i hi => (by decide +kernel : ∀ i, i < ops41_8.size → dw.slot ops41_8 i ≠ some 6) i (hdl i hi)).trans e6) (f62_0 _ _)) (hk _ w (fun u hu => by cases hu; rfl) (hw.plain (by decide) (by decide) (by decide) _))
    | 5, _ =>
        intro d vals a w o ho hn hd hdl hcl hf hx hw K Q' E hk
        have nS : ¬ d 19 := fun x => hn (hcl 18 5 (hcl 19 18 x (by kernel_rfl)) (by kernel_rfl))
        have hq : w.cell? ⟨c.p, 0, none⟩ = some (.int .i64 (c.s : Int)) := by
          by_cases dA : d 17
          · obtain ⟨g, cap, w1, e, hb, ho1, hg1, hw1⟩ := hw.ap dA nS
            exact (hE2 w1 w hb hg1).c0.trans (by rw [hfr])
          · have hb := hw.be dA
            exact (hE.later hb).c0.trans (by rw [hfr])
        exact dw.s_val (dw.gd_of ho rfl) (x_load3 (dw.op_of ho rfl) ((hf.eval 4 (hd 4 (by kernel_rfl)) (t := 40) rfl).trans (hx 4 (hd 4 (by kernel_rfl)) _ rfl)) hq) (hk _ w (fun u hu => by cases hu; rfl) (hw.plain (by decide) (by decide) (by decide) _))
    | 6, _ => intro d vals a w o ho hn hd hdl hcl hf hx hw K Q' E hk; exact dw.s_val (dw.gd_of ho rfl) ((dw.x_move (dw.op_of ho rfl)).trans (by rw [((hf.base 3 fun i hi => (by decide +kernel : ∀ i, i < ops41_8.size → dw.slot ops41_8 i ≠ some 3) i (hdl i hi)).trans e3)])) (hk _ w (fun u hu => by cases hu; rfl) (hw.plain (by decide) (by decide) (by decide) _))
    | 7, _ => intro d vals a w o ho hn hd hdl hcl hf hx hw K Q' E hk; exact dw.s_val (dw.gd_of ho rfl) (dw.x_nil (dw.op_of ho rfl) ((hf.eval 6 (hd 6 (by kernel_rfl)) (t := 42) rfl).trans (hx 6 (hd 6 (by kernel_rfl)) _ rfl))) (hk _ w (fun u hu => by cases hu; rfl) (hw.plain (by decide) (by decide) (by decide) _))
    | 8, _ => intro d vals a w o ho hn hd hdl hcl hf hx hw K Q' E hk; exact dw.s_val (dw.gd_of ho rfl) (dw.x_field (dw.op_of ho rfl) ((hf.eval 7 (hd 7 (by kernel_rfl)) (t := 43) rfl).trans (hx 7 (hd 7 (by kernel_rfl)) _ rfl)) (f77_2 _ _)) (hk _ w (fun u hu => by cases hu; rfl) (hw.plain (by decide) (by decide) (by decide) _))
    | 9, _ => intro d vals a w o ho hn hd hdl hcl hf hx hw K Q' E hk; have nA : ¬ d 17 := fun x => hn (needF_9 d hcl x); have hb := hw.be nA; exact dw.s_val (dw.gd_of ho rfl) (x_load34 (dw.op_of ho rfl) ((hf.eval 8 (hd 8 (by kernel_rfl)) (t := 44) rfl).trans (hx 8 (hd 8 (by kernel_rfl)) _ rfl)) (hc w hb)) (hk _ w (fun u hu => by cases hu; rfl) (hw.plain (by decide) (by decide) (by decide) _))
    | 10, _ => intro d vals a w o ho hn hd hdl hcl hf hx hw K Q' E hk; exact dw.s_val (dw.gd_of ho rfl) (dw.x_field (dw.op_of ho rfl) ((hf.base 6 fun i hi => (by decide +kernel : ∀ i, i < ops41_8.size → dw.slot ops41_8 i ≠ some 6) i (hdl i hi)).trans e6) (f62_0 _ _)) (hk _ w (fun u hu => by cases hu; rfl) (hw.plain (by decide) (by decide) (by decide) _))
    | 11, _ => intro d vals a w o ho hn hd hdl hcl hf hx hw K Q' E hk; have nA : ¬ d 17 := fun x => hn (needF_11 d hcl x); have hb := hw.be nA; exact dw.s_val (dw.gd_of ho rfl) (x_load3 (dw.op_of ho rfl) ((hf.eval 10 (hd 10 (by kernel_rfl)) (t := 46) rfl).trans (hx 10 (hd 10 (by kernel_rfl)) _ rfl)) ((hE.later hb).c0.trans (by rw [hfr]))) (hk _ w (fun u hu => by cases hu; rfl) (hw.plain (by decide) (by decide) (by decide) _))
    | 12, _ => intro d vals a w o ho hn hd hdl hcl hf hx hw K Q' E hk; exact dw.s_val (dw.gd_of ho rfl) (x_index23 (dw.op_of ho rfl) ((hf.eval 9 (hd 9 (by kernel_rfl)) (t := 45) rfl).trans (hx 9 (hd 9 (by kernel_rfl)) _ rfl)) ((hf.eval 11 (hd 11 (by kernel_rfl)) (t := 47) rfl).trans (hx 11 (hd 11 (by kernel_rfl)) _ rfl)) hs) (hk _ w (fun u hu => by cases hu; rfl) (hw.plain (by decide) (by decide) (by decide) _))
    | 13, _ => intro d vals a w o ho hn hd hdl hcl hf hx hw K Q' E hk; have nA : ¬ d 17 := fun x => hn (needF_13 d hcl x); have hb := hw.be nA; exact dw.s_val (dw.gd_of ho rfl) (x_load25 (dw.op_of ho rfl) ((hf.eval 12 (hd 12 (by kernel_rfl)) (t := 48) rfl).trans (hx 12 (hd 12 (by kernel_rfl)) _ rfl)) (hr w hb)) (hk _ w (fun u hu => by cases hu; rfl) (hw.plain (by decide) (by decide) (by decide) _))
    | 14, _ => intro d vals a w o ho hn hd hdl hcl hf hx hw K Q' E hk; exact dw.s_val (dw.gd_of ho rfl) (dw.x_field (dw.op_of ho rfl) ((hf.base 6 fun i hi => (by decide +kernel : ∀ i, i < ops41_8.size → dw.slot ops41_8 i ≠ some 6) i (hdl i hi)).trans e6) (f62_1 _ _)) (hk _ w (fun u hu => by cases hu; rfl) (hw.plain (by decide) (by decide) (by decide) _))
    | 15, _ => intro d vals a w o ho hn hd hdl hcl hf hx hw K Q' E hk; have nA : ¬ d 17 := fun x => hn (needF_15 d hcl x); have hb := hw.be nA; exact dw.s_val (dw.gd_of ho rfl) (x_load3 (dw.op_of ho rfl) ((hf.eval 14 (hd 14 (by kernel_rfl)) (t := 50) rfl).trans (hx 14 (hd 14 (by kernel_rfl)) _ rfl)) (hE.later hb).c1) (hk _ w (fun u hu => by cases hu; rfl) (hw.plain (by decide) (by decide) (by decide) _))
    | 16, _ =>
        intro d vals a w o ho hn hd hdl hcl hf hx hw K Q' E hk
        have nA : ¬ d 17 := fun x => hn (hcl 17 16 x (by kernel_rfl))
        have nS : ¬ d 19 := fun x => nA (hcl 19 17 x (by kernel_rfl))
        have hb := hw.be nA
        exact dw.s_val (dw.gd_of ho rfl) (x_build25 (dw.op_of ho rfl) ((hf.eval 15 (hd 15 (by kernel_rfl)) (t := 51) rfl).trans (hx 15 (hd 15 (by kernel_rfl)) _ rfl))) (hk _ _ (fun u hu => by cases hu) ⟨fun _ => hb.alloc hb.size _, fun _ _ => ⟨w.heap.size, by rw [dw.upd_same], by simp, (ow.new1 w _ _)⟩, fun x => absurd (x.resolve_left (by decide)) nA, fun x => absurd (x.resolve_left (by decide)) nS⟩)
    | 17, _ =>
        intro d vals a w o ho hn hd hdl hcl hf hx hw K Q' E hk
        have nS : ¬ d 19 := fun x => hn (hcl 19 17 x (by kernel_rfl))
        have hb := hw.be hn
        obtain ⟨g, e, hg, hh⟩ := hw.el (hd 16 (by kernel_rfl)) hn
        have v13 := ((hf.eval 13 (hd 13 (by kernel_rfl)) (t := 49) rfl).trans (hx 13 (hd 13 (by kernel_rfl)) _ rfl))
        have vb := (hf.eval 16 (hd 16 (by kernel_rfl)) (t := 52) rfl).trans e
        refine ow.step_append (dw.gd_of ho rfl) (.tmp 49) (.tmp 52) 39 (dw.op_of ho rfl) 3 (.int .i64 0) 1 8 Try.underlying39 df.info3 rfl (by decide) (by decide) B c.v kk xs g [.int .i64 c.y.to] v13 vb (hown w hb) rfl hh (ow.one1 _ rfl) hlen (Nat.le_trans hB hb.size) ?_
        intro g8 cap8 w8 hown8 hgr8 hw8
        exact hk _ _ (fun u hu => by cases hu) ⟨fun x => absurd (.inl rfl) x, fun _ x => absurd (.inl rfl) x, fun _ _ => ⟨g8, cap8, w, by rw [dw.upd_same], hb, hown8, hgr8, hw8⟩, fun x => absurd (x.resolve_left (by decide)) nS⟩
    | 18, _ => intro d vals a w o ho hn hd hdl hcl hf hx hw K Q' E hk; exact dw.s_val (dw.gd_of ho rfl) (x_index23 (dw.op_of ho rfl) ((hf.eval 3 (hd 3 (by kernel_rfl)) (t := 39) rfl).trans (hx 3 (hd 3 (by kernel_rfl)) _ rfl)) ((hf.eval 5 (hd 5 (by kernel_rfl)) (t := 41) rfl).trans (hx 5 (hd 5 (by kernel_rfl)) _ rfl)) hs) (hk _ w (fun u hu => by cases hu; rfl) (hw.plain (by decide) (by decide) (by decide) _))
    | 19, _ =>
        intro d vals a w o ho hn hd hdl hcl hf hx hw K Q' E hk
        obtain ⟨g, cap, w1, e, hb, ho1, hg1, hw1⟩ := hw.ap (hd 17 (by kernel_rfl)) hn
        have vx := ((hf.eval 18 (hd 18 (by kernel_rfl)) (t := 54) rfl).trans (hx 18 (hd 18 (by kernel_rfl)) _ rfl))
        have va := (hf.eval 17 (hd 17 (by kernel_rfl)) (t := 53) rfl).trans e
        obtain ⟨c1, z1⟩ := hst w1 w hb hg1
        exact dw.s_skip (dw.gd_of ho rfl) (x_store25 (dw.op_of ho rfl) vx va c1 z1) (hk _ _ (fun u hu => by cases hu) ⟨fun x => absurd (.inr (hd 17 (by kernel_rfl))) x, fun _ x => absurd (.inr (hd 17 (by kernel_rfl))) x, fun _ x => absurd (.inl rfl) x, fun _ => ⟨g, cap, w1, w, hb, ho1, hg1, hw1, rfl⟩⟩)
    | i + 20, hi => exact absurd hi (by simp [ops41_8])
  · intro vals w hx hw
    obtain ⟨g, cap, w1, w2, hb, ho, hg, hn, rfl⟩ := hw.fin (by decide)
    exact fin vals g cap w1 w2 hb ho hg hn
theorem fold41_8 (vals : Nat → Value) (a : Act) : dw.fold ops41_8.toList 0 vals a = (((((((((((((((((((a.put (some 36) (vals 0)).put (some 37) (vals 1)).put (some 38) (vals 2)).put (some 39) (vals 3)).put (some 40) (vals 4)).put (some 41) (vals 5)).put (some 42) (vals 6)).put (some 43) (vals 7)).put (some 44) (vals 8)).put (some 45) (vals 9)).put (some 46) (vals 10)).put (some 47) (vals 11)).put (some 48) (vals 12)).put (some 49) (vals 13)).put (some 50) (vals 14)).put (some 51) (vals 15)).put (some 52) (vals 16)).put (some 53) (vals 17)).put (some 54) (vals 18)) := by
  unfold ops41_8
  simp only [dw.fold, dw.put_none, Nat.zero_add, Nat.reduceAdd]
def ops41_9 : Array Oper := #[
  { dst := some 55, op := Op.move (Operand.tmp 3), type := 72, pos := "build.go:47", after := #[], guard := none },
  { dst := some 56, op := Op.nilCheck (Operand.tmp 55), type := 0, pos := "build.go:47", after := #[{ on := 0, ground := Ground.data }], guard := none },
  { dst := some 57, op := Op.fieldAddr 77 (Operand.tmp 56) 1, type := 0, pos := "build.go:47", after := #[{ on := 1, ground := Ground.data }], guard := none },
  { dst := some 58, op := Op.load 74 (Operand.tmp 57), type := 74, pos := "build.go:47", after := #[{ on := 2, ground := Ground.data }], guard := none },
  { dst := some 59, op := Op.fieldAddr 105 (Operand.tmp 6) 0, type := 0, pos := "build.go:47", after := #[], guard := none },
  { dst := some 60, op := Op.load 3 (Operand.tmp 59), type := 3, pos := "build.go:47", after := #[{ on := 4, ground := Ground.data }], guard := none },
  { dst := some 61, op := Op.move (Operand.tmp 3), type := 72, pos := "build.go:47", after := #[], guard := none },
  { dst := some 62, op := Op.nilCheck (Operand.tmp 61), type := 0, pos := "build.go:47", after := #[{ on := 6, ground := Ground.data }], guard := none },
  { dst := some 63, op := Op.fieldAddr 77 (Operand.tmp 62) 1, type := 0, pos := "build.go:47", after := #[{ on := 7, ground := Ground.data }], guard := none },
  { dst := some 64, op := Op.load 74 (Operand.tmp 63), type := 74, pos := "build.go:47", after := #[{ on := 8, ground := Ground.data }], guard := none },
  { dst := some 65, op := Op.fieldAddr 105 (Operand.tmp 6) 0, type := 0, pos := "build.go:47", after := #[], guard := none },
  { dst := some 66, op := Op.load 3 (Operand.tmp 65), type := 3, pos := "build.go:47", after := #[{ on := 10, ground := Ground.data }], guard := none },
  { dst := some 67, op := Op.indexAddr 74 (Operand.tmp 64) (Operand.tmp 66), type := 0, pos := "build.go:47", after := #[{ on := 9, ground := Ground.data }, { on := 11, ground := Ground.data }], guard := none },
  { dst := some 68, op := Op.load 50 (Operand.tmp 67), type := 50, pos := "build.go:47", after := #[{ on := 12, ground := Ground.data }], guard := none },
  { dst := some 69, op := Op.load 105 (Operand.tmp 6), type := 105, pos := "build.go:47", after := #[], guard := none },
  { dst := some 70, op := Op.buildSlice 50 1 #[(0, Operand.tmp 69)], type := 50, pos := "build.go:47", after := #[{ on := 14, ground := Ground.data }], guard := none },
  { dst := some 71, op := Op.call { callee := Callee.builtin Builtin.append, args := #[Operand.tmp 68, Operand.tmp 70], argTypes := #[50, 50] }, type := 50, pos := "build.go:47", after := #[{ on := 13, ground := Ground.data }, { on := 15, ground := Ground.data }], guard := none },
  { dst := some 72, op := Op.indexAddr 74 (Operand.tmp 58) (Operand.tmp 60), type := 0, pos := "build.go:47", after := #[{ on := 3, ground := Ground.data }, { on := 5, ground := Ground.data }, { on := 0, ground := Ground.phase }, { on := 1, ground := Ground.phase }, { on := 2, ground := Ground.phase }, { on := 3, ground := Ground.phase }, { on := 4, ground := Ground.phase }, { on := 5, ground := Ground.phase }, { on := 6, ground := Ground.phase }, { on := 7, ground := Ground.phase }, { on := 8, ground := Ground.phase }, { on := 9, ground := Ground.phase }, { on := 10, ground := Ground.phase }, { on := 11, ground := Ground.phase }, { on := 12, ground := Ground.phase }, { on := 13, ground := Ground.phase }, { on := 14, ground := Ground.phase }, { on := 15, ground := Ground.phase }, { on := 16, ground := Ground.phase }], guard := none },
  { dst := none, op := Op.store 50 (Operand.tmp 72) (Operand.tmp 71), type := 0, pos := "build.go:47", after := #[{ on := 17, ground := Ground.data }, { on := 16, ground := Ground.data }, { on := 16, ground := Ground.chain }, { on := 0, ground := Ground.phase }, { on := 1, ground := Ground.phase }, { on := 2, ground := Ground.phase }, { on := 3, ground := Ground.phase }, { on := 4, ground := Ground.phase }, { on := 5, ground := Ground.phase }, { on := 6, ground := Ground.phase }, { on := 7, ground := Ground.phase }, { on := 8, ground := Ground.phase }, { on := 9, ground := Ground.phase }, { on := 10, ground := Ground.phase }, { on := 11, ground := Ground.phase }, { on := 12, ground := Ground.phase }, { on := 13, ground := Ground.phase }, { on := 14, ground := Ground.phase }, { on := 15, ground := Ground.phase }, { on := 16, ground := Ground.phase }], guard := none }]
structure C41O where
  b : Nat
  r : Nat
  n : Nat
  s : Nat
  p : Nat
  y : Ed
  v : Value
def C41O.fix (c : C41O) (i : Nat) : Option Value := [some (.pointer (some ⟨c.b, 0, none⟩)), some (.pointer (some ⟨c.b, 0, none⟩)), some (.pointer (some ⟨c.b, 4, none⟩)), some (.slice (some ⟨c.r, 0, none⟩) c.n c.n), some (.pointer (some ⟨c.p, 0, none⟩)), some (.int .i64 (c.s : Int)), some (.pointer (some ⟨c.b, 0, none⟩)), some (.pointer (some ⟨c.b, 0, none⟩)), some (.pointer (some ⟨c.b, 4, none⟩)), some (.slice (some ⟨c.r, 0, none⟩) c.n c.n), some (.pointer (some ⟨c.p, 0, none⟩)), some (.int .i64 (c.s : Int)), some (.pointer (some ⟨c.r, c.s, none⟩)), some c.v, some (nf.edV c.y), none, none, some (.pointer (some ⟨c.r, c.s, none⟩)), none].getD i none
structure W41O (W : World) (B k : Nat) (xs : List Value) (c : C41O) (d : Nat → Prop) (vals : Nat → Value) (w : World) : Prop where
  be : ¬ d 16 → Below W.heap.size W w
  el : d 15 → ¬ d 16 → ∃ g, vals 15 = .slice (some ⟨g, 0, none⟩) 1 1 ∧ g < w.heap.size ∧ ∀ j u, (e7 c.y)[j]? = some u → w.cell? ((⟨g, 0, none⟩ : Addr).add j) = some u
  ap : d 16 → ¬ d 18 → ∃ g cap w1, vals 16 = .slice (some ⟨g, 0, none⟩) (k + 1) cap ∧ Below W.heap.size W w1 ∧ w.ownsRow B 105 7 (.slice (some ⟨g, 0, none⟩) (k + 1) cap) (k + 1) (xs ++ (e7 c.y)) ∧ w1.grownBy w c.v.ownBlock ∧ (some g = c.v.ownBlock ∨ w1.heap.size ≤ g)
  fin : d 18 → ∃ g cap w1 w2, Below W.heap.size W w1 ∧ w2.ownsRow B 105 7 (.slice (some ⟨g, 0, none⟩) (k + 1) cap) (k + 1) (xs ++ (e7 c.y)) ∧ w1.grownBy w2 c.v.ownBlock ∧ (some g = c.v.ownBlock ∨ w1.heap.size ≤ g) ∧ w = w2.setCell ⟨c.r, c.s, none⟩ (.slice (some ⟨g, 0, none⟩) (k + 1) cap)
theorem W41O.plain {W : World} {B k : Nat} {xs : List Value} {c : C41O} {d : Nat → Prop} {vals : Nat → Value} {w : World} (q : W41O W B k xs c d vals w) {i : Nat} (h1 : i ≠ 15) (h2 : i ≠ 16) (h3 : i ≠ 18) (v : Value) : W41O W B k xs c (fun j => j = i ∨ d j) (dw.upd vals i v) w :=
  ⟨fun a => q.be fun b => a (.inr b), fun a b => by
    rw [dw.upd_ne _ _ (Ne.symm h1)]
    exact q.el (a.resolve_left (fun e => h1 e.symm)) fun x => b (.inr x), fun a b => by
    rw [dw.upd_ne _ _ (Ne.symm h2)]
    exact q.ap (a.resolve_left (fun e => h2 e.symm)) fun x => b (.inr x), fun a => q.fin (a.resolve_left (fun e => h3 e.symm))⟩
theorem needO_9 (d : Nat → Prop) (hcl : ∀ k j, d k → dw.need ops41_9 k j = true → d j) (x : d 16) : d 9 := hcl 12 9 (hcl 13 12 (hcl 16 13 x (by kernel_rfl)) (by kernel_rfl)) (by kernel_rfl)
theorem needO_11 (d : Nat → Prop) (hcl : ∀ k j, d k → dw.need ops41_9 k j = true → d j) (x : d 16) : d 11 := hcl 12 11 (hcl 13 12 (hcl 16 13 x (by kernel_rfl)) (by kernel_rfl)) (by kernel_rfl)
theorem needO_13 (d : Nat → Prop) (hcl : ∀ k j, d k → dw.need ops41_9 k j = true → d j) (x : d 16) : d 13 := hcl 16 13 x (by kernel_rfl)
theorem needO_14 (d : Nat → Prop) (hcl : ∀ k j, d k → dw.need ops41_9 k j = true → d j) (x : d 16) : d 14 := hcl 15 14 (hcl 16 15 x (by kernel_rfl)) (by kernel_rfl)
set_option maxHeartbeats 1000000 in
theorem reg41_9 {Q : Exit → Act → World → Prop} {a0 : Act} {id : Nat} (hsz : a0.tmps.size = 118) (c : C41O) (e3 : a0.eval (.tmp 3) = .pointer (some ⟨c.b, 0, none⟩)) (e6 : a0.eval (.tmp 6) = .pointer (some ⟨c.p, 0, none⟩)) {W : World} {B kk : Nat} {xs : List Value} (hB : B ≤ W.heap.size) (hlen : kk ≤ 1000000) (hs : c.s < c.n) (hfr : c.y.fr = (c.s : Int)) (hE : EBox W c.p c.y)
    (hE2 : ∀ w1 w, Below W.heap.size W w1 → w1.grownBy w c.v.ownBlock → EBox w c.p c.y)
    (hc : ∀ w, Below W.heap.size W w → w.cell? ⟨c.b, 4, none⟩ = some (.slice (some ⟨c.r, 0, none⟩) c.n c.n))
    (hc2 : ∀ w1 w, Below W.heap.size W w1 → w1.grownBy w c.v.ownBlock → w.cell? ⟨c.b, 4, none⟩ = some (.slice (some ⟨c.r, 0, none⟩) c.n c.n))
    (hr : ∀ w, Below W.heap.size W w → w.cell? ⟨c.r, c.s, none⟩ = some c.v)
    (hown : ∀ w, Below W.heap.size W w → w.ownsRow B 105 7 c.v kk xs)
    (hst : ∀ w1 w, Below W.heap.size W w1 → w1.grownBy w c.v.ownBlock → w.cell? ⟨c.r, c.s, none⟩ = some c.v ∧ w.frozen? ⟨c.r, c.s, none⟩ = false)
    (fin : ∀ vals g cap w1 w2, Below W.heap.size W w1 → w2.ownsRow B 105 7 (.slice (some ⟨g, 0, none⟩) (kk + 1) cap) (kk + 1) (xs ++ (e7 c.y)) → w1.grownBy w2 c.v.ownBlock → (some g = c.v.ownBlock ∨ w1.heap.size ≤ g) → Q .normal (dw.fold ops41_9.toList 0 vals a0) (w2.setCell ⟨c.r, c.s, none⟩ (.slice (some ⟨g, 0, none⟩) (kk + 1) cap))) : (Code.region id ops41_9 true).wp Try.prog Q a0 W := by
  refine dw.region (by kernel_rfl) (by rw [hsz]; kernel_rfl) c.fix (W41O W B kk xs c) (fun vals => ⟨fun _ => below_drew W, fun x => x.elim, fun x => x.elim, fun x => x.elim⟩) ?_ ?_
  · intro i hi
    match i, hi with
    | 0, _ => intro d vals a w o ho hn hd hdl hcl hf hx hw K Q' E hk; exact dw.s_val (dw.gd_of ho rfl) ((dw.x_move (dw.op_of ho rfl)).trans (by rw [((hf.base 3 fun i hi => (by decide +kernel : ∀ i, i < ops41_9.size → dw.slot ops41_9 i ≠ some 3) i (hdl i hi)).trans e3)])) (hk _ w (fun u hu => by cases hu; rfl) (hw.plain (by decide) (by decide) (by decide) _))
    | 1, _ => intro d vals a w o ho hn hd hdl hcl hf hx hw K Q' E hk; exact dw.s_val (dw.gd_of ho rfl) (dw.x_nil (dw.op_of ho rfl) ((hf.eval 0 (hd 0 (by kernel_rfl)) (t := 55) rfl).trans (hx 0 (hd 0 (by kernel_rfl)) _ rfl))) (hk _ w (fun u hu => by cases hu; rfl) (hw.plain (by decide) (by decide) (by decide) _))
    | 2, _ => intro d vals a w o ho hn hd hdl hcl hf hx hw K Q' E hk; exact dw.s_val (dw.gd_of ho rfl) (dw.x_field (dw.op_of ho rfl) ((hf.eval 1 (hd 1 (by kernel_rfl)) (t := 56) rfl).trans (hx 1 (hd 1 (by kernel_rfl)) _ rfl)) (f77_1 _ _)) (hk _ w (fun u hu => by cases hu; rfl) (hw.plain (by decide) (by decide) (by decide) _))
    | 3, _ =>
        intro d vals a w o ho hn hd hdl hcl hf hx hw K Q' E hk
        have nS : ¬ d 18 := fun x => hn (hcl 17 3 (hcl 18 17 x (by kernel_rfl)) (by kernel_rfl))
        have hq : w.cell? ⟨c.b, 4, none⟩ = some (.slice (some ⟨c.r, 0, none⟩) c.n c.n) := by
          by_cases dA : d 16
          · obtain ⟨g, cap, w1, e, hb, ho1, hg1, hw1⟩ := hw.ap dA nS
            exact hc2 w1 w hb hg1
          · have hb := hw.be dA
            exact hc w hb
        exact dw.s_val (dw.gd_of ho rfl) (x_load73 (dw.op_of ho rfl) ((hf.eval 2 (hd 2 (by kernel_rfl)) (t := 57) rfl).trans (hx 2 (hd 2 (by kernel_rfl)) _ rfl)) hq) (hk _ w (fun u hu => by cases hu; rfl) (hw.plain (by decide) (by decide) (by decide) _))
    | 4, _ => intro d vals a w o ho hn hd hdl hcl hf hx hw K Q' E hk; exact dw.s_val (dw.gd_of ho rfl) (dw.x_field (dw.op_of ho rfl) ((hf.base 6 fun i hi => (by decide +kernel : ∀ i, i < ops41_9.size → dw.slot ops41_9 i ≠ some 6) i (hdl i hi)).trans e6) (f62_0 _ _)) (hk _ w (fun u hu => by cases hu; rfl) (hw.plain (by decide) (by decide) (by decide) _))
    | 5, _ =>
        intro d vals a w o ho hn hd hdl hcl hf hx hw K Q' E hk
        have nS : ¬ d 18 := fun x => hn (hcl 17 5 (hcl 18 17 x (by kernel_rfl)) (by kernel_rfl))
        have hq : w.cell? ⟨c.p, 0, none⟩ = some (.int .i64 (c.s : Int)) := by
          by_cases dA : d 16
          · obtain ⟨g, cap, w1, e, hb, ho1, hg1, hw1⟩ := hw.ap dA nS
            exact (hE2 w1 w hb hg1).c0.trans (by rw [hfr])
          · have hb := hw.be dA
            exact (hE.later hb).c0.trans (by rw [hfr])
        exact dw.s_val (dw.gd_of ho rfl) (x_load3 (dw.op_of ho rfl) ((hf.eval 4 (hd 4 (by kernel_rfl)) (t := 59) rfl).trans (hx 4 (hd 4 (by kernel_rfl)) _ rfl)) hq) (hk _ w (fun u hu => by cases hu; rfl) (hw.plain (by decide) (by decide) (by decide) _))
    | 6, _ => intro d vals a w o ho hn hd hdl hcl hf hx hw K Q' E hk; exact dw.s_val (dw.gd_of ho rfl) ((dw.x_move (dw.op_of ho rfl)).trans (by rw [((hf.base 3 fun i hi => (by decide +kernel : ∀ i, i < ops41_9.size → dw.slot ops41_9 i ≠ some 3) i (hdl i hi)).trans e3)])) (hk _ w (fun u hu => by cases hu; rfl) (hw.plain (by decide) (by decide) (by decide) _))
    | 7, _ => intro d vals a w o ho hn hd hdl hcl hf hx hw K Q' E hk; exact dw.s_val (dw.gd_of ho rfl) (dw.x_nil (dw.op_of ho rfl) ((hf.eval 6 (hd 6 (by kernel_rfl)) (t := 61) rfl).trans (hx 6 (hd 6 (by kernel_rfl)) _ rfl))) (hk _ w (fun u hu => by cases hu; rfl) (hw.plain (by decide) (by decide) (by decide) _))
    | 8, _ => intro d vals a w o ho hn hd hdl hcl hf hx hw K Q' E hk; exact dw.s_val (dw.gd_of ho rfl) (dw.x_field (dw.op_of ho rfl) ((hf.eval 7 (hd 7 (by kernel_rfl)) (t := 62) rfl).trans (hx 7 (hd 7 (by kernel_rfl)) _ rfl)) (f77_1 _ _)) (hk _ w (fun u hu => by cases hu; rfl) (hw.plain (by decide) (by decide) (by decide) _))
    | 9, _ => intro d vals a w o ho hn hd hdl hcl hf hx hw K Q' E hk; have nA : ¬ d 16 := fun x => hn (needO_9 d hcl x); have hb := hw.be nA; exact dw.s_val (dw.gd_of ho rfl) (x_load73 (dw.op_of ho rfl) ((hf.eval 8 (hd 8 (by kernel_rfl)) (t := 63) rfl).trans (hx 8 (hd 8 (by kernel_rfl)) _ rfl)) (hc w hb)) (hk _ w (fun u hu => by cases hu; rfl) (hw.plain (by decide) (by decide) (by decide) _))
    | 10, _ => intro d vals a w o ho hn hd hdl hcl hf hx hw K Q' E hk; exact dw.s_val (dw.gd_of ho rfl) (dw.x_field (dw.op_of ho rfl) ((hf.base 6 fun i hi => (by decide +kernel : ∀ i, i < ops41_9.size → dw.slot ops41_9 i ≠ some 6) i (hdl i hi)).trans e6) (f62_0 _ _)) (hk _ w (fun u hu => by cases hu; rfl) (hw.plain (by decide) (by decide) (by decide) _))
    | 11, _ => intro d vals a w o ho hn hd hdl hcl hf hx hw K Q' E hk; have nA : ¬ d 16 := fun x => hn (needO_11 d hcl x); have hb := hw.be nA; exact dw.s_val (dw.gd_of ho rfl) (x_load3 (dw.op_of ho rfl) ((hf.eval 10 (hd 10 (by kernel_rfl)) (t := 65) rfl).trans (hx 10 (hd 10 (by kernel_rfl)) _ rfl)) ((hE.later hb).c0.trans (by rw [hfr]))) (hk _ w (fun u hu => by cases hu; rfl) (hw.plain (by decide) (by decide) (by decide) _))
    | 12, _ => intro d vals a w o ho hn hd hdl hcl hf hx hw K Q' E hk; exact dw.s_val (dw.gd_of ho rfl) (x_index74 (dw.op_of ho rfl) ((hf.eval 9 (hd 9 (by kernel_rfl)) (t := 64) rfl).trans (hx 9 (hd 9 (by kernel_rfl)) _ rfl)) ((hf.eval 11 (hd 11 (by kernel_rfl)) (t := 66) rfl).trans (hx 11 (hd 11 (by kernel_rfl)) _ rfl)) hs) (hk _ w (fun u hu => by cases hu; rfl) (hw.plain (by decide) (by decide) (by decide) _))
    | 13, _ => intro d vals a w o ho hn hd hdl hcl hf hx hw K Q' E hk; have nA : ¬ d 16 := fun x => hn (needO_13 d hcl x); have hb := hw.be nA; exact dw.s_val (dw.gd_of ho rfl) (x_load22 (dw.op_of ho rfl) ((hf.eval 12 (hd 12 (by kernel_rfl)) (t := 67) rfl).trans (hx 12 (hd 12 (by kernel_rfl)) _ rfl)) (hr w hb)) (hk _ w (fun u hu => by cases hu; rfl) (hw.plain (by decide) (by decide) (by decide) _))
    | 14, _ => intro d vals a w o ho hn hd hdl hcl hf hx hw K Q' E hk; have nA : ¬ d 16 := fun x => hn (needO_14 d hcl x); have hb := hw.be nA; exact dw.s_val (dw.gd_of ho rfl) (x_load62 (dw.op_of ho rfl) ((hf.base 6 fun i hi => (by decide +kernel : ∀ i, i < ops41_9.size → dw.slot ops41_9 i ≠ some 6) i (hdl i hi)).trans e6) (hE.later hb)) (hk _ w (fun u hu => by cases hu; rfl) (hw.plain (by decide) (by decide) (by decide) _))
    | 15, _ =>
        intro d vals a w o ho hn hd hdl hcl hf hx hw K Q' E hk
        have nA : ¬ d 16 := fun x => hn (hcl 16 15 x (by kernel_rfl))
        have nS : ¬ d 18 := fun x => nA (hcl 18 16 x (by kernel_rfl))
        have hb := hw.be nA
        exact dw.s_val (dw.gd_of ho rfl) (x_build22 (dw.op_of ho rfl) ((hf.eval 14 (hd 14 (by kernel_rfl)) (t := 69) rfl).trans (hx 14 (hd 14 (by kernel_rfl)) _ rfl))) (hk _ _ (fun u hu => by cases hu) ⟨fun _ => hb.alloc hb.size _, fun _ _ => ⟨w.heap.size, by rw [dw.upd_same], by simp, (new7 w c.y)⟩, fun x => absurd (x.resolve_left (by decide)) nA, fun x => absurd (x.resolve_left (by decide)) nS⟩)
    | 16, _ =>
        intro d vals a w o ho hn hd hdl hcl hf hx hw K Q' E hk
        have nS : ¬ d 18 := fun x => hn (hcl 18 16 x (by kernel_rfl))
        have hb := hw.be hn
        obtain ⟨g, e, hg, hh⟩ := hw.el (hd 15 (by kernel_rfl)) hn
        have v13 := ((hf.eval 13 (hd 13 (by kernel_rfl)) (t := 68) rfl).trans (hx 13 (hd 13 (by kernel_rfl)) _ rfl))
        have vb := (hf.eval 15 (hd 15 (by kernel_rfl)) (t := 70) rfl).trans e
        refine ow.step_append (dw.gd_of ho rfl) (.tmp 68) (.tmp 70) 50 (dw.op_of ho rfl) 105 (.agg #[.int .i64 0, .int .i64 0, .bool false, .int .u64 0, .int .u64 0, .int .u64 0, .int .u64 0]) 7 56 Try.underlying50 info105 rfl (by decide) (by decide) B c.v kk xs g (e7 c.y) v13 vb (hown w hb) rfl hh (one7 c.y) hlen (Nat.le_trans hB hb.size) ?_
        intro g8 cap8 w8 hown8 hgr8 hw8
        exact hk _ _ (fun u hu => by cases hu) ⟨fun x => absurd (.inl rfl) x, fun _ x => absurd (.inl rfl) x, fun _ _ => ⟨g8, cap8, w, by rw [dw.upd_same], hb, hown8, hgr8, hw8⟩, fun x => absurd (x.resolve_left (by decide)) nS⟩
    | 17, _ => intro d vals a w o ho hn hd hdl hcl hf hx hw K Q' E hk; exact dw.s_val (dw.gd_of ho rfl) (x_index74 (dw.op_of ho rfl) ((hf.eval 3 (hd 3 (by kernel_rfl)) (t := 58) rfl).trans (hx 3 (hd 3 (by kernel_rfl)) _ rfl)) ((hf.eval 5 (hd 5 (by kernel_rfl)) (t := 60) rfl).trans (hx 5 (hd 5 (by kernel_rfl)) _ rfl)) hs) (hk _ w (fun u hu => by cases hu; rfl) (hw.plain (by decide) (by decide) (by decide) _))
    | 18, _ =>
        intro d vals a w o ho hn hd hdl hcl hf hx hw K Q' E hk
        obtain ⟨g, cap, w1, e, hb, ho1, hg1, hw1⟩ := hw.ap (hd 16 (by kernel_rfl)) hn
        have vx := ((hf.eval 17 (hd 17 (by kernel_rfl)) (t := 72) rfl).trans (hx 17 (hd 17 (by kernel_rfl)) _ rfl))
        have va := (hf.eval 16 (hd 16 (by kernel_rfl)) (t := 71) rfl).trans e
        obtain ⟨c1, z1⟩ := hst w1 w hb hg1
        exact dw.s_skip (dw.gd_of ho rfl) (x_store22 (dw.op_of ho rfl) vx va c1 z1) (hk _ _ (fun u hu => by cases hu) ⟨fun x => absurd (.inr (hd 16 (by kernel_rfl))) x, fun _ x => absurd (.inr (hd 16 (by kernel_rfl))) x, fun _ x => absurd (.inl rfl) x, fun _ => ⟨g, cap, w1, w, hb, ho1, hg1, hw1, rfl⟩⟩)
    | i + 19, hi => exact absurd hi (by simp [ops41_9])
  · intro vals w hx hw
    obtain ⟨g, cap, w1, w2, hb, ho, hg, hn, rfl⟩ := hw.fin (by decide)
    exact fin vals g cap w1 w2 hb ho hg hn
theorem fold41_9 (vals : Nat → Value) (a : Act) : dw.fold ops41_9.toList 0 vals a = ((((((((((((((((((a.put (some 55) (vals 0)).put (some 56) (vals 1)).put (some 57) (vals 2)).put (some 58) (vals 3)).put (some 59) (vals 4)).put (some 60) (vals 5)).put (some 61) (vals 6)).put (some 62) (vals 7)).put (some 63) (vals 8)).put (some 64) (vals 9)).put (some 65) (vals 10)).put (some 66) (vals 11)).put (some 67) (vals 12)).put (some 68) (vals 13)).put (some 69) (vals 14)).put (some 70) (vals 15)).put (some 71) (vals 16)).put (some 72) (vals 17)) := by
  unfold ops41_9
  simp only [dw.fold, dw.put_none, Nat.zero_add, Nat.reduceAdd]
end Go.Proofs.Ytkdkibnjfgcppaa.bd

namespace Go.Proofs.Ytkdkibnjfgcppaa.bd
open Go.Sort Go.ChangeShapes Go.WideShapes Go.ChangeAt Go.RowKit Go.Maps
open df (Kp Row iv In IntsV Owns)
open nf (Nfa Ed Rt EdAt Eds nfaV)
open st (Q4 none4 Fits has nth jn sig Blk)
set_option linter.unusedVariables false
set_option maxRecDepth 10000

theorem nils_made (n : Nat) : madeCells #[.slice none 0 0] n = ((List.range n).map fun _ => Value.slice none 0 0).toArray := by
  apply Array.toList_inj.1
  rw [toList_madeCells_one]
  refine List.ext_getElem (by simp) fun i h1 h2 => ?_
  simp
theorem make74 (n : Nat) (hn : n ≤ 1000000) (W : World) : (Instr.makeSlice 74 (.int .i64 (n : Int)) (.int .i64 (n : Int))).run Try.prog W = .ok (.slice (some ⟨W.heap.size, 0, none⟩) n n) (W.alloc (.cells ((List.range n).map fun _ => Value.slice none 0 0).toArray 50)) := by
  rw [← nils_made]
  exact run_make_row' (P := Try.prog) 74 50 (.slice none 0 0) 24 Try.underlying74 info50 rfl .i64 .i64 n (by omega) (by omega) W
theorem make23 (n : Nat) (hn : n ≤ 1000000) (W : World) : (Instr.makeSlice 23 (.int .i64 (n : Int)) (.int .i64 (n : Int))).run Try.prog W = .ok (.slice (some ⟨W.heap.size, 0, none⟩) n n) (W.alloc (.cells ((List.range n).map fun _ => Value.slice none 0 0).toArray 39)) := by
  rw [← nils_made]
  exact run_make_row' (P := Try.prog) 23 39 (.slice none 0 0) 24 Try.underlying23 info39 rfl .i64 .i64 n (by omega) (by omega) W
/-- a builder as it is first laid -/
def hd0 (n s e : Int) (eo : Option Addr) (em ec k ob fb : Nat) : Hd := ⟨n, s, e, eo, em, ec, .slice (some ⟨ob, 0, none⟩) k k, .slice (some ⟨fb, 0, none⟩) k k, .slice none 0 0, List.replicate 256 (.int .u8 0)⟩
def cells0 (n s e : Int) (eo : Option Addr) (em ec k ob fb : Nat) : List Value := (hd0 n s e eo em ec k ob fb).cells (.slice none 0 0) (.map none) (.slice none 0 0) (.slice none 0 0)
theorem built77 (n s e : Int) (eo : Option Addr) (em ec k ob fb : Nat) : Try.prog.built 77 [(0, nfaV n s e eo em ec), (1, .slice (some ⟨ob, 0, none⟩) k k), (2, .slice (some ⟨fb, 0, none⟩) k k)] = some (cells0 n s e eo em ec k ob fb).toArray := by kernel_rfl
section
variable {o : Oper} {a : Act} {w : World}
theorem x_make73 {x y : Operand} {n : Nat} (h : o.op = .makeSlice 74 x y) (hx : a.eval x = .int .i64 (n : Int)) (hy : a.eval y = .int .i64 (n : Int)) (hn : n ≤ 1000000) : (execOp a.eval o).run Try.prog w = .ok (.value (.slice (some ⟨w.heap.size, 0, none⟩) n n)) (w.alloc (.cells ((List.range n).map fun _ => Value.slice none 0 0).toArray 50)) := by
  unfold execOp; rw [h]; simp only [hx, hy, Sem.run_bind, make74 n hn, Result.andThen_ok, Sem.run_pure]
theorem x_make34 {x y : Operand} {n : Nat} (h : o.op = .makeSlice 23 x y) (hx : a.eval x = .int .i64 (n : Int)) (hy : a.eval y = .int .i64 (n : Int)) (hn : n ≤ 1000000) : (execOp a.eval o).run Try.prog w = .ok (.value (.slice (some ⟨w.heap.size, 0, none⟩) n n)) (w.alloc (.cells ((List.range n).map fun _ => Value.slice none 0 0).toArray 39)) := by
  unfold execOp; rw [h]; simp only [hx, hy, Sem.run_bind, make23 n hn, Result.andThen_ok, Sem.run_pure]
theorem x_build77 {x y z : Operand} {n s e : Int} {eo : Option Addr} {em ec k ob fb : Nat} (h : o.op = .build 77 #[(0, x), (1, y), (2, z)]) (hx : a.eval x = nfaV n s e eo em ec) (hy : a.eval y = .slice (some ⟨ob, 0, none⟩) k k) (hz : a.eval z = .slice (some ⟨fb, 0, none⟩) k k) : (execOp a.eval o).run Try.prog w = .ok (.value (.agg (cells0 n s e eo em ec k ob fb).toArray)) w := by
  unfold execOp; rw [h]
  simp only [List.map_toArray, List.map, hx, hy, hz, Sem.run_bind, run_build (P := Try.prog) w 77 #[(0, nfaV n s e eo em ec), (1, .slice (some ⟨ob, 0, none⟩) k k), (2, .slice (some ⟨fb, 0, none⟩) k k)] _ (built77 n s e eo em ec k ob fb), Result.andThen_ok, Sem.run_pure]
theorem x_box77 {x : Operand} {l : List Value} (h : o.op = .box 77 x) (hx : a.eval x = .agg l.toArray) : (execOp a.eval o).run Try.prog w = .ok (.value (.pointer (some ⟨w.heap.size, 0, none⟩))) (w.alloc (.cells l.toArray 77)) := by
  unfold execOp; rw [h]; simp only [hx]; go_simp
theorem x_assign {x : Operand} (h : o.op = .assign x) : (execOp a.eval o).run Try.prog w = .ok (.value (a.eval x)) w := by
  unfold execOp; rw [h]; rfl
end
def ops41_1 : Array Oper := #[
  { dst := some 9, op := Op.load 52 (Operand.tmp 1), type := 52, pos := "build.go:40", after := #[], guard := none },
  { dst := some 10, op := Op.fieldAddr 52 (Operand.tmp 1) 0, type := 0, pos := "build.go:40", after := #[], guard := none },
  { dst := some 11, op := Op.load 3 (Operand.tmp 10), type := 3, pos := "build.go:40", after := #[{ on := 1, ground := Ground.data }], guard := none },
  { dst := some 12, op := Op.makeSlice 74 (Operand.tmp 11) (Operand.tmp 11), type := 74, pos := "build.go:40", after := #[{ on := 2, ground := Ground.data }, { on := 2, ground := Ground.data }], guard := none },
  { dst := some 13, op := Op.fieldAddr 52 (Operand.tmp 1) 0, type := 0, pos := "build.go:40", after := #[], guard := none },
  { dst := some 14, op := Op.load 3 (Operand.tmp 13), type := 3, pos := "build.go:40", after := #[{ on := 4, ground := Ground.data }], guard := none },
  { dst := some 15, op := Op.makeSlice 23 (Operand.tmp 14) (Operand.tmp 14), type := 23, pos := "build.go:40", after := #[{ on := 5, ground := Ground.data }, { on := 5, ground := Ground.data }], guard := none },
  { dst := some 16, op := Op.build 77 #[(0, Operand.tmp 9), (1, Operand.tmp 12), (2, Operand.tmp 15)], type := 77, pos := "build.go:40", after := #[{ on := 0, ground := Ground.data }, { on := 3, ground := Ground.data }, { on := 6, ground := Ground.data }], guard := none },
  { dst := some 17, op := Op.box 77 (Operand.tmp 16), type := 72, pos := "build.go:40", after := #[{ on := 7, ground := Ground.data }], guard := none },
  { dst := some 3, op := Op.assign (Operand.tmp 17), type := 72, pos := "build.go:40", after := #[{ on := 8, ground := Ground.data }, { on := 0, ground := Ground.phase }, { on := 1, ground := Ground.phase }, { on := 2, ground := Ground.phase }, { on := 3, ground := Ground.phase }, { on := 4, ground := Ground.phase }, { on := 5, ground := Ground.phase }, { on := 6, ground := Ground.phase }, { on := 7, ground := Ground.phase }, { on := 8, ground := Ground.phase }], guard := none }]
structure C41 where
  p : Nat
  n : Nat
  s : Int
  e : Int
  eo : Option Addr
  em : Nat
  ec : Nat
def C41.fix (c : C41) (i : Nat) : Option Value := [some (nfaV c.n c.s c.e c.eo c.em c.ec), some (.pointer (some ⟨c.p, 0, none⟩)), some (.int .i64 (c.n : Int)), none, some (.pointer (some ⟨c.p, 0, none⟩)), some (.int .i64 (c.n : Int)), none, none, none, none].getD i none
structure W41 (W : World) (c : C41) (d : Nat → Prop) (vals : Nat → Value) (w : World) : Prop where
  be : Below W.heap.size W w
  ov : d 3 → ∃ ob, vals 3 = .slice (some ⟨ob, 0, none⟩) c.n c.n ∧ W.heap.size ≤ ob ∧ w.heap[ob]? = some (.cells ((List.range c.n).map fun _ => Value.slice none 0 0).toArray 50 (0, 0))
  fv : d 6 → ∃ fb, vals 6 = .slice (some ⟨fb, 0, none⟩) c.n c.n ∧ W.heap.size ≤ fb ∧ w.heap[fb]? = some (.cells ((List.range c.n).map fun _ => Value.slice none 0 0).toArray 39 (0, 0))
  bv : d 7 → ∃ ob fb, vals 3 = .slice (some ⟨ob, 0, none⟩) c.n c.n ∧ vals 6 = .slice (some ⟨fb, 0, none⟩) c.n c.n ∧ vals 7 = .agg (cells0 c.n c.s c.e c.eo c.em c.ec c.n ob fb).toArray
  pv : d 8 → ∃ ob fb b, vals 3 = .slice (some ⟨ob, 0, none⟩) c.n c.n ∧ vals 6 = .slice (some ⟨fb, 0, none⟩) c.n c.n ∧ vals 8 = .pointer (some ⟨b, 0, none⟩) ∧ W.heap.size ≤ b ∧ w.heap[b]? = some (.cells (cells0 c.n c.s c.e c.eo c.em c.ec c.n ob fb).toArray 77 (0, 0))
  av : d 9 → vals 9 = vals 8
theorem W41.plain {W : World} {c : C41} {d : Nat → Prop} {vals : Nat → Value} {w : World} (k : W41 W c d vals w) {i : Nat} (h3 : i ≠ 3) (h6 : i ≠ 6) (h7 : i ≠ 7) (h8 : i ≠ 8) (h9 : i ≠ 9) (v : Value) : W41 W c (fun j => j = i ∨ d j) (dw.upd vals i v) w := by
  have e3 := dw.upd_ne vals v (Ne.symm h3)
  have e6 := dw.upd_ne vals v (Ne.symm h6)
  have e7 := dw.upd_ne vals v (Ne.symm h7)
  have e8 := dw.upd_ne vals v (Ne.symm h8)
  have e9 := dw.upd_ne vals v (Ne.symm h9)
  refine ⟨k.be, fun x => ?_, fun x => ?_, fun x => ?_, fun x => ?_, fun x => ?_⟩
  · rw [e3]; exact k.ov (x.resolve_left (Ne.symm h3))
  · rw [e6]; exact k.fv (x.resolve_left (Ne.symm h6))
  · rw [e3, e6, e7]; exact k.bv (x.resolve_left (Ne.symm h7))
  · rw [e3, e6, e8]; exact k.pv (x.resolve_left (Ne.symm h8))
  · rw [e8, e9]; exact k.av (x.resolve_left (Ne.symm h9))
theorem old_at {w : World} {g : Nat} {x : Obj} (h : w.heap[g]? = some x) (o : Obj) : (w.alloc o).heap[g]? = some x := (Below.heap_alloc _ _ _ (Array.getElem?_eq_some_iff.1 h).1).trans h
set_option maxHeartbeats 1000000 in
theorem reg41_1 {Q : Exit → Act → World → Prop} {a0 : Act} {id : Nat} (hsz : a0.tmps.size = 118) (c : C41) (hnn : c.n ≤ 1000000) (e1 : a0.eval (.tmp 1) = .pointer (some ⟨c.p, 0, none⟩)) {W : World} (hc : ∀ w, Below W.heap.size W w → w.cell? ⟨c.p, 0, none⟩ = some (.int .i64 (c.n : Int)) ∧ w.cell? ⟨c.p, 1, none⟩ = some (.int .i64 c.s) ∧ w.cell? ⟨c.p, 2, none⟩ = some (.int .i64 c.e) ∧ w.cell? ⟨c.p, 3, none⟩ = some (.slice c.eo c.em c.ec))
    (fin : ∀ vals w ob fb b, vals 9 = .pointer (some ⟨b, 0, none⟩) → Below W.heap.size W w → W.heap.size ≤ ob → W.heap.size ≤ fb → W.heap.size ≤ b → w.heap[ob]? = some (.cells ((List.range c.n).map fun _ => Value.slice none 0 0).toArray 50 (0, 0)) → w.heap[fb]? = some (.cells ((List.range c.n).map fun _ => Value.slice none 0 0).toArray 39 (0, 0)) → w.heap[b]? = some (.cells (cells0 c.n c.s c.e c.eo c.em c.ec c.n ob fb).toArray 77 (0, 0)) → Q .normal (dw.fold ops41_1.toList 0 vals a0) w) : (Code.region id ops41_1 true).wp Try.prog Q a0 W := by
  refine dw.region (by kernel_rfl) (by rw [hsz]; kernel_rfl) c.fix (W41 W c) (fun vals => ⟨below_drew W, fun x => x.elim, fun x => x.elim, fun x => x.elim, fun x => x.elim, fun x => x.elim⟩) ?_ ?_
  · intro i hi
    match i, hi with
    | 0, _ => intro d vals a w o ho hn hd hdl hcl hf hx hw K Q' E hk; obtain ⟨q0, q1, q2, q3⟩ := hc w hw.be; exact dw.s_val (dw.gd_of ho rfl) (x_load24 (dw.op_of ho rfl) ((hf.base 1 fun i hi => (by decide +kernel : ∀ i, i < ops41_1.size → dw.slot ops41_1 i ≠ some 1) i (hdl i hi)).trans e1) q0 q1 q2 q3) (hk _ w (fun u hu => by cases hu; rfl) (hw.plain (by decide) (by decide) (by decide) (by decide) (by decide) _))
    | 1, _ => intro d vals a w o ho hn hd hdl hcl hf hx hw K Q' E hk; exact dw.s_val (dw.gd_of ho rfl) (dw.x_field (dw.op_of ho rfl) ((hf.base 1 fun i hi => (by decide +kernel : ∀ i, i < ops41_1.size → dw.slot ops41_1 i ≠ some 1) i (hdl i hi)).trans e1) (f24_0 _ _)) (hk _ w (fun u hu => by cases hu; rfl) (hw.plain (by decide) (by decide) (by decide) (by decide) (by decide) _))
    | 2, _ => intro d vals a w o ho hn hd hdl hcl hf hx hw K Q' E hk; exact dw.s_val (dw.gd_of ho rfl) (x_load3 (dw.op_of ho rfl) ((hf.eval 1 (hd 1 (by kernel_rfl)) (t := 10) rfl).trans (hx 1 (hd 1 (by kernel_rfl)) _ rfl)) (hc w hw.be).1) (hk _ w (fun u hu => by cases hu; rfl) (hw.plain (by decide) (by decide) (by decide) (by decide) (by decide) _))
    | 3, _ =>
        intro d vals a w o ho hn hd hdl hcl hf hx hw K Q' E hk
        have n7 : ¬ d 7 := fun x => hn (hcl 7 3 x (by kernel_rfl))
        have n8 : ¬ d 8 := fun x => n7 (hcl 8 7 x (by kernel_rfl))
        have n9 : ¬ d 9 := fun x => n8 (hcl 9 8 x (by kernel_rfl))
        have vn := ((hf.eval 2 (hd 2 (by kernel_rfl)) (t := 11) rfl).trans (hx 2 (hd 2 (by kernel_rfl)) _ rfl))
        refine dw.s_val (dw.gd_of ho rfl) (x_make73 (dw.op_of ho rfl) vn vn hnn) (hk _ _ (fun u hu => by cases hu) ⟨hw.be.alloc hw.be.size _, ?_, ?_, fun x => absurd (x.resolve_left (by decide)) n7, fun x => absurd (x.resolve_left (by decide)) n8, fun x => absurd (x.resolve_left (by decide)) n9⟩)
        · exact fun _ => ⟨w.heap.size, by rw [dw.upd_same], hw.be.size, World.alloc_heap_new w _⟩
        · exact fun x => by obtain ⟨ob, y1, y2, y3⟩ := hw.fv (x.resolve_left (by decide)); exact ⟨ob, by rw [dw.upd_ne _ _ (by decide)]; exact y1, y2, old_at y3 _⟩
    | 4, _ => intro d vals a w o ho hn hd hdl hcl hf hx hw K Q' E hk; exact dw.s_val (dw.gd_of ho rfl) (dw.x_field (dw.op_of ho rfl) ((hf.base 1 fun i hi => (by decide +kernel : ∀ i, i < ops41_1.size → dw.slot ops41_1 i ≠ some 1) i (hdl i hi)).trans e1) (f24_0 _ _)) (hk _ w (fun u hu => by cases hu; rfl) (hw.plain (by decide) (by decide) (by decide) (by decide) (by decide) _))
    | 5, _ => intro d vals a w o ho hn hd hdl hcl hf hx hw K Q' E hk; exact dw.s_val (dw.gd_of ho rfl) (x_load3 (dw.op_of ho rfl) ((hf.eval 4 (hd 4 (by kernel_rfl)) (t := 13) rfl).trans (hx 4 (hd 4 (by kernel_rfl)) _ rfl)) (hc w hw.be).1) (hk _ w (fun u hu => by cases hu; rfl) (hw.plain (by decide) (by decide) (by decide) (by decide) (by decide) _))
    | 6, _ =>
        intro d vals a w o ho hn hd hdl hcl hf hx hw K Q' E hk
        have n7 : ¬ d 7 := fun x => hn (hcl 7 6 x (by kernel_rfl))
        have n8 : ¬ d 8 := fun x => n7 (hcl 8 7 x (by kernel_rfl))
        have n9 : ¬ d 9 := fun x => n8 (hcl 9 8 x (by kernel_rfl))
        have vn := ((hf.eval 5 (hd 5 (by kernel_rfl)) (t := 14) rfl).trans (hx 5 (hd 5 (by kernel_rfl)) _ rfl))
        refine dw.s_val (dw.gd_of ho rfl) (x_make34 (dw.op_of ho rfl) vn vn hnn) (hk _ _ (fun u hu => by cases hu) ⟨hw.be.alloc hw.be.size _, ?_, ?_, fun x => absurd (x.resolve_left (by decide)) n7, fun x => absurd (x.resolve_left (by decide)) n8, fun x => absurd (x.resolve_left (by decide)) n9⟩)
        · exact fun x => by obtain ⟨ob, y1, y2, y3⟩ := hw.ov (x.resolve_left (by decide)); exact ⟨ob, by rw [dw.upd_ne _ _ (by decide)]; exact y1, y2, old_at y3 _⟩
        · exact fun _ => ⟨w.heap.size, by rw [dw.upd_same], hw.be.size, World.alloc_heap_new w _⟩
    | 7, _ =>
        intro d vals a w o ho hn hd hdl hcl hf hx hw K Q' E hk
        have n8 : ¬ d 8 := fun x => hn (hcl 8 7 x (by kernel_rfl))
        have n9 : ¬ d 9 := fun x => n8 (hcl 9 8 x (by kernel_rfl))
        obtain ⟨ob, y1, y2, y3⟩ := hw.ov (hd 3 (by kernel_rfl))
        obtain ⟨fb, z1, z2, z3⟩ := hw.fv (hd 6 (by kernel_rfl))
        have v0 := ((hf.eval 0 (hd 0 (by kernel_rfl)) (t := 9) rfl).trans (hx 0 (hd 0 (by kernel_rfl)) _ rfl))
        have v3 := (hf.eval 3 (hd 3 (by kernel_rfl)) (t := 12) rfl).trans y1
        have v6 := (hf.eval 6 (hd 6 (by kernel_rfl)) (t := 15) rfl).trans z1
        refine dw.s_val (dw.gd_of ho rfl) (x_build77 (dw.op_of ho rfl) v0 v3 v6) (hk _ _ (fun u hu => by cases hu) ⟨hw.be, ?_, ?_, ?_, fun x => absurd (x.resolve_left (by decide)) n8, fun x => absurd (x.resolve_left (by decide)) n9⟩)
        · exact fun _ => ⟨ob, by rw [dw.upd_ne _ _ (by decide)]; exact y1, y2, y3⟩
        · exact fun _ => ⟨fb, by rw [dw.upd_ne _ _ (by decide)]; exact z1, z2, z3⟩
        · exact fun _ => ⟨ob, fb, by rw [dw.upd_ne _ _ (by decide)]; exact y1, by rw [dw.upd_ne _ _ (by decide)]; exact z1, by rw [dw.upd_same]⟩
    | 8, _ =>
        intro d vals a w o ho hn hd hdl hcl hf hx hw K Q' E hk
        have n9 : ¬ d 9 := fun x => hn (hcl 9 8 x (by kernel_rfl))
        obtain ⟨ob, fb, y1, z1, q1⟩ := hw.bv (hd 7 (by kernel_rfl))
        have d3 := hcl 7 3 (hd 7 (by kernel_rfl)) (by kernel_rfl)
        have d6 := hcl 7 6 (hd 7 (by kernel_rfl)) (by kernel_rfl)
        obtain ⟨ob', y1', y2, y3⟩ := hw.ov d3
        obtain ⟨fb', z1', z2, z3⟩ := hw.fv d6
        have v7 := (hf.eval 7 (hd 7 (by kernel_rfl)) (t := 16) rfl).trans q1
        refine dw.s_val (dw.gd_of ho rfl) (x_box77 (dw.op_of ho rfl) v7) (hk _ _ (fun u hu => by cases hu) ⟨hw.be.alloc hw.be.size _, ?_, ?_, ?_, ?_, fun x => absurd (x.resolve_left (by decide)) n9⟩)
        · exact fun _ => ⟨ob', by rw [dw.upd_ne _ _ (by decide)]; exact y1', y2, old_at y3 _⟩
        · exact fun _ => ⟨fb', by rw [dw.upd_ne _ _ (by decide)]; exact z1', z2, old_at z3 _⟩
        · exact fun _ => ⟨ob, fb, by rw [dw.upd_ne _ _ (by decide)]; exact y1, by rw [dw.upd_ne _ _ (by decide)]; exact z1, by rw [dw.upd_ne _ _ (by decide)]; exact q1⟩
        · exact fun _ => ⟨ob, fb, w.heap.size, by rw [dw.upd_ne _ _ (by decide)]; exact y1, by rw [dw.upd_ne _ _ (by decide)]; exact z1, by rw [dw.upd_same], hw.be.size, World.alloc_heap_new w _⟩
    | 9, _ =>
        intro d vals a w o ho hn hd hdl hcl hf hx hw K Q' E hk
        have d8 := hd 8 (by kernel_rfl)
        have e := hf.eval 8 d8 (t := 17) rfl
        refine dw.s_val (dw.gd_of ho rfl) ((x_assign (dw.op_of ho rfl)).trans (by rw [e])) (hk _ _ (fun u hu => by cases hu) ⟨hw.be, fun x => ?_, fun x => ?_, fun x => ?_, fun x => ?_, fun _ => by rw [dw.upd_same, dw.upd_ne _ _ (by decide)]⟩)
        · rw [dw.upd_ne _ _ (by decide)]; exact hw.ov (x.resolve_left (by decide))
        · rw [dw.upd_ne _ _ (by decide)]; exact hw.fv (x.resolve_left (by decide))
        · rw [dw.upd_ne _ _ (by decide), dw.upd_ne _ _ (by decide), dw.upd_ne _ _ (by decide)]; exact hw.bv (x.resolve_left (by decide))
        · rw [dw.upd_ne _ _ (by decide), dw.upd_ne _ _ (by decide), dw.upd_ne _ _ (by decide)]; exact hw.pv (x.resolve_left (by decide))
    | i + 10, hi => exact absurd hi (by simp [ops41_1])
  · intro vals w hx hw
    obtain ⟨ob, fb, b, y1, z1, q1, q2, q3⟩ := hw.pv (by decide)
    obtain ⟨ob', y1', y2, y3⟩ := hw.ov (by decide)
    obtain ⟨fb', z1', z2, z3⟩ := hw.fv (by decide)
    have e1 : ob' = ob := by rw [y1] at y1'; simp only [Value.slice.injEq, Option.some.injEq, Addr.mk.injEq] at y1'; exact y1'.1.1.symm
    have e2 : fb' = fb := by rw [z1] at z1'; simp only [Value.slice.injEq, Option.some.injEq, Addr.mk.injEq] at z1'; exact z1'.1.1.symm
    subst e1 e2
    exact fin vals w _ _ b ((hw.av (by decide)).trans q1) hw.be y2 z2 q2 y3 z3 q3
theorem fold41_1 (vals : Nat → Value) (a : Act) : dw.fold ops41_1.toList 0 vals a = ((((((((((a.put (some 9) (vals 0)).put (some 10) (vals 1)).put (some 11) (vals 2)).put (some 12) (vals 3)).put (some 13) (vals 4)).put (some 14) (vals 5)).put (some 15) (vals 6)).put (some 16) (vals 7)).put (some 17) (vals 8)).put (some 3) (vals 9)) := by
  unfold ops41_1
  simp only [dw.fold, Nat.zero_add, Nat.reduceAdd]
end Go.Proofs.Ytkdkibnjfgcppaa.bd
