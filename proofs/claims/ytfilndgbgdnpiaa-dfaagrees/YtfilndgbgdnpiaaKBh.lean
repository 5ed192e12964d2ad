/-
  Over this program: two statements of builder.spread, in all their orders.
-/
import Derived.Test.YtfilndgbgdnpiaaKBf
import Derived.Test.YtfilndgbgdnpiaaKBg
import Derived.Deep.MidRow
import Derived.Laws.StructEq
import Derived.ChangeKeysEq
namespace Go.Proofs.Ytfilndgbgdnpiaa.bd
open Go.Sort Go.ChangeShapes Go.WideShapes Go.ChangeAt Go.RowKit Go.Maps
open df (Kp Row iv In IntsV Owns)
open st (Q4 none4 Fits has nth jn Blk)
set_option linter.unusedVariables false
set_option maxRecDepth 10000

abbrev V4 (q : Q4) : Value := .agg #[.int .u64 q.a, .int .u64 q.b, .int .u64 q.c, .int .u64 q.d]
def eq4 (a b c d a' b' c' d' : Int) : Bool := a == a' && (b == b' && (c == c' && d == d'))
theorem info22 : (Try.prog.info? 22).map (fun i => (i.zero, i.size, i.bytes)) = some (some (.int .u64 0), 1, 8) := by kernel_rfl
theorem eq58 (a b c d a' b' c' d' : Int) (W : World) : (Op.equalIn 9999 23 (.agg #[.int .u64 a, .int .u64 b, .int .u64 c, .int .u64 d]) (.agg #[.int .u64 a', .int .u64 b', .int .u64 c', .int .u64 d'])).run Try.prog W = .ok (eq4 a b c d a' b' c' d') W := by
  obtain ⟨i, hi, _, _, _⟩ := info_parts info22
  have c22 : Try.prog.cellsOf 22 = 1 := by kernel_rfl
  have r4 : List.range 4 = [0, 1, 2, 3] := rfl
  have he : ∀ x y : Int, (Op.equalIn 9998 22 (.int .u64 x) (.int .u64 y)).run Try.prog W = .ok (x == y) W := fun x y => run_equalIn_int W 9997 22 .u64 .u64 x y Try.underlying22
  rw [run_equalIn_array W 9998 _ _ Try.underlying23 hi, c22, r4]
  unfold eq4
  cases h1 : a == a' <;> cases h2 : b == b' <;> cases h3 : c == c' <;> cases h4 : d == d' <;> simp [Op.eqItems, part, Try.isAgg22, he, h1, h2, h3, h4]
theorem eq4_iff {q r : Q4} : eq4 q.a q.b q.c q.d r.a r.b r.c r.d = decide (q = r) := by
  unfold eq4
  cases q; cases r
  rw [Bool.eq_iff_iff]
  simp
  omega
section
variable {o : Oper} {a : Act} {w : World}
theorem four_at {w : World} {b off : Nat} {q : Q4} (hc : w.cell? ⟨b, off, none⟩ = some (.int .u64 q.a) ∧ w.cell? ⟨b, off + 1, none⟩ = some (.int .u64 q.b) ∧ w.cell? ⟨b, off + 2, none⟩ = some (.int .u64 q.c) ∧ w.cell? ⟨b, off + 3, none⟩ = some (.int .u64 q.d)) : w.rangeAt b off [.int .u64 q.a, .int .u64 q.b, .int .u64 q.c, .int .u64 q.d] := by
  intro j v hv
  match j, hv with
  | 0, hv => simp at hv; subst hv; exact hc.1
  | 1, hv => simp at hv; subst hv; exact hc.2.1
  | 2, hv => simp at hv; subst hv; exact hc.2.2.1
  | 3, hv => simp at hv; subst hv; exact hc.2.2.2
  | j + 4, hv => simp at hv
theorem x_load60 {x : Operand} {b off : Nat} {q : Q4} (h : o.op = .load 25 x) (hx : a.eval x = .pointer (some ⟨b, off, none⟩)) (hc : w.cell? ⟨b, off, none⟩ = some (.int .u64 q.a) ∧ w.cell? ⟨b, off + 1, none⟩ = some (.int .u64 q.b) ∧ w.cell? ⟨b, off + 2, none⟩ = some (.int .u64 q.c) ∧ w.cell? ⟨b, off + 3, none⟩ = some (.int .u64 q.d)) :
    (execOp a.eval o).run Try.prog w = .ok (.value (V4 q)) w := by
  unfold execOp; rw [h]
  simp only [hx, Sem.run_bind, run_loadAt_mid (P := Try.prog) w b off 25 _ _ (four_at hc) Try.underlying25 rfl (by kernel_rfl), Result.andThen_ok, Sem.run_pure]
theorem x_index113 {x y : Operand} {b n cap i : Nat} (h : o.op = .indexAddr 113 x y) (hx : a.eval x = .slice (some ⟨b, 0, none⟩) n cap) (hy : a.eval y = .int .i64 (i : Int)) (hi : i < n) : (execOp a.eval o).run Try.prog w = .ok (.value (.pointer (some ⟨b, i * 4, none⟩))) w := by
  unfold execOp; rw [h]
  obtain ⟨i0, hi0, hz0, hz1, hz2⟩ := info_parts st.info25
  have hs : (sizeOf 25).run Try.prog w = .ok 4 w := by simp [sizeOf, typeInfo, hi0, hz1, Sem.run_bind]
  have hb : (0 : Int) ≤ (i : Int) ∧ (i : Int) < (n : Int) := by omega
  simp only [Instr.indexAt, hx, hy, asIntOf, Sem.run_bind, Sem.run_pure, Result.andThen_ok, run_underlying Try.underlying113, hb, and_self, if_true, hs, Int.toNat_natCast, Addr.add_mid, Nat.zero_add]
theorem x_call77 {x y : Operand} (h : o.op = .call { callee := .value (.func 83), args := #[x, y], argTypes := #[25, 25] }) : (execOp a.eval o).run Try.prog w = .ok (.enter 83 #[a.eval x, a.eval y]) w := by
  unfold execOp; rw [h]; kernel_rfl
theorem x_alloc60 (h : o.op = .alloc 25) : (execOp a.eval o).run Try.prog w = .ok (.value (.pointer (some ⟨w.heap.size, 0, none⟩))) (w.alloc (.cells #[.int .u64 none4.a, .int .u64 none4.b, .int .u64 none4.c, .int .u64 none4.d] 25)) := by
  unfold execOp; rw [h]; kernel_rfl
theorem x_store60 {x y : Operand} {g : Nat} {q q0 : Q4} (h : o.op = .store 25 x y) (hx : a.eval x = .pointer (some ⟨g, 0, none⟩)) (hy : a.eval y = V4 q) (hb : Blk w g q0) : (execOp a.eval o).run Try.prog w = .ok .skip ((((w.setCell ⟨g, 0, none⟩ (.int .u64 q.a)).setCell ⟨g, 1, none⟩ (.int .u64 q.b)).setCell ⟨g, 2, none⟩ (.int .u64 q.c)).setCell ⟨g, 3, none⟩ (.int .u64 q.d)) := by
  have c0 := hb.c0
  have c1 := hb.c1
  have c2 := hb.c2
  have c3 := hb.c3
  have f0 := hb.fz 0
  have f1 := hb.fz 1
  have f2 := hb.fz 2
  have f3 := hb.fz 3
  unfold execOp; rw [h]; simp only [hx, hy]; go_simp
theorem x_neq60 {x y : Operand} {q r : Q4} (h : o.op = .binOp .neq 25 x y 25) (hx : a.eval x = V4 q) (hy : a.eval y = V4 r) : (execOp a.eval o).run Try.prog w = .ok (.value (.bool (!decide (q = r)))) w := by
  have e := eq58 q.a q.b q.c q.d r.a r.b r.c r.d
  rw [← eq4_iff]
  unfold execOp; rw [h]; simp only [hx, hy]; go_simp
  generalize eq4 q.a q.b q.c q.d r.a r.b r.c r.d = z
  cases z <;> rfl
end
def ops78_14 : Array Oper := #[
  { dst := some 52, op := Op.move (Operand.tmp 1), type := 113, pos := "build.go:109", after := #[], guard := none },
  { dst := some 53, op := Op.move (Operand.tmp 10), type := 3, pos := "build.go:109", after := #[], guard := none },
  { dst := some 54, op := Op.indexAddr 113 (Operand.tmp 52) (Operand.tmp 53), type := 0, pos := "build.go:109", after := #[{ on := 0, ground := Ground.data }, { on := 1, ground := Ground.data }], guard := none },
  { dst := some 55, op := Op.load 25 (Operand.tmp 54), type := 25, pos := "build.go:109", after := #[{ on := 2, ground := Ground.data }], guard := none },
  { dst := some 56, op := Op.move (Operand.tmp 1), type := 113, pos := "build.go:109", after := #[], guard := none },
  { dst := some 57, op := Op.move (Operand.tmp 8), type := 3, pos := "build.go:109", after := #[], guard := none },
  { dst := some 58, op := Op.indexAddr 113 (Operand.tmp 56) (Operand.tmp 57), type := 0, pos := "build.go:109", after := #[{ on := 4, ground := Ground.data }, { on := 5, ground := Ground.data }], guard := none },
  { dst := some 59, op := Op.load 25 (Operand.tmp 58), type := 25, pos := "build.go:109", after := #[{ on := 6, ground := Ground.data }], guard := none },
  { dst := some 60, op := Op.call { callee := Callee.value (Operand.func 83), args := #[Operand.tmp 55, Operand.tmp 59], argTypes := #[25, 25] }, type := 25, pos := "build.go:109", after := #[{ on := 3, ground := Ground.data }, { on := 7, ground := Ground.data }], guard := none },
  { dst := some 11, op := Op.alloc 25, type := 0, pos := "build.go:109", after := #[], guard := none },
  { dst := none, op := Op.store 25 (Operand.tmp 11) (Operand.tmp 60), type := 0, pos := "build.go:109", after := #[{ on := 9, ground := Ground.data }, { on := 8, ground := Ground.data }, { on := 8, ground := Ground.chain }, { on := 0, ground := Ground.phase }, { on := 1, ground := Ground.phase }, { on := 2, ground := Ground.phase }, { on := 3, ground := Ground.phase }, { on := 4, ground := Ground.phase }, { on := 5, ground := Ground.phase }, { on := 6, ground := Ground.phase }, { on := 7, ground := Ground.phase }, { on := 8, ground := Ground.phase }, { on := 9, ground := Ground.phase }], guard := none }]
structure C14 where
  g : Nat
  n : Nat
  t : Nat
  s : Nat
  R : List Q4
  J : Q4
def C14.fix (c : C14) (i : Nat) : Option Value := [some (.slice (some ⟨c.g, 0, none⟩) c.n c.n), some (.int .i64 (c.t : Int)), some (.pointer (some ⟨c.g, c.t * 4, none⟩)), some (V4 (nth c.R c.t)), some (.slice (some ⟨c.g, 0, none⟩) c.n c.n), some (.int .i64 (c.s : Int)), some (.pointer (some ⟨c.g, c.s * 4, none⟩)), some (V4 (nth c.R c.s)), some (V4 c.J), none, none].getD i none
structure W14 (W : World) (c : C14) (d : Nat → Prop) (vals : Nat → Value) (w : World) : Prop where
  be : Below W.heap.size W w
  nw : d 9 → ∃ p, vals 9 = .pointer (some ⟨p, 0, none⟩) ∧ W.heap.size ≤ p ∧ (¬ d 10 → Blk w p none4) ∧ (d 10 → Blk w p c.J)
theorem W14.plain {W : World} {c : C14} {d : Nat → Prop} {vals : Nat → Value} {w : World} (k : W14 W c d vals w) {i : Nat} (h1 : i ≠ 9) (h2 : i ≠ 10) (v : Value) : W14 W c (fun j => j = i ∨ d j) (dw.upd vals i v) w :=
  ⟨k.be, fun a => by
    obtain ⟨p, e, hp, x, y⟩ := k.nw (a.resolve_left (fun e => h1 e.symm))
    exact ⟨p, by rw [dw.upd_ne _ _ (Ne.symm h1)]; exact e, hp, fun z => x fun u => z (.inr u), fun z => y (z.resolve_left (fun e => h2 e.symm))⟩⟩
theorem W14.later {W : World} {c : C14} {d : Nat → Prop} {vals : Nat → Value} {w w' : World} (k : W14 W c d vals w) (hb : Below w.heap.size w w') : W14 W c d vals w' :=
  ⟨st.chain k.be hb, fun a => by
    obtain ⟨p, e, hp, x, y⟩ := k.nw a
    exact ⟨p, e, hp, fun z => (x z).later hb, fun z => (y z).later hb⟩⟩
set_option maxHeartbeats 1000000 in
theorem reg14 {Q : Exit → Act → World → Prop} {a0 : Act} {id : Nat} (hsz : a0.tmps.size = 76) (c : C14) (e1 : a0.eval (.tmp 1) = .slice (some ⟨c.g, 0, none⟩) c.n c.n) (e10 : a0.eval (.tmp 10) = .int .i64 (c.t : Int)) (e8 : a0.eval (.tmp 8) = .int .i64 (c.s : Int)) {W : World} (hR : SRow W c.g c.R) (hl : c.R.length = c.n) (ht : c.t < c.n) (hs : c.s < c.n)
    (h77 : ∀ w, Calls Try.prog 83 #[V4 (nth c.R c.t), V4 (nth c.R c.s)] w fun ev w' => ev = .returned (V4 c.J) ∧ Below w.heap.size w w')
    (fin : ∀ vals w p, (∀ j, j < 11 → ∀ u, c.fix j = some u → vals j = u) → vals 9 = .pointer (some ⟨p, 0, none⟩) → W.heap.size ≤ p → Blk w p c.J → Below W.heap.size W w → Q .normal (dw.fold ops78_14.toList 0 vals a0) w) : (Code.region id ops78_14 true).wp Try.prog Q a0 W := by
  refine dw.region (by kernel_rfl) (by rw [hsz]; kernel_rfl) c.fix (W14 W c) (fun vals => ⟨below_drew W, fun x => x.elim⟩) ?_ ?_
  · intro i hi
    match i, hi with
    | 0, _ => intro d vals a w o ho hn hd hdl hcl hf hx hw K Q' E hk; exact dw.s_val (dw.gd_of ho rfl) ((dw.x_move (dw.op_of ho rfl)).trans (by rw [((hf.base 1 fun i hi => (by decide +kernel : ∀ i, i < ops78_14.size → dw.slot ops78_14 i ≠ some 1) i (hdl i hi)).trans e1)])) (hk _ w (fun u hu => by cases hu; rfl) (hw.plain (by decide) (by decide) _))
    | 1, _ => intro d vals a w o ho hn hd hdl hcl hf hx hw K Q' E hk; exact dw.s_val (dw.gd_of ho rfl) ((dw.x_move (dw.op_of ho rfl)).trans (by rw [((hf.base 10 fun i hi => (by decide +kernel : ∀ i, i < ops78_14.size → dw.slot ops78_14 i ≠ some 10) i (hdl i hi)).trans e10)])) (hk _ w (fun u hu => by cases hu; rfl) (hw.plain (by decide) (by decide) _))
    | 2, _ => intro d vals a w o ho hn hd hdl hcl hf hx hw K Q' E hk; exact dw.s_val (dw.gd_of ho rfl) (x_index113 (dw.op_of ho rfl) ((hf.eval 0 (hd 0 (by kernel_rfl)) (t := 52) rfl).trans (hx 0 (hd 0 (by kernel_rfl)) _ rfl)) ((hf.eval 1 (hd 1 (by kernel_rfl)) (t := 53) rfl).trans (hx 1 (hd 1 (by kernel_rfl)) _ rfl)) ht) (hk _ w (fun u hu => by cases hu; rfl) (hw.plain (by decide) (by decide) _))
    | 3, _ => intro d vals a w o ho hn hd hdl hcl hf hx hw K Q' E hk; exact dw.s_val (dw.gd_of ho rfl) (x_load60 (dw.op_of ho rfl) ((hf.eval 2 (hd 2 (by kernel_rfl)) (t := 54) rfl).trans (hx 2 (hd 2 (by kernel_rfl)) _ rfl)) ((hR.later hw.be).cells c.t (by omega))) (hk _ w (fun u hu => by cases hu; rfl) (hw.plain (by decide) (by decide) _))
    | 4, _ => intro d vals a w o ho hn hd hdl hcl hf hx hw K Q' E hk; exact dw.s_val (dw.gd_of ho rfl) ((dw.x_move (dw.op_of ho rfl)).trans (by rw [((hf.base 1 fun i hi => (by decide +kernel : ∀ i, i < ops78_14.size → dw.slot ops78_14 i ≠ some 1) i (hdl i hi)).trans e1)])) (hk _ w (fun u hu => by cases hu; rfl) (hw.plain (by decide) (by decide) _))
    | 5, _ => intro d vals a w o ho hn hd hdl hcl hf hx hw K Q' E hk; exact dw.s_val (dw.gd_of ho rfl) ((dw.x_move (dw.op_of ho rfl)).trans (by rw [((hf.base 8 fun i hi => (by decide +kernel : ∀ i, i < ops78_14.size → dw.slot ops78_14 i ≠ some 8) i (hdl i hi)).trans e8)])) (hk _ w (fun u hu => by cases hu; rfl) (hw.plain (by decide) (by decide) _))
    | 6, _ => intro d vals a w o ho hn hd hdl hcl hf hx hw K Q' E hk; exact dw.s_val (dw.gd_of ho rfl) (x_index113 (dw.op_of ho rfl) ((hf.eval 4 (hd 4 (by kernel_rfl)) (t := 56) rfl).trans (hx 4 (hd 4 (by kernel_rfl)) _ rfl)) ((hf.eval 5 (hd 5 (by kernel_rfl)) (t := 57) rfl).trans (hx 5 (hd 5 (by kernel_rfl)) _ rfl)) hs) (hk _ w (fun u hu => by cases hu; rfl) (hw.plain (by decide) (by decide) _))
    | 7, _ => intro d vals a w o ho hn hd hdl hcl hf hx hw K Q' E hk; exact dw.s_val (dw.gd_of ho rfl) (x_load60 (dw.op_of ho rfl) ((hf.eval 6 (hd 6 (by kernel_rfl)) (t := 58) rfl).trans (hx 6 (hd 6 (by kernel_rfl)) _ rfl)) ((hR.later hw.be).cells c.s (by omega))) (hk _ w (fun u hu => by cases hu; rfl) (hw.plain (by decide) (by decide) _))
    | 8, _ =>
        intro d vals a w o ho hn hd hdl hcl hf hx hw K Q' E hk
        have v3 := ((hf.eval 3 (hd 3 (by kernel_rfl)) (t := 55) rfl).trans (hx 3 (hd 3 (by kernel_rfl)) _ rfl))
        have v7 := ((hf.eval 7 (hd 7 (by kernel_rfl)) (t := 59) rfl).trans (hx 7 (hd 7 (by kernel_rfl)) _ rfl))
        refine dw.s_call (dw.gd_of ho rfl) (x_call77 (dw.op_of ho rfl)) (by rw [v3, v7]; exact h77 w) ?_
        rintro ev w' ⟨rfl, hb⟩
        exact ⟨_, rfl, hk _ w' (fun u hu => by cases hu; rfl) ((hw.later hb).plain (by decide) (by decide) _)⟩
    | 9, _ =>
        intro d vals a w o ho hn hd hdl hcl hf hx hw K Q' E hk
        have n10 : ¬ d 10 := fun x => hn (hcl 10 9 x (by kernel_rfl))
        refine dw.s_val (dw.gd_of ho rfl) (x_alloc60 (dw.op_of ho rfl)) (hk _ _ (fun u hu => by cases hu) ⟨hw.be.alloc hw.be.size _, fun _ => ⟨w.heap.size, by rw [dw.upd_same], hw.be.size, fun _ => st.blk_new w none4, fun x => absurd (x.resolve_left (by decide)) n10⟩⟩)
    | 10, _ =>
        intro d vals a w o ho hn hd hdl hcl hf hx hw K Q' E hk
        obtain ⟨p, e, hp, x, y⟩ := hw.nw (hd 9 (by kernel_rfl))
        have v8 := ((hf.eval 8 (hd 8 (by kernel_rfl)) (t := 60) rfl).trans (hx 8 (hd 8 (by kernel_rfl)) _ rfl))
        have v9 := (hf.eval 9 (hd 9 (by kernel_rfl)) (t := 11) rfl).trans e
        exact dw.s_skip (dw.gd_of ho rfl) (x_store60 (dw.op_of ho rfl) v9 v8 (x hn)) (hk _ _ (fun u hu => by cases hu) ⟨st.Below.set4 hw.be hp _, fun _ => ⟨p, by rw [dw.upd_ne _ _ (by decide)]; exact e, hp, fun z => absurd (.inl rfl) z, fun _ => st.set4 (x hn) _⟩⟩)
    | i + 11, hi => exact absurd hi (by simp [ops78_14])
  · intro vals w hx hw
    obtain ⟨p, e, hp, _, y⟩ := hw.nw (by decide)
    exact fin vals w p hx e hp (y (by decide)) hw.be
def ops78_15 : Array Oper := #[
  { dst := some 61, op := Op.load 25 (Operand.tmp 11), type := 25, pos := "build.go:109", after := #[], guard := none },
  { dst := some 62, op := Op.move (Operand.tmp 1), type := 113, pos := "build.go:109", after := #[], guard := none },
  { dst := some 63, op := Op.move (Operand.tmp 10), type := 3, pos := "build.go:109", after := #[], guard := none },
  { dst := some 64, op := Op.indexAddr 113 (Operand.tmp 62) (Operand.tmp 63), type := 0, pos := "build.go:109", after := #[{ on := 1, ground := Ground.data }, { on := 2, ground := Ground.data }], guard := none },
  { dst := some 65, op := Op.load 25 (Operand.tmp 64), type := 25, pos := "build.go:109", after := #[{ on := 3, ground := Ground.data }], guard := none },
  { dst := some 66, op := Op.binOp BinOp.neq 25 (Operand.tmp 61) (Operand.tmp 65) 25, type := 4, pos := "build.go:109", after := #[{ on := 0, ground := Ground.data }, { on := 4, ground := Ground.data }], guard := none }]
structure C15 where
  g : Nat
  n : Nat
  t : Nat
  p : Nat
  R : List Q4
  J : Q4
def C15.fix (c : C15) (i : Nat) : Option Value := [some (V4 c.J), some (.slice (some ⟨c.g, 0, none⟩) c.n c.n), some (.int .i64 (c.t : Int)), some (.pointer (some ⟨c.g, c.t * 4, none⟩)), some (V4 (nth c.R c.t)), some (.bool (!decide (c.J = nth c.R c.t)))].getD i none
set_option maxHeartbeats 1000000 in
theorem reg15 {Q : Exit → Act → World → Prop} {a0 : Act} {id : Nat} (hsz : a0.tmps.size = 76) (c : C15) (e1 : a0.eval (.tmp 1) = .slice (some ⟨c.g, 0, none⟩) c.n c.n) (e10 : a0.eval (.tmp 10) = .int .i64 (c.t : Int)) (e11 : a0.eval (.tmp 11) = .pointer (some ⟨c.p, 0, none⟩)) {W : World} (hR : SRow W c.g c.R) (hJ : Blk W c.p c.J) (hl : c.R.length = c.n) (ht : c.t < c.n)
    (fin : ∀ vals, (∀ j, j < 6 → ∀ u, c.fix j = some u → vals j = u) → Q .normal (dw.fold ops78_15.toList 0 vals a0) W.drew) : (Code.region id ops78_15 true).wp Try.prog Q a0 W := by
  refine dw.region (by kernel_rfl) (by rw [hsz]; kernel_rfl) c.fix (fun d vals w => w = W.drew) (fun vals => rfl) ?_ ?_
  · intro i hi
    match i, hi with
    | 0, _ => intro d vals a w o ho hn hd hdl hcl hf hx hw K Q' E hk; exact dw.s_val (dw.gd_of ho rfl) (x_load60 (dw.op_of ho rfl) ((hf.base 11 fun i hi => (by decide +kernel : ∀ i, i < ops78_15.size → dw.slot ops78_15 i ≠ some 11) i (hdl i hi)).trans e11) (by rw [hw]; exact ⟨hJ.c0, hJ.c1, hJ.c2, hJ.c3⟩)) (hk _ w (fun u hu => by cases hu; rfl) hw)
    | 1, _ => intro d vals a w o ho hn hd hdl hcl hf hx hw K Q' E hk; exact dw.s_val (dw.gd_of ho rfl) ((dw.x_move (dw.op_of ho rfl)).trans (by rw [((hf.base 1 fun i hi => (by decide +kernel : ∀ i, i < ops78_15.size → dw.slot ops78_15 i ≠ some 1) i (hdl i hi)).trans e1)])) (hk _ w (fun u hu => by cases hu; rfl) hw)
    | 2, _ => intro d vals a w o ho hn hd hdl hcl hf hx hw K Q' E hk; exact dw.s_val (dw.gd_of ho rfl) ((dw.x_move (dw.op_of ho rfl)).trans (by rw [((hf.base 10 fun i hi => (by decide +kernel : ∀ i, i < ops78_15.size → dw.slot ops78_15 i ≠ some 10) i (hdl i hi)).trans e10)])) (hk _ w (fun u hu => by cases hu; rfl) hw)
    | 3, _ => intro d vals a w o ho hn hd hdl hcl hf hx hw K Q' E hk; exact dw.s_val (dw.gd_of ho rfl) (x_index113 (dw.op_of ho rfl) ((hf.eval 1 (hd 1 (by kernel_rfl)) (t := 62) rfl).trans (hx 1 (hd 1 (by kernel_rfl)) _ rfl)) ((hf.eval 2 (hd 2 (by kernel_rfl)) (t := 63) rfl).trans (hx 2 (hd 2 (by kernel_rfl)) _ rfl)) ht) (hk _ w (fun u hu => by cases hu; rfl) hw)
    | 4, _ => intro d vals a w o ho hn hd hdl hcl hf hx hw K Q' E hk; exact dw.s_val (dw.gd_of ho rfl) (x_load60 (dw.op_of ho rfl) ((hf.eval 3 (hd 3 (by kernel_rfl)) (t := 64) rfl).trans (hx 3 (hd 3 (by kernel_rfl)) _ rfl)) (by rw [hw]; exact hR.cells c.t (by omega))) (hk _ w (fun u hu => by cases hu; rfl) hw)
    | 5, _ => intro d vals a w o ho hn hd hdl hcl hf hx hw K Q' E hk; exact dw.s_val (dw.gd_of ho rfl) (x_neq60 (dw.op_of ho rfl) ((hf.eval 0 (hd 0 (by kernel_rfl)) (t := 61) rfl).trans (hx 0 (hd 0 (by kernel_rfl)) _ rfl)) ((hf.eval 4 (hd 4 (by kernel_rfl)) (t := 65) rfl).trans (hx 4 (hd 4 (by kernel_rfl)) _ rfl))) (hk _ w (fun u hu => by cases hu; rfl) hw)
    | i + 6, hi => exact absurd hi (by simp [ops78_15])
  · intro vals w hx hw
    rw [hw]
    exact fin vals hx
theorem fold78_14 (vals : Nat → Value) (a : Act) : dw.fold ops78_14.toList 0 vals a = ((((((((((a.put (some 52) (vals 0)).put (some 53) (vals 1)).put (some 54) (vals 2)).put (some 55) (vals 3)).put (some 56) (vals 4)).put (some 57) (vals 5)).put (some 58) (vals 6)).put (some 59) (vals 7)).put (some 60) (vals 8)).put (some 11) (vals 9)) := by
  unfold ops78_14
  simp only [dw.fold, dw.put_none, Nat.zero_add, Nat.reduceAdd]
theorem fold78_15 (vals : Nat → Value) (a : Act) : dw.fold ops78_15.toList 0 vals a = ((((((a.put (some 61) (vals 0)).put (some 62) (vals 1)).put (some 63) (vals 2)).put (some 64) (vals 3)).put (some 65) (vals 4)).put (some 66) (vals 5)) := by
  unfold ops78_15
  simp only [dw.fold, Nat.zero_add, Nat.reduceAdd]
end Go.Proofs.Ytfilndgbgdnpiaa.bd
