/-
  Contracts over this program: where a set of states comes to over each byte (builder.step).
-/
import Derived.Test.YtfilndgbgdnpiaaKBi
import Derived.Test.YtfilndgbgdnpiaaKBj
namespace Go.Proofs.Ytfilndgbgdnpiaa.bd
open Go.Sort Go.ChangeShapes Go.WideShapes Go.ChangeAt Go.RowKit Go.Maps
open df (Kp Row iv In IntsV Owns)
open nf (Nfa Ed EdAt Rt setOf Over)
open st (Q4 none4 Fits has nth jn Blk sig)
set_option linter.unusedVariables false
set_option maxRecDepth 10000

theorem f62_1 (b : Nat) (w : World) : (Instr.fieldAt 68 (.pointer (some ⟨b, 0, none⟩)) 1).run Try.prog w = .ok (.pointer (some ⟨b, 1, none⟩)) w := by go_simp
theorem f62_3 (b : Nat) (w : World) : (Instr.fieldAt 68 (.pointer (some ⟨b, 0, none⟩)) 3).run Try.prog w = .ok (.pointer (some ⟨b, 3, none⟩)) w := by go_simp
theorem x_store60_at {o : Oper} {a : Act} {w : World} {x y : Operand} {g i : Nat} {q : Q4} {R : List Q4} (h : o.op = .store 25 x y) (hx : a.eval x = .pointer (some ⟨g, i * 4, none⟩)) (hy : a.eval y = V4 q) (hb : SRow w g R) (hi : i < R.length) : (execOp a.eval o).run Try.prog w = .ok .skip ((((w.setCell ⟨g, i * 4, none⟩ (.int .u64 q.a)).setCell ⟨g, i * 4 + 1, none⟩ (.int .u64 q.b)).setCell ⟨g, i * 4 + 2, none⟩ (.int .u64 q.c)).setCell ⟨g, i * 4 + 3, none⟩ (.int .u64 q.d)) := by
  obtain ⟨c0, c1, c2, c3⟩ := hb.cells i hi
  have f0 := hb.fz (i * 4)
  have f1 := hb.fz (i * 4 + 1)
  have f2 := hb.fz (i * 4 + 2)
  have f3 := hb.fz (i * 4 + 3)
  unfold execOp; rw [h]; simp only [hx, hy]; go_simp
/-- an edge in a block of its own -/
def EBox (w : World) (p : Nat) (e : Ed) : Prop := w.heap[p]? = some (.cells #[.int .i64 e.fr, .int .i64 e.to, .bool e.free, .int .u64 e.a, .int .u64 e.b, .int .u64 e.c, .int .u64 e.d] 68 (0, 0))
theorem EBox.lt {w : World} {p : Nat} {e : Ed} (h : EBox w p e) : p < w.heap.size := (Array.getElem?_eq_some_iff.1 h).1
theorem EBox.later {w w' : World} {p : Nat} {e : Ed} (h : EBox w p e) (b : Below w.heap.size w w') : EBox w' p e := by unfold EBox; rw [b.block p h.lt]; exact h
theorem EBox.c1 {w : World} {p : Nat} {e : Ed} (h : EBox w p e) : w.cell? ⟨p, 1, none⟩ = some (.int .i64 e.to) := by rw [Lib.cell_of_heap h]; rfl
theorem EBox.c3 {w : World} {p : Nat} {e : Ed} (h : EBox w p e) : w.cell? ⟨p, 3, none⟩ = some (.int .u64 (setOf e).a) ∧ w.cell? ⟨p, 3 + 1, none⟩ = some (.int .u64 (setOf e).b) ∧ w.cell? ⟨p, 3 + 2, none⟩ = some (.int .u64 (setOf e).c) ∧ w.cell? ⟨p, 3 + 3, none⟩ = some (.int .u64 (setOf e).d) := by
  refine ⟨?_, ?_, ?_, ?_⟩ <;> rw [Lib.cell_of_heap h] <;> rfl
def ops58_8 : Array Oper := #[
  { dst := some 30, op := Op.move (Operand.tmp 5), type := 113, pos := "build.go:89", after := #[], guard := none },
  { dst := some 31, op := Op.fieldAddr 68 (Operand.tmp 9) 1, type := 0, pos := "build.go:89", after := #[], guard := none },
  { dst := some 32, op := Op.load 3 (Operand.tmp 31), type := 3, pos := "build.go:89", after := #[{ on := 1, ground := Ground.data }], guard := none },
  { dst := some 33, op := Op.move (Operand.tmp 5), type := 113, pos := "build.go:89", after := #[], guard := none },
  { dst := some 34, op := Op.fieldAddr 68 (Operand.tmp 9) 1, type := 0, pos := "build.go:89", after := #[], guard := none },
  { dst := some 35, op := Op.load 3 (Operand.tmp 34), type := 3, pos := "build.go:89", after := #[{ on := 4, ground := Ground.data }], guard := none },
  { dst := some 36, op := Op.indexAddr 113 (Operand.tmp 33) (Operand.tmp 35), type := 0, pos := "build.go:89", after := #[{ on := 3, ground := Ground.data }, { on := 5, ground := Ground.data }], guard := none },
  { dst := some 37, op := Op.load 25 (Operand.tmp 36), type := 25, pos := "build.go:89", after := #[{ on := 6, ground := Ground.data }], guard := none },
  { dst := some 38, op := Op.fieldAddr 68 (Operand.tmp 9) 3, type := 0, pos := "build.go:89", after := #[], guard := none },
  { dst := some 39, op := Op.load 25 (Operand.tmp 38), type := 25, pos := "build.go:89", after := #[{ on := 8, ground := Ground.data }], guard := none },
  { dst := some 40, op := Op.call { callee := Callee.value (Operand.func 83), args := #[Operand.tmp 37, Operand.tmp 39], argTypes := #[25, 25] }, type := 25, pos := "build.go:89", after := #[{ on := 7, ground := Ground.data }, { on := 9, ground := Ground.data }], guard := none },
  { dst := some 41, op := Op.indexAddr 113 (Operand.tmp 30) (Operand.tmp 32), type := 0, pos := "build.go:89", after := #[{ on := 0, ground := Ground.data }, { on := 2, ground := Ground.data }, { on := 0, ground := Ground.phase }, { on := 1, ground := Ground.phase }, { on := 2, ground := Ground.phase }, { on := 3, ground := Ground.phase }, { on := 4, ground := Ground.phase }, { on := 5, ground := Ground.phase }, { on := 6, ground := Ground.phase }, { on := 7, ground := Ground.phase }, { on := 8, ground := Ground.phase }, { on := 9, ground := Ground.phase }, { on := 10, ground := Ground.phase }], guard := none },
  { dst := none, op := Op.store 25 (Operand.tmp 41) (Operand.tmp 40), type := 0, pos := "build.go:89", after := #[{ on := 11, ground := Ground.data }, { on := 10, ground := Ground.data }, { on := 10, ground := Ground.chain }, { on := 0, ground := Ground.phase }, { on := 1, ground := Ground.phase }, { on := 2, ground := Ground.phase }, { on := 3, ground := Ground.phase }, { on := 4, ground := Ground.phase }, { on := 5, ground := Ground.phase }, { on := 6, ground := Ground.phase }, { on := 7, ground := Ground.phase }, { on := 8, ground := Ground.phase }, { on := 9, ground := Ground.phase }, { on := 10, ground := Ground.phase }], guard := none }]
structure C58 where
  g : Nat
  n : Nat
  t : Nat
  p : Nat
  e : Ed
  R : List Q4
  J : Q4
def C58.fix (c : C58) (i : Nat) : Option Value := [some (.slice (some ⟨c.g, 0, none⟩) c.n c.n), some (.pointer (some ⟨c.p, 1, none⟩)), some (.int .i64 (c.t : Int)), some (.slice (some ⟨c.g, 0, none⟩) c.n c.n), some (.pointer (some ⟨c.p, 1, none⟩)), some (.int .i64 (c.t : Int)), some (.pointer (some ⟨c.g, c.t * 4, none⟩)), some (V4 (nth c.R c.t)), some (.pointer (some ⟨c.p, 3, none⟩)), some (V4 (setOf c.e)), some (V4 c.J), some (.pointer (some ⟨c.g, c.t * 4, none⟩)), none].getD i none
structure W58 (W : World) (c : C58) (d : Nat → Prop) (vals : Nat → Value) (w : World) : Prop where
  be : ¬ d 12 → Below W.heap.size W w
  en : d 12 → ∃ w1, Below W.heap.size W w1 ∧ w = ((((w1.setCell ⟨c.g, c.t * 4, none⟩ (.int .u64 c.J.a)).setCell ⟨c.g, c.t * 4 + 1, none⟩ (.int .u64 c.J.b)).setCell ⟨c.g, c.t * 4 + 2, none⟩ (.int .u64 c.J.c)).setCell ⟨c.g, c.t * 4 + 3, none⟩ (.int .u64 c.J.d))
theorem W58.plain {W : World} {c : C58} {d : Nat → Prop} {vals : Nat → Value} {w : World} (k : W58 W c d vals w) {i : Nat} (h2 : i ≠ 12) (v : Value) : W58 W c (fun j => j = i ∨ d j) (dw.upd vals i v) w :=
  ⟨fun a => k.be fun b => a (.inr b), fun a => k.en (a.resolve_left (fun e => h2 e.symm))⟩
set_option maxHeartbeats 1000000 in
theorem reg58 {Q : Exit → Act → World → Prop} {a0 : Act} {id : Nat} (hsz : a0.tmps.size = 48) (c : C58) (e5 : a0.eval (.tmp 5) = .slice (some ⟨c.g, 0, none⟩) c.n c.n) (e9 : a0.eval (.tmp 9) = .pointer (some ⟨c.p, 0, none⟩)) {W : World} (hR : SRow W c.g c.R) (hE : EBox W c.p c.e) (hte : c.e.to = (c.t : Int)) (hl : c.R.length = c.n) (ht : c.t < c.n)
    (h77 : ∀ w, Calls Try.prog 83 #[V4 (nth c.R c.t), V4 (setOf c.e)] w fun ev w' => ev = .returned (V4 c.J) ∧ Below w.heap.size w w')
    (fin : ∀ vals w1, Below W.heap.size W w1 → Q .normal (dw.fold ops58_8.toList 0 vals a0) ((((w1.setCell ⟨c.g, c.t * 4, none⟩ (.int .u64 c.J.a)).setCell ⟨c.g, c.t * 4 + 1, none⟩ (.int .u64 c.J.b)).setCell ⟨c.g, c.t * 4 + 2, none⟩ (.int .u64 c.J.c)).setCell ⟨c.g, c.t * 4 + 3, none⟩ (.int .u64 c.J.d))) : (Code.region id ops58_8 true).wp Try.prog Q a0 W := by
  refine dw.region (by kernel_rfl) (by rw [hsz]; kernel_rfl) c.fix (W58 W c) (fun vals => ⟨fun _ => below_drew W, fun x => x.elim⟩) ?_ ?_
  · intro i hi
    match i, hi with
    | 0, _ => intro d vals a w o ho hn hd hdl hcl hf hx hw K Q' E hk; have n12 : ¬ d 12 := fun x => hn (hcl 12 0 x (by kernel_rfl)); have hb := hw.be n12; exact dw.s_val (dw.gd_of ho rfl) ((dw.x_move (dw.op_of ho rfl)).trans (by rw [((hf.base 5 fun i hi => (by decide +kernel : ∀ i, i < ops58_8.size → dw.slot ops58_8 i ≠ some 5) i (hdl i hi)).trans e5)])) (hk _ w (fun u hu => by cases hu; rfl) (hw.plain (by decide) _))
    | 1, _ => intro d vals a w o ho hn hd hdl hcl hf hx hw K Q' E hk; have n12 : ¬ d 12 := fun x => hn (hcl 12 1 x (by kernel_rfl)); have hb := hw.be n12; exact dw.s_val (dw.gd_of ho rfl) (dw.x_field (dw.op_of ho rfl) ((hf.base 9 fun i hi => (by decide +kernel : ∀ i, i < ops58_8.size → dw.slot ops58_8 i ≠ some 9) i (hdl i hi)).trans e9) (f62_1 _ _)) (hk _ w (fun u hu => by cases hu; rfl) (hw.plain (by decide) _))
    | 2, _ => intro d vals a w o ho hn hd hdl hcl hf hx hw K Q' E hk; have n12 : ¬ d 12 := fun x => hn (hcl 12 2 x (by kernel_rfl)); have hb := hw.be n12; exact dw.s_val (dw.gd_of ho rfl) (x_load3 (dw.op_of ho rfl) ((hf.eval 1 (hd 1 (by kernel_rfl)) (t := 31) rfl).trans (hx 1 (hd 1 (by kernel_rfl)) _ rfl)) ((hE.later hb).c1.trans (by rw [hte]))) (hk _ w (fun u hu => by cases hu; rfl) (hw.plain (by decide) _))
    | 3, _ => intro d vals a w o ho hn hd hdl hcl hf hx hw K Q' E hk; have n12 : ¬ d 12 := fun x => hn (hcl 12 3 x (by kernel_rfl)); have hb := hw.be n12; exact dw.s_val (dw.gd_of ho rfl) ((dw.x_move (dw.op_of ho rfl)).trans (by rw [((hf.base 5 fun i hi => (by decide +kernel : ∀ i, i < ops58_8.size → dw.slot ops58_8 i ≠ some 5) i (hdl i hi)).trans e5)])) (hk _ w (fun u hu => by cases hu; rfl) (hw.plain (by decide) _))
    | 4, _ => intro d vals a w o ho hn hd hdl hcl hf hx hw K Q' E hk; have n12 : ¬ d 12 := fun x => hn (hcl 12 4 x (by kernel_rfl)); have hb := hw.be n12; exact dw.s_val (dw.gd_of ho rfl) (dw.x_field (dw.op_of ho rfl) ((hf.base 9 fun i hi => (by decide +kernel : ∀ i, i < ops58_8.size → dw.slot ops58_8 i ≠ some 9) i (hdl i hi)).trans e9) (f62_1 _ _)) (hk _ w (fun u hu => by cases hu; rfl) (hw.plain (by decide) _))
    | 5, _ => intro d vals a w o ho hn hd hdl hcl hf hx hw K Q' E hk; have n12 : ¬ d 12 := fun x => hn (hcl 12 5 x (by kernel_rfl)); have hb := hw.be n12; exact dw.s_val (dw.gd_of ho rfl) (x_load3 (dw.op_of ho rfl) ((hf.eval 4 (hd 4 (by kernel_rfl)) (t := 34) rfl).trans (hx 4 (hd 4 (by kernel_rfl)) _ rfl)) ((hE.later hb).c1.trans (by rw [hte]))) (hk _ w (fun u hu => by cases hu; rfl) (hw.plain (by decide) _))
    | 6, _ => intro d vals a w o ho hn hd hdl hcl hf hx hw K Q' E hk; have n12 : ¬ d 12 := fun x => hn (hcl 12 6 x (by kernel_rfl)); have hb := hw.be n12; exact dw.s_val (dw.gd_of ho rfl) (x_index113 (dw.op_of ho rfl) ((hf.eval 3 (hd 3 (by kernel_rfl)) (t := 33) rfl).trans (hx 3 (hd 3 (by kernel_rfl)) _ rfl)) ((hf.eval 5 (hd 5 (by kernel_rfl)) (t := 35) rfl).trans (hx 5 (hd 5 (by kernel_rfl)) _ rfl)) ht) (hk _ w (fun u hu => by cases hu; rfl) (hw.plain (by decide) _))
    | 7, _ => intro d vals a w o ho hn hd hdl hcl hf hx hw K Q' E hk; have n12 : ¬ d 12 := fun x => hn (hcl 12 7 x (by kernel_rfl)); have hb := hw.be n12; exact dw.s_val (dw.gd_of ho rfl) (x_load60 (dw.op_of ho rfl) ((hf.eval 6 (hd 6 (by kernel_rfl)) (t := 36) rfl).trans (hx 6 (hd 6 (by kernel_rfl)) _ rfl)) ((hR.later hb).cells c.t (by omega))) (hk _ w (fun u hu => by cases hu; rfl) (hw.plain (by decide) _))
    | 8, _ => intro d vals a w o ho hn hd hdl hcl hf hx hw K Q' E hk; have n12 : ¬ d 12 := fun x => hn (hcl 12 8 x (by kernel_rfl)); have hb := hw.be n12; exact dw.s_val (dw.gd_of ho rfl) (dw.x_field (dw.op_of ho rfl) ((hf.base 9 fun i hi => (by decide +kernel : ∀ i, i < ops58_8.size → dw.slot ops58_8 i ≠ some 9) i (hdl i hi)).trans e9) (f62_3 _ _)) (hk _ w (fun u hu => by cases hu; rfl) (hw.plain (by decide) _))
    | 9, _ => intro d vals a w o ho hn hd hdl hcl hf hx hw K Q' E hk; have n12 : ¬ d 12 := fun x => hn (hcl 12 9 x (by kernel_rfl)); have hb := hw.be n12; exact dw.s_val (dw.gd_of ho rfl) (x_load60 (dw.op_of ho rfl) ((hf.eval 8 (hd 8 (by kernel_rfl)) (t := 38) rfl).trans (hx 8 (hd 8 (by kernel_rfl)) _ rfl)) (hE.later hb).c3) (hk _ w (fun u hu => by cases hu; rfl) (hw.plain (by decide) _))
    | 10, _ =>
        intro d vals a w o ho hn hd hdl hcl hf hx hw K Q' E hk
        have n12 : ¬ d 12 := fun x => hn (hcl 12 10 x (by kernel_rfl))
        have v7 := ((hf.eval 7 (hd 7 (by kernel_rfl)) (t := 37) rfl).trans (hx 7 (hd 7 (by kernel_rfl)) _ rfl))
        have v9 := ((hf.eval 9 (hd 9 (by kernel_rfl)) (t := 39) rfl).trans (hx 9 (hd 9 (by kernel_rfl)) _ rfl))
        refine dw.s_call (dw.gd_of ho rfl) (x_call77 (dw.op_of ho rfl)) (by rw [v7, v9]; exact h77 w) ?_
        rintro ev w' ⟨rfl, hb⟩
        exact ⟨_, rfl, hk _ w' (fun u hu => by cases hu; rfl) ⟨fun a => st.chain (hw.be n12) hb, fun a => absurd (a.resolve_left (by decide)) n12⟩⟩
    | 11, _ => intro d vals a w o ho hn hd hdl hcl hf hx hw K Q' E hk; have n12 : ¬ d 12 := fun x => hn (hcl 12 11 x (by kernel_rfl)); have hb := hw.be n12; exact dw.s_val (dw.gd_of ho rfl) (x_index113 (dw.op_of ho rfl) ((hf.eval 0 (hd 0 (by kernel_rfl)) (t := 30) rfl).trans (hx 0 (hd 0 (by kernel_rfl)) _ rfl)) ((hf.eval 2 (hd 2 (by kernel_rfl)) (t := 32) rfl).trans (hx 2 (hd 2 (by kernel_rfl)) _ rfl)) ht) (hk _ w (fun u hu => by cases hu; rfl) (hw.plain (by decide) _))
    | 12, _ =>
        intro d vals a w o ho hn hd hdl hcl hf hx hw K Q' E hk
        have hb := hw.be hn
        have v11 := ((hf.eval 11 (hd 11 (by kernel_rfl)) (t := 41) rfl).trans (hx 11 (hd 11 (by kernel_rfl)) _ rfl))
        have v10 := ((hf.eval 10 (hd 10 (by kernel_rfl)) (t := 40) rfl).trans (hx 10 (hd 10 (by kernel_rfl)) _ rfl))
        exact dw.s_skip (dw.gd_of ho rfl) (x_store60_at (dw.op_of ho rfl) v11 v10 (hR.later hb) (by omega)) (hk _ _ (fun u hu => by cases hu) ⟨fun a => absurd (.inl rfl) a, fun _ => ⟨w, hb, rfl⟩⟩)
    | i + 13, hi => exact absurd hi (by simp [ops58_8])
  · intro vals w hx hw
    obtain ⟨w1, h1, h2⟩ := hw.en (by decide)
    rw [h2]
    exact fin vals w1 h1
theorem fold58_8 (vals : Nat → Value) (a : Act) : dw.fold ops58_8.toList 0 vals a = ((((((((((((a.put (some 30) (vals 0)).put (some 31) (vals 1)).put (some 32) (vals 2)).put (some 33) (vals 3)).put (some 34) (vals 4)).put (some 35) (vals 5)).put (some 36) (vals 6)).put (some 37) (vals 7)).put (some 38) (vals 8)).put (some 39) (vals 9)).put (some 40) (vals 10)).put (some 41) (vals 11)) := by
  unfold ops58_8
  simp only [dw.fold, dw.put_none, Nat.zero_add, Nat.reduceAdd]
/-- the rows of a state's other edges -/
structure RowE (X : Nat → Prop) (W : World) (o : Option Addr) (cap : Nat) (l : List Ed) : Prop where
  fit : l.length ≤ cap
  top : cap ≤ 9223372036854775807
  lie : ∀ i (h : i < l.length), ∃ b off, o = some ⟨b, off, none⟩ ∧ X b ∧ EdAt W b (off + i * 7) l[i]
theorem RowE.carry {X Y : Nat → Prop} {W W' : World} {o : Option Addr} {cap : Nat} {l : List Ed} (h : RowE X W o cap l) (hk : ∀ b, X b → W'.heap[b]? = W.heap[b]?) (hq : ∀ b, X b → Y b) : RowE Y W' o cap l :=
  ⟨h.fit, h.top, fun i hi => by
    obtain ⟨b, off, e, h1, h2⟩ := h.lie i hi
    exact ⟨b, off, e, hq b h1, h2.same (hk b h1)⟩⟩
structure Ovr (X : Nat → Prop) (W : World) (ob cap n : Nat) (E : Nat → List Ed) : Prop where
  fit : n ≤ cap
  top : cap ≤ 9223372036854775807
  blk : X ob
  row : ∀ s, s < n → ∃ o c, W.cell? ⟨ob, s, none⟩ = some (.slice o (E s).length c) ∧ RowE X W o c (E s)
theorem Ovr.carry {X Y : Nat → Prop} {W W' : World} {ob cap n : Nat} {E : Nat → List Ed} (h : Ovr X W ob cap n E) (hk : ∀ b, X b → W'.heap[b]? = W.heap[b]?) (hq : ∀ b, X b → Y b) : Ovr Y W' ob cap n E :=
  ⟨h.fit, h.top, hq _ h.blk, fun s hs => by
    obtain ⟨o, c, h1, h2⟩ := h.row s hs
    exact ⟨o, c, by simp only [World.cell?, hk ob h.blk] at h1 ⊢; exact h1, h2.carry hk hq⟩⟩
def StpIs (x : Nfa) (n : Nat) (E : Nat → List Ed) (F : Nat → List Int) (σ : List Bool) : Prop := ∀ (X : Nat → Prop) (W : World) (b ob ocap fb fcap : Nat) (v : Value), Ovr X W ob ocap n E → Fre X W fb fcap n F → W.cell? ⟨b, 0, none⟩ = some (.int .i64 (n : Int)) → W.cell? ⟨b, 4, none⟩ = some (.slice (some ⟨ob, 0, none⟩) n ocap) → W.cell? ⟨b, 5, none⟩ = some (.slice (some ⟨fb, 0, none⟩) n fcap) → X b → (∀ k, X k → k < W.heap.size) → RowV X W v (onTo σ σ.length) →
  Calls Try.prog 65 #[.pointer (some ⟨b, 0, none⟩), v] W fun e W' => ∃ R, e = .returned (.slice (some ⟨W.heap.size, 0, none⟩) n n) ∧ SRow W' W.heap.size R ∧ R.length = n ∧ (∀ q ∈ R, Fits q) ∧ (∀ c, c < 256 → IsSet n (To x c σ) (sig R c)) ∧ Below W.heap.size W W'
theorem foldl_take {E : Nat → List Ed} {n : Nat} {l : List Int} {i : Nat} (hi : i < l.length) : stepR E n (l.take (i + 1)) = (E l[i].toNat).foldl joinE (stepR E n (l.take i)) := by
  rw [List.take_succ_eq_append_getElem hi, stepR_snoc]
theorem on_range (σ : List Bool) : ∀ t ∈ onTo σ σ.length, 0 ≤ t ∧ t < (σ.length : Int) := fun t ht => by
  obtain ⟨i, rfl, h⟩ := (mem_onTo σ t).1 ht
  have := (List.getElem?_eq_some_iff.1 h).1
  omega
set_option maxHeartbeats 4000000 in
set_option maxRecDepth 100000 in
theorem step_any (x : Nfa) (n : Nat) (R1 : Rt x n) (hfit : ∀ e ∈ x.edges, nf.Fits e) (E : Nat → List Ed) (hE : Edg x n E) (F : Nat → List Int) (hF : Tgt x n F) (σ : List Bool) (hσ : σ.length = n) : StpIs x n E F σ := by
  intro X W b ob ocap fb fcap v hO hFr h0 h4 h5 hXb hXl hv
  obtain ⟨lo, lc, rfl, hL⟩ := hv
  have hn2 := R1.n2
  have hof := hO.fit
  have hot := hO.top
  have hlf := hL.fit
  have hlt := hL.top
  have now := now_any n (by omega)
  have h78 := spread_any x n R1 F hF
  unfold NowIs at now
  have HLR := (show Hid (∀ t ∈ onTo σ σ.length, 0 ≤ t ∧ t < (n : Int)) from by rw [← hσ]; exact on_range σ)
  have HRS := (show Hid (Rs n (stepR E n (onTo σ σ.length)) (fun i c => Over x c (fun s => s ∈ onTo σ σ.length) (i : Int))) from rs_step R1 hfit hE _ HLR.out)
  have HFIT := (show Hid (∀ s, s < n → ∀ e ∈ E s, nf.Fits e ∧ 0 ≤ e.to ∧ e.to < (n : Int)) from fun s hs e he => by
    have := ((hE s hs e).1 he).1
    exact ⟨hfit e this, R1.to e this⟩)
  have HR1 := (show Hid (Rt x n) from R1)
  have HO := (show Hid (∀ wr : World, Below W.heap.size W wr → Ovr X wr ob ocap n E) from fun wr hb => hO.carry (fun k hk => hb.block k (hXl k hk)) (fun _ h => h))
  have HFR := (show Hid (∀ wr : World, Below W.heap.size W wr → Fre X wr fb fcap n F) from fun wr hb => hFr.carry (fun k hk => hb.block k (hXl k hk)) (fun _ h => h))
  have HL := (show Hid (∀ wr : World, Below W.heap.size W wr → Row X wr iv lo lc (onTo σ σ.length)) from fun wr hb => hL.carry (fun k hk => hb.block k (hXl k hk)) (fun _ h => h))
  have HCC := (show Hid (∀ wr : World, Below W.heap.size W wr → wr.cell? ⟨b, 4, none⟩ = some (.slice (some ⟨ob, 0, none⟩) n ocap) ∧ wr.cell? ⟨b, 5, none⟩ = some (.slice (some ⟨fb, 0, none⟩) n fcap)) from fun wr hb => ⟨(hb.cell (p := ⟨b, 4, none⟩) (hXl b hXb)).trans h4, (hb.cell (p := ⟨b, 5, none⟩) (hXl b hXb)).trans h5⟩)
  have HXL := (show Hid (X b ∧ ∀ k, X k → k < W.heap.size) from ⟨hXb, hXl⟩)
  have r0 := srow_new W (List.replicate n none4)
  have B0 := nf.below_alloc W (.cells (scells (List.replicate n none4)) 25)
  have HSR := (show Hid (∀ i : Nat, (stepR E n ((onTo σ σ.length).take i)).length = n ∧ ∀ q ∈ stepR E n ((onTo σ σ.length).take i), Fits q) from fun i => by
    have k := rs_step R1 hfit hE ((onTo σ σ.length).take i) (fun t ht => HLR.out t (List.mem_of_mem_take ht))
    exact ⟨k.len, k.fits⟩)
  have HSE := (show Hid (∀ (i : Nat) (es : List Ed), (∀ e ∈ es, nf.Fits e ∧ 0 ≤ e.to ∧ e.to < (n : Int)) → (es.foldl joinE (stepR E n ((onTo σ σ.length).take i))).length = n ∧ ∀ q ∈ es.foldl joinE (stepR E n ((onTo σ σ.length).take i)), Fits q) from fun i es he => by
    have k := rs_edges (rs_step R1 hfit hE ((onTo σ σ.length).take i) (fun t ht => HLR.out t (List.mem_of_mem_take ht))) es he
    exact ⟨k.len, k.fits⟩)
  generalize hLL : onTo σ σ.length = l at *
  have HLL := (show Hid (onTo σ σ.length = l) from hLL)
  clear hLL hO hFr hL h4 h5 hXb hXl R1 hfit hE hF
  go_enter Try.func65, Try.ntmps65
  go_wp2_with (go_at_call 60; refine (now b _ h0).mono ?_; rintro e w1 ⟨rfl, hw1⟩; rw [← hw1] at r0 B0; clear hw1)
  go_loopw [14] (fun z wr => ∃ i : Nat, z = .int .i64 i ∧ i ≤ l.length ∧ Hid (SRow wr W.heap.size (stepR E n (l.take i))) ∧ Hid (Below W.heap.size W wr)) (fun z _ => l.length - (intOf z).toNat)
  case atStart => exact ⟨0, rfl, by omega, r0, B0⟩
  case round =>
    obtain ⟨i, rfl, hi, HS, HB⟩ := hrel
    clear r0 B0 now
    by_cases hend : i < l.length
    · obtain ⟨b2, off, rfl, _, hcell⟩ := (HL.out wr HB.out).lie i hend
      obtain ⟨s, hs, hsn⟩ : ∃ s : Nat, l[i] = (s : Int) ∧ s < n := by
        have := HLR.out l[i] (List.getElem_mem hend)
        exact ⟨l[i].toNat, by omega, by omega⟩
      have HTK := (show Hid (stepR E n (l.take (i + 1)) = (E s).foldl joinE (stepR E n (l.take i))) from by have := foldl_take (E := E) (n := n) hend; rw [hs] at this; show _ = _; simpa using this)
      rw [hs] at hcell
      obtain ⟨c4, c5⟩ := HCC.out wr HB.out
      obtain ⟨eo, ec, cEW, hREW⟩ := (HO.out W (Below.refl _ _)).row s hsn
      have ef := hREW.fit
      have et := hREW.top
      have HRE := (show Hid (∀ w2 : World, Below W.heap.size W w2 → RowE X w2 eo ec (E s)) from fun w2 hb => hREW.carry (fun k hk => hb.block k (HXL.out.2 k hk)) (fun _ h => h))
      have cE := (HB.out.cell (p := ⟨ob, s, none⟩) (HXL.out.2 ob (HO.out W (Below.refl _ _)).blk)).trans cEW
      clear hs c5 hREW cEW
      go_wp2_with (fail)
      go_loopw [26] (fun z wr => ∃ j : Nat, z = .int .i64 j ∧ j ≤ (E s).length ∧ Hid (SRow wr W.heap.size (((E s).take j).foldl joinE (stepR E n (l.take i)))) ∧ Hid (Below W.heap.size W wr)) (fun z _ => (E s).length - (intOf z).toNat)
      case atStart => exact ⟨0, rfl, by omega, HS, HB⟩
      case round =>
        obtain ⟨j, rfl, hj, HS2, HB2⟩ := hrel
        clear c4 hcell cE HS HB
        by_cases hje : j < (E s).length
        · obtain ⟨b3, off3, rfl, hXb3, hed⟩ := (HRE.out wr HB2.out).lie j hje
          have hmem : (E s)[j] ∈ E s := List.getElem_mem hje
          obtain ⟨hfe, ht0, htn⟩ := HFIT.out s hsn _ hmem
          have HTJ := (show Hid (((E s).take (j + 1)).foldl joinE (stepR E n (l.take i)) = joinE (((E s).take j).foldl joinE (stepR E n (l.take i))) (E s)[j]) from by show _ = _; rw [List.take_succ_eq_append_getElem hje, joinE_snoc])
          have HLN := (show Hid _ from HSE.out i ((E s).take j) (fun e he => HFIT.out s hsn e (List.mem_of_mem_take he)))
          obtain ⟨c0, c1, c2, c3, c4, c5, c6⟩ := hed
          generalize (E s)[j] = y at *
          obtain ⟨t, ht⟩ : ∃ t : Nat, y.to = (t : Int) := ⟨y.to.toNat, by omega⟩
          have HT := (show Hid (y.to = (t : Int)) from ht)
          have htn2 : t < n := by omega
          generalize ((E s).take j).foldl joinE (stepR E n (l.take i)) = R at *
          obtain ⟨w2, HW2⟩ : ∃ w2, Hid (w2 = wr.alloc (.cells #[.int .i64 y.fr, .int .i64 y.to, .bool y.free, .int .u64 y.a, .int .u64 y.b, .int .u64 y.c, .int .u64 y.d] 68)) := ⟨_, rfl⟩
          have HEB := (show Hid (EBox w2 wr.heap.size y) from by rw [HW2.out]; exact heap_alloc_new wr _)
          have HB3 := (show Hid (Below W.heap.size W w2) from by rw [HW2.out]; exact HB2.out.alloc HB2.out.size _)
          have HS3 := (show Hid (SRow w2 W.heap.size R) from by rw [HW2.out]; exact HS2.out.later (nf.below_alloc _ _))
          clear ht hmem
          go_wp2_with (fail)
          rw [← HW2.out]
          refine reg58 rfl ⟨W.heap.size, n, t, wr.heap.size, y, R, jn (nth R t) (setOf y)⟩ rfl rfl HS3.out HEB.out HT.out HLN.out.1 htn2 (join77 _ _ (fits_nth HLN.out.2 t (by rw [HLN.out.1]; exact htn2)) (fits_ed hfe)) ?_
          intro vals w4 hB4
          rw [fold58_8]
          have HS5 := (show Hid _ from (HS3.out.later hB4).put t (by rw [HLN.out.1]; exact htn2) (jn (nth R t) (setOf y)))
          have HB5 := (show Hid _ from below_set4 (st.chain HB3.out hB4) (g := W.heap.size) (Nat.le_refl _) t (.int .u64 (jn (nth R t) (setOf y)).a) (.int .u64 (jn (nth R t) (setOf y)).b) (.int .u64 (jn (nth R t) (setOf y)).c) (.int .u64 (jn (nth R t) (setOf y)).d))
          have HJE := (show Hid (joinE R y = R.set t (jn (nth R t) (setOf y))) from by show _ = _; unfold joinE; rw [HT.out]; rfl)
          clear hB4 HS3 HB3 HEB HS2 HB2
          generalize jn (nth R t) (setOf y) = J at *
          generalize (((w4.setCell ⟨W.heap.size, t * 4, none⟩ (.int .u64 J.a)).setCell ⟨W.heap.size, t * 4 + 1, none⟩ (.int .u64 J.b)).setCell ⟨W.heap.size, t * 4 + 2, none⟩ (.int .u64 J.c)).setCell ⟨W.heap.size, t * 4 + 3, none⟩ (.int .u64 J.d) = w5 at *
          go_wp2_with (fail)
          go_roundw
          case rel => exact ⟨j + 1, by go_num, by omega, by rw [HTJ.out, HJE.out]; exact HS5, HB5⟩
          case measure => simp [intOf]; omega
        · have HS3 := (show Hid (SRow wr W.heap.size (stepR E n (l.take (i + 1)))) from by
            have := HS2.out
            rw [List.take_of_length_le (l := E s) (by omega)] at this
            show SRow _ _ _
            rw [HTK.out]; exact this)
          clear HS2 HTK
          go_wp2_with (fail)
          go_roundw
          case rel => exact ⟨i + 1, by go_num, by omega, HS3, HB2⟩
          case measure => simp [intOf]; omega
    · have HS3 := (show Hid (SRow wr W.heap.size (stepR E n l)) from by
        have := HS.out
        rw [List.take_of_length_le (l := l) (by omega)] at this
        exact this)
      have c5 := (HCC.out wr HB.out).2
      have hsp := h78 X wr b W.heap.size fb fcap (stepR E n l) HS3.out HRS.out.len HRS.out.fits (HFR.out wr HB.out) c5 HXL.out.1 (fun h => Nat.lt_irrefl _ (HXL.out.2 _ h)) (fun k hk => Nat.lt_of_lt_of_le (HXL.out.2 k hk) HB.out.size)
      clear HS
      go_wp2_with (go_at_call 84; refine hsp.mono ?_; rintro e w6 ⟨⟨v, rfl⟩, R, hr6, hl6, hf6, hm6, hg6⟩)
      go_ret
      refine ⟨R, rfl, hr6, hl6, hf6, fun c hc => ?_, HB.out.grown hg6 HB.out.size (fun k hk => by cases hk; exact Nat.le_refl _)⟩
      refine (sig_set HR1.out hc HRS.out hl6 hm6).congr fun i _ => ?_
      rw [← HLL.out]
      exact to_of
end Go.Proofs.Ytfilndgbgdnpiaa.bd
