/-
  Contracts over this program: the first set is numbered (builder.begin).
-/
import Derived.Test.YthknhbmibmndoaaKBm
namespace Go.Proofs.Ythknhbmibmndoaa.bd
open Go.Sort Go.ChangeShapes Go.WideShapes Go.ChangeAt Go.RowKit Go.Maps
open df (Kp Row iv In IntsV Owns)
open nf (Nfa Ed Rt IRow icells Eds nfaV)
open st (Q4 none4 Fits has nth jn sig Blk)
set_option linter.unusedVariables false
set_option maxRecDepth 10000

theorem f24_1 (b : Nat) (w : World) : (Instr.fieldAt 24 (.pointer (some ⟨b, 0, none⟩)) 1).run Try.prog w = .ok (.pointer (some ⟨b, 1, none⟩)) w := by go_simp
section
variable {o : Oper} {a : Act} {w : World}
theorem x_load24 {x : Operand} {b : Nat} {n s e : Int} {eo : Option Addr} {em ec : Nat} (h : o.op = .load 24 x) (hx : a.eval x = .pointer (some ⟨b, 0, none⟩)) (h0 : w.cell? ⟨b, 0, none⟩ = some (.int .i64 n)) (h1 : w.cell? ⟨b, 1, none⟩ = some (.int .i64 s)) (h2 : w.cell? ⟨b, 2, none⟩ = some (.int .i64 e)) (h3 : w.cell? ⟨b, 3, none⟩ = some (.slice eo em ec)) :
    (execOp a.eval o).run Try.prog w = .ok (.value (nfaV n s e eo em ec)) w := by
  have hr : w.rangeAt b 0 [.int .i64 n, .int .i64 s, .int .i64 e, .slice eo em ec] := by
    intro j v hv
    match j, hv with
    | 0, hv => simp at hv; subst hv; exact h0
    | 1, hv => simp at hv; subst hv; exact h1
    | 2, hv => simp at hv; subst hv; exact h2
    | 3, hv => simp at hv; subst hv; exact h3
    | j + 4, hv => simp at hv
  unfold execOp; rw [h]
  simp only [hx, Sem.run_bind, run_loadAt_mid (P := Try.prog) w b 0 24 _ _ hr Try.underlying24 rfl (by kernel_rfl), Result.andThen_ok, Sem.run_pure]
theorem x_build25 {x : Operand} {r : Int} (h : o.op = .buildSlice 25 1 #[(0, x)]) (hx : a.eval x = .int .i64 r) : (execOp a.eval o).run Try.prog w = .ok (.value (.slice (some ⟨w.heap.size, 0, none⟩) 1 1)) (w.alloc (.cells #[.int .i64 r] 3)) := by
  unfold execOp; rw [h]; simp only [List.map_toArray, List.map, hx]; go_simp
theorem x_call12 {x y : Operand} (h : o.op = .call { callee := .value (.func 12), args := #[x, y], argTypes := #[24, 25] }) : (execOp a.eval o).run Try.prog w = .ok (.enter 12 #[a.eval x, a.eval y]) w := by
  unfold execOp; rw [h]; kernel_rfl
theorem x_len25 {x : Operand} {g : Option Addr} {n cap : Nat} (h : o.op = .call { callee := .builtin .len, args := #[x], argTypes := #[25] }) (hx : a.eval x = .slice g n cap) : (execOp a.eval o).run Try.prog w = .ok (.value (.int .i64 (n : Int))) w := by
  unfold execOp
  simp only [h, resolve, invoke, builtin, Sem.run_bind, Sem.run_pure, Result.andThen_ok, List.map_toArray, List.map_cons, List.map_nil, hx]
  go_simp
theorem x_const {v : Value} (h : o.op = .move (.const v)) : (execOp a.eval o).run Try.prog w = .ok (.value v) w := by
  unfold execOp; rw [h]; rfl
end
def ops42_1 : Array Oper := #[
  { dst := some 9, op := Op.move (Operand.tmp 0), type := 71, pos := "build.go:68", after := #[], guard := none },
  { dst := some 10, op := Op.nilCheck (Operand.tmp 9), type := 0, pos := "build.go:68", after := #[{ on := 0, ground := Ground.data }], guard := none },
  { dst := some 11, op := Op.fieldAddr 77 (Operand.tmp 10) 0, type := 0, pos := "build.go:68", after := #[{ on := 1, ground := Ground.data }], guard := none },
  { dst := some 12, op := Op.load 24 (Operand.tmp 11), type := 24, pos := "build.go:68", after := #[{ on := 2, ground := Ground.data }], guard := none },
  { dst := some 13, op := Op.move (Operand.tmp 0), type := 71, pos := "build.go:68", after := #[], guard := none },
  { dst := some 14, op := Op.nilCheck (Operand.tmp 13), type := 0, pos := "build.go:68", after := #[{ on := 4, ground := Ground.data }], guard := none },
  { dst := some 15, op := Op.fieldAddr 77 (Operand.tmp 14) 0, type := 0, pos := "build.go:68", after := #[{ on := 5, ground := Ground.data }], guard := none },
  { dst := some 16, op := Op.fieldAddr 24 (Operand.tmp 15) 1, type := 0, pos := "build.go:68", after := #[{ on := 6, ground := Ground.data }], guard := none },
  { dst := some 17, op := Op.load 3 (Operand.tmp 16), type := 3, pos := "build.go:68", after := #[{ on := 7, ground := Ground.data }], guard := none },
  { dst := some 18, op := Op.buildSlice 25 1 #[(0, Operand.tmp 17)], type := 25, pos := "build.go:68", after := #[{ on := 8, ground := Ground.data }], guard := none },
  { dst := some 19, op := Op.call { callee := Callee.value (Operand.func 12), args := #[Operand.tmp 12, Operand.tmp 18], argTypes := #[24, 25] }, type := 25, pos := "build.go:68", after := #[{ on := 3, ground := Ground.data }, { on := 9, ground := Ground.data }], guard := none },
  { dst := some 20, op := Op.call { callee := Callee.builtin Builtin.len, args := #[Operand.tmp 19], argTypes := #[25] }, type := 3, pos := "build.go:68", after := #[{ on := 10, ground := Ground.data }], guard := none },
  { dst := some 21, op := Op.move (Operand.const (Value.int IntKind.i64 0)), type := 3, pos := "build.go:68", after := #[], guard := none }]
structure C42 where
  b : Nat
  x : Nfa
  eo : Option Addr
  ec : Nat
  L : List Int
def C42.fix (c : C42) (i : Nat) : Option Value := [some (.pointer (some ⟨c.b, 0, none⟩)), some (.pointer (some ⟨c.b, 0, none⟩)), some (.pointer (some ⟨c.b, 0, none⟩)), some (nfaV c.x.n c.x.s c.x.e c.eo c.x.edges.length c.ec), some (.pointer (some ⟨c.b, 0, none⟩)), some (.pointer (some ⟨c.b, 0, none⟩)), some (.pointer (some ⟨c.b, 0, none⟩)), some (.pointer (some ⟨c.b, 1, none⟩)), some (.int .i64 c.x.s), none, none, some (.int .i64 (c.L.length : Int)), some (.int .i64 0)].getD i none
structure W42 (W : World) (c : C42) (d : Nat → Prop) (vals : Nat → Value) (w : World) : Prop where
  be : Below W.heap.size W w
  el : d 9 → ¬ d 10 → ∃ g, vals 9 = .slice (some ⟨g, 0, none⟩) 1 1 ∧ Row (In w) w iv (some ⟨g, 0, none⟩) 1 [c.x.s]
  vl : d 10 → IntsV w (vals 10) c.L
theorem W42.plain {W : World} {c : C42} {d : Nat → Prop} {vals : Nat → Value} {w : World} (k : W42 W c d vals w) {i : Nat} (h1 : i ≠ 9) (h2 : i ≠ 10) (v : Value) : W42 W c (fun j => j = i ∨ d j) (dw.upd vals i v) w :=
  ⟨k.be, fun a b => by
    rw [dw.upd_ne _ _ (Ne.symm h1)]
    exact k.el (a.resolve_left (fun e => h1 e.symm)) fun x => b (.inr x), fun a => by
    rw [dw.upd_ne _ _ (Ne.symm h2)]
    exact k.vl (a.resolve_left (fun e => h2 e.symm))⟩
theorem one_row (W : World) (y : Int) : Row (In (W.alloc (.cells #[.int .i64 y] 3))) (W.alloc (.cells #[.int .i64 y] 3)) iv (some ⟨W.heap.size, 0, none⟩) 1 [y] :=
  ⟨Nat.le_refl _, by omega, fun i hi => ⟨W.heap.size, 0, rfl, by simp, by
    have : i = 0 := by simpa using hi
    subst this
    rw [Lib.cell_of_heap (World.alloc_heap_new W _)]; rfl⟩⟩
set_option maxHeartbeats 1000000 in
theorem reg42 {Q : Exit → Act → World → Prop} {a0 : Act} {id : Nat} (hsz : a0.tmps.size = 35) (c : C42) (e0 : a0.eval (.tmp 0) = .pointer (some ⟨c.b, 0, none⟩)) {W : World} (hc : ∀ w, Below W.heap.size W w → w.cell? ⟨c.b, 0, none⟩ = some (.int .i64 c.x.n) ∧ w.cell? ⟨c.b, 1, none⟩ = some (.int .i64 c.x.s) ∧ w.cell? ⟨c.b, 2, none⟩ = some (.int .i64 c.x.e) ∧ w.cell? ⟨c.b, 3, none⟩ = some (.slice c.eo c.x.edges.length c.ec))
    (h12 : ∀ w lo lcap, Below W.heap.size W w → Row (In w) w iv lo lcap [c.x.s] → Calls Try.prog 12 #[nfaV c.x.n c.x.s c.x.e c.eo c.x.edges.length c.ec, .slice lo 1 lcap] w fun ev w' => ∃ v, ev = .returned v ∧ IntsV w' v c.L ∧ Below w.heap.size w w')
    (fin : ∀ vals w, vals 11 = .int .i64 (c.L.length : Int) → vals 12 = .int .i64 0 → IntsV w (vals 10) c.L → Below W.heap.size W w → Q .normal (dw.fold ops42_1.toList 0 vals a0) w) : (Code.region id ops42_1 true).wp Try.prog Q a0 W := by
  refine dw.region (by kernel_rfl) (by rw [hsz]; kernel_rfl) c.fix (W42 W c) (fun vals => ⟨below_drew W, fun x => x.elim, fun x => x.elim⟩) ?_ ?_
  · intro i hi
    match i, hi with
    | 0, _ => intro d vals a w o ho hn hd hdl hcl hf hx hw K Q' E hk; exact dw.s_val (dw.gd_of ho rfl) ((dw.x_move (dw.op_of ho rfl)).trans (by rw [((hf.base 0 fun i hi => (by decide +kernel : ∀ i, i < ops42_1.size → dw.slot ops42_1 i ≠ some 0) i (hdl i hi)).trans e0)])) (hk _ w (fun u hu => by cases hu; rfl) (hw.plain (by decide) (by decide) _))
    | 1, _ => intro d vals a w o ho hn hd hdl hcl hf hx hw K Q' E hk; exact dw.s_val (dw.gd_of ho rfl) (dw.x_nil (dw.op_of ho rfl) ((hf.eval 0 (hd 0 (by kernel_rfl)) (t := 9) rfl).trans (hx 0 (hd 0 (by kernel_rfl)) _ rfl))) (hk _ w (fun u hu => by cases hu; rfl) (hw.plain (by decide) (by decide) _))
    | 2, _ => intro d vals a w o ho hn hd hdl hcl hf hx hw K Q' E hk; exact dw.s_val (dw.gd_of ho rfl) (dw.x_field (dw.op_of ho rfl) ((hf.eval 1 (hd 1 (by kernel_rfl)) (t := 10) rfl).trans (hx 1 (hd 1 (by kernel_rfl)) _ rfl)) (f77_0 _ _)) (hk _ w (fun u hu => by cases hu; rfl) (hw.plain (by decide) (by decide) _))
    | 3, _ => intro d vals a w o ho hn hd hdl hcl hf hx hw K Q' E hk; obtain ⟨q0, q1, q2, q3⟩ := hc w hw.be; exact dw.s_val (dw.gd_of ho rfl) (x_load24 (dw.op_of ho rfl) ((hf.eval 2 (hd 2 (by kernel_rfl)) (t := 11) rfl).trans (hx 2 (hd 2 (by kernel_rfl)) _ rfl)) q0 q1 q2 q3) (hk _ w (fun u hu => by cases hu; rfl) (hw.plain (by decide) (by decide) _))
    | 4, _ => intro d vals a w o ho hn hd hdl hcl hf hx hw K Q' E hk; exact dw.s_val (dw.gd_of ho rfl) ((dw.x_move (dw.op_of ho rfl)).trans (by rw [((hf.base 0 fun i hi => (by decide +kernel : ∀ i, i < ops42_1.size → dw.slot ops42_1 i ≠ some 0) i (hdl i hi)).trans e0)])) (hk _ w (fun u hu => by cases hu; rfl) (hw.plain (by decide) (by decide) _))
    | 5, _ => intro d vals a w o ho hn hd hdl hcl hf hx hw K Q' E hk; exact dw.s_val (dw.gd_of ho rfl) (dw.x_nil (dw.op_of ho rfl) ((hf.eval 4 (hd 4 (by kernel_rfl)) (t := 13) rfl).trans (hx 4 (hd 4 (by kernel_rfl)) _ rfl))) (hk _ w (fun u hu => by cases hu; rfl) (hw.plain (by decide) (by decide) _))
    | 6, _ => intro d vals a w o ho hn hd hdl hcl hf hx hw K Q' E hk; exact dw.s_val (dw.gd_of ho rfl) (dw.x_field (dw.op_of ho rfl) ((hf.eval 5 (hd 5 (by kernel_rfl)) (t := 14) rfl).trans (hx 5 (hd 5 (by kernel_rfl)) _ rfl)) (f77_0 _ _)) (hk _ w (fun u hu => by cases hu; rfl) (hw.plain (by decide) (by decide) _))
    | 7, _ => intro d vals a w o ho hn hd hdl hcl hf hx hw K Q' E hk; exact dw.s_val (dw.gd_of ho rfl) (dw.x_field (dw.op_of ho rfl) ((hf.eval 6 (hd 6 (by kernel_rfl)) (t := 15) rfl).trans (hx 6 (hd 6 (by kernel_rfl)) _ rfl)) (f24_1 _ _)) (hk _ w (fun u hu => by cases hu; rfl) (hw.plain (by decide) (by decide) _))
    | 8, _ => intro d vals a w o ho hn hd hdl hcl hf hx hw K Q' E hk; exact dw.s_val (dw.gd_of ho rfl) (x_load3 (dw.op_of ho rfl) ((hf.eval 7 (hd 7 (by kernel_rfl)) (t := 16) rfl).trans (hx 7 (hd 7 (by kernel_rfl)) _ rfl)) (hc w hw.be).2.1) (hk _ w (fun u hu => by cases hu; rfl) (hw.plain (by decide) (by decide) _))
    | 9, _ =>
        intro d vals a w o ho hn hd hdl hcl hf hx hw K Q' E hk
        have n10 : ¬ d 10 := fun x => hn (hcl 10 9 x (by kernel_rfl))
        exact dw.s_val (dw.gd_of ho rfl) (x_build25 (dw.op_of ho rfl) ((hf.eval 8 (hd 8 (by kernel_rfl)) (t := 17) rfl).trans (hx 8 (hd 8 (by kernel_rfl)) _ rfl))) (hk _ _ (fun u hu => by cases hu) ⟨hw.be.alloc hw.be.size _, fun _ _ => ⟨w.heap.size, by rw [dw.upd_same], one_row w _⟩, fun x => absurd (x.resolve_left (by decide)) n10⟩)
    | 10, _ =>
        intro d vals a w o ho hn hd hdl hcl hf hx hw K Q' E hk
        obtain ⟨g, e, hr⟩ := hw.el (hd 9 (by kernel_rfl)) hn
        have v3 := ((hf.eval 3 (hd 3 (by kernel_rfl)) (t := 12) rfl).trans (hx 3 (hd 3 (by kernel_rfl)) _ rfl))
        have v9 := (hf.eval 9 (hd 9 (by kernel_rfl)) (t := 18) rfl).trans e
        refine dw.s_call (dw.gd_of ho rfl) (x_call12 (dw.op_of ho rfl)) (by rw [v3, v9]; exact h12 w (some ⟨g, 0, none⟩) 1 hw.be hr) ?_
        rintro ev w' ⟨v, rfl, hv, hb⟩
        exact ⟨v, rfl, hk _ w' (fun u hu => by cases hu) ⟨st.chain hw.be hb, fun _ x => absurd (.inl rfl) x, fun _ => by rw [dw.upd_same]; exact hv⟩⟩
    | 11, _ =>
        intro d vals a w o ho hn hd hdl hcl hf hx hw K Q' E hk
        obtain ⟨vo, vc, e, _⟩ := hw.vl (hd 10 (by kernel_rfl))
        have v10 := (hf.eval 10 (hd 10 (by kernel_rfl)) (t := 19) rfl).trans e
        exact dw.s_val (dw.gd_of ho rfl) (x_len25 (dw.op_of ho rfl) v10) (hk _ w (fun u hu => by cases hu; rfl) (hw.plain (by decide) (by decide) _))
    | 12, _ => intro d vals a w o ho hn hd hdl hcl hf hx hw K Q' E hk; exact dw.s_val (dw.gd_of ho rfl) (x_const (dw.op_of ho rfl)) (hk _ w (fun u hu => by cases hu; rfl) (hw.plain (by decide) (by decide) _))
    | i + 13, hi => exact absurd hi (by simp [ops42_1])
  · intro vals w hx hw
    exact fin vals w (hx 11 (by decide) _ rfl) (hx 12 (by decide) _ rfl) (hw.vl (by decide)) hw.be
theorem fold42_1 (vals : Nat → Value) (a : Act) : dw.fold ops42_1.toList 0 vals a = (((((((((((((a.put (some 9) (vals 0)).put (some 10) (vals 1)).put (some 11) (vals 2)).put (some 12) (vals 3)).put (some 13) (vals 4)).put (some 14) (vals 5)).put (some 15) (vals 6)).put (some 16) (vals 7)).put (some 17) (vals 8)).put (some 18) (vals 9)).put (some 19) (vals 10)).put (some 20) (vals 11)).put (some 21) (vals 12)) := by
  unfold ops42_1
  simp only [dw.fold, Nat.zero_add, Nat.reduceAdd]
theorem full_has (c : Nat) (hc : c < 256) : has (st.rng 0 255) c = true := by
  unfold st.rng
  rw [st.has_such _ _ hc]
  simp
  omega
def setAll (R : List Q4) (q : Q4) (l : List Int) : List Q4 := l.foldl (fun R t => R.set t.toNat q) R
theorem setAll_snoc (R : List Q4) (q : Q4) (l : List Int) (t : Int) : setAll R q (l ++ [t]) = (setAll R q l).set t.toNat q := by unfold setAll; rw [List.foldl_append]; rfl
theorem setAll_rs {n : Nat} {q : Q4} (hq : Fits q) : ∀ (l : List Int) (R : List Q4), R.length = n → (∀ r ∈ R, Fits r) → (∀ t ∈ l, 0 ≤ t ∧ t < (n : Int)) → (setAll R q l).length = n ∧ (∀ r ∈ setAll R q l, Fits r) ∧ ∀ i, i < n → nth (setAll R q l) i = if (i : Int) ∈ l then q else nth R i
  | [], R, hl, hf, _ => ⟨hl, hf, fun i hi => by simp [setAll]⟩
  | t :: l, R, hl, hf, ht => by
    obtain ⟨t1, t2⟩ := ht t List.mem_cons_self
    obtain ⟨a, b, c⟩ := setAll_rs hq l (R.set t.toNat q) (by simpa using hl) (fits_set hf _ hq) (fun u hu => ht u (List.mem_cons_of_mem _ hu))
    refine ⟨a, b, fun i hi => ?_⟩
    have e : setAll R q (t :: l) = setAll (R.set t.toNat q) q l := rfl
    rw [e, c i hi, nth_set R t.toNat i q (by omega) (by omega)]
    by_cases h1 : (i : Int) ∈ l
    · rw [if_pos h1, if_pos (List.mem_cons_of_mem _ h1)]
    · rw [if_neg h1]
      by_cases h2 : i = t.toNat
      · rw [if_pos h2, if_pos (by rw [show (i : Int) = t by omega]; exact List.mem_cons_self)]
      · rw [if_neg h2, if_neg (fun h => by
          rcases List.mem_cons.1 h with h | h
          · omega
          · exact h1 h)]
theorem begin_set {x : Nfa} {n : Nat} (R1 : Rt x n) {L : List Int} (hL : nf.IsFree x [x.s] L) : IsSet n (Begin x) (sig (setAll (List.replicate n none4) (st.rng 0 255) L) 0) := by
  have hr : ∀ t ∈ L, 0 ≤ t ∧ t < (n : Int) := fun t ht => reach_in R1 (fun u hu => by have := R1.hx; omega) t ((hL.mem t).1 ht)
  obtain ⟨a, b, c⟩ := setAll_rs (n := n) (q := st.rng 0 255) (st.fits_such _) L (List.replicate n none4) (by simp) (fun r hr => by rw [List.eq_of_mem_replicate hr]; exact st.fits_none) hr
  refine ⟨by rw [st.sig_length]; exact a, fun i hi => ?_⟩
  have hi2 : i < n := by rw [st.sig_length] at hi; omega
  have e : (sig (setAll (List.replicate n none4) (st.rng 0 255) L) 0)[i] = has (nth (setAll (List.replicate n none4) (st.rng 0 255) L) i) 0 := by rw [← st.sig_at _ 0 i (by omega), List.getD_eq_getElem?_getD, List.getElem?_eq_getElem hi]; rfl
  have hb : (i : Int) ∈ L ↔ Begin x (i : Int) := (hL.mem _).trans ⟨fun r => r.mono fun t h => List.mem_singleton.1 h.1, fun r => r.mono fun t h => ⟨by rw [h]; simp, by rw [h]; exact R1.s.1, by rw [h, R1.hx]; exact R1.s.2⟩⟩
  rw [e, c i hi2, ← hb]
  by_cases h : (i : Int) ∈ L
  · rw [if_pos h]; simp [h, full_has 0 (by omega)]
  · rw [if_neg h, nth_get _ _ (by simpa using hi2), List.getElem_replicate, st.has_none]; simp [h]
end Go.Proofs.Ythknhbmibmndoaa.bd
