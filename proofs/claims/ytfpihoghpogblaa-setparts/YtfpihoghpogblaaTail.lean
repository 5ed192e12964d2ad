/-
  Over this program: the law SetParts' last statement: two arrays and two numbers compared, at a frame of letters.
-/
import Derived.Test.YtfpihoghpogblaaLast
import Derived.Laws.StructEq
namespace Go.Proofs.Ytfpihoghpogblaa.last
open Go.Sort Go.ChangeShapes Go.WideShapes Go.ChangeAt Go.RowKit
open st (Q4 Sets OwnSets Arr cells36 noughts cells4)
set_option linter.unusedVariables false

def ops43 : Array Oper := #[
            { dst := some 167, op := Op.load 36 (Operand.tmp 21), type := 36, pos := "law.go:76", after := #[],
              guard := none },
            { dst := some 168, op := Op.load 36 (Operand.tmp 7), type := 36, pos := "law.go:76", after := #[],
              guard := none },
            { dst := some 169, op := Op.binOp BinOp.eql 36 (Operand.tmp 167) (Operand.tmp 168) 36, type := 4,
              pos := "law.go:76", after := #[{ on := 0, ground := Ground.data }, { on := 1, ground := Ground.data }],
              guard := none },
            { dst := some 170, op := Op.move (Operand.tmp 169), type := 4, pos := "law.go:76",
              after := #[{ on := 2, ground := Ground.data }], guard := none },
            { dst := some 171, op := Op.move (Operand.tmp 22), type := 3, pos := "law.go:76",
              after := #[{ on := 3, ground := Ground.guard }], guard := some (3, true) },
            { dst := some 172, op := Op.move (Operand.tmp 8), type := 3, pos := "law.go:76",
              after := #[{ on := 3, ground := Ground.guard }], guard := some (3, true) },
            { dst := some 173, op := Op.binOp BinOp.eql 3 (Operand.tmp 171) (Operand.tmp 172) 3, type := 4,
              pos := "law.go:76",
              after :=
                #[{ on := 4, ground := Ground.data }, { on := 5, ground := Ground.data },
                  { on := 3, ground := Ground.guard }],
              guard := some (3, true) },
            { dst := some 174, op := Op.pick (Operand.tmp 170) (Operand.tmp 173) (Operand.const (Value.bool false)),
              type := 4, pos := "law.go:76",
              after := #[{ on := 3, ground := Ground.data }, { on := 6, ground := Ground.data }], guard := none },
            { dst := some 6, op := Op.assign (Operand.tmp 174), type := 4, pos := "law.go:76",
              after :=
                #[{ on := 7, ground := Ground.data }, { on := 3, ground := Ground.chain },
                  { on := 0, ground := Ground.phase }, { on := 1, ground := Ground.phase },
                  { on := 2, ground := Ground.phase }, { on := 3, ground := Ground.phase },
                  { on := 4, ground := Ground.phase }, { on := 5, ground := Ground.phase },
                  { on := 6, ground := Ground.phase }, { on := 7, ground := Ground.phase }],
              guard := none }]
section
variable {o : Oper} {a : Act} {w : World} {ops : Array Oper} {rest : List Oper} {Q : Exit → Act → World → Prop}
theorem l_val {v : Value} (hw : Region.wanted o (yielded ops a.tmps) = true) (h : (execOp a.eval o).run Try.prog w = .ok (.value v) w) (hk : wpList Try.prog ops Q rest (a.put o.dst v) w) : wpList Try.prog ops Q (o :: rest) a w := by
  unfold wpList
  rw [if_pos hw]
  left
  unfold Oper.wp
  rw [h]
  exact hk
theorem x_eq36 (x y : Operand) (xs : List Nat) (hl : xs.length = 256) (hx : a.eval x = .agg (cells36 xs)) (hy : a.eval y = .agg (cells36 xs)) (h : o.op = .binOp .eql 36 x y 36) : (execOp a.eval o).run Try.prog w = .ok (.value (.bool true)) w := by
  unfold execOp; rw [h]
  have h1 := run_eqGuard_agg (P := Try.prog) (w := w) .eql 36 x y (cells36 xs) (cells36 xs) (by kernel_rfl)
  have h2 : (binOp .eql 36 (.agg (cells36 xs)) (.agg (cells36 xs))).run Try.prog w = .ok (.bool true) w := by
    have h3 := st.eq36 xs hl w
    simp only [binOp, Op.equal, Op.maxDepth, Sem.run_bind, h3, Result.andThen_ok, Sem.run_pure]
  simp only [hx, hy, Sem.run_bind, h1, h2, Result.andThen_ok, Sem.run_pure]
theorem x_eqn (x y : Operand) (n : Nat) (hx : a.eval x = .int .i64 (n : Int)) (hy : a.eval y = .int .i64 (n : Int)) (h : o.op = .binOp .eql 3 x y 3) : (execOp a.eval o).run Try.prog w = .ok (.value (.bool true)) w := by
  unfold execOp; rw [h]
  simp [hx, hy, eqGuard, binOp, Op.intCmp]
theorem x_pick (x y z : Operand) (v : Value) (hx : a.eval x = .bool true) (hy : a.eval y = v) (h : o.op = .pick x y z) : (execOp a.eval o).run Try.prog w = .ok (.value v) w := by
  unfold execOp; rw [h]
  simp [hx, hy, asBool]
end
theorem ev_put_same (a : Act) (t : Nat) (v : Value) (h : t < a.tmps.size) : (a.put (some t) v).eval (.tmp t) = v := by
  simp [Act.eval, Act.put, Array.getD_eq_getD_getElem?, h]
theorem ev_put_ne (a : Act) (t s : Nat) (v : Value) (h : t ≠ s) : (a.put (some t) v).eval (.tmp s) = a.eval (.tmp s) := by
  simp [Act.eval, Act.put, Array.getD_eq_getD_getElem?, h]
theorem size_put (a : Act) (t : Nat) (v : Value) : (a.put (some t) v).tmps.size = a.tmps.size := by simp [Act.put]
theorem wants {a : Act} {o : Oper} (hg : o.guard = some (3, true)) (h : a.eval (.tmp 170) = .bool true) : Region.wanted o (yielded ops43 a.tmps) = true := by
  simp only [Region.wanted, hg]
  have : yielded ops43 a.tmps 3 = some true := by
    have h2 : a.tmps[170]? = some (.bool true) := by
      simp only [Act.eval, Array.getD_eq_getD_getElem?] at h
      cases e : a.tmps[170]? with
      | none => rw [e] at h; cases h
      | some v => rw [e] at h; exact congrArg some h
    unfold yielded
    simp [ops43, h2]
  rw [this]
  rfl

/-- what a step leaves: the frame's facts, for a frame of letters -/
theorem l_put {o : Oper} {a : Act} {w : World} {ops : Array Oper} {rest : List Oper} {Q : Exit → Act → World → Prop} {v : Value} {t : Nat} (hw : Region.wanted o (yielded ops a.tmps) = true) (h : (execOp a.eval o).run Try.prog w = .ok (.value v) w) (ht : o.dst = some t) (hs : t < a.tmps.size)
    (hk : ∀ a' : Act, a'.tmps.size = a.tmps.size → a'.defers = a.defers → a'.eval (.tmp t) = v → (∀ s, t ≠ s → a'.eval (.tmp s) = a.eval (.tmp s)) → wpList Try.prog ops Q rest a' w) : wpList Try.prog ops Q (o :: rest) a w :=
  l_val hw h (by rw [ht]; exact hk _ (size_put _ _ _) rfl (ev_put_same _ _ _ hs) (fun s hn => ev_put_ne _ _ _ _ hn))
theorem x_load36 {o : Oper} {a : Act} {w : World} (x : Operand) (g : Nat) (xs : List Nat) (hx : a.eval x = .pointer (some ⟨g, 0, none⟩)) (ha : Arr w g xs) (h : o.op = .load 36 x) : (execOp a.eval o).run Try.prog w = .ok (.value (.agg (cells36 xs))) w := by
  have hr : w.rangeAt g 0 (cells36 xs).toList := by
    intro j v hv
    rw [Nat.zero_add]
    have hj := (List.getElem?_eq_some_iff.1 hv).1
    simp [World.cell?, ha.1]
    simpa using hv
  unfold execOp; rw [h]
  simp only [hx, Sem.run_bind, run_loadAt_mid (P := Try.prog) w g 0 36 _ _ hr Try.underlying36 rfl ((st.info36 xs ha.2).trans (by simp)), Result.andThen_ok, Sem.run_pure]

theorem tail {a : Act} {w : World} {gA gc n : Nat} {xs : List Nat} {R : Ending → World → Prop} {id : Nat} (hsz : a.tmps.size = 175) (hd : a.defers = []) (h21 : a.eval (.tmp 21) = .pointer (some ⟨gA, 0, none⟩)) (h7 : a.eval (.tmp 7) = .pointer (some ⟨gc, 0, none⟩)) (h22 : a.eval (.tmp 22) = .int .i64 (n : Int)) (h8 : a.eval (.tmp 8) = .int .i64 (n : Int))
    (hA : Arr w gA xs) (hC : Arr w gc xs) (hR : R (.returned (.bool true)) w) : ((Code.region id ops43 false).seq Code.ret).wp Try.prog (bodyPost Try.prog Try.f7 R) a w := by
  have hx := hA.2
  refine wp_seq (wp_region_list ?_)
  refine l_put (t := 167) rfl (x_load36 (.tmp 21) gA xs h21 hA rfl) rfl (by omega) (fun a1 s1 d1 e1 o1 => ?_)
  refine l_put (t := 168) rfl (x_load36 (.tmp 7) gc xs ((o1 7 (by decide)).trans h7) hC rfl) rfl (by omega) (fun a2 s2 d2 e2 o2 => ?_)
  refine l_put (t := 169) rfl (x_eq36 (.tmp 167) (.tmp 168) xs hx ((o2 167 (by decide)).trans e1) e2 rfl) rfl (by omega) (fun a3 s3 d3 e3 o3 => ?_)
  refine l_put (t := 170) rfl ((x_move (.tmp 169) rfl).trans (by rw [e3])) rfl (by omega) (fun a4 s4 d4 e4 o4 => ?_)
  have k22 : a4.eval (.tmp 22) = .int .i64 (n : Int) := by rw [o4 22 (by decide), o3 22 (by decide), o2 22 (by decide), o1 22 (by decide), h22]
  have k8 : a4.eval (.tmp 8) = .int .i64 (n : Int) := by rw [o4 8 (by decide), o3 8 (by decide), o2 8 (by decide), o1 8 (by decide), h8]
  refine l_put (t := 171) (wants (a := a4) rfl e4) ((x_move (.tmp 22) rfl).trans (by rw [k22])) rfl (by omega) (fun a5 s5 d5 e5 o5 => ?_)
  have e45 : a5.eval (.tmp 170) = .bool true := by rw [o5 170 (by decide), e4]
  refine l_put (t := 172) (wants (a := a5) rfl e45) ((x_move (.tmp 8) rfl).trans (by rw [o5 8 (by decide), k8])) rfl (by omega) (fun a6 s6 d6 e6 o6 => ?_)
  have e46 : a6.eval (.tmp 170) = .bool true := by rw [o6 170 (by decide), e45]
  refine l_put (t := 173) (wants (a := a6) rfl e46) (x_eqn (.tmp 171) (.tmp 172) n ((o6 171 (by decide)).trans e5) e6 rfl) rfl (by omega) (fun a7 s7 d7 e7 o7 => ?_)
  refine l_put (t := 174) rfl (x_pick (.tmp 170) (.tmp 173) _ (.bool true) ((o7 170 (by decide)).trans e46) e7 rfl) rfl (by omega) (fun a8 s8 d8 e8 o8 => ?_)
  refine l_put (t := 6) rfl ((x_assign (.tmp 174) rfl).trans (by rw [e8])) rfl (by omega) (fun a9 s9 d9 e9 o9 => ?_)
  refine wpList_nil (wp_ret ⟨by rw [d9, d8, d7, d6, d5, d4, d3, d2, d1, hd], .bool true, ?_, hR⟩)
  rw [results_tmp (t := 6) rfl]
  exact congrArg (fun v => Result.ok v w) e9
end Go.Proofs.Ytfpihoghpogblaa.last
