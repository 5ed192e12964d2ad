/-
  Over this program: the law SetParts' last statement but one (a set more, and the classes again), whatever order its steps take: one invariant over what is done, what the frame holds and what memory holds.
-/
import Derived.Test.YtfpihoghpogblaaRowI
import Derived.RegionTactic
import Derived.Deep.MidRow
import Derived.Laws.CopyOwn
namespace Go.Proofs.Ytfpihoghpogblaa.last
open Go.Sort Go.ChangeShapes Go.WideShapes Go.ChangeAt Go.RowKit
open st (Q4 Sets OwnSets Arr cells36 noughts cells4)
set_option linter.unusedVariables false

def ops42 : Array Oper := #[{ dst := some 149, op := Op.buildSlice 35 0 #[], type := 35, pos := "law.go:75", after := #[], guard := none },
  { dst := some 150, op := Op.move (Operand.tmp 0), type := 35, pos := "law.go:75", after := #[], guard := none },
  { dst := some 151,
    op :=
      Op.call
        { callee := Callee.builtin Builtin.append, args := #[Operand.tmp 149, Operand.tmp 150], argTypes := #[35, 35] },
    type := 35, pos := "law.go:75", after := #[{ on := 0, ground := Ground.data }, { on := 1, ground := Ground.data }],
    guard := none },
  { dst := some 152, op := Op.move (Operand.tmp 0), type := 35, pos := "law.go:75", after := #[], guard := none },
  { dst := some 153, op := Op.move (Operand.tmp 1), type := 3, pos := "law.go:75", after := #[], guard := none },
  { dst := some 154, op := Op.indexAddr 35 (Operand.tmp 152) (Operand.tmp 153), type := 0, pos := "law.go:75",
    after := #[{ on := 3, ground := Ground.data }, { on := 4, ground := Ground.data }], guard := none },
  { dst := some 155, op := Op.load 25 (Operand.tmp 154), type := 25, pos := "law.go:75",
    after := #[{ on := 5, ground := Ground.data }], guard := none },
  { dst := some 156, op := Op.move (Operand.tmp 0), type := 35, pos := "law.go:75", after := #[], guard := none },
  { dst := some 157, op := Op.move (Operand.tmp 2), type := 3, pos := "law.go:75", after := #[], guard := none },
  { dst := some 158, op := Op.indexAddr 35 (Operand.tmp 156) (Operand.tmp 157), type := 0, pos := "law.go:75",
    after := #[{ on := 7, ground := Ground.data }, { on := 8, ground := Ground.data }], guard := none },
  { dst := some 159, op := Op.load 25 (Operand.tmp 158), type := 25, pos := "law.go:75",
    after := #[{ on := 9, ground := Ground.data }], guard := none },
  { dst := some 160,
    op := Op.call { callee := Callee.value (Operand.func 21), args := #[Operand.tmp 159], argTypes := #[25] },
    type := 25, pos := "law.go:75",
    after := #[{ on := 10, ground := Ground.data }, { on := 2, ground := Ground.chain }], guard := none },
  { dst := some 161,
    op :=
      Op.call
        { callee := Callee.value (Operand.func 17), args := #[Operand.tmp 155, Operand.tmp 160],
          argTypes := #[25, 25] },
    type := 25, pos := "law.go:75",
    after :=
      #[{ on := 6, ground := Ground.data }, { on := 11, ground := Ground.data }, { on := 11, ground := Ground.chain }],
    guard := none },
  { dst := some 162, op := Op.buildSlice 35 1 #[(0, Operand.tmp 161)], type := 35, pos := "law.go:75",
    after := #[{ on := 12, ground := Ground.data }], guard := none },
  { dst := some 163,
    op :=
      Op.call
        { callee := Callee.builtin Builtin.append, args := #[Operand.tmp 151, Operand.tmp 162], argTypes := #[35, 35] },
    type := 35, pos := "law.go:75",
    after :=
      #[{ on := 2, ground := Ground.data }, { on := 13, ground := Ground.data }, { on := 12, ground := Ground.chain }],
    guard := none },
  { dst := some 164,
    op := Op.call { callee := Callee.value (Operand.func 23), args := #[Operand.tmp 163], argTypes := #[35] },
    type := 37, pos := "law.go:75",
    after := #[{ on := 14, ground := Ground.data }, { on := 14, ground := Ground.chain }], guard := none },
  { dst := some 148, op := Op.move (Operand.tmp 164), type := 37, pos := "law.go:75",
    after := #[{ on := 15, ground := Ground.data }], guard := none },
  { dst := some 165, op := Op.extract (Operand.tmp 148) 0, type := 36, pos := "law.go:75",
    after := #[{ on := 16, ground := Ground.data }], guard := none },
  { dst := some 166, op := Op.extract (Operand.tmp 148) 1, type := 3, pos := "law.go:75",
    after := #[{ on := 16, ground := Ground.data }, { on := 20, ground := Ground.gcOnly Departure.lateStores }],
    guard := none },
  { dst := some 21, op := Op.alloc 36, type := 0, pos := "law.go:75", after := #[], guard := none },
  { dst := none, op := Op.store 36 (Operand.tmp 21) (Operand.tmp 165), type := 0, pos := "law.go:75",
    after :=
      #[{ on := 19, ground := Ground.data }, { on := 17, ground := Ground.data }, { on := 15, ground := Ground.chain },
        { on := 0, ground := Ground.phase }, { on := 1, ground := Ground.phase }, { on := 2, ground := Ground.phase },
        { on := 3, ground := Ground.phase }, { on := 4, ground := Ground.phase }, { on := 5, ground := Ground.phase },
        { on := 6, ground := Ground.phase }, { on := 7, ground := Ground.phase }, { on := 8, ground := Ground.phase },
        { on := 9, ground := Ground.phase }, { on := 10, ground := Ground.phase }, { on := 11, ground := Ground.phase },
        { on := 12, ground := Ground.phase }, { on := 13, ground := Ground.phase },
        { on := 14, ground := Ground.phase }, { on := 15, ground := Ground.phase },
        { on := 16, ground := Ground.phase }, { on := 17, ground := Ground.phase },
        { on := 18, ground := Ground.textOnly Departure.lateStores }, { on := 19, ground := Ground.phase }],
    guard := none },
  { dst := some 22, op := Op.assign (Operand.tmp 166), type := 3, pos := "law.go:75",
    after :=
      #[{ on := 18, ground := Ground.data }, { on := 20, ground := Ground.chain }, { on := 0, ground := Ground.phase },
        { on := 1, ground := Ground.phase }, { on := 2, ground := Ground.phase }, { on := 3, ground := Ground.phase },
        { on := 4, ground := Ground.phase }, { on := 5, ground := Ground.phase }, { on := 6, ground := Ground.phase },
        { on := 7, ground := Ground.phase }, { on := 8, ground := Ground.phase }, { on := 9, ground := Ground.phase },
        { on := 10, ground := Ground.phase }, { on := 11, ground := Ground.phase },
        { on := 12, ground := Ground.phase }, { on := 13, ground := Ground.phase },
        { on := 14, ground := Ground.phase }, { on := 15, ground := Ground.phase },
        { on := 16, ground := Ground.phase }, { on := 17, ground := Ground.phase },
        { on := 18, ground := Ground.phase }, { on := 19, ground := Ground.phase },
        { on := 20, ground := Ground.phase }],
    guard := none }]


def slotOf (i : Nat) : Option Nat := [some 149, some 150, some 151, some 152, some 153, some 154, some 155, some 156, some 157, some 158, some 159, some 160, some 161, some 162, some 163, some 164, some 148, some 165, some 166, some 21, none, some 22].getD i none
def Lst (listed : Array Bool) (i : Nat) : Prop := listed.getD i false = true
def afts (i : Nat) : List Nat := [[], [], [0, 1], [], [], [3, 4], [5], [], [], [7, 8], [9], [10, 2], [6, 11], [12], [2, 13, 12], [14], [15], [16], [16], [], [19, 17, 15, 2, 13, 14], [18, 20]].getD i []

theorem slot_inj0 : ∀ i, i < 22 → ∀ j, j < 22 → slotOf i = slotOf j → (slotOf i).isSome = true → i = j := by decide +kernel
theorem slot_inj (i : Nat) (hi : i < 22) (j : Nat) (hj : j < 22) (t : Nat) (h : slotOf i = some t) (k : slotOf j = some t) : i = j := slot_inj0 i hi j hj (by rw [h, k]) (by rw [h]; rfl)
theorem slot_lt : ∀ i, i < 22 → ∀ t, slotOf i = some t → t < 175 := by
  intro i hi t h
  have : ∀ i, i < 22 → (slotOf i).getD 0 < 175 := by decide +kernel
  have h2 := this i hi
  rw [h] at h2
  exact h2
theorem afts_ok : ∀ i, i < 22 → ∀ j ∈ afts i, ((ops42[i]?.map (·.after)).getD #[]).any (fun e => e.on == j && Region.binds .any e) = true := by decide +kernel
theorem afts_lt : ∀ i, i < 22 → ((ops42[i]?.map (·.after)).getD #[]).all (fun e => !Region.binds .any e || decide (e.on < i)) = true := by decide +kernel

theorem op_some {i : Nat} (hi : i < 22) : ∃ o, ops42[i]? = some o := ⟨ops42[i]'(by simpa [ops42] using hi), Array.getElem?_eq_getElem _⟩
theorem ready_of {listed : Array Bool} {i : Nat} (h : i ∈ Region.ready .any ops42 listed) : i < 22 ∧ listed.getD i true = false ∧ ∀ j ∈ afts i, Lst listed j := by
  unfold Region.ready at h
  rw [List.mem_filter] at h
  obtain ⟨h1, h2⟩ := h
  have hi : i < 22 := by simpa [ops42] using h1
  simp only [Bool.and_eq_true, Bool.not_eq_true'] at h2
  refine ⟨hi, h2.1, fun j hj => ?_⟩
  have h3 := h2.2
  have h5 := afts_ok i hi j hj
  obtain ⟨o, hoo⟩ := op_some hi
  rw [hoo] at h3 h5
  simp only [Option.map_some, Option.getD_some] at h3 h5
  rw [Array.any_eq_true'] at h5
  obtain ⟨e, he, hb⟩ := h5
  simp only [Bool.and_eq_true, beq_iff_eq] at hb
  have h4 := (Array.all_eq_true_iff_forall_mem.1 h3) e he
  rw [hb.2, hb.1] at h4
  unfold Lst
  simpa using h4
theorem all_of {listed : Array Bool} (hs : listed.size = 22) (h : Region.ready .any ops42 listed = []) : ∀ i, i < 22 → Lst listed i := by
  intro i
  induction i using Nat.strongRecOn with
  | ind i ih =>
    intro hi
    by_cases hl : Lst listed i
    · exact hl
    · exfalso
      have hm : i ∈ Region.ready .any ops42 listed := by
        unfold Region.ready
        rw [List.mem_filter]
        refine ⟨by simpa [ops42] using hi, ?_⟩
        simp only [Bool.and_eq_true, Bool.not_eq_true']
        refine ⟨?_, ?_⟩
        · unfold Lst at hl
          rw [Array.getD_eq_getD_getElem?] at hl ⊢
          rw [Array.getElem?_eq_getElem (by omega)] at hl ⊢
          simpa using hl
        · have h8 := afts_lt i hi
          obtain ⟨o, hoo⟩ := op_some hi
          rw [hoo] at h8 ⊢
          simp only [Option.map_some, Option.getD_some] at h8 ⊢
          rw [Array.all_eq_true_iff_forall_mem]
          intro e he
          have h5 := (Array.all_eq_true_iff_forall_mem.1 h8) e he
          cases hb : Region.binds .any e with
          | false => rfl
          | true =>
            rw [hb] at h5
            have h6 : e.on < i := by simpa using h5
            have h7 := ih e.on h6 (by omega)
            unfold Lst at h7
            simp [h7]
      rw [h] at hm
      cases hm

/-- what the frame holds -/
structure Fr (a0 a : Act) (listed : Array Bool) (vals : Nat → Value) : Prop where
  size : a.tmps.size = 175
  defers : a.defers = a0.defers
  done : ∀ i, i < 22 → Lst listed i → ∀ t, slotOf i = some t → a.tmps[t]? = some (vals i)
  other : ∀ t, (∀ i, i < 22 → Lst listed i → slotOf i ≠ some t) → a.tmps[t]? = a0.tmps[t]?

theorem lst_set {listed : Array Bool} (hs : listed.size = 22) {i : Nat} (hi : i < 22) (j : Nat) : Lst (listed.setIfInBounds i true) j ↔ j = i ∨ Lst listed j := by
  unfold Lst
  rw [Array.getD_eq_getD_getElem?, Array.getD_eq_getD_getElem?, Array.getElem?_setIfInBounds]
  by_cases h : i = j
  · subst h; simp [hs, hi]
  · rw [if_neg h]
    constructor
    · exact .inr
    · rintro (e | e)
      · exact absurd e.symm h
      · exact e
theorem not_lst {listed : Array Bool} (hs : listed.size = 22) {i : Nat} (hi : i < 22) (h : listed.getD i true = false) : ¬ Lst listed i := by
  unfold Lst
  rw [Array.getD_eq_getD_getElem?] at h ⊢
  rw [Array.getElem?_eq_getElem (by omega)] at h ⊢
  simp at h ⊢
  exact h

def upd (f : Nat → Value) (i : Nat) (v : Value) : Nat → Value := fun j => if j = i then v else f j
theorem upd_same (f : Nat → Value) (i : Nat) (v : Value) : upd f i v i = v := by simp [upd]
theorem upd_ne (f : Nat → Value) {i j : Nat} (v : Value) (h : j ≠ i) : upd f i v j = f j := by simp [upd, h]

theorem Fr.put {a0 a : Act} {listed : Array Bool} {vals : Nat → Value} (h : Fr a0 a listed vals) (hs : listed.size = 22) {i : Nat} (hi : i < 22) (hn : ¬ Lst listed i) {t : Nat} (ht : slotOf i = some t) (v : Value) : Fr a0 (a.put (some t) v) (listed.setIfInBounds i true) (upd vals i v) := by
  have htl := slot_lt i hi t ht
  refine ⟨by simp [Act.put, h.size], h.defers, fun j hj hl t' ht' => ?_, fun t' ht' => ?_⟩
  · show (a.tmps.setIfInBounds t v)[t']? = _
    rcases (lst_set hs hi j).1 hl with rfl | hl
    · rw [ht] at ht'
      cases ht'
      rw [Array.getElem?_setIfInBounds, if_pos rfl, if_pos (by rw [h.size]; exact htl), upd_same]
    · have hne : j ≠ i := fun e => hn (e ▸ hl)
      have htn : t ≠ t' := fun e => hne (slot_inj j hj i hi t (by rw [ht', e]) ht)
      rw [Array.getElem?_setIfInBounds, if_neg htn, upd_ne _ _ hne]
      exact h.done j hj hl t' ht'
  · show (a.tmps.setIfInBounds t v)[t']? = _
    have htn : t ≠ t' := fun e => ht' i hi ((lst_set hs hi i).2 (.inl rfl)) (by rw [ht, e])
    rw [Array.getElem?_setIfInBounds, if_neg htn]
    exact h.other t' (fun j hj hl => ht' j hj ((lst_set hs hi j).2 (.inr hl)))
theorem Fr.skip {a0 a : Act} {listed : Array Bool} {vals : Nat → Value} (h : Fr a0 a listed vals) (hs : listed.size = 22) : Fr a0 a (listed.setIfInBounds 20 true) vals := by
  refine ⟨h.size, h.defers, fun j hj hl t' ht' => ?_, fun t' ht' => h.other t' (fun j hj hl => ht' j hj ((lst_set hs (by omega) j).2 (.inr hl)))⟩
  rcases (lst_set hs (by omega) j).1 hl with rfl | hl
  · simp [slotOf] at ht'
  · exact h.done j hj hl t' ht'
theorem Fr.eval {a0 a : Act} {listed : Array Bool} {vals : Nat → Value} (h : Fr a0 a listed vals) {i : Nat} (hi : i < 22) (hl : Lst listed i) {t : Nat} (ht : slotOf i = some t) : a.eval (.tmp t) = vals i := by
  have := h.done i hi hl t ht
  simp [Act.eval, this]
theorem Fr.base {a0 a : Act} {listed : Array Bool} {vals : Nat → Value} (h : Fr a0 a listed vals) (t : Nat) (ht : ∀ i, i < 22 → slotOf i ≠ some t) : a.eval (.tmp t) = a0.eval (.tmp t) := by
  have := h.other t (fun i hi _ => ht i hi)
  simp [Act.eval, this]

section
variable {o : Oper} {a : Act} {w : World}
theorem x_move (x : Operand) (h : o.op = .move x) : (execOp a.eval o).run Try.prog w = .ok (.value (a.eval x)) w := by
  unfold execOp; rw [h]; rfl
theorem x_assign (x : Operand) (h : o.op = .assign x) : (execOp a.eval o).run Try.prog w = .ok (.value (a.eval x)) w := by
  unfold execOp; rw [h]; rfl
theorem x_extract (x : Operand) (k : Nat) (vs : Array Value) (v : Value) (h : o.op = .extract x k) (hx : a.eval x = .tuple vs) (hv : vs[k]? = some v) : (execOp a.eval o).run Try.prog w = .ok (.value v) w := by
  unfold execOp; rw [h]; simp [hx, Instr.extract, hv]
theorem x_build0 (h : o.op = .buildSlice 35 0 #[]) : (execOp a.eval o).run Try.prog w = .ok (.value (.slice (some ⟨w.heap.size, 0, none⟩) 0 0)) (w.alloc (.cells #[] 25)) := by
  unfold execOp; rw [h]; kernel_rfl
theorem x_build1 (x : Operand) (p q r s : Nat) (hx : a.eval x = .agg #[.int .u64 p, .int .u64 q, .int .u64 r, .int .u64 s]) (h : o.op = .buildSlice 35 1 #[(0, x)]) : (execOp a.eval o).run Try.prog w = .ok (.value (.slice (some ⟨w.heap.size, 0, none⟩) 1 1)) (w.alloc (.cells #[.int .u64 p, .int .u64 q, .int .u64 r, .int .u64 s] 25)) := by
  unfold execOp; rw [h]; simp only [List.map_toArray, List.map, hx]; kernel_rfl
theorem x_call21 (x : Operand) (h : o.op = .call { callee := .value (.func 21), args := #[x], argTypes := #[25] }) : (execOp a.eval o).run Try.prog w = .ok (.enter 21 #[a.eval x]) w := by
  unfold execOp; rw [h]; kernel_rfl
theorem x_call23 (x : Operand) (h : o.op = .call { callee := .value (.func 23), args := #[x], argTypes := #[35] }) : (execOp a.eval o).run Try.prog w = .ok (.enter 23 #[a.eval x]) w := by
  unfold execOp; rw [h]; kernel_rfl
theorem x_call17 (x y : Operand) (h : o.op = .call { callee := .value (.func 17), args := #[x, y], argTypes := #[25, 25] }) : (execOp a.eval o).run Try.prog w = .ok (.enter 17 #[a.eval x, a.eval y]) w := by
  unfold execOp; rw [h]; kernel_rfl
theorem x_alloc (h : o.op = .alloc 36) : (execOp a.eval o).run Try.prog w = .ok (.value (.pointer (some ⟨w.heap.size, 0, none⟩))) (w.alloc (.cells (cells36 noughts) 36)) := by
  unfold execOp; rw [h]
  simp only [Instr.alloc, Sem.run_bind, st.zero36 w, Result.andThen_ok]
  rfl
theorem x_index (x y : Operand) (b off n cap i : Nat) (hx : a.eval x = .slice (some ⟨b, off, none⟩) n cap) (hy : a.eval y = .int .i64 i) (hi : i < n) (h : o.op = .indexAddr 35 x y) : (execOp a.eval o).run Try.prog w = .ok (.value (.pointer (some ⟨b, off + i * 4, none⟩))) w := by
  unfold execOp; rw [h]
  obtain ⟨i0, hi0, hz0, hz1, hz2⟩ := info_parts st.info25
  have hs : (sizeOf 25).run Try.prog w = .ok 4 w := by simp [sizeOf, typeInfo, hi0, hz1, Sem.run_bind]
  have hb : (0 : Int) ≤ (i : Int) ∧ (i : Int) < (n : Int) := by omega
  simp only [Instr.indexAt, hx, hy, asIntOf, Sem.run_bind, Sem.run_pure, Result.andThen_ok, run_underlying Try.underlying35, hb, and_self, if_true, hs, Int.toNat_natCast, Addr.add_mid]
theorem x_load (x : Operand) (b off : Nat) (q : Q4) (hx : a.eval x = .pointer (some ⟨b, off, none⟩)) (h : o.op = .load 25 x) (hc : w.cell? ⟨b, off, none⟩ = some (.int .u64 q.a) ∧ w.cell? ⟨b, off + 1, none⟩ = some (.int .u64 q.b) ∧ w.cell? ⟨b, off + 2, none⟩ = some (.int .u64 q.c) ∧ w.cell? ⟨b, off + 3, none⟩ = some (.int .u64 q.d)) :
    (execOp a.eval o).run Try.prog w = .ok (.value (.agg #[.int .u64 q.a, .int .u64 q.b, .int .u64 q.c, .int .u64 q.d])) w := by
  have hr : w.rangeAt b off [.int .u64 q.a, .int .u64 q.b, .int .u64 q.c, .int .u64 q.d] := by
    intro j v hv
    match j, hv with
    | 0, hv => simp at hv; subst hv; exact hc.1
    | 1, hv => simp at hv; subst hv; exact hc.2.1
    | 2, hv => simp at hv; subst hv; exact hc.2.2.1
    | 3, hv => simp at hv; subst hv; exact hc.2.2.2
    | j + 4, hv => simp at hv
  unfold execOp; rw [h]
  simp only [hx, Sem.run_bind, run_loadAt_mid (P := Try.prog) w b off 25 _ _ hr Try.underlying25 rfl (by kernel_rfl), Result.andThen_ok, Sem.run_pure]
theorem x_store (x y : Operand) (g : Nat) (xs : List Nat) (hl : xs.length = 256) (hx : a.eval x = .pointer (some ⟨g, 0, none⟩)) (hy : a.eval y = .agg (cells36 xs)) (ha : Arr w g noughts) (h : o.op = .store 36 x y) :
    (execOp a.eval o).run Try.prog w = .ok .skip (w.setRow g (cells36 xs)) := by
  unfold execOp; rw [h]
  have h1 := run_storeVar_row (P := Try.prog) w g 36 36 (cells36 noughts) (cells36 xs) ha.1 (st.info36 xs hl) (by rw [st.cells36_size _ hl, st.cells36_size _ st.noughts_len]) (st.cells36_one xs)
  simp only [hx, hy, Instr.storeAt, Instr.sureAddr, Sem.run_bind, Sem.run_pure, Result.andThen_ok, h1]

variable {ops : Array Oper} {K : Act → World → Prop} {Q : Exit → Act → World → Prop} {E : Prop}
theorem s_val {v : Value} {w' : World} (hg : o.guard = none) (h : (execOp a.eval o).run Try.prog w = .ok (.value v) w') (hk : K (a.put o.dst v) w') : if Region.wanted o (yielded ops a.tmps) = true then Oper.wp Try.prog o a w K Q else E := by
  have hw : Region.wanted o (yielded ops a.tmps) = true := by simp [Region.wanted, hg]
  rw [if_pos hw]; unfold Oper.wp; rw [h]; exact hk
theorem s_skip {w' : World} (hg : o.guard = none) (h : (execOp a.eval o).run Try.prog w = .ok .skip w') (hk : K (a.put o.dst undef) w') : if Region.wanted o (yielded ops a.tmps) = true then Oper.wp Try.prog o a w K Q else E := by
  have hw : Region.wanted o (yielded ops a.tmps) = true := by simp [Region.wanted, hg]
  rw [if_pos hw]; unfold Oper.wp; rw [h]; exact hk
theorem s_call {f : Nat} {args : Array Value} {v : Value} (hg : o.guard = none) (h : (execOp a.eval o).run Try.prog w = .ok (.enter f args) w) (hc : Calls Try.prog f args w fun e w' => e = .returned v ∧ Below w.heap.size w w')
    (hk : ∀ w', Below w.heap.size w w' → K (a.put o.dst v) w') : if Region.wanted o (yielded ops a.tmps) = true then Oper.wp Try.prog o a w K Q else E := by
  have hw : Region.wanted o (yielded ops a.tmps) = true := by simp [Region.wanted, hg]
  rw [if_pos hw]; unfold Oper.wp; rw [h, Oper.upon_enter]
  refine hc.mono ?_
  rintro e w' ⟨rfl, hb⟩
  exact hk w' hb
end

def agg (q : Q4) : Value := .agg #[.int .u64 q.a, .int .u64 q.b, .int .u64 q.c, .int .u64 q.d]
/-- what is fixed beforehand: the two places, the sets there, the set made of them, the table and its number -/
structure Cx where
  gg : Nat
  off : Nat
  cap : Nat
  i1 : Nat
  i2 : Nat
  l : List Q4
  q1 : Q4
  q2 : Q4
  nn : Q4
  ss : Q4
  xs : List Nat
  n : Nat
def Cx.row (c : Cx) : Value := .slice (some ⟨c.gg, c.off, none⟩) c.l.length c.cap
def Cx.fix (c : Cx) (i : Nat) : Option Value := [none, some c.row, none, some c.row, some (.int .i64 (c.i1 : Int)), some (.pointer (some ⟨c.gg, c.off + c.i1 * 4, none⟩)), some (agg c.q1), some c.row, some (.int .i64 (c.i2 : Int)), some (.pointer (some ⟨c.gg, c.off + c.i2 * 4, none⟩)), some (agg c.q2), some (agg c.nn), some (agg c.ss), none, none, some (.tuple #[.agg (cells36 c.xs), .int .i64 (c.n : Int)]), some (.tuple #[.agg (cells36 c.xs), .int .i64 (c.n : Int)]), some (.agg (cells36 c.xs)), some (.int .i64 (c.n : Int)), none, none, some (.int .i64 (c.n : Int))].getD i none

/-- what memory holds -/
structure Wl (c : Cx) (w5 w : World) (listed : Array Bool) (vals : Nat → Value) : Prop where
  below : Below w5.heap.size w5 w
  f0 : Lst listed 0 → ¬ Lst listed 2 → ∃ g, vals 0 = .slice (some ⟨g, 0, none⟩) 0 0 ∧ w5.heap.size ≤ g ∧ w.heap[g]? = some (.cells #[] 25 (0, 0))
  f2 : Lst listed 2 → ¬ Lst listed 14 → OwnSets w5.heap.size w (vals 2) c.l
  f13 : Lst listed 13 → ¬ Lst listed 14 → ∃ g, vals 13 = .slice (some ⟨g, 0, none⟩) 1 1 ∧ g < w.heap.size ∧ ∀ j u, (cells4 [c.ss])[j]? = some u → w.cell? ((⟨g, 0, none⟩ : Addr).add j) = some u
  f14 : Lst listed 14 → ¬ Lst listed 15 → OwnSets w5.heap.size w (vals 14) (c.l ++ [c.ss])
  f19 : Lst listed 19 → ∃ g, vals 19 = .pointer (some ⟨g, 0, none⟩) ∧ w5.heap.size ≤ g ∧ (¬ Lst listed 20 → Arr w g noughts) ∧ (Lst listed 20 → Arr w g c.xs)
  o13 : Lst listed 13 → Lst listed 2
  o12 : Lst listed 12 → Lst listed 2
  o11 : Lst listed 11 → Lst listed 2
  o14 : Lst listed 14 → Lst listed 2
  o20 : Lst listed 20 → Lst listed 19

theorem add0 (g j : Nat) : ((⟨g, 0, none⟩ : Addr).add j).block = g := by unfold Addr.add; split <;> simp_all
theorem Wl.later {c : Cx} {w5 w w' : World} {listed : Array Bool} {vals : Nat → Value} (h : Wl c w5 w listed vals) (b : Below w.heap.size w w') : Wl c w5 w' listed vals := by
  refine ⟨h.below.trans (b.mono h.below.size), fun x y => ?_, fun x y => st.OwnSets.later (h.f2 x y) b, fun x y => ?_, fun x y => st.OwnSets.later (h.f14 x y) b, fun x => ?_, h.o13, h.o12, h.o11, h.o14, h.o20⟩
  · obtain ⟨g, e, hg, hh⟩ := h.f0 x y
    exact ⟨g, e, hg, by rw [b.block g (Array.getElem?_eq_some_iff.1 hh).1]; exact hh⟩
  · obtain ⟨g, e, hg, hh⟩ := h.f13 x y
    exact ⟨g, e, Nat.lt_of_lt_of_le hg b.size, fun j u hu => by rw [b.cell (by rw [add0]; exact hg)]; exact hh j u hu⟩
  · obtain ⟨g, e, hg, h1, h2⟩ := h.f19 x
    exact ⟨g, e, hg, fun y => (h1 y).later b (h1 y).lt, fun y => (h2 y).later b (h2 y).lt⟩
theorem Wl.plain {c : Cx} {w5 w : World} {listed : Array Bool} {vals : Nat → Value} (h : Wl c w5 w listed vals) (hs : listed.size = 22) {i : Nat} (hi : i < 22) (h0 : i ≠ 0 ∧ i ≠ 2 ∧ i ≠ 13 ∧ i ≠ 14 ∧ i ≠ 19 ∧ i ≠ 20)
    (hd : ∀ j ∈ afts i, Lst listed j) (v : Value) : Wl c w5 w (listed.setIfInBounds i true) (upd vals i v) := by
  have up : ∀ {j}, j ≠ i → Lst (listed.setIfInBounds i true) j → Lst listed j := fun hj hl => by
    rcases (lst_set hs hi _).1 hl with e | e
    · exact absurd e hj
    · exact e
  have dn : ∀ {j}, Lst listed j → Lst (listed.setIfInBounds i true) j := fun hl => (lst_set hs hi _).2 (.inr hl)
  obtain ⟨a0, a2, a13, a14, a19, a20⟩ := h0
  refine ⟨h.below, fun x y => ?_, fun x y => ?_, fun x y => ?_, fun x y => ?_, fun x => ?_, fun x => dn (h.o13 (up a13.symm x)), fun x => ?_, fun x => ?_, fun x => dn (h.o14 (up a14.symm x)), fun x => dn (h.o20 (up a20.symm x))⟩
  · rw [upd_ne _ _ a0.symm]; exact h.f0 (up a0.symm x) (fun z => y (dn z))
  · rw [upd_ne _ _ a2.symm]; exact h.f2 (up a2.symm x) (fun z => y (dn z))
  · rw [upd_ne _ _ a13.symm]; exact h.f13 (up a13.symm x) (fun z => y (dn z))
  · rw [upd_ne _ _ a14.symm]; exact h.f14 (up a14.symm x) (fun z => y (dn z))
  · rw [upd_ne _ _ a19.symm]
    obtain ⟨g, e, hg, h1, h2⟩ := h.f19 (up a19.symm x)
    exact ⟨g, e, hg, fun y => h1 (fun z => y (dn z)), fun y => h2 (up a20.symm y)⟩
  · by_cases e : i = 12
    · subst e; exact dn (h.o11 (hd 11 (by decide)))
    · exact dn (h.o12 (up (fun z => e z.symm) x))
  · by_cases e : i = 11
    · subst e; exact dn (hd 2 (by decide))
    · exact dn (h.o11 (up (fun z => e z.symm) x))
theorem Wl.s0 {c : Cx} {w5 w : World} {listed : Array Bool} {vals : Nat → Value} (h : Wl c w5 w listed vals) (hs : listed.size = 22) : Wl c w5 (w.alloc (.cells #[] 25)) (listed.setIfInBounds 0 true) (upd vals 0 (.slice (some ⟨w.heap.size, 0, none⟩) 0 0)) := by
  have h' := h.later ((Below.refl _ _).alloc (Nat.le_refl _) (.cells #[] 25))
  have up : ∀ {j}, j ≠ 0 → Lst (listed.setIfInBounds 0 true) j → Lst listed j := fun hj hl => by
    rcases (lst_set hs (by omega) _).1 hl with e | e
    · exact absurd e hj
    · exact e
  have dn : ∀ {j}, Lst listed j → Lst (listed.setIfInBounds 0 true) j := fun hl => (lst_set hs (by omega) _).2 (.inr hl)
  refine ⟨h'.below, fun x y => ⟨_, upd_same _ _ _, h.below.size, heap_alloc_new w _⟩, fun x y => ?_, fun x y => ?_, fun x y => ?_, fun x => ?_, fun x => dn (h.o13 (up (by omega) x)), fun x => dn (h.o12 (up (by omega) x)), fun x => dn (h.o11 (up (by omega) x)), fun x => dn (h.o14 (up (by omega) x)), fun x => dn (h.o20 (up (by omega) x))⟩
  · rw [upd_ne _ _ (by omega)]; exact h'.f2 (up (by omega) x) (fun z => y (dn z))
  · rw [upd_ne _ _ (by omega)]; exact h'.f13 (up (by omega) x) (fun z => y (dn z))
  · rw [upd_ne _ _ (by omega)]; exact h'.f14 (up (by omega) x) (fun z => y (dn z))
  · rw [upd_ne _ _ (by omega)]
    obtain ⟨g, e, hg, h1, h2⟩ := h'.f19 (up (by omega) x)
    exact ⟨g, e, hg, fun y => h1 (fun z => y (dn z)), fun y => h2 (up (by omega) y)⟩
theorem Wl.s2 {c : Cx} {w5 w w' : World} {listed : Array Bool} {vals : Nat → Value} (h : Wl c w5 w listed vals) (hs : listed.size = 22) (hn : ¬ Lst listed 2) (h0 : Lst listed 0) {v' : Value} (ho : OwnSets w5.heap.size w' v' c.l) (t : w.grownBy w' (vals 0).ownBlock) : Wl c w5 w' (listed.setIfInBounds 2 true) (upd vals 2 v') := by
  have up : ∀ {j}, j ≠ 2 → Lst (listed.setIfInBounds 2 true) j → Lst listed j := fun hj hl => by
    rcases (lst_set hs (by omega) _).1 hl with e | e
    · exact absurd e hj
    · exact e
  have dn : ∀ {j}, Lst listed j → Lst (listed.setIfInBounds 2 true) j := fun hl => (lst_set hs (by omega) _).2 (.inr hl)
  have two : Lst (listed.setIfInBounds 2 true) 2 := (lst_set hs (by omega) _).2 (.inl rfl)
  obtain ⟨g, e, hg, hh⟩ := h.f0 h0 hn
  have own : OwnSets w5.heap.size w (vals 0) [] := by rw [e]; exact st.own_empty hh hg
  refine ⟨h.below.grown t h.below.size (st.OwnSets.row own), fun x y => absurd two y, fun x y => by rw [upd_same]; exact ho, fun x y => absurd (h.o13 (up (by omega) x)) hn, fun x y => absurd (h.o14 (up (by omega) x)) hn, fun x => ?_, fun x => two, fun x => two, fun x => two, fun x => two, fun x => dn (h.o20 (up (by omega) x))⟩
  rw [upd_ne _ _ (by omega)]
  obtain ⟨g, e, hg, h1, h2⟩ := h.f19 (up (by omega) x)
  exact ⟨g, e, hg, fun y => st.Arr.past (h1 (fun z => y (dn z))) own t, fun y => st.Arr.past (h2 (up (by omega) y)) own t⟩
theorem Wl.s13 {c : Cx} {w5 w : World} {listed : Array Bool} {vals : Nat → Value} (h : Wl c w5 w listed vals) (hs : listed.size = 22) (h12 : Lst listed 12) : Wl c w5 (w.alloc (.cells #[.int .u64 c.ss.a, .int .u64 c.ss.b, .int .u64 c.ss.c, .int .u64 c.ss.d] 25)) (listed.setIfInBounds 13 true) (upd vals 13 (.slice (some ⟨w.heap.size, 0, none⟩) 1 1)) := by
  have h' := h.later ((Below.refl _ _).alloc (Nat.le_refl _) (.cells #[.int .u64 c.ss.a, .int .u64 c.ss.b, .int .u64 c.ss.c, .int .u64 c.ss.d] 25))
  have up : ∀ {j}, j ≠ 13 → Lst (listed.setIfInBounds 13 true) j → Lst listed j := fun hj hl => by
    rcases (lst_set hs (by omega) _).1 hl with e | e
    · exact absurd e hj
    · exact e
  have dn : ∀ {j}, Lst listed j → Lst (listed.setIfInBounds 13 true) j := fun hl => (lst_set hs (by omega) _).2 (.inr hl)
  refine ⟨h'.below, fun x y => ?_, fun x y => ?_, fun x y => ⟨_, upd_same _ _ _, by simp, st.four_cells1 w c.ss⟩, fun x y => ?_, fun x => ?_, fun x => dn (h.o12 h12), fun x => dn (h.o12 (up (by omega) x)), fun x => dn (h.o11 (up (by omega) x)), fun x => dn (h.o14 (up (by omega) x)), fun x => dn (h.o20 (up (by omega) x))⟩
  · rw [upd_ne _ _ (by omega)]; exact h'.f0 (up (by omega) x) (fun z => y (dn z))
  · rw [upd_ne _ _ (by omega)]; exact h'.f2 (up (by omega) x) (fun z => y (dn z))
  · rw [upd_ne _ _ (by omega)]; exact h'.f14 (up (by omega) x) (fun z => y (dn z))
  · rw [upd_ne _ _ (by omega)]
    obtain ⟨g, e, hg, h1, h2⟩ := h'.f19 (up (by omega) x)
    exact ⟨g, e, hg, fun y => h1 (fun z => y (dn z)), fun y => h2 (up (by omega) y)⟩
theorem Wl.s14 {c : Cx} {w5 w w' : World} {listed : Array Bool} {vals : Nat → Value} (h : Wl c w5 w listed vals) (hs : listed.size = 22) (hn : ¬ Lst listed 14) (h2 : Lst listed 2) {v' : Value} (ho : OwnSets w5.heap.size w' v' (c.l ++ [c.ss])) (t : w.grownBy w' (vals 2).ownBlock) : Wl c w5 w' (listed.setIfInBounds 14 true) (upd vals 14 v') := by
  have up : ∀ {j}, j ≠ 14 → Lst (listed.setIfInBounds 14 true) j → Lst listed j := fun hj hl => by
    rcases (lst_set hs (by omega) _).1 hl with e | e
    · exact absurd e hj
    · exact e
  have dn : ∀ {j}, Lst listed j → Lst (listed.setIfInBounds 14 true) j := fun hl => (lst_set hs (by omega) _).2 (.inr hl)
  have me : Lst (listed.setIfInBounds 14 true) 14 := (lst_set hs (by omega) _).2 (.inl rfl)
  have own := h.f2 h2 hn
  refine ⟨h.below.grown t h.below.size (st.OwnSets.row own), fun x y => absurd (dn h2) y, fun x y => absurd me y, fun x y => absurd me y, fun x y => by rw [upd_same]; exact ho, fun x => ?_, fun x => dn h2, fun x => dn h2, fun x => dn h2, fun x => dn h2, fun x => dn (h.o20 (up (by omega) x))⟩
  rw [upd_ne _ _ (by omega)]
  obtain ⟨g, e, hg, h1, h3⟩ := h.f19 (up (by omega) x)
  exact ⟨g, e, hg, fun y => st.Arr.past (h1 (fun z => y (dn z))) own t, fun y => st.Arr.past (h3 (up (by omega) y)) own t⟩
theorem Wl.s19 {c : Cx} {w5 w : World} {listed : Array Bool} {vals : Nat → Value} (h : Wl c w5 w listed vals) (hs : listed.size = 22) (hn : ¬ Lst listed 19) : Wl c w5 (w.alloc (.cells (cells36 noughts) 36)) (listed.setIfInBounds 19 true) (upd vals 19 (.pointer (some ⟨w.heap.size, 0, none⟩))) := by
  have h' := h.later ((Below.refl _ _).alloc (Nat.le_refl _) (.cells (cells36 noughts) 36))
  have up : ∀ {j}, j ≠ 19 → Lst (listed.setIfInBounds 19 true) j → Lst listed j := fun hj hl => by
    rcases (lst_set hs (by omega) _).1 hl with e | e
    · exact absurd e hj
    · exact e
  have dn : ∀ {j}, Lst listed j → Lst (listed.setIfInBounds 19 true) j := fun hl => (lst_set hs (by omega) _).2 (.inr hl)
  have me : Lst (listed.setIfInBounds 19 true) 19 := (lst_set hs (by omega) _).2 (.inl rfl)
  refine ⟨h'.below, fun x y => ?_, fun x y => ?_, fun x y => ?_, fun x y => ?_, fun x => ⟨_, upd_same _ _ _, h.below.size, fun _ => ⟨heap_alloc_new w _, st.noughts_len⟩, fun y => absurd (h.o20 (up (by omega) y)) hn⟩, fun x => dn (h.o13 (up (by omega) x)), fun x => dn (h.o12 (up (by omega) x)), fun x => dn (h.o11 (up (by omega) x)), fun x => dn (h.o14 (up (by omega) x)), fun x => me⟩
  · rw [upd_ne _ _ (by omega)]; exact h'.f0 (up (by omega) x) (fun z => y (dn z))
  · rw [upd_ne _ _ (by omega)]; exact h'.f2 (up (by omega) x) (fun z => y (dn z))
  · rw [upd_ne _ _ (by omega)]; exact h'.f13 (up (by omega) x) (fun z => y (dn z))
  · rw [upd_ne _ _ (by omega)]; exact h'.f14 (up (by omega) x) (fun z => y (dn z))
theorem Wl.s20 {c : Cx} {w5 w : World} {listed : Array Bool} {vals : Nat → Value} (h : Wl c w5 w listed vals) (hs : listed.size = 22) (h2 : Lst listed 2) (h14 : Lst listed 14) (h15 : Lst listed 15) (h19 : Lst listed 19) {g : Nat} (e : vals 19 = .pointer (some ⟨g, 0, none⟩)) (hg : w5.heap.size ≤ g) (ha : Arr w g noughts) (hx : c.xs.length = 256) : Wl c w5 (w.setRow g (cells36 c.xs)) (listed.setIfInBounds 20 true) vals := by
  have dn : ∀ {j}, Lst listed j → Lst (listed.setIfInBounds 20 true) j := fun hl => (lst_set hs (by omega) _).2 (.inr hl)
  have me : Lst (listed.setIfInBounds 20 true) 20 := (lst_set hs (by omega) _).2 (.inl rfl)
  exact ⟨below_setRow h.below hg _, fun x y => absurd (dn h2) y, fun x y => absurd (dn h14) y, fun x y => absurd (dn h14) y, fun x y => absurd (dn h15) y, fun x => ⟨g, e, hg, fun y => absurd me y, fun _ => st.Arr.row ha hx⟩, fun x => dn h2, fun x => dn h2, fun x => dn h2, fun x => dn h2, fun x => dn h19⟩

/-- all of it -/
structure Inv (c : Cx) (a0 a : Act) (w5 w : World) (listed : Array Bool) (vals : Nat → Value) : Prop where
  size : listed.size = 22
  fr : Fr a0 a listed vals
  fixed : ∀ i, i < 22 → Lst listed i → ∀ v, c.fix i = some v → vals i = v
  wl : Wl c w5 w listed vals

/-- the context's facts -/
structure Facts (c : Cx) (a0 : Act) (w5 : World) : Prop where
  s0 : a0.eval (.tmp 0) = c.row
  s1 : a0.eval (.tmp 1) = .int .i64 (c.i1 : Int)
  s2 : a0.eval (.tmp 2) = .int .i64 (c.i2 : Int)
  h1 : c.i1 < c.l.length
  h2 : c.i2 < c.l.length
  len : c.l.length ≤ 1000
  sets : Sets w5 c.row c.l
  lt : c.gg < w5.heap.size
  c1 : w5.cell? ⟨c.gg, c.off + c.i1 * 4, none⟩ = some (.int .u64 c.q1.a) ∧ w5.cell? ⟨c.gg, c.off + c.i1 * 4 + 1, none⟩ = some (.int .u64 c.q1.b) ∧ w5.cell? ⟨c.gg, c.off + c.i1 * 4 + 2, none⟩ = some (.int .u64 c.q1.c) ∧ w5.cell? ⟨c.gg, c.off + c.i1 * 4 + 3, none⟩ = some (.int .u64 c.q1.d)
  c2 : w5.cell? ⟨c.gg, c.off + c.i2 * 4, none⟩ = some (.int .u64 c.q2.a) ∧ w5.cell? ⟨c.gg, c.off + c.i2 * 4 + 1, none⟩ = some (.int .u64 c.q2.b) ∧ w5.cell? ⟨c.gg, c.off + c.i2 * 4 + 2, none⟩ = some (.int .u64 c.q2.c) ∧ w5.cell? ⟨c.gg, c.off + c.i2 * 4 + 3, none⟩ = some (.int .u64 c.q2.d)
  not : st.NotIs c.q2 c.nn
  join : st.JoinIs c.q1 c.nn c.ss
  classes : st.ClassesIs (c.l ++ [c.ss]) c.xs c.n
  xs : c.xs.length = 256

theorem Inv.ev {c : Cx} {a0 a : Act} {w5 w : World} {listed : Array Bool} {vals : Nat → Value} (h : Inv c a0 a w5 w listed vals) {i t : Nat} {v : Value} (hi : i < 22) (hl : Lst listed i) (ht : slotOf i = some t) (hv : c.fix i = some v) : a.eval (.tmp t) = v := by
  rw [h.fr.eval hi hl ht, h.fixed i hi hl v hv]
theorem Inv.put {c : Cx} {a0 a : Act} {w5 w w' : World} {listed : Array Bool} {vals : Nat → Value} (h : Inv c a0 a w5 w listed vals) {i t : Nat} {v : Value} (hi : i < 22) (hn : ¬ Lst listed i) (ht : slotOf i = some t) (hv : ∀ u, c.fix i = some u → v = u) (hw : Wl c w5 w' (listed.setIfInBounds i true) (upd vals i v)) : Inv c a0 (a.put (some t) v) w5 w' (listed.setIfInBounds i true) (upd vals i v) := by
  refine ⟨by simp [h.size], h.fr.put h.size hi hn ht v, fun j hj hl u hu => ?_, hw⟩
  by_cases e : j = i
  · subst e; rw [upd_same]; exact hv u hu
  · rw [upd_ne _ _ e]
    rcases (lst_set h.size hi j).1 hl with z | z
    · exact absurd z e
    · exact h.fixed j hj z u hu
theorem Inv.plain {c : Cx} {a0 a : Act} {w5 w w' : World} {listed : Array Bool} {vals : Nat → Value} (h : Inv c a0 a w5 w listed vals) {i t : Nat} {v : Value} (hi : i < 22) (hn : ¬ Lst listed i) (hd : ∀ j ∈ afts i, Lst listed j) (ht : slotOf i = some t) (hv : c.fix i = some v) (b : Below w.heap.size w w')
    (h0 : i ≠ 0 ∧ i ≠ 2 ∧ i ≠ 13 ∧ i ≠ 14 ∧ i ≠ 19 ∧ i ≠ 20) : Inv c a0 (a.put (some t) v) w5 w' (listed.setIfInBounds i true) (upd vals i v) :=
  h.put hi hn ht (fun u hu => by rw [hv] at hu; exact Option.some.inj hu) ((h.wl.later b).plain h.size hi h0 hd v)

theorem base (t : Nat) (ht : t < 21) : ∀ i, i < 22 → slotOf i ≠ some t := by
  have h : ∀ i, i < 22 → 21 ≤ (slotOf i).getD 21 := by decide +kernel
  intro i hi e
  have := h i hi
  rw [e] at this
  simp at this
  omega

theorem step {c : Cx} {a0 a : Act} {w5 w : World} {listed : Array Bool} {vals : Nat → Value} {Q : Exit → Act → World → Prop} (F : Facts c a0 w5) (h : Inv c a0 a w5 w listed vals) {i : Nat} (hm : i ∈ Region.ready .any ops42 listed) {K : Act → World → Prop}
    (hk : ∀ a' w' vals', Inv c a0 a' w5 w' (listed.setIfInBounds i true) vals' → K a' w') : wpOp Try.prog ops42 Q i K a w := by
  obtain ⟨hi, hf, hd⟩ := ready_of hm
  have hn := not_lst h.size hi hf
  have B := Below.refl w.heap.size w
  have ev0 : a.eval (.tmp 0) = c.row := by rw [h.fr.base 0 (base 0 (by omega)), F.s0]
  have ev1 : a.eval (.tmp 1) = .int .i64 (c.i1 : Int) := by rw [h.fr.base 1 (base 1 (by omega)), F.s1]
  have ev2 : a.eval (.tmp 2) = .int .i64 (c.i2 : Int) := by rw [h.fr.base 2 (base 2 (by omega)), F.s2]
  match i, hi with
  | 0, hi => exact wpOp_step rfl fun K' hK => s_val rfl (x_build0 rfl) (hK _ _ (hk _ _ _ (h.put hi hn rfl (fun u hu => by cases hu) (h.wl.s0 h.size))))
  | 1, hi => exact wpOp_step rfl fun K' hK => s_val rfl ((x_move (.tmp 0) rfl).trans (by rw [ev0])) (hK _ _ (hk _ _ _ (h.plain hi hn hd rfl rfl B (by decide))))
  | 2, hi =>
    have l0 := hd 0 (by decide)
    have l1 := hd 1 (by decide)
    obtain ⟨g, e, hg, hh⟩ := h.wl.f0 l0 hn
    have own : OwnSets w5.heap.size w (vals 0) [] := by rw [e]; exact st.own_empty hh hg
    refine wpOp_step rfl fun K' hK => st.step_sets rfl (.tmp 149) (.tmp 150) rfl w5.heap.size (vals 0) [] c.l (h.fr.eval (by omega) l0 rfl) own ⟨c.gg, c.off, none⟩ c.l.length c.cap (h.ev (by omega) l1 rfl rfl) rfl (st.sets_cells (F.sets.below h.wl.below)) (by have := F.len; simp; omega) h.wl.below.size ?_
    intro v' w' o t
    rw [List.nil_append] at o
    exact hK _ _ (hk _ _ _ (h.put hi hn rfl (fun u hu => by cases hu) (h.wl.s2 h.size hn l0 o t)))
  | 3, hi => exact wpOp_step rfl fun K' hK => s_val rfl ((x_move (.tmp 0) rfl).trans (by rw [ev0])) (hK _ _ (hk _ _ _ (h.plain hi hn hd rfl rfl B (by decide))))
  | 4, hi => exact wpOp_step rfl fun K' hK => s_val rfl ((x_move (.tmp 1) rfl).trans (by rw [ev1])) (hK _ _ (hk _ _ _ (h.plain hi hn hd rfl rfl B (by decide))))
  | 5, hi => exact wpOp_step rfl fun K' hK => s_val rfl (x_index (.tmp 152) (.tmp 153) c.gg c.off c.l.length c.cap c.i1 (h.ev (by omega) (hd 3 (by decide)) rfl rfl) (h.ev (by omega) (hd 4 (by decide)) rfl rfl) F.h1 rfl) (hK _ _ (hk _ _ _ (h.plain hi hn hd rfl rfl B (by decide))))
  | 6, hi =>
    refine wpOp_step rfl fun K' hK => s_val rfl (x_load (.tmp 154) c.gg (c.off + c.i1 * 4) c.q1 (h.ev (by omega) (hd 5 (by decide)) rfl rfl) rfl ?_) (hK _ _ (hk _ _ _ (h.plain hi hn hd rfl rfl B (by decide))))
    refine ⟨?_, ?_, ?_, ?_⟩ <;> rw [h.wl.below.cell F.lt]
    · exact F.c1.1
    · exact F.c1.2.1
    · exact F.c1.2.2.1
    · exact F.c1.2.2.2
  | 7, hi => exact wpOp_step rfl fun K' hK => s_val rfl ((x_move (.tmp 0) rfl).trans (by rw [ev0])) (hK _ _ (hk _ _ _ (h.plain hi hn hd rfl rfl B (by decide))))
  | 8, hi => exact wpOp_step rfl fun K' hK => s_val rfl ((x_move (.tmp 2) rfl).trans (by rw [ev2])) (hK _ _ (hk _ _ _ (h.plain hi hn hd rfl rfl B (by decide))))
  | 9, hi => exact wpOp_step rfl fun K' hK => s_val rfl (x_index (.tmp 156) (.tmp 157) c.gg c.off c.l.length c.cap c.i2 (h.ev (by omega) (hd 7 (by decide)) rfl rfl) (h.ev (by omega) (hd 8 (by decide)) rfl rfl) F.h2 rfl) (hK _ _ (hk _ _ _ (h.plain hi hn hd rfl rfl B (by decide))))
  | 10, hi =>
    refine wpOp_step rfl fun K' hK => s_val rfl (x_load (.tmp 158) c.gg (c.off + c.i2 * 4) c.q2 (h.ev (by omega) (hd 9 (by decide)) rfl rfl) rfl ?_) (hK _ _ (hk _ _ _ (h.plain hi hn hd rfl rfl B (by decide))))
    refine ⟨?_, ?_, ?_, ?_⟩ <;> rw [h.wl.below.cell F.lt]
    · exact F.c2.1
    · exact F.c2.2.1
    · exact F.c2.2.2.1
    · exact F.c2.2.2.2
  | 11, hi =>
    have e := h.ev (by omega) (hd 10 (by decide)) (t := 159) rfl rfl
    refine wpOp_step rfl fun K' hK => s_call rfl (x_call21 (.tmp 159) rfl) (v := agg c.nn) ?_ (fun w' b => hK _ _ (hk _ _ _ (h.plain hi hn hd rfl rfl b (by decide))))
    rw [e]
    exact F.not w
  | 12, hi =>
    have e := h.ev (by omega) (hd 6 (by decide)) (t := 155) rfl rfl
    have e2 := h.ev (by omega) (hd 11 (by decide)) (t := 160) rfl rfl
    refine wpOp_step rfl fun K' hK => s_call rfl (x_call17 (.tmp 155) (.tmp 160) rfl) (v := agg c.ss) ?_ (fun w' b => hK _ _ (hk _ _ _ (h.plain hi hn hd rfl rfl b (by decide))))
    rw [e, e2]
    exact F.join w
  | 13, hi => exact wpOp_step rfl fun K' hK => s_val rfl (x_build1 (.tmp 161) _ _ _ _ (h.ev (by omega) (hd 12 (by decide)) rfl rfl) rfl) (hK _ _ (hk _ _ _ (h.put hi hn rfl (fun u hu => by cases hu) (h.wl.s13 h.size (hd 12 (by decide))))))
  | 14, hi =>
    have l2 := hd 2 (by decide)
    have l13 := hd 13 (by decide)
    obtain ⟨g, e, hg, hh⟩ := h.wl.f13 l13 hn
    refine wpOp_step rfl fun K' hK => st.step_sets rfl (.tmp 151) (.tmp 162) rfl w5.heap.size (vals 2) c.l [c.ss] (h.fr.eval (by omega) l2 rfl) (h.wl.f2 l2 hn) ⟨g, 0, none⟩ 1 1 ((h.fr.eval (by omega) l13 rfl).trans e) rfl hh (by have := F.len; simp; omega) h.wl.below.size ?_
    intro v' w' o t
    exact hK _ _ (hk _ _ _ (h.put hi hn rfl (fun u hu => by cases hu) (h.wl.s14 h.size hn l2 o t)))
  | 15, hi =>
    have l14 := hd 14 (by decide)
    have e := h.fr.eval (by omega) l14 (t := 163) rfl
    refine wpOp_step rfl fun K' hK => s_call rfl (x_call23 (.tmp 163) rfl) (v := .tuple #[.agg (cells36 c.xs), .int .i64 (c.n : Int)]) ?_ (fun w' b => hK _ _ (hk _ _ _ (h.plain hi hn hd rfl rfl b (by decide))))
    rw [e]
    exact F.classes _ w (h.wl.f14 l14 hn).sets
  | 16, hi => exact wpOp_step rfl fun K' hK => s_val rfl ((x_move (.tmp 164) rfl).trans (by rw [h.ev (by omega) (hd 15 (by decide)) (t := 164) rfl rfl])) (hK _ _ (hk _ _ _ (h.plain hi hn hd rfl rfl B (by decide))))
  | 17, hi => exact wpOp_step rfl fun K' hK => s_val rfl (x_extract (.tmp 148) 0 _ _ rfl (h.ev (by omega) (hd 16 (by decide)) rfl rfl) rfl) (hK _ _ (hk _ _ _ (h.plain hi hn hd rfl rfl B (by decide))))
  | 18, hi => exact wpOp_step rfl fun K' hK => s_val rfl (x_extract (.tmp 148) 1 _ _ rfl (h.ev (by omega) (hd 16 (by decide)) rfl rfl) rfl) (hK _ _ (hk _ _ _ (h.plain hi hn hd rfl rfl B (by decide))))
  | 19, hi => exact wpOp_step rfl fun K' hK => s_val rfl (x_alloc rfl) (hK _ _ (hk _ _ _ (h.put hi hn rfl (fun u hu => by cases hu) (h.wl.s19 h.size hn))))
  | 20, hi =>
    have l19 := hd 19 (by decide)
    obtain ⟨g, e, hg, h1, _⟩ := h.wl.f19 l19
    refine wpOp_step rfl fun K' hK => s_skip rfl (x_store (.tmp 21) (.tmp 165) g c.xs F.xs ((h.fr.eval (by omega) l19 rfl).trans e) (h.ev (by omega) (hd 17 (by decide)) rfl rfl) (h1 hn) rfl) (hK _ _ (hk _ _ vals ?_))
    refine ⟨by simp [h.size], h.fr.skip h.size, fun j hj hl u hu => ?_, h.wl.s20 h.size (hd 2 (by decide)) (hd 14 (by decide)) (hd 15 (by decide)) l19 e hg (h1 hn) F.xs⟩
    rcases (lst_set h.size hi j).1 hl with z | z
    · subst z; cases hu
    · exact h.fixed j hj z u hu
  | 21, hi => exact wpOp_step rfl fun K' hK => s_val rfl ((x_assign (.tmp 166) rfl).trans (by rw [h.ev (by omega) (hd 18 (by decide)) (t := 166) rfl rfl])) (hK _ _ (hk _ _ _ (h.plain hi hn hd rfl rfl B (by decide))))
  | n + 22, hi => omega

theorem count_step {listed : Array Bool} (hs : listed.size = 22) {i : Nat} (hi : i < 22) (hf : listed.getD i true = false) {fuel : Nat} (h : listed.toList.count false ≤ fuel + 1) : (listed.setIfInBounds i true).toList.count false ≤ fuel := by
  have hl : i < listed.toList.length := by simpa [hs] using hi
  have he : listed.toList[i] = false := by
    rw [Array.getD_eq_getD_getElem?, Array.getElem?_eq_getElem (by omega)] at hf
    simpa using hf
  rw [Array.toList_setIfInBounds, List.count_set hl]
  simp [he, -Array.count_toList]
  omega
theorem none_ready {listed : Array Bool} (hs : listed.size = 22) (h : listed.toList.count false ≤ 0) : Region.ready .any ops42 listed = [] := by
  have h0 : listed.toList.count false = 0 := by omega
  rw [List.count_eq_zero] at h0
  cases hr : Region.ready .any ops42 listed with
  | nil => rfl
  | cons i r =>
    exfalso
    have hm : i ∈ Region.ready .any ops42 listed := by rw [hr]; exact List.mem_cons_self
    obtain ⟨hi, hf, _⟩ := ready_of hm
    rw [Array.getD_eq_getD_getElem?, Array.getElem?_eq_getElem (by omega)] at hf
    exact h0 (by rw [← show listed[i] = false by simpa using hf]; exact Array.getElem_mem_toList _)

theorem walkAny {c : Cx} {a0 : Act} {w5 : World} {Q : Exit → Act → World → Prop} (F : Facts c a0 w5) (hQ : ∀ a w listed vals, Inv c a0 a w5 w listed vals → (∀ i, i < 22 → Lst listed i) → Q .normal a w) :
    ∀ (fuel : Nat) (listed : Array Bool) (a : Act) (w : World) (vals : Nat → Value), Inv c a0 a w5 w listed vals → listed.toList.count false ≤ fuel → wpAny Try.prog .any ops42 Q fuel listed a w := by
  intro fuel
  induction fuel with
  | zero =>
    intro listed a w vals h hc
    have hr := none_ready h.size hc
    exact ⟨hr, hQ a w listed vals h (all_of h.size hr)⟩
  | succ fuel ih =>
    intro listed a w vals h hc
    refine ⟨fun hr => hQ a w listed vals h (all_of h.size hr), fun i hm => ?_⟩
    obtain ⟨hi, hf, _⟩ := ready_of hm
    exact step F h hm (fun a' w' vals' h' => ih _ a' w' vals' h' (count_step h.size hi hf hc))

/-- THE STATEMENT, in all its orders: the new array holds the table, the number is the table's, the elder ones stand. -/
theorem region {c : Cx} {a0 : Act} {w5 : World} {Q : Exit → Act → World → Prop} {id : Nat} (F : Facts c a0 w5) (hsz : a0.tmps.size = 175)
    (hQ : ∀ a g w, a.tmps.size = 175 → a.defers = a0.defers → a.eval (.tmp 21) = .pointer (some ⟨g, 0, none⟩) → a.eval (.tmp 7) = a0.eval (.tmp 7) → a.eval (.tmp 22) = .int .i64 (c.n : Int) → a.eval (.tmp 8) = a0.eval (.tmp 8) → Below w5.heap.size w5 w → Arr w g c.xs → Q .normal a w) :
    (Code.region id ops42 true).wp Try.prog Q a0 w5 := by
  have no : ∀ i, i < 22 → ¬ Lst (Array.replicate ops42.size false) i := by
    have : ∀ i, i < 22 → ¬ (Array.replicate ops42.size false).getD i false = true := by decide +kernel
    exact this
  refine wp_region_any (by kernel_rfl) ?_
  refine walkAny F ?_ ops42.size _ a0 _ (fun _ => undef) ⟨by simp [ops42], ⟨hsz, rfl, fun i hi hl => absurd hl (no i hi), fun t _ => rfl⟩, fun i hi hl => absurd hl (no i hi), ?_⟩ (by simp)
  · intro a w listed vals h hall
    obtain ⟨g, e, hg, _, ha⟩ := h.wl.f19 (hall 19 (by omega))
    exact hQ a g w h.fr.size h.fr.defers ((h.fr.eval (by omega) (hall 19 (by omega)) rfl).trans e) (h.fr.base 7 (base 7 (by omega))) (h.ev (i := 21) (by omega) (hall 21 (by omega)) rfl rfl) (h.fr.base 8 (base 8 (by omega))) h.wl.below (ha (hall 20 (by omega)))
  · exact ⟨(Below.refl _ _).drew, fun x => absurd x (no _ (by omega)), fun x => absurd x (no _ (by omega)), fun x => absurd x (no _ (by omega)), fun x => absurd x (no _ (by omega)), fun x => absurd x (no _ (by omega)), fun x => absurd x (no _ (by omega)), fun x => absurd x (no _ (by omega)), fun x => absurd x (no _ (by omega)), fun x => absurd x (no _ (by omega)), fun x => absurd x (no _ (by omega))⟩
end Go.Proofs.Ytfpihoghpogblaa.last
