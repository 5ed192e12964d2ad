/-
  Texts put together: A region that draws its order, at letters: one invariant over what is done, for any operations whose slots lie apart. Contracts over this program: the number of a set that was not met yet (builder.number).
-/
import Derived.Test.YtfilndgbgdnpiaaKAp
import Derived.RegionTactic
import Derived.Test.YtfilndgbgdnpiaaM25
import Derived.Test.YtfilndgbgdnpiaaM08
namespace Go.Proofs.Ytfilndgbgdnpiaa.dw
open Go.RowKit
set_option linter.unusedVariables false

def Lst (listed : Array Bool) (i : Nat) : Prop := listed.getD i false = true
def slot (ops : Array Oper) (i : Nat) : Option Nat := ops[i]?.bind (·.dst)
def need (ops : Array Oper) (i j : Nat) : Bool := ((ops[i]?.map (·.after)).getD #[]).any fun e => e.on == j && Region.binds .any e
def okAt (ops : Array Oper) (M i : Nat) : Bool :=
  (match slot ops i with
    | some t => decide (t < M) && (List.range ops.size).all fun j => i == j || slot ops j != some t
    | none => true) &&
  (((ops[i]?.map (·.after)).getD #[]).all fun e => !Region.binds .any e || decide (e.on < i))
def okB (ops : Array Oper) (M : Nat) : Bool := (List.range ops.size).all (okAt ops M)
section
variable {ops : Array Oper} {M : Nat}
theorem ok_at (h : okB ops M = true) {i : Nat} (hi : i < ops.size) : okAt ops M i = true := List.all_eq_true.1 h i (List.mem_range.2 hi)
theorem slot_lt (h : okB ops M = true) {i t : Nat} (hi : i < ops.size) (ht : slot ops i = some t) : t < M := by
  have h1 := ok_at h hi
  unfold okAt at h1
  rw [ht] at h1
  simp only [Bool.and_eq_true, decide_eq_true_eq] at h1
  exact h1.1.1
theorem slot_inj (h : okB ops M = true) {i j t : Nat} (hi : i < ops.size) (hj : j < ops.size) (ht : slot ops i = some t) (hu : slot ops j = some t) : i = j := by
  have h1 := ok_at h hi
  unfold okAt at h1
  rw [ht] at h1
  simp only [Bool.and_eq_true, List.all_eq_true, List.mem_range, Bool.or_eq_true, beq_iff_eq, bne_iff_ne] at h1
  rcases h1.1.2 j hj with h2 | h2
  · exact h2
  · exact absurd hu h2
theorem ready_of {listed : Array Bool} {i : Nat} (h : i ∈ Region.ready .any ops listed) : i < ops.size ∧ listed.getD i true = false ∧ ∀ j, need ops i j = true → Lst listed j := by
  unfold Region.ready at h
  rw [List.mem_filter] at h
  obtain ⟨h1, h2⟩ := h
  have hi : i < ops.size := by simpa using h1
  simp only [Bool.and_eq_true, Bool.not_eq_true'] at h2
  refine ⟨hi, h2.1, fun j hj => ?_⟩
  have h3 := h2.2
  unfold need at hj
  rw [Array.getElem?_eq_getElem hi] at h3 hj
  simp only [Option.map_some, Option.getD_some] at h3 hj
  rw [Array.any_eq_true'] at hj
  obtain ⟨e, he, hb⟩ := hj
  simp only [Bool.and_eq_true, beq_iff_eq] at hb
  have h4 := (Array.all_eq_true_iff_forall_mem.1 h3) e he
  rw [hb.2, hb.1] at h4
  unfold Lst
  simpa using h4
theorem all_of (hok : okB ops M = true) {listed : Array Bool} (hs : listed.size = ops.size) (h : Region.ready .any ops listed = []) : ∀ i, i < ops.size → Lst listed i := by
  intro i
  induction i using Nat.strongRecOn with
  | ind i ih =>
    intro hi
    by_cases hl : Lst listed i
    · exact hl
    · exfalso
      have hm : i ∈ Region.ready .any ops listed := by
        unfold Region.ready
        rw [List.mem_filter]
        refine ⟨by simpa using hi, ?_⟩
        simp only [Bool.and_eq_true, Bool.not_eq_true']
        refine ⟨?_, ?_⟩
        · unfold Lst at hl
          rw [Array.getD_eq_getD_getElem?] at hl ⊢
          rw [Array.getElem?_eq_getElem (by omega)] at hl ⊢
          simpa using hl
        · have h8 := ok_at hok hi
          unfold okAt at h8
          rw [Bool.and_eq_true] at h8
          have h9 := h8.2
          rw [Array.getElem?_eq_getElem hi] at h9 ⊢
          simp only [Option.map_some, Option.getD_some] at h9 ⊢
          rw [Array.all_eq_true_iff_forall_mem]
          intro e he
          have h5 := (Array.all_eq_true_iff_forall_mem.1 h9) e he
          cases hb : Region.binds .any e with
          | false => rfl
          | true =>
            rw [hb] at h5
            have h6 : e.on < i := by simpa using h5
            have h7 := ih e.on h6 (by omega)
            unfold Lst at h7
            simp [h7]
      rw [h] at hm
      cases hm
theorem lst_set {listed : Array Bool} {n : Nat} (hs : listed.size = n) {i : Nat} (hi : i < n) (j : Nat) : Lst (listed.setIfInBounds i true) j ↔ j = i ∨ Lst listed j := by
  unfold Lst
  rw [Array.getD_eq_getD_getElem?, Array.getD_eq_getD_getElem?, Array.getElem?_setIfInBounds]
  by_cases h : i = j
  · subst h; simp [hs, hi]
  · rw [if_neg h]
    constructor
    · exact .inr
    · rintro (e | e)
      · exact absurd e.symm h
      · exact e
theorem not_lst {listed : Array Bool} {n : Nat} (hs : listed.size = n) {i : Nat} (hi : i < n) (h : listed.getD i true = false) : ¬ Lst listed i := by
  unfold Lst
  rw [Array.getD_eq_getD_getElem?] at h ⊢
  rw [Array.getElem?_eq_getElem (by omega)] at h ⊢
  simp at h ⊢
  exact h
theorem lst_lt {listed : Array Bool} {n : Nat} (hs : listed.size = n) {i : Nat} (h : Lst listed i) : i < n := by
  unfold Lst at h
  rcases Nat.lt_or_ge i n with h1 | h1
  · exact h1
  · rw [Array.getD_eq_getD_getElem?, Array.getElem?_eq_none (by omega)] at h
    cases h
end
def upd (f : Nat → Value) (i : Nat) (v : Value) : Nat → Value := fun j => if j = i then v else f j
theorem upd_same (f : Nat → Value) (i : Nat) (v : Value) : upd f i v i = v := by simp [upd]
theorem upd_ne (f : Nat → Value) {i j : Nat} (v : Value) (h : j ≠ i) : upd f i v j = f j := by simp [upd, h]

/-- what the frame holds -/
structure Fr (ops : Array Oper) (a0 a : Act) (d : Nat → Prop) (vals : Nat → Value) : Prop where
  size : a.tmps.size = a0.tmps.size
  defers : a.defers = a0.defers
  done : ∀ i t, d i → slot ops i = some t → a.tmps[t]? = some (vals i)
  other : ∀ t, (∀ i, d i → slot ops i ≠ some t) → a.tmps[t]? = a0.tmps[t]?
section
variable {ops : Array Oper} {a0 a : Act} {d : Nat → Prop} {vals : Nat → Value}
theorem Fr.put (hok : okB ops a0.tmps.size = true) (h : Fr ops a0 a d vals) (hd : ∀ j, d j → j < ops.size) {i : Nat} (hi : i < ops.size) (hn : ¬ d i) (v : Value) : Fr ops a0 (a.put (slot ops i) v) (fun j => j = i ∨ d j) (upd vals i v) := by
  cases ht : slot ops i with
  | none =>
    refine ⟨h.size, h.defers, fun j t hj hs => ?_, fun t ht' => h.other t fun j hj => ht' j (.inr hj)⟩
    rcases hj with e | hj
    · rw [e, ht] at hs; cases hs
    · rw [upd_ne _ _ (fun e : j = i => hn (e ▸ hj))]; exact h.done j t hj hs
  | some t =>
    have htl := slot_lt hok hi ht
    refine ⟨by simp [Act.put, h.size], h.defers, fun j t' hj hs => ?_, fun t' ht' => ?_⟩
    · show (a.tmps.setIfInBounds t v)[t']? = _
      rcases hj with e | hj
      · rw [e, ht] at hs
        cases hs
        rw [e, Array.getElem?_setIfInBounds, if_pos rfl, if_pos (by rw [h.size]; exact htl), upd_same]
      · have hne : j ≠ i := fun e => hn (e ▸ hj)
        have htn : t ≠ t' := fun e => hne (slot_inj hok (hd j hj) hi (by rw [hs, e]) ht)
        rw [Array.getElem?_setIfInBounds, if_neg htn, upd_ne _ _ hne]
        exact h.done j t' hj hs
    · show (a.tmps.setIfInBounds t v)[t']? = _
      have htn : t ≠ t' := fun e => ht' i (.inl rfl) (by rw [ht, e])
      rw [Array.getElem?_setIfInBounds, if_neg htn]
      exact h.other t' fun j hj => ht' j (.inr hj)
theorem Fr.eval (h : Fr ops a0 a d vals) (i : Nat) {t : Nat} (hi : d i) (ht : slot ops i = some t) : a.eval (.tmp t) = vals i := by
  have := h.done i t hi ht
  simp [Act.eval, this]
theorem Fr.base (h : Fr ops a0 a d vals) (t : Nat) (ht : ∀ i, d i → slot ops i ≠ some t) : a.eval (.tmp t) = a0.eval (.tmp t) := by
  have := h.other t ht
  simp [Act.eval, this]
theorem Fr.uniq {b : Act} (h : Fr ops a0 a d vals) (k : Fr ops a0 b d vals) : a = b := by
  have ht : a.tmps = b.tmps := by
    apply Array.ext_getElem?
    intro t
    by_cases e : ∃ i, d i ∧ slot ops i = some t
    · obtain ⟨i, h1, h2⟩ := e
      rw [h.done i t h1 h2, k.done i t h1 h2]
    · rw [h.other t fun i h1 h2 => e ⟨i, h1, h2⟩, k.other t fun i h1 h2 => e ⟨i, h1, h2⟩]
  have hd : a.defers = b.defers := h.defers.trans k.defers.symm
  cases a; cases b; simp_all
end
/-- the frame behind the region -/
def fold : List Oper → Nat → (Nat → Value) → Act → Act
  | [], _, _, a => a
  | o :: os, i, vals, a => fold os (i + 1) vals (a.put o.dst (vals i))
theorem put_none (a : Act) (v : Value) : a.put none v = a := rfl
theorem Fr.congr {ops : Array Oper} {a0 a : Act} {d e : Nat → Prop} {vals ws : Nat → Value} (h : Fr ops a0 a d vals) (he : ∀ i, d i ↔ e i) (hv : ∀ i, d i → vals i = ws i) : Fr ops a0 a e ws :=
  ⟨h.size, h.defers, fun i t hi hs => by rw [h.done i t ((he i).2 hi) hs, hv i ((he i).2 hi)], fun t ht => h.other t fun i hi => ht i ((he i).1 hi)⟩
theorem fold_fr {ops : Array Oper} {a0 : Act} (hok : okB ops a0.tmps.size = true) (vals : Nat → Value) : ∀ (os : List Oper) (i : Nat) (a : Act), i + os.length = ops.size → (∀ j, os[j]? = ops[i + j]?) → Fr ops a0 a (fun j => j < i) vals → Fr ops a0 (fold os i vals a) (fun j => j < ops.size) vals
  | [], i, a, hl, hg, h => by
    have : i = ops.size := by simpa using hl
    rw [this] at h
    exact h
  | o :: os, i, a, hl, hg, h => by
    have hi : i < ops.size := by simp at hl; omega
    have h0 := hg 0
    simp at h0
    have hs : slot ops i = o.dst := by unfold slot; rw [← h0]; rfl
    have h1 := Fr.put hok h (fun j hj => by omega) hi (by omega) (vals i)
    rw [hs] at h1
    refine fold_fr hok vals os (i + 1) _ (by simp at hl; omega) (fun j => ?_) (h1.congr (fun j => by omega) (fun j hj => ?_))
    · have := hg (j + 1)
      simp at this
      rw [this]
      congr 1
      omega
    · by_cases e : j = i
      · rw [e, upd_same]
      · rw [upd_ne _ _ e]
theorem frame_all {ops : Array Oper} {a0 a : Act} (hok : okB ops a0.tmps.size = true) {vals : Nat → Value} (h : Fr ops a0 a (fun j => j < ops.size) vals) : a = fold ops.toList 0 vals a0 :=
  h.uniq (fold_fr hok vals ops.toList 0 a0 (by simp) (fun j => by simp) ⟨rfl, rfl, fun i t hi => absurd hi (by omega), fun t _ => rfl⟩)

theorem count_step {listed : Array Bool} {n : Nat} (hs : listed.size = n) {i : Nat} (hi : i < n) (hf : listed.getD i true = false) {fuel : Nat} (h : listed.toList.count false ≤ fuel + 1) : (listed.setIfInBounds i true).toList.count false ≤ fuel := by
  have hl : i < listed.toList.length := by simpa [hs] using hi
  have he : listed.toList[i] = false := by
    rw [Array.getD_eq_getD_getElem?, Array.getElem?_eq_getElem (by omega)] at hf
    simpa using hf
  rw [Array.toList_setIfInBounds, List.count_set hl]
  simp [he, -Array.count_toList]
  omega
theorem none_ready {ops : Array Oper} {listed : Array Bool} (hs : listed.size = ops.size) (h : listed.toList.count false ≤ 0) : Region.ready .any ops listed = [] := by
  have h0 : listed.toList.count false = 0 := by omega
  rw [List.count_eq_zero] at h0
  cases hr : Region.ready .any ops listed with
  | nil => rfl
  | cons i r =>
    exfalso
    have hm : i ∈ Region.ready .any ops listed := by rw [hr]; exact List.mem_cons_self
    obtain ⟨hi, hf, _⟩ := ready_of hm
    rw [Array.getD_eq_getD_getElem?, Array.getElem?_eq_getElem (by omega)] at hf
    exact h0 (by rw [← show listed[i] = false by simpa using hf]; exact Array.getElem_mem_toList _)

/-- one operation keeps what is said of memory -/
def StepOk (ops : Array Oper) (a0 : Act) (fix : Nat → Option Value) (Wd : (Nat → Prop) → (Nat → Value) → World → Prop) (i : Nat) : Prop :=
  ∀ (d : Nat → Prop) (vals : Nat → Value) (a : Act) (w : World) (o : Oper), ops[i]? = some o → ¬ d i → (∀ j, need ops i j = true → d j) → (∀ j, d j → j < ops.size) → (∀ k j, d k → need ops k j = true → d j) → Fr ops a0 a d vals → (∀ j, d j → ∀ u, fix j = some u → vals j = u) → Wd d vals w →
    ∀ (K : Act → World → Prop) (Q : Exit → Act → World → Prop) (E : Prop), (∀ v w', (∀ u, fix i = some u → v = u) → Wd (fun j => j = i ∨ d j) (upd vals i v) w' → K (a.put o.dst v) w') → if Region.wanted o (yielded ops a.tmps) = true then Oper.wp Try.prog o a w K Q else E
theorem walk {ops : Array Oper} {a0 : Act} {Q : Exit → Act → World → Prop} (hok : okB ops a0.tmps.size = true) {fix : Nat → Option Value} {Wd : (Nat → Prop) → (Nat → Value) → World → Prop} (step : ∀ i, i < ops.size → StepOk ops a0 fix Wd i)
    (fin : ∀ vals w, (∀ j, j < ops.size → ∀ u, fix j = some u → vals j = u) → Wd (fun j => j < ops.size) vals w → Q .normal (fold ops.toList 0 vals a0) w) :
    ∀ (fuel : Nat) (listed : Array Bool) (a : Act) (w : World) (vals : Nat → Value), listed.size = ops.size → (∀ k j, Lst listed k → need ops k j = true → Lst listed j) → Fr ops a0 a (Lst listed) vals → (∀ j, Lst listed j → ∀ u, fix j = some u → vals j = u) → Wd (Lst listed) vals w → listed.toList.count false ≤ fuel → wpAny Try.prog .any ops Q fuel listed a w := by
  have done : ∀ (listed : Array Bool) (a : Act) (w : World) (vals : Nat → Value), listed.size = ops.size → Fr ops a0 a (Lst listed) vals → (∀ j, Lst listed j → ∀ u, fix j = some u → vals j = u) → Wd (Lst listed) vals w → Region.ready .any ops listed = [] → Q .normal a w := fun listed a w vals hs hf hx hw hr => by
    have hall := all_of hok hs hr
    have e : Lst listed = fun j => j < ops.size := funext fun j => propext ⟨fun h => lst_lt hs h, fun h => hall j h⟩
    rw [e] at hf hx hw
    rw [frame_all hok hf]
    exact fin vals w hx hw
  intro fuel
  induction fuel with
  | zero =>
    intro listed a w vals hs hcl hf hx hw hc
    have hr := none_ready hs hc
    exact ⟨hr, done listed a w vals hs hf hx hw hr⟩
  | succ fuel ih =>
    intro listed a w vals hs hcl hf hx hw hc
    refine ⟨fun hr => done listed a w vals hs hf hx hw hr, fun i hm => ?_⟩
    obtain ⟨hi, hl, hn⟩ := ready_of hm
    have hnl := not_lst hs hi hl
    have e : Lst (listed.setIfInBounds i true) = fun j => j = i ∨ Lst listed j := funext fun j => propext (lst_set hs hi j)
    refine wpOp_step (Array.getElem?_eq_getElem hi) fun K' hK => ?_
    refine step i hi (Lst listed) vals a w _ (Array.getElem?_eq_getElem hi) hnl hn (fun j hj => lst_lt hs hj) hcl hf hx hw K' Q _ fun v w' hv hw' => hK _ _ ?_
    refine ih (listed.setIfInBounds i true) _ w' (upd vals i v) (by simpa using hs) ?_ ?_ ?_ (by rw [e]; exact hw') (count_step hs hi hl hc)
    · rw [e]
      rintro k j (rfl | hk) hkj
      · exact .inr (hn j hkj)
      · exact .inr (hcl k j hk hkj)
    · rw [e]
      have := Fr.put hok hf (fun j hj => lst_lt hs hj) hi hnl v
      have hsl : slot ops i = ops[i].dst := by unfold slot; rw [Array.getElem?_eq_getElem hi]; rfl
      rw [hsl] at this
      exact this
    · rw [e]
      rintro j (rfl | hj) u hu
      · rw [upd_same]; exact hv u hu
      · rw [upd_ne _ _ (fun e2 : j = i => hnl (e2 ▸ hj))]; exact hx j hj u hu
theorem region {ops : Array Oper} {id : Nat} {a0 : Act} {w0 : World} {Q : Exit → Act → World → Prop} (hP : Try.prog.follows .mixedOrders = true) (hok : okB ops a0.tmps.size = true) (fix : Nat → Option Value) (Wd : (Nat → Prop) → (Nat → Value) → World → Prop) (start : ∀ vals, Wd (fun _ => False) vals w0.drew) (step : ∀ i, i < ops.size → StepOk ops a0 fix Wd i)
    (fin : ∀ vals w, (∀ j, j < ops.size → ∀ u, fix j = some u → vals j = u) → Wd (fun j => j < ops.size) vals w → Q .normal (fold ops.toList 0 vals a0) w) : (Code.region id ops true).wp Try.prog Q a0 w0 := by
  have no : ∀ i, ¬ Lst (Array.replicate ops.size false) i := fun i h => by
    unfold Lst at h
    rw [Array.getD_eq_getD_getElem?, Array.getElem?_replicate] at h
    split at h <;> cases h
  have e : Lst (Array.replicate ops.size false) = fun _ => False := funext fun j => propext ⟨fun h => no j h, fun h => h.elim⟩
  refine wp_region_any hP ?_
  refine walk hok step fin ops.size _ a0 _ (fun _ => undef) (by simp) (fun k j hk => absurd hk (no k)) ⟨rfl, rfl, fun i t hi => absurd hi (no i), fun t _ => rfl⟩ (fun j hj => absurd hj (no j)) (by rw [e]; exact start _) (by simp)

theorem op_of {ops : Array Oper} {i : Nat} {o : Oper} {p : Op} (ho : ops[i]? = some o) (h : ops[i]?.map (·.op) = some p) : o.op = p := by
  rw [ho] at h; exact Option.some.inj h
theorem gd_of {ops : Array Oper} {i : Nat} {o : Oper} (ho : ops[i]? = some o) (h : ops[i]?.map (·.guard.isNone) = some true) : o.guard = none := by
  rw [ho] at h; exact Option.isNone_iff_eq_none.1 (Option.some.inj h)
section
variable {o : Oper} {a : Act} {w : World}
theorem x_move {x : Operand} (h : o.op = .move x) : (execOp a.eval o).run Try.prog w = .ok (.value (a.eval x)) w := by
  unfold execOp; rw [h]; rfl
theorem x_assign {x : Operand} (h : o.op = .assign x) : (execOp a.eval o).run Try.prog w = .ok (.value (a.eval x)) w := by
  unfold execOp; rw [h]; rfl
theorem x_nil {x : Operand} {p : Addr} (h : o.op = .nilCheck x) (hx : a.eval x = .pointer (some p)) : (execOp a.eval o).run Try.prog w = .ok (.value (.pointer (some p))) w := by
  unfold execOp; rw [h]; simp only [hx]; rfl
theorem x_field {x : Operand} {T f : Nat} {p q : Addr} (h : o.op = .fieldAddr T x f) (hx : a.eval x = .pointer (some p)) (hf : (Instr.fieldAt T (.pointer (some p)) f).run Try.prog w = .ok (.pointer (some q)) w) : (execOp a.eval o).run Try.prog w = .ok (.value (.pointer (some q))) w := by
  unfold execOp; rw [h]; simp only [hx, Sem.run_bind, hf, Result.andThen_ok, Sem.run_pure]
end
section
variable {o : Oper} {a : Act} {w : World} {ops : Array Oper} {K : Act → World → Prop} {Q : Exit → Act → World → Prop} {E : Prop}
theorem s_val {v : Value} {w' : World} (hg : o.guard = none) (h : (execOp a.eval o).run Try.prog w = .ok (.value v) w') (hk : K (a.put o.dst v) w') : if Region.wanted o (yielded ops a.tmps) = true then Oper.wp Try.prog o a w K Q else E := by
  have hw : Region.wanted o (yielded ops a.tmps) = true := by simp [Region.wanted, hg]
  rw [if_pos hw]; unfold Oper.wp; rw [h]; exact hk
theorem s_skip {w' : World} (hg : o.guard = none) (h : (execOp a.eval o).run Try.prog w = .ok .skip w') (hk : K (a.put o.dst undef) w') : if Region.wanted o (yielded ops a.tmps) = true then Oper.wp Try.prog o a w K Q else E := by
  have hw : Region.wanted o (yielded ops a.tmps) = true := by simp [Region.wanted, hg]
  rw [if_pos hw]; unfold Oper.wp; rw [h]; exact hk
theorem s_call {f : Nat} {args : Array Value} {R : Ending → World → Prop} (hg : o.guard = none) (h : (execOp a.eval o).run Try.prog w = .ok (.enter f args) w) (hc : Calls Try.prog f args w R)
    (hk : ∀ e w', R e w' → ∃ v, e = .returned v ∧ K (a.put o.dst v) w') : if Region.wanted o (yielded ops a.tmps) = true then Oper.wp Try.prog o a w K Q else E := by
  have hw : Region.wanted o (yielded ops a.tmps) = true := by simp [Region.wanted, hg]
  rw [if_pos hw]; unfold Oper.wp; rw [h, Oper.upon_enter]
  refine hc.mono ?_
  intro e w' hr
  obtain ⟨v, rfl, hk'⟩ := hk e w' hr
  exact hk'
end
end Go.Proofs.Ytfilndgbgdnpiaa.dw

namespace Go.Proofs.Ytfilndgbgdnpiaa.bd
open Go.Sort Go.ChangeShapes Go.WideShapes Go.ChangeAt Go.RowKit Go.Maps
open df (Kp Row iv In IntsV Owns)
set_option linter.unusedVariables false
set_option maxRecDepth 10000

theorem info39 : (Try.prog.info? 39).map (fun i => (i.zero, i.size, i.bytes)) = some (some (.slice none 0 0), 1, 24) := by kernel_rfl
theorem info4 : (Try.prog.info? 4).map (fun i => (i.zero, i.size, i.bytes)) = some (some (.bool false), 1, 1) := by kernel_rfl
theorem below_drew (w : World) : Below w.heap.size w w.drew := (Below.refl _ _).drew
theorem owns_rowV {X : Nat → Prop} {W : World} {B : Nat} {v : Value} {l : List Int} (h : Owns W B v l) (hx : ∀ g, some g = v.ownBlock → X g) : RowV X W v l := by
  obtain ⟨g, cap, rfl⟩ := df.own_slice h
  exact ⟨g, cap, rfl, nf.own_row h hx⟩
theorem new1d (W : World) (u : Value) (t : TypeId) : ∀ j x, [u][j]? = some x → (W.alloc (.cells #[u] t)).drew.cell? ((⟨W.heap.size, 0, none⟩ : Addr).add j) = some x := ow.new1 W u t
def NewIs (X Y : Nat → Prop) (W : World) (B b mb : Nat) (h : Hd) (n e : Nat) (L : List (List Bool)) (nn : List Value) (σ : List Bool) (r : Int) : Prop := Calls Try.prog 64 #[.pointer (some ⟨b, 0, none⟩), .string (txtB σ)] W fun ev W' => ev = .returned (.int .i64 r) ∧ ∃ X' Y' vs vn va ss m D, (∀ k, X k → X' k) ∧ (∀ k, X' k → X k ∨ W.heap.size ≤ k) ∧ (∀ k, Y k → Y' k) ∧ (∀ k, Y' k → Y k ∨ W.heap.size ≤ k) ∧ Bst X' Y' W' B b mb h n e (L ++ [σ]) nn vs vn va ss m D ∧ Mv X B W W'
theorem new_all {X X' Y : Nat → Prop} {vb : Option Nat} {W w2 Wf : World} {B b mb : Nat} {h : Hd} {n e : Nat} {L : List (List Bool)} {nn : List Value} {vs vn va vs' va' v : Value} {ss ss' : List Value} {ac' : List Bool} {m : Nat} {D : DataW Unit} (k : Bst X Y W B b mb h n e L nn vs vn va ss m D) {σ : List Bool} (hs : σ.length = n) (h1 : σ ≠ off n) (h2 : σ ∉ L)
    (M1 : Mv X B W w2) (hX : ∀ k, X k → X' k) (hX2 : ∀ k, X' k → X k ∨ W.heap.size ≤ k) (M2 : Mv X' B w2 Wf) (hvb : ∀ g, some g = vb → X' g ∧ W.heap.size ≤ g) (hv : RowV (fun g => Y g ∨ some g = vb) w2 v (onTo σ σ.length)) (hss : ss' = ss ++ [v]) (hac : ac' = (L.map fun σ => σ.getD e false) ++ [σ.getD e false]) (bu : Bu X' Wf B b mb h vs' vn va' ss' nn ac' (m + 1) (D.put (.string (txt σ)) (.lit (.int .i64 (ss.length : Int))))) (hT : Tidy D) :
    ∃ X' Y' vs vn va ss m D, (∀ k, X k → X' k) ∧ (∀ k, X' k → X k ∨ W.heap.size ≤ k) ∧ (∀ k, Y k → Y' k) ∧ (∀ k, Y' k → Y k ∨ W.heap.size ≤ k) ∧ Bst X' Y' Wf B b mb h n e (L ++ [σ]) nn vs vn va ss m D ∧ Mv X B W Wf := by
  have hl := k.rs.len
  rw [List.length_map] at hl
  refine ⟨X', fun g => Y g ∨ some g = vb, vs', vn, va', ss', m + 1, D.put (.string (txt σ)) (.lit (.int .i64 (ss.length : Int))), hX, hX2, fun _ h => .inl h, fun g hg => hg.imp id (fun e => (hvb g e).2), ⟨?_, ?_, fun g hg => hg.elim (fun h => hX g (k.yx g h)) (fun e => (hvb g e).1), ?_, ?_, k.hn, k.he, k.en, k.n2, ?_⟩, M1.trans (M2.less hX)⟩
  · rw [hac] at bu
    rw [List.map_append]
    exact bu
  · rw [hss, List.map_append]
    refine Rws.snoc ?_ ?_
    · exact (k.rs.carry (fun g hg => M1.kp.2 g (k.yx g hg)) (fun _ h => h)).carry (fun g hg => M2.kp.2 g (hX g (k.yx g hg))) (fun _ h => .inl h)
    · exact hv.carry (fun g hg => M2.kp.2 g (hg.elim (fun h => hX g (k.yx g h)) (fun e => (hvb g e).1))) (fun _ h => h)
  · rw [hl]
    exact k.mp.put hT k.ln hs h1 h2
  · have := k.m1; simp; omega
  · intro τ hτ
    rcases List.mem_append.1 hτ with h | h
    · exact k.ln τ h
    · rw [List.mem_singleton.1 h]; exact hs
def ops57_6 : Array Oper := #[
  { dst := some 41, op := Op.move (Operand.tmp 0), type := 81, pos := "build.go:135", after := #[], guard := none },
  { dst := some 42, op := Op.move (Operand.tmp 0), type := 81, pos := "build.go:135", after := #[], guard := none },
  { dst := some 43, op := Op.nilCheck (Operand.tmp 42), type := 0, pos := "build.go:135", after := #[{ on := 1, ground := Ground.data }], guard := none },
  { dst := some 44, op := Op.fieldAddr 87 (Operand.tmp 43) 6, type := 0, pos := "build.go:135", after := #[{ on := 2, ground := Ground.data }], guard := none },
  { dst := some 45, op := Op.fieldAddr 51 (Operand.tmp 44) 2, type := 0, pos := "build.go:135", after := #[{ on := 3, ground := Ground.data }], guard := none },
  { dst := some 46, op := Op.load 44 (Operand.tmp 45), type := 44, pos := "build.go:135", after := #[{ on := 4, ground := Ground.data }], guard := none },
  { dst := some 47, op := Op.move (Operand.tmp 1), type := 9, pos := "build.go:135", after := #[], guard := none },
  { dst := some 48, op := Op.move (Operand.tmp 0), type := 81, pos := "build.go:135", after := #[], guard := none },
  { dst := some 49, op := Op.nilCheck (Operand.tmp 48), type := 0, pos := "build.go:135", after := #[{ on := 7, ground := Ground.data }], guard := none },
  { dst := some 50, op := Op.fieldAddr 87 (Operand.tmp 49) 0, type := 0, pos := "build.go:135", after := #[{ on := 8, ground := Ground.data }], guard := none },
  { dst := some 51, op := Op.fieldAddr 31 (Operand.tmp 50) 2, type := 0, pos := "build.go:135", after := #[{ on := 9, ground := Ground.data }], guard := none },
  { dst := some 52, op := Op.load 3 (Operand.tmp 51), type := 3, pos := "build.go:135", after := #[{ on := 10, ground := Ground.data }], guard := none },
  { dst := some 53, op := Op.call { callee := Callee.value (Operand.func 82), args := #[Operand.tmp 47, Operand.tmp 52], argTypes := #[9, 3] }, type := 4, pos := "build.go:135", after := #[{ on := 6, ground := Ground.data }, { on := 11, ground := Ground.data }], guard := none },
  { dst := some 54, op := Op.buildSlice 44 1 #[(0, Operand.tmp 53)], type := 44, pos := "build.go:135", after := #[{ on := 12, ground := Ground.data }], guard := none },
  { dst := some 55, op := Op.call { callee := Callee.builtin Builtin.append, args := #[Operand.tmp 46, Operand.tmp 54], argTypes := #[44, 44] }, type := 44, pos := "build.go:135", after := #[{ on := 5, ground := Ground.data }, { on := 13, ground := Ground.data }, { on := 12, ground := Ground.chain }], guard := none },
  { dst := some 56, op := Op.nilCheck (Operand.tmp 41), type := 0, pos := "build.go:135", after := #[{ on := 0, ground := Ground.data }, { on := 0, ground := Ground.phase }, { on := 1, ground := Ground.phase }, { on := 2, ground := Ground.phase }, { on := 3, ground := Ground.phase }, { on := 4, ground := Ground.phase }, { on := 5, ground := Ground.phase }, { on := 6, ground := Ground.phase }, { on := 7, ground := Ground.phase }, { on := 8, ground := Ground.phase }, { on := 9, ground := Ground.phase }, { on := 10, ground := Ground.phase }, { on := 11, ground := Ground.phase }, { on := 12, ground := Ground.phase }, { on := 13, ground := Ground.phase }, { on := 14, ground := Ground.phase }], guard := none },
  { dst := some 57, op := Op.fieldAddr 87 (Operand.tmp 56) 6, type := 0, pos := "build.go:135", after := #[{ on := 15, ground := Ground.data }, { on := 0, ground := Ground.phase }, { on := 1, ground := Ground.phase }, { on := 2, ground := Ground.phase }, { on := 3, ground := Ground.phase }, { on := 4, ground := Ground.phase }, { on := 5, ground := Ground.phase }, { on := 6, ground := Ground.phase }, { on := 7, ground := Ground.phase }, { on := 8, ground := Ground.phase }, { on := 9, ground := Ground.phase }, { on := 10, ground := Ground.phase }, { on := 11, ground := Ground.phase }, { on := 12, ground := Ground.phase }, { on := 13, ground := Ground.phase }, { on := 14, ground := Ground.phase }], guard := none },
  { dst := some 58, op := Op.fieldAddr 51 (Operand.tmp 57) 2, type := 0, pos := "build.go:135", after := #[{ on := 16, ground := Ground.data }, { on := 0, ground := Ground.phase }, { on := 1, ground := Ground.phase }, { on := 2, ground := Ground.phase }, { on := 3, ground := Ground.phase }, { on := 4, ground := Ground.phase }, { on := 5, ground := Ground.phase }, { on := 6, ground := Ground.phase }, { on := 7, ground := Ground.phase }, { on := 8, ground := Ground.phase }, { on := 9, ground := Ground.phase }, { on := 10, ground := Ground.phase }, { on := 11, ground := Ground.phase }, { on := 12, ground := Ground.phase }, { on := 13, ground := Ground.phase }, { on := 14, ground := Ground.phase }], guard := none },
  { dst := none, op := Op.store 44 (Operand.tmp 58) (Operand.tmp 55), type := 0, pos := "build.go:135", after := #[{ on := 17, ground := Ground.data }, { on := 14, ground := Ground.data }, { on := 14, ground := Ground.chain }, { on := 0, ground := Ground.phase }, { on := 1, ground := Ground.phase }, { on := 2, ground := Ground.phase }, { on := 3, ground := Ground.phase }, { on := 4, ground := Ground.phase }, { on := 5, ground := Ground.phase }, { on := 6, ground := Ground.phase }, { on := 7, ground := Ground.phase }, { on := 8, ground := Ground.phase }, { on := 9, ground := Ground.phase }, { on := 10, ground := Ground.phase }, { on := 11, ground := Ground.phase }, { on := 12, ground := Ground.phase }, { on := 13, ground := Ground.phase }, { on := 14, ground := Ground.phase }], guard := none }]

/-! the statement that appends to Accept, in all its orders -/
structure C6 where
  b : Nat
  t : ByteArray
  e : Nat
  r : Bool
  va : Value
def C6.fix (c : C6) (i : Nat) : Option Value := [some (.pointer (some ⟨c.b, 0, none⟩)), some (.pointer (some ⟨c.b, 0, none⟩)), some (.pointer (some ⟨c.b, 0, none⟩)), some (.pointer (some ⟨c.b, 9, none⟩)), some (.pointer (some ⟨c.b, 266, none⟩)), some c.va, some (.string c.t), some (.pointer (some ⟨c.b, 0, none⟩)), some (.pointer (some ⟨c.b, 0, none⟩)), some (.pointer (some ⟨c.b, 0, none⟩)), some (.pointer (some ⟨c.b, 2, none⟩)), some (.int .i64 (c.e : Int)), some (.bool c.r), none, none, some (.pointer (some ⟨c.b, 0, none⟩)), some (.pointer (some ⟨c.b, 9, none⟩)), some (.pointer (some ⟨c.b, 266, none⟩)), none].getD i none
structure W6 (X : Nat → Prop) (W : World) (B mb : Nat) (h : Hd) (vs vn : Value) (ss nn : List Value) (ac : List Bool) (m : Nat) (D : DataW Unit) (c : C6) (d : Nat → Prop) (vals : Nat → Value) (w : World) : Prop where
  bu : ¬ d 14 → Bu X w B c.b mb h vs vn c.va ss nn ac m D ∧ Mv X B W w
  el : d 13 → ¬ d 14 → ∃ g, vals 13 = .slice (some ⟨g, 0, none⟩) 1 1 ∧ g < w.heap.size ∧ ∀ j u, [Value.bool c.r][j]? = some u → w.cell? ((⟨g, 0, none⟩ : Addr).add j) = some u
  ap : d 14 → ¬ d 18 → ∃ g cap, vals 14 = .slice (some ⟨g, 0, none⟩) (ac.length + 1) cap ∧ Bu X (w.setCell ⟨c.b, 266, none⟩ (.slice (some ⟨g, 0, none⟩) (ac.length + 1) cap)) B c.b mb h vs vn (.slice (some ⟨g, 0, none⟩) (ac.length + 1) cap) ss nn (ac ++ [c.r]) m D ∧ Mv X B W (w.setCell ⟨c.b, 266, none⟩ (.slice (some ⟨g, 0, none⟩) (ac.length + 1) cap)) ∧ w.cell? ⟨c.b, 266, none⟩ = some c.va ∧ w.frozen? ⟨c.b, 266, none⟩ = false
  fin : d 18 → ∃ va', Bu X w B c.b mb h vs vn va' ss nn (ac ++ [c.r]) m D ∧ Mv X B W w
section
variable {X : Nat → Prop} {W : World} {B mb : Nat} {h : Hd} {vs vn : Value} {ss nn : List Value} {ac : List Bool} {m : Nat} {D : DataW Unit} {c : C6} {d : Nat → Prop} {vals : Nat → Value} {w : World}
theorem W6.plain (k : W6 X W B mb h vs vn ss nn ac m D c d vals w) {i : Nat} (h1 : i ≠ 13) (h2 : i ≠ 14) (h3 : i ≠ 18) (v : Value) : W6 X W B mb h vs vn ss nn ac m D c (fun j => j = i ∨ d j) (dw.upd vals i v) w :=
  ⟨fun a => k.bu fun b => a (.inr b), fun a b => by
    rw [dw.upd_ne _ _ (Ne.symm h1)]
    exact k.el (a.resolve_left (fun e => h1 e.symm)) fun x => b (.inr x), fun a b => by
    rw [dw.upd_ne _ _ (Ne.symm h2)]
    exact k.ap (a.resolve_left (fun e => h2 e.symm)) fun x => b (.inr x), fun a => k.fin (a.resolve_left (fun e => h3 e.symm))⟩
theorem W6.later (k : W6 X W B mb h vs vn ss nn ac m D c d vals w) {w' : World} (hn : ¬ d 14) (hn2 : ¬ d 18) (hb : Below w.heap.size w w') : W6 X W B mb h vs vn ss nn ac m D c d vals w' := by
  obtain ⟨b1, m1⟩ := k.bu hn
  refine ⟨fun _ => ⟨b1.later hb, m1.later hb (fun g hg => (b1.ap g hg).1) b1.size⟩, fun a b => ?_, fun a => absurd a hn, fun a => absurd a hn2⟩
  obtain ⟨g, e, hg, hh⟩ := k.el a b
  have ad : ∀ j, ((⟨g, 0, none⟩ : Addr).add j).block = g := fun j => by unfold Addr.add; split <;> simp_all
  exact ⟨g, e, Nat.lt_of_lt_of_le hg hb.size, fun j u hu => by rw [hb.cell (by rw [ad]; exact hg)]; exact hh j u hu⟩
end
theorem f77_6 (b : Nat) (w : World) : (Instr.fieldAt 87 (.pointer (some ⟨b, 0, none⟩)) 6).run Try.prog w = .ok (.pointer (some ⟨b, 9, none⟩)) w := by go_simp
theorem f77_0 (b : Nat) (w : World) : (Instr.fieldAt 87 (.pointer (some ⟨b, 0, none⟩)) 0).run Try.prog w = .ok (.pointer (some ⟨b, 0, none⟩)) w := by go_simp
theorem f37_2 (b : Nat) (w : World) : (Instr.fieldAt 51 (.pointer (some ⟨b, 9, none⟩)) 2).run Try.prog w = .ok (.pointer (some ⟨b, 266, none⟩)) w := by go_simp
theorem f24_2 (b : Nat) (w : World) : (Instr.fieldAt 31 (.pointer (some ⟨b, 0, none⟩)) 2).run Try.prog w = .ok (.pointer (some ⟨b, 2, none⟩)) w := by go_simp
section
variable {o : Oper} {a : Act} {w : World}
theorem x_load35 {x : Operand} {p : Addr} {v : Value} (h : o.op = .load 44 x) (hx : a.eval x = .pointer (some p)) (hc : w.cell? p = some v) : (execOp a.eval o).run Try.prog w = .ok (.value v) w := by
  unfold execOp; rw [h]; simp only [hx]; go_simp
theorem x_load3 {x : Operand} {p : Addr} {v : Value} (h : o.op = .load 3 x) (hx : a.eval x = .pointer (some p)) (hc : w.cell? p = some v) : (execOp a.eval o).run Try.prog w = .ok (.value v) w := by
  unfold execOp; rw [h]; simp only [hx]; go_simp
theorem x_call76 {x y : Operand} (h : o.op = .call { callee := .value (.func 82), args := #[x, y], argTypes := #[9, 3] }) : (execOp a.eval o).run Try.prog w = .ok (.enter 82 #[a.eval x, a.eval y]) w := by
  unfold execOp; rw [h]; kernel_rfl
theorem x_build35 {x : Operand} {r : Bool} (h : o.op = .buildSlice 44 1 #[(0, x)]) (hx : a.eval x = .bool r) : (execOp a.eval o).run Try.prog w = .ok (.value (.slice (some ⟨w.heap.size, 0, none⟩) 1 1)) (w.alloc (.cells #[.bool r] 4)) := by
  unfold execOp; rw [h]; simp only [List.map_toArray, List.map, hx]; go_simp
theorem x_store35 {x y : Operand} {p : Addr} {u : Value} {g : Option Addr} {n cap : Nat} (h : o.op = .store 44 x y) (hx : a.eval x = .pointer (some p)) (hy : a.eval y = .slice g n cap) (hc : w.cell? p = some u) (hf : w.frozen? p = false) : (execOp a.eval o).run Try.prog w = .ok .skip (w.setCell p (.slice g n cap)) := by
  unfold execOp; rw [h]; simp only [hx, hy]; go_simp
end
theorem base0 : ∀ i, i < ops57_6.size → dw.slot ops57_6 i ≠ some 0 := by decide +kernel
theorem base1 : ∀ i, i < ops57_6.size → dw.slot ops57_6 i ≠ some 1 := by decide +kernel
set_option maxHeartbeats 1000000 in
theorem reg6 {Q : Exit → Act → World → Prop} {a0 : Act} {id : Nat} (hs : a0.tmps.size = 60) (c : C6) (e0 : a0.eval (.tmp 0) = .pointer (some ⟨c.b, 0, none⟩)) (e1 : a0.eval (.tmp 1) = .string c.t) {X : Nat → Prop} {W : World} {B mb : Nat} {h : Hd} {vs vn : Value} {ss nn : List Value} {ac : List Bool} {m : Nat} {D : DataW Unit} (k : Bu X W B c.b mb h vs vn c.va ss nn ac m D) (he : h.e = (c.e : Int)) (hal : ac.length ≤ 1000000)
    (h76 : ∀ w, Calls Try.prog 82 #[.string c.t, .int .i64 (c.e : Int)] w fun ev w' => ev = .returned (.bool c.r) ∧ Below w.heap.size w w')
    (fin : ∀ vals w va', (∀ j, j < 19 → ∀ u, c.fix j = some u → vals j = u) → Bu X w B c.b mb h vs vn va' ss nn (ac ++ [c.r]) m D → Mv X B W w → Q .normal (dw.fold ops57_6.toList 0 vals a0) w) : (Code.region id ops57_6 true).wp Try.prog Q a0 W := by
  refine dw.region (by kernel_rfl) (by rw [hs]; kernel_rfl) c.fix (W6 X W B mb h vs vn ss nn ac m D c) (fun vals => ⟨fun _ => ⟨k.later (below_drew W), (Mv.refl X B W).later (below_drew W) (fun g hg => (k.ap g hg).1) k.size⟩, fun x => x.elim, fun x => x.elim, fun x => x.elim⟩) ?_ ?_
  · intro i hi
    match i, hi with
    | 0, _ => intro d vals a w o ho hn hd hdl hcl hf hx hw K Q' E hk; have b0 := (hf.base 0 fun i hi => base0 i (hdl i hi)).trans e0; have b1 := (hf.base 1 fun i hi => base1 i (hdl i hi)).trans e1; exact dw.s_val (dw.gd_of ho rfl) ((dw.x_move (dw.op_of ho rfl)).trans (by rw [b0])) (hk _ w (fun u hu => by cases hu; rfl) (hw.plain (by decide) (by decide) (by decide) _))
    | 1, _ => intro d vals a w o ho hn hd hdl hcl hf hx hw K Q' E hk; have b0 := (hf.base 0 fun i hi => base0 i (hdl i hi)).trans e0; have b1 := (hf.base 1 fun i hi => base1 i (hdl i hi)).trans e1; exact dw.s_val (dw.gd_of ho rfl) ((dw.x_move (dw.op_of ho rfl)).trans (by rw [b0])) (hk _ w (fun u hu => by cases hu; rfl) (hw.plain (by decide) (by decide) (by decide) _))
    | 2, _ => intro d vals a w o ho hn hd hdl hcl hf hx hw K Q' E hk; have b0 := (hf.base 0 fun i hi => base0 i (hdl i hi)).trans e0; have b1 := (hf.base 1 fun i hi => base1 i (hdl i hi)).trans e1; exact dw.s_val (dw.gd_of ho rfl) (dw.x_nil (dw.op_of ho rfl) ((hf.eval 1 (hd 1 (by kernel_rfl)) (t := 42) rfl).trans (hx 1 (hd 1 (by kernel_rfl)) _ rfl))) (hk _ w (fun u hu => by cases hu; rfl) (hw.plain (by decide) (by decide) (by decide) _))
    | 3, _ => intro d vals a w o ho hn hd hdl hcl hf hx hw K Q' E hk; have b0 := (hf.base 0 fun i hi => base0 i (hdl i hi)).trans e0; have b1 := (hf.base 1 fun i hi => base1 i (hdl i hi)).trans e1; exact dw.s_val (dw.gd_of ho rfl) (dw.x_field (dw.op_of ho rfl) ((hf.eval 2 (hd 2 (by kernel_rfl)) (t := 43) rfl).trans (hx 2 (hd 2 (by kernel_rfl)) _ rfl)) (f77_6 _ _)) (hk _ w (fun u hu => by cases hu; rfl) (hw.plain (by decide) (by decide) (by decide) _))
    | 4, _ => intro d vals a w o ho hn hd hdl hcl hf hx hw K Q' E hk; have b0 := (hf.base 0 fun i hi => base0 i (hdl i hi)).trans e0; have b1 := (hf.base 1 fun i hi => base1 i (hdl i hi)).trans e1; exact dw.s_val (dw.gd_of ho rfl) (dw.x_field (dw.op_of ho rfl) ((hf.eval 3 (hd 3 (by kernel_rfl)) (t := 44) rfl).trans (hx 3 (hd 3 (by kernel_rfl)) _ rfl)) (f37_2 _ _)) (hk _ w (fun u hu => by cases hu; rfl) (hw.plain (by decide) (by decide) (by decide) _))
    | 5, _ => intro d vals a w o ho hn hd hdl hcl hf hx hw K Q' E hk; exact dw.s_val (dw.gd_of ho rfl) (x_load35 (dw.op_of ho rfl) ((hf.eval 4 (hd 4 (by kernel_rfl)) (t := 45) rfl).trans (hx 4 (hd 4 (by kernel_rfl)) _ rfl)) (hw.bu (fun x => hn (hcl 14 5 x (by kernel_rfl)))).1.box.c266) (hk _ w (fun u hu => by cases hu; rfl) (hw.plain (by decide) (by decide) (by decide) _))
    | 6, _ => intro d vals a w o ho hn hd hdl hcl hf hx hw K Q' E hk; have b0 := (hf.base 0 fun i hi => base0 i (hdl i hi)).trans e0; have b1 := (hf.base 1 fun i hi => base1 i (hdl i hi)).trans e1; exact dw.s_val (dw.gd_of ho rfl) ((dw.x_move (dw.op_of ho rfl)).trans (by rw [b1])) (hk _ w (fun u hu => by cases hu; rfl) (hw.plain (by decide) (by decide) (by decide) _))
    | 7, _ => intro d vals a w o ho hn hd hdl hcl hf hx hw K Q' E hk; have b0 := (hf.base 0 fun i hi => base0 i (hdl i hi)).trans e0; have b1 := (hf.base 1 fun i hi => base1 i (hdl i hi)).trans e1; exact dw.s_val (dw.gd_of ho rfl) ((dw.x_move (dw.op_of ho rfl)).trans (by rw [b0])) (hk _ w (fun u hu => by cases hu; rfl) (hw.plain (by decide) (by decide) (by decide) _))
    | 8, _ => intro d vals a w o ho hn hd hdl hcl hf hx hw K Q' E hk; have b0 := (hf.base 0 fun i hi => base0 i (hdl i hi)).trans e0; have b1 := (hf.base 1 fun i hi => base1 i (hdl i hi)).trans e1; exact dw.s_val (dw.gd_of ho rfl) (dw.x_nil (dw.op_of ho rfl) ((hf.eval 7 (hd 7 (by kernel_rfl)) (t := 48) rfl).trans (hx 7 (hd 7 (by kernel_rfl)) _ rfl))) (hk _ w (fun u hu => by cases hu; rfl) (hw.plain (by decide) (by decide) (by decide) _))
    | 9, _ => intro d vals a w o ho hn hd hdl hcl hf hx hw K Q' E hk; have b0 := (hf.base 0 fun i hi => base0 i (hdl i hi)).trans e0; have b1 := (hf.base 1 fun i hi => base1 i (hdl i hi)).trans e1; exact dw.s_val (dw.gd_of ho rfl) (dw.x_field (dw.op_of ho rfl) ((hf.eval 8 (hd 8 (by kernel_rfl)) (t := 49) rfl).trans (hx 8 (hd 8 (by kernel_rfl)) _ rfl)) (f77_0 _ _)) (hk _ w (fun u hu => by cases hu; rfl) (hw.plain (by decide) (by decide) (by decide) _))
    | 10, _ => intro d vals a w o ho hn hd hdl hcl hf hx hw K Q' E hk; have b0 := (hf.base 0 fun i hi => base0 i (hdl i hi)).trans e0; have b1 := (hf.base 1 fun i hi => base1 i (hdl i hi)).trans e1; exact dw.s_val (dw.gd_of ho rfl) (dw.x_field (dw.op_of ho rfl) ((hf.eval 9 (hd 9 (by kernel_rfl)) (t := 50) rfl).trans (hx 9 (hd 9 (by kernel_rfl)) _ rfl)) (f24_2 _ _)) (hk _ w (fun u hu => by cases hu; rfl) (hw.plain (by decide) (by decide) (by decide) _))
    | 11, _ => intro d vals a w o ho hn hd hdl hcl hf hx hw K Q' E hk; exact dw.s_val (dw.gd_of ho rfl) (x_load3 (dw.op_of ho rfl) ((hf.eval 10 (hd 10 (by kernel_rfl)) (t := 51) rfl).trans (hx 10 (hd 10 (by kernel_rfl)) _ rfl)) ((hw.bu (fun x => hn (hcl 12 11 (hcl 14 12 x (by kernel_rfl)) (by kernel_rfl)))).1.box.c2.trans (by rw [he]))) (hk _ w (fun u hu => by cases hu; rfl) (hw.plain (by decide) (by decide) (by decide) _))
    | 12, _ =>
      intro d vals a w o ho hn hd hdl hcl hf hx hw K Q' E hk
      have n14 : ¬ d 14 := fun x => hn (hcl 14 12 x (by kernel_rfl))
      have n18 : ¬ d 18 := fun x => n14 (hcl 18 14 x (by kernel_rfl))
      have v6 := ((hf.eval 6 (hd 6 (by kernel_rfl)) (t := 47) rfl).trans (hx 6 (hd 6 (by kernel_rfl)) _ rfl))
      have v11 := ((hf.eval 11 (hd 11 (by kernel_rfl)) (t := 52) rfl).trans (hx 11 (hd 11 (by kernel_rfl)) _ rfl))
      refine dw.s_call (dw.gd_of ho rfl) (x_call76 (dw.op_of ho rfl)) (by rw [v6, v11]; exact h76 w) ?_
      rintro ev w' ⟨rfl, hb⟩
      exact ⟨_, rfl, hk _ w' (fun u hu => by cases hu; rfl) ((hw.later n14 n18 hb).plain (by decide) (by decide) (by decide) _)⟩
    | 13, _ =>
      intro d vals a w o ho hn hd hdl hcl hf hx hw K Q' E hk
      have n14 : ¬ d 14 := fun x => hn (hcl 14 13 x (by kernel_rfl))
      have n18 : ¬ d 18 := fun x => n14 (hcl 18 14 x (by kernel_rfl))
      refine dw.s_val (dw.gd_of ho rfl) (x_build35 (dw.op_of ho rfl) ((hf.eval 12 (hd 12 (by kernel_rfl)) (t := 53) rfl).trans (hx 12 (hd 12 (by kernel_rfl)) _ rfl))) (hk _ _ (fun u hu => by cases hu) ?_)
      have k1 := hw.later n14 n18 (nf.below_alloc w (.cells #[.bool c.r] 4))
      refine ⟨fun x => k1.bu n14, fun _ _ => ⟨w.heap.size, by rw [dw.upd_same], by simp, ow.new1 w _ _⟩, fun x => absurd (x.resolve_left (by decide)) n14, fun x => absurd (x.resolve_left (by decide)) n18⟩
    | 14, _ =>
      intro d vals a w o ho hn hd hdl hcl hf hx hw K Q' E hk
      have n18 : ¬ d 18 := fun x => hn (hcl 18 14 x (by kernel_rfl))
      obtain ⟨b1, m1⟩ := hw.bu hn
      obtain ⟨g, e, hg, hh⟩ := hw.el (hd 13 (by kernel_rfl)) hn
      have v5 := ((hf.eval 5 (hd 5 (by kernel_rfl)) (t := 46) rfl).trans (hx 5 (hd 5 (by kernel_rfl)) _ rfl))
      have v13 := (hf.eval 13 (hd 13 (by kernel_rfl)) (t := 54) rfl).trans e
      refine ow.step_append (dw.gd_of ho rfl) (.tmp 46) (.tmp 54) 44 (dw.op_of ho rfl) 4 (.bool false) 1 1 Try.underlying44 info4 rfl (by decide) (by decide) B c.va ac.length (ac.map Value.bool) g [.bool c.r] v5 v13 b1.oa rfl hh (ow.one1 _ rfl) hal b1.size ?_
      intro g8 cap8 w8 hown8 hgr8 hw8
      refine hk _ _ (fun u hu => by cases hu) ⟨fun x => absurd (.inl rfl) x, fun _ x => absurd (.inl rfl) x, fun _ _ => ⟨g8, cap8, by rw [dw.upd_same], ?_, ?_, (b1.box.keep (hgr8.block c.b b1.box.lt b1.bs.2.2)).c266, (b1.box.keep (hgr8.block c.b b1.box.lt b1.bs.2.2)).fz 266⟩, fun x => absurd (x.resolve_left (by decide)) n18⟩
      · exact b1.putA (by simp) (by rw [List.map_append]; exact hown8) hgr8 hw8
      · exact (m1.grown hgr8 (fun g e2 => (ow.lt b1.oa e2).1) (fun g hg => ⟨(b1.ap g hg).1, (b1.ap g hg).2.2.2.2.2⟩) b1.size).set (g := c.b) (fun g hg => (b1.ap g hg).2.1) b1.bb 266 _
    | 15, _ => intro d vals a w o ho hn hd hdl hcl hf hx hw K Q' E hk; have b0 := (hf.base 0 fun i hi => base0 i (hdl i hi)).trans e0; have b1 := (hf.base 1 fun i hi => base1 i (hdl i hi)).trans e1; exact dw.s_val (dw.gd_of ho rfl) (dw.x_nil (dw.op_of ho rfl) ((hf.eval 0 (hd 0 (by kernel_rfl)) (t := 41) rfl).trans (hx 0 (hd 0 (by kernel_rfl)) _ rfl))) (hk _ w (fun u hu => by cases hu; rfl) (hw.plain (by decide) (by decide) (by decide) _))
    | 16, _ => intro d vals a w o ho hn hd hdl hcl hf hx hw K Q' E hk; have b0 := (hf.base 0 fun i hi => base0 i (hdl i hi)).trans e0; have b1 := (hf.base 1 fun i hi => base1 i (hdl i hi)).trans e1; exact dw.s_val (dw.gd_of ho rfl) (dw.x_field (dw.op_of ho rfl) ((hf.eval 15 (hd 15 (by kernel_rfl)) (t := 56) rfl).trans (hx 15 (hd 15 (by kernel_rfl)) _ rfl)) (f77_6 _ _)) (hk _ w (fun u hu => by cases hu; rfl) (hw.plain (by decide) (by decide) (by decide) _))
    | 17, _ => intro d vals a w o ho hn hd hdl hcl hf hx hw K Q' E hk; have b0 := (hf.base 0 fun i hi => base0 i (hdl i hi)).trans e0; have b1 := (hf.base 1 fun i hi => base1 i (hdl i hi)).trans e1; exact dw.s_val (dw.gd_of ho rfl) (dw.x_field (dw.op_of ho rfl) ((hf.eval 16 (hd 16 (by kernel_rfl)) (t := 57) rfl).trans (hx 16 (hd 16 (by kernel_rfl)) _ rfl)) (f37_2 _ _)) (hk _ w (fun u hu => by cases hu; rfl) (hw.plain (by decide) (by decide) (by decide) _))
    | 18, _ =>
      intro d vals a w o ho hn hd hdl hcl hf hx hw K Q' E hk
      obtain ⟨g, cap, e, b1, m1, c1, z1⟩ := hw.ap (hd 14 (by kernel_rfl)) hn
      have v17 := ((hf.eval 17 (hd 17 (by kernel_rfl)) (t := 58) rfl).trans (hx 17 (hd 17 (by kernel_rfl)) _ rfl))
      have v14 := (hf.eval 14 (hd 14 (by kernel_rfl)) (t := 55) rfl).trans e
      exact dw.s_skip (dw.gd_of ho rfl) (x_store35 (dw.op_of ho rfl) v17 v14 c1 z1) (hk _ _ (fun u hu => by cases hu) ⟨fun x => absurd (.inr (hd 14 (by kernel_rfl))) x, fun _ x => absurd (.inr (hd 14 (by kernel_rfl))) x, fun _ x => absurd (.inl rfl) x, fun _ => ⟨_, b1, m1⟩⟩)
    | i + 19, hi => exact absurd hi (by simp [ops57_6])
  · intro vals w hx hw
    obtain ⟨va', b1, m1⟩ := hw.fin (by decide)
    exact fin vals w va' hx b1 m1
theorem fold57_6 (vals : Nat → Value) (a : Act) : dw.fold ops57_6.toList 0 vals a = ((((((((((((((((((a.put (some 41) (vals 0)).put (some 42) (vals 1)).put (some 43) (vals 2)).put (some 44) (vals 3)).put (some 45) (vals 4)).put (some 46) (vals 5)).put (some 47) (vals 6)).put (some 48) (vals 7)).put (some 49) (vals 8)).put (some 50) (vals 9)).put (some 51) (vals 10)).put (some 52) (vals 11)).put (some 53) (vals 12)).put (some 54) (vals 13)).put (some 55) (vals 14)).put (some 56) (vals 15)).put (some 57) (vals 16)).put (some 58) (vals 17)) := by
  unfold ops57_6
  simp only [dw.fold, dw.put_none, Nat.zero_add, Nat.reduceAdd]
set_option maxHeartbeats 4000000 in
set_option maxRecDepth 100000 in
theorem number_new {X Y : Nat → Prop} {W : World} {B b mb : Nat} {h : Hd} {n e : Nat} {L : List (List Bool)} {nn : List Value} {vs vn va : Value} {ss : List Value} {m : Nat} {D : DataW Unit} (k : Bst X Y W B b mb h n e L nn vs vn va ss m D) (σ : List Bool) (hs : σ.length = n) (h1 : σ ≠ off n) (h2 : σ ∉ L) (hL : L.length ≤ 500000) : NewIs X Y W B b mb h n e L nn σ (L.length : Int) := by
  have hn2 := k.n2
  have hkey := key_of σ (by omega)
  have hhas : Maps.has D (.string (txt σ)) = false := by
    rw [k.mp.has σ hs]
    simp [h1, h2]
  have hm1 := k.m1
  have HLL : Hid (ss.length = L.length) := by show _ = _; have := k.rs.len; rw [List.length_map] at this; exact this
  have hT := k.bu.map.tidy st.law9
  have HK : Hid (Bst X Y W B b mb h n e L nn vs vn va ss m D) := k
  have HBU : Hid (Bu X W B b mb h vs vn va ss nn (L.map fun σ => σ.getD e false) m D) := k.bu
  have c8 := k.bu.box.c8
  have c7 := k.bu.box.c7
  have hown := k.bu.map
  obtain ⟨gs, cs, hvs, hfs, hts⟩ := ow.form k.bu.os
  obtain ⟨ga, ca, hva, hfa, hta⟩ := ow.form k.bu.oa
  rw [List.length_map] at hva hfa
  have hssl : ss.length ≤ 500000 := by rw [HLL.out]; exact hL
  have hal : (L.map fun σ => σ.getD e false).length ≤ 500000 := by simpa using hL
  have h75 : StatesIs σ := states_any σ (by omega)
  unfold StatesIs at h75
  have h76 := has_txt σ (by omega) e (by rw [hs]; exact k.en) (σ.getD e false) (by rw [List.getD_eq_getElem?_getD, List.getElem?_eq_getElem (by rw [hs]; exact k.en)]; rfl)
  unfold HasTIs at h76
  replace h76 : ∀ w, Calls Try.prog 82 #[.string (txtB σ), .int .i64 (e : Int)] w fun ev w' => ev = .returned (.bool (σ.getD e false)) ∧ Below w.heap.size w w' := fun w => (h76 w).mono fun ev w' hh => ⟨hh.1, by rw [hh.2]; exact Below.refl _ _⟩
  have HC0 : Hid (h.n = (σ.length : Int)) := by show _ = _; rw [hs]; exact k.hn
  have HE : Hid (h.e = (e : Int)) := k.he
  have HTX : Hid (hs = hs) := rfl
  have HALL : Hid (∀ {X' : Nat → Prop} {vb : Option Nat} {w2 Wf : World} {vs' va' v : Value} {ss' : List Value} {ac' : List Bool}, Mv X B W w2 → (∀ k, X k → X' k) → (∀ k, X' k → X k ∨ W.heap.size ≤ k) → Mv X' B w2 Wf → (∀ g, some g = vb → X' g ∧ W.heap.size ≤ g) → RowV (fun g => Y g ∨ some g = vb) w2 v (onTo σ σ.length) → ss' = ss ++ [v] → ac' = (L.map fun σ => σ.getD e false) ++ [σ.getD e false] → Bu X' Wf B b mb h vs' vn va' ss' nn ac' (m + 1) (D.put (.string (txt σ)) (.lit (.int .i64 (ss.length : Int)))) → ∃ X' Y' vs vn va ss m D, (∀ k, X k → X' k) ∧ (∀ k, X' k → X k ∨ W.heap.size ≤ k) ∧ (∀ k, Y k → Y' k) ∧ (∀ k, Y' k → Y k ∨ W.heap.size ≤ k) ∧ Bst X' Y' Wf B b mb h n e (L ++ [σ]) nn vs vn va ss m D ∧ Mv X B W Wf) := fun M1 hX hX2 M2 hvb hv hss hac bu => new_all k hs h1 h2 M1 hX hX2 M2 hvb hv hss hac bu hT
  unfold NewIs
  generalize txtB σ = t at *
  subst hvs hva
  generalize (Lit.string (txt σ)) = kl at *
  generalize σ.getD e false = r at *
  clear k h1 h2 hs HTX
  go_enter Try.func64, Try.ntmps64
  go_wp2_with (first | (at_lookup; refine wpList_lookup_own_ok_int _ rfl _ _ 85 rfl 9 3 .i64 st.law9 Try.underlying85 Try.underlying3 (st.zero3 _) mb m D rfl hown _ _ rfl hkey ?_; intro c hat2 hwc; rw [hhas]; clear hat2 hwc) | (at_mapUpdate; refine wpList_mapUpdate_own _ rfl _ _ _ 85 rfl 9 3 st.law9 Try.underlying85 _ mb m D rfl hown (by unfold maxLen; omega) _ _ _ rfl rfl hkey _ [] (plainElem_int Try.underlying3 (WalkArith.wf_i64 (by omega))) ?_; intro w1 hown1 hgrow1; have HB1 := (show Hid _ from (HBU.out.putMap hown1 hgrow1).later (below_drew w1)); have HM1 := (show Hid (Mv X B W w1.drew) from ⟨⟨hgrow1.size, fun g hg => hgrow1.block g (HBU.out.ap g hg).1 (fun e2 => (HBU.out.ap g hg).2.2.1 (Option.some.inj e2))⟩, ((Below.refl B W).grown hgrow1 HBU.out.size (fun g e2 => by cases e2; exact HBU.out.bm)).drew⟩)))
  have d7 := HB1.out.box.c7
  have HQ0 : Hid (w1.drew.cell? ⟨b, 0, none⟩ = some (.int .i64 (σ.length : Int))) := by show _ = _; rw [HB1.out.box.c0, HC0.out]
  clear c7 c8 hown hkey hhas hgrow1 hown1 hm1 hT HBU
  go_region_law (first | (refine ow.step_append (by rfl) (.tmp 33) (.tmp 37) 49 (by rfl) 39 (.slice none 0 0) 1 24 Try.underlying49 info39 rfl (by decide) (by decide) B (.slice gs ss.length cs) ss.length ss w2.heap.size [.slice gv (onTo σ σ.length).length cv] (by rfl) (by rfl) HB3.out.os rfl (ow.new1 w2 _ _) (ow.one1 _ rfl) (by omega) HB3.out.size ?_; intro g' cap' w4 hown4 hgr4 hw4; have HB4 := (show Hid _ from HB3.out.putS (by simp) hown4 hgr4 hw4); have z7 := (HB3.out.box.keep (hgr4.block b HB3.out.box.lt HB3.out.bs.1)).c7; have y7 := (HB3.out.box.keep (hgr4.block b HB3.out.box.lt HB3.out.bs.1)).fz 7; have HM4 := (show Hid _ from ((HM3.out.grown hgr4 (fun g e2 => (ow.lt HB3.out.os e2).1) (fun g hg => ⟨(HB3.out.ap g hg).1, (HB3.out.ap g hg).2.2.2.1⟩) HB3.out.size).set (g := b) (fun g hg => (HB3.out.ap g hg).2.1) HB3.out.bb 7 (.slice (some ⟨g', 0, none⟩) (ss.length + 1) cap')))) | (go_wp2_with (go_at_call 81; refine (h75 b _ HB1.out.box.lt HQ0.out).mono ?_; rintro ev w2 ⟨v, rfl, ho2, b2⟩; obtain ⟨gv, cv, rfl⟩ := df.own_slice ho2; have HO2 := (show Hid _ from ho2); have HB2 := (show Hid _ from HB1.out.more (Y := fun g => X g ∨ some g = (Value.slice gv (onTo σ σ.length).length cv).ownBlock) b2 (fun g hg => hg.imp id (fun e2 => ow.lt ho2 e2.symm))); have HMA := (show Hid _ from HM1.out.later b2 (fun g hg => (HB1.out.ap g hg).1) HB1.out.size); have HB3 := (show Hid _ from HB2.out.later (nf.below_alloc w2 (.cells #[.slice gv (onTo σ σ.length).length cv] 39))); have HM3 := (show Hid _ from (Mv.refl (fun g => X g ∨ some g = (Value.slice gv (onTo σ σ.length).length cv).ownBlock) B w2).later (nf.below_alloc w2 (.cells #[.slice gv (onTo σ σ.length).length cv] 39)) (fun g hg => (HB2.out.ap g hg).1) HB2.out.size); have e7 := HB2.out.box.c7; have f7 := HB3.out.box.c7; have HBB2 := (show Hid _ from b2); clear ho2 b2)))
  all_goals
    clear z7 y7 d7 e7 f7 hown4 hgr4 hw4
    generalize w4.setCell ⟨b, 7, none⟩ (.slice (some ⟨g', 0, none⟩) (ss.length + 1) cap') = w5 at *
    have HFIN : Hid (∀ (Wf : World) (va' : Value), Bu (fun g => X g ∨ some g = (Value.slice gv (onTo σ σ.length).length cv).ownBlock) Wf B b mb h (.slice (some ⟨g', 0, none⟩) (ss.length + 1) cap') vn va' (ss ++ [.slice gv (onTo σ σ.length).length cv]) nn ((L.map fun σ => σ.getD e false) ++ [r]) (m + 1) (D.put kl (.lit (.int .i64 (ss.length : Int)))) → Mv (fun g => X g ∨ some g = (Value.slice gv (onTo σ σ.length).length cv).ownBlock) B w5 Wf → ∃ X' Y' vs vn va ss m D, (∀ k, X k → X' k) ∧ (∀ k, X' k → X k ∨ W.heap.size ≤ k) ∧ (∀ k, Y k → Y' k) ∧ (∀ k, Y' k → Y k ∨ W.heap.size ≤ k) ∧ Bst X' Y' Wf B b mb h n e (L ++ [σ]) nn vs vn va ss m D ∧ Mv X B W Wf) := by
      intro Wf va' hbu hmv
      exact HALL.out HMA.out (fun g hg => .inl hg) (fun g hg => hg.imp id (fun e2 => Nat.le_trans HM1.out.kp.1 (ow.lt HO2.out e2.symm).1)) (HM4.out.trans hmv) (vb := (Value.slice gv (onTo σ σ.length).length cv).ownBlock) (fun g e2 => ⟨.inr e2, Nat.le_trans HM1.out.kp.1 (ow.lt HO2.out e2.symm).1⟩) (owns_rowV HO2.out (fun g e2 => .inr e2)) rfl rfl hbu
    clear HALL HMA HM1 HO2 HBB2 HB1 HK HB3 HM3 HB2 HM4
    go_wp2_with (fail)
    refine reg6 rfl ⟨b, t, e, r, .slice ga L.length ca⟩ rfl rfl HB4.out HE.out (by omega) h76 ?_
    intro vals w va' hx hbu hmv
    have HBX := (show Hid _ from HFIN.out w va' hbu hmv)
    clear hx hbu hmv HFIN HB4
    rw [fold57_6]
    go_wp2_with (fail)
    go_ret
    exact ⟨congrArg (fun q : Nat => Ending.returned (Value.int .i64 (q : Int))) HLL.out, HBX.out⟩
end Go.Proofs.Ytfilndgbgdnpiaa.bd
