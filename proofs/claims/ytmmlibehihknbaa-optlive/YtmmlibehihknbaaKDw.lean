/-
  A region that draws its order, at letters: one invariant over what is done, for any operations whose slots lie apart.
-/
import Derived.Test.YtmmlibehihknbaaM00
import Derived.RegionTactic
namespace Go.Proofs.Ytmmlibehihknbaa.dw
open Go.RowKit
set_option linter.unusedVariables false

def Lst (listed : Array Bool) (i : Nat) : Prop := listed.getD i false = true
def slot (ops : Array Oper) (i : Nat) : Option Nat := ops[i]?.bind (·.dst)
def need (ops : Array Oper) (i j : Nat) : Bool := ((ops[i]?.map (·.after)).getD #[]).any fun e => e.on == j && Region.binds .any e
def okAt (ops : Array Oper) (M i : Nat) : Bool :=
  (match slot ops i with
    | some t => decide (t < M) && (List.range ops.size).all fun j => i == j || slot ops j != some t
    | none => true) &&
  (((ops[i]?.map (·.after)).getD #[]).all fun e => !Region.binds .any e || decide (e.on < i))
def okB (ops : Array Oper) (M : Nat) : Bool := (List.range ops.size).all (okAt ops M)
section
variable {ops : Array Oper} {M : Nat}
theorem ok_at (h : okB ops M = true) {i : Nat} (hi : i < ops.size) : okAt ops M i = true := List.all_eq_true.1 h i (List.mem_range.2 hi)
theorem slot_lt (h : okB ops M = true) {i t : Nat} (hi : i < ops.size) (ht : slot ops i = some t) : t < M := by
  have h1 := ok_at h hi
  unfold okAt at h1
  rw [ht] at h1
  simp only [Bool.and_eq_true, decide_eq_true_eq] at h1
  exact h1.1.1
theorem slot_inj (h : okB ops M = true) {i j t : Nat} (hi : i < ops.size) (hj : j < ops.size) (ht : slot ops i = some t) (hu : slot ops j = some t) : i = j := by
  have h1 := ok_at h hi
  unfold okAt at h1
  rw [ht] at h1
  simp only [Bool.and_eq_true, List.all_eq_true, List.mem_range, Bool.or_eq_true, beq_iff_eq, bne_iff_ne] at h1
  rcases h1.1.2 j hj with h2 | h2
  · exact h2
  · exact absurd hu h2
theorem ready_of {listed : Array Bool} {i : Nat} (h : i ∈ Region.ready .any ops listed) : i < ops.size ∧ listed.getD i true = false ∧ ∀ j, need ops i j = true → Lst listed j := by
  unfold Region.ready at h
  rw [List.mem_filter] at h
  obtain ⟨h1, h2⟩ := h
  have hi : i < ops.size := by simpa using h1
  simp only [Bool.and_eq_true, Bool.not_eq_true'] at h2
  refine ⟨hi, h2.1, fun j hj => ?_⟩
  have h3 := h2.2
  unfold need at hj
  rw [Array.getElem?_eq_getElem hi] at h3 hj
  simp only [Option.map_some, Option.getD_some] at h3 hj
  rw [Array.any_eq_true'] at hj
  obtain ⟨e, he, hb⟩ := hj
  simp only [Bool.and_eq_true, beq_iff_eq] at hb
  have h4 := (Array.all_eq_true_iff_forall_mem.1 h3) e he
  rw [hb.2, hb.1] at h4
  unfold Lst
  simpa using h4
theorem all_of (hok : okB ops M = true) {listed : Array Bool} (hs : listed.size = ops.size) (h : Region.ready .any ops listed = []) : ∀ i, i < ops.size → Lst listed i := by
  intro i
  induction i using Nat.strongRecOn with
  | ind i ih =>
    intro hi
    by_cases hl : Lst listed i
    · exact hl
    · exfalso
      have hm : i ∈ Region.ready .any ops listed := by
        unfold Region.ready
        rw [List.mem_filter]
        refine ⟨by simpa using hi, ?_⟩
        simp only [Bool.and_eq_true, Bool.not_eq_true']
        refine ⟨?_, ?_⟩
        · unfold Lst at hl
          rw [Array.getD_eq_getD_getElem?] at hl ⊢
          rw [Array.getElem?_eq_getElem (by omega)] at hl ⊢
          simpa using hl
        · have h8 := ok_at hok hi
          unfold okAt at h8
          rw [Bool.and_eq_true] at h8
          have h9 := h8.2
          rw [Array.getElem?_eq_getElem hi] at h9 ⊢
          simp only [Option.map_some, Option.getD_some] at h9 ⊢
          rw [Array.all_eq_true_iff_forall_mem]
          intro e he
          have h5 := (Array.all_eq_true_iff_forall_mem.1 h9) e he
          cases hb : Region.binds .any e with
          | false => rfl
          | true =>
            rw [hb] at h5
            have h6 : e.on < i := by simpa using h5
            have h7 := ih e.on h6 (by omega)
            unfold Lst at h7
            simp [h7]
      rw [h] at hm
      cases hm
theorem lst_set {listed : Array Bool} {n : Nat} (hs : listed.size = n) {i : Nat} (hi : i < n) (j : Nat) : Lst (listed.setIfInBounds i true) j ↔ j = i ∨ Lst listed j := by
  unfold Lst
  rw [Array.getD_eq_getD_getElem?, Array.getD_eq_getD_getElem?, Array.getElem?_setIfInBounds]
  by_cases h : i = j
  · subst h; simp [hs, hi]
  · rw [if_neg h]
    constructor
    · exact .inr
    · rintro (e | e)
      · exact absurd e.symm h
      · exact e
theorem not_lst {listed : Array Bool} {n : Nat} (hs : listed.size = n) {i : Nat} (hi : i < n) (h : listed.getD i true = false) : ¬ Lst listed i := by
  unfold Lst
  rw [Array.getD_eq_getD_getElem?] at h ⊢
  rw [Array.getElem?_eq_getElem (by omega)] at h ⊢
  simp at h ⊢
  exact h
theorem lst_lt {listed : Array Bool} {n : Nat} (hs : listed.size = n) {i : Nat} (h : Lst listed i) : i < n := by
  unfold Lst at h
  rcases Nat.lt_or_ge i n with h1 | h1
  · exact h1
  · rw [Array.getD_eq_getD_getElem?, Array.getElem?_eq_none (by omega)] at h
    cases h
end
def upd (f : Nat → Value) (i : Nat) (v : Value) : Nat → Value := fun j => if j = i then v else f j
theorem upd_same (f : Nat → Value) (i : Nat) (v : Value) : upd f i v i = v := by simp [upd]
theorem upd_ne (f : Nat → Value) {i j : Nat} (v : Value) (h : j ≠ i) : upd f i v j = f j := by simp [upd, h]

/-- what the frame holds -/
structure Fr (ops : Array Oper) (a0 a : Act) (d : Nat → Prop) (vals : Nat → Value) : Prop where
  size : a.tmps.size = a0.tmps.size
  defers : a.defers = a0.defers
  done : ∀ i t, d i → slot ops i = some t → a.tmps[t]? = some (vals i)
  other : ∀ t, (∀ i, d i → slot ops i ≠ some t) → a.tmps[t]? = a0.tmps[t]?
section
variable {ops : Array Oper} {a0 a : Act} {d : Nat → Prop} {vals : Nat → Value}
theorem Fr.put (hok : okB ops a0.tmps.size = true) (h : Fr ops a0 a d vals) (hd : ∀ j, d j → j < ops.size) {i : Nat} (hi : i < ops.size) (hn : ¬ d i) (v : Value) : Fr ops a0 (a.put (slot ops i) v) (fun j => j = i ∨ d j) (upd vals i v) := by
  cases ht : slot ops i with
  | none =>
    refine ⟨h.size, h.defers, fun j t hj hs => ?_, fun t ht' => h.other t fun j hj => ht' j (.inr hj)⟩
    rcases hj with e | hj
    · rw [e, ht] at hs; cases hs
    · rw [upd_ne _ _ (fun e : j = i => hn (e ▸ hj))]; exact h.done j t hj hs
  | some t =>
    have htl := slot_lt hok hi ht
    refine ⟨by simp [Act.put, h.size], h.defers, fun j t' hj hs => ?_, fun t' ht' => ?_⟩
    · show (a.tmps.setIfInBounds t v)[t']? = _
      rcases hj with e | hj
      · rw [e, ht] at hs
        cases hs
        rw [e, Array.getElem?_setIfInBounds, if_pos rfl, if_pos (by rw [h.size]; exact htl), upd_same]
      · have hne : j ≠ i := fun e => hn (e ▸ hj)
        have htn : t ≠ t' := fun e => hne (slot_inj hok (hd j hj) hi (by rw [hs, e]) ht)
        rw [Array.getElem?_setIfInBounds, if_neg htn, upd_ne _ _ hne]
        exact h.done j t' hj hs
    · show (a.tmps.setIfInBounds t v)[t']? = _
      have htn : t ≠ t' := fun e => ht' i (.inl rfl) (by rw [ht, e])
      rw [Array.getElem?_setIfInBounds, if_neg htn]
      exact h.other t' fun j hj => ht' j (.inr hj)
theorem Fr.eval (h : Fr ops a0 a d vals) (i : Nat) {t : Nat} (hi : d i) (ht : slot ops i = some t) : a.eval (.tmp t) = vals i := by
  have := h.done i t hi ht
  simp [Act.eval, this]
theorem Fr.base (h : Fr ops a0 a d vals) (t : Nat) (ht : ∀ i, d i → slot ops i ≠ some t) : a.eval (.tmp t) = a0.eval (.tmp t) := by
  have := h.other t ht
  simp [Act.eval, this]
theorem Fr.uniq {b : Act} (h : Fr ops a0 a d vals) (k : Fr ops a0 b d vals) : a = b := by
  have ht : a.tmps = b.tmps := by
    apply Array.ext_getElem?
    intro t
    by_cases e : ∃ i, d i ∧ slot ops i = some t
    · obtain ⟨i, h1, h2⟩ := e
      rw [h.done i t h1 h2, k.done i t h1 h2]
    · rw [h.other t fun i h1 h2 => e ⟨i, h1, h2⟩, k.other t fun i h1 h2 => e ⟨i, h1, h2⟩]
  have hd : a.defers = b.defers := h.defers.trans k.defers.symm
  cases a; cases b; simp_all
end
/-- the frame behind the region -/
def fold : List Oper → Nat → (Nat → Value) → Act → Act
  | [], _, _, a => a
  | o :: os, i, vals, a => fold os (i + 1) vals (a.put o.dst (vals i))
theorem put_none (a : Act) (v : Value) : a.put none v = a := rfl
theorem Fr.congr {ops : Array Oper} {a0 a : Act} {d e : Nat → Prop} {vals ws : Nat → Value} (h : Fr ops a0 a d vals) (he : ∀ i, d i ↔ e i) (hv : ∀ i, d i → vals i = ws i) : Fr ops a0 a e ws :=
  ⟨h.size, h.defers, fun i t hi hs => by rw [h.done i t ((he i).2 hi) hs, hv i ((he i).2 hi)], fun t ht => h.other t fun i hi => ht i ((he i).1 hi)⟩
theorem fold_fr {ops : Array Oper} {a0 : Act} (hok : okB ops a0.tmps.size = true) (vals : Nat → Value) : ∀ (os : List Oper) (i : Nat) (a : Act), i + os.length = ops.size → (∀ j, os[j]? = ops[i + j]?) → Fr ops a0 a (fun j => j < i) vals → Fr ops a0 (fold os i vals a) (fun j => j < ops.size) vals
  | [], i, a, hl, hg, h => by
    have : i = ops.size := by simpa using hl
    rw [this] at h
    exact h
  | o :: os, i, a, hl, hg, h => by
    have hi : i < ops.size := by simp at hl; omega
    have h0 := hg 0
    simp at h0
    have hs : slot ops i = o.dst := by unfold slot; rw [← h0]; rfl
    have h1 := Fr.put hok h (fun j hj => by omega) hi (by omega) (vals i)
    rw [hs] at h1
    refine fold_fr hok vals os (i + 1) _ (by simp at hl; omega) (fun j => ?_) (h1.congr (fun j => by omega) (fun j hj => ?_))
    · have := hg (j + 1)
      simp at this
      rw [this]
      congr 1
      omega
    · by_cases e : j = i
      · rw [e, upd_same]
      · rw [upd_ne _ _ e]
theorem frame_all {ops : Array Oper} {a0 a : Act} (hok : okB ops a0.tmps.size = true) {vals : Nat → Value} (h : Fr ops a0 a (fun j => j < ops.size) vals) : a = fold ops.toList 0 vals a0 :=
  h.uniq (fold_fr hok vals ops.toList 0 a0 (by simp) (fun j => by simp) ⟨rfl, rfl, fun i t hi => absurd hi (by omega), fun t _ => rfl⟩)

theorem count_step {listed : Array Bool} {n : Nat} (hs : listed.size = n) {i : Nat} (hi : i < n) (hf : listed.getD i true = false) {fuel : Nat} (h : listed.toList.count false ≤ fuel + 1) : (listed.setIfInBounds i true).toList.count false ≤ fuel := by
  have hl : i < listed.toList.length := by simpa [hs] using hi
  have he : listed.toList[i] = false := by
    rw [Array.getD_eq_getD_getElem?, Array.getElem?_eq_getElem (by omega)] at hf
    simpa using hf
  rw [Array.toList_setIfInBounds, List.count_set hl]
  simp [he, -Array.count_toList]
  omega
theorem none_ready {ops : Array Oper} {listed : Array Bool} (hs : listed.size = ops.size) (h : listed.toList.count false ≤ 0) : Region.ready .any ops listed = [] := by
  have h0 : listed.toList.count false = 0 := by omega
  rw [List.count_eq_zero] at h0
  cases hr : Region.ready .any ops listed with
  | nil => rfl
  | cons i r =>
    exfalso
    have hm : i ∈ Region.ready .any ops listed := by rw [hr]; exact List.mem_cons_self
    obtain ⟨hi, hf, _⟩ := ready_of hm
    rw [Array.getD_eq_getD_getElem?, Array.getElem?_eq_getElem (by omega)] at hf
    exact h0 (by rw [← show listed[i] = false by simpa using hf]; exact Array.getElem_mem_toList _)

/-- one operation keeps what is said of memory -/
def StepOk (ops : Array Oper) (a0 : Act) (fix : Nat → Option Value) (Wd : (Nat → Prop) → (Nat → Value) → World → Prop) (i : Nat) : Prop :=
  ∀ (d : Nat → Prop) (vals : Nat → Value) (a : Act) (w : World) (o : Oper), ops[i]? = some o → ¬ d i → (∀ j, need ops i j = true → d j) → (∀ j, d j → j < ops.size) → (∀ k j, d k → need ops k j = true → d j) → Fr ops a0 a d vals → (∀ j, d j → ∀ u, fix j = some u → vals j = u) → Wd d vals w →
    ∀ (K : Act → World → Prop) (Q : Exit → Act → World → Prop) (E : Prop), (∀ v w', (∀ u, fix i = some u → v = u) → Wd (fun j => j = i ∨ d j) (upd vals i v) w' → K (a.put o.dst v) w') → if Region.wanted o (yielded ops a.tmps) = true then Oper.wp Try.prog o a w K Q else E
theorem walk {ops : Array Oper} {a0 : Act} {Q : Exit → Act → World → Prop} (hok : okB ops a0.tmps.size = true) {fix : Nat → Option Value} {Wd : (Nat → Prop) → (Nat → Value) → World → Prop} (step : ∀ i, i < ops.size → StepOk ops a0 fix Wd i)
    (fin : ∀ vals w, (∀ j, j < ops.size → ∀ u, fix j = some u → vals j = u) → Wd (fun j => j < ops.size) vals w → Q .normal (fold ops.toList 0 vals a0) w) :
    ∀ (fuel : Nat) (listed : Array Bool) (a : Act) (w : World) (vals : Nat → Value), listed.size = ops.size → (∀ k j, Lst listed k → need ops k j = true → Lst listed j) → Fr ops a0 a (Lst listed) vals → (∀ j, Lst listed j → ∀ u, fix j = some u → vals j = u) → Wd (Lst listed) vals w → listed.toList.count false ≤ fuel → wpAny Try.prog .any ops Q fuel listed a w := by
  have done : ∀ (listed : Array Bool) (a : Act) (w : World) (vals : Nat → Value), listed.size = ops.size → Fr ops a0 a (Lst listed) vals → (∀ j, Lst listed j → ∀ u, fix j = some u → vals j = u) → Wd (Lst listed) vals w → Region.ready .any ops listed = [] → Q .normal a w := fun listed a w vals hs hf hx hw hr => by
    have hall := all_of hok hs hr
    have e : Lst listed = fun j => j < ops.size := funext fun j => propext ⟨fun h => lst_lt hs h, fun h => hall j h⟩
    rw [e] at hf hx hw
    rw [frame_all hok hf]
    exact fin vals w hx hw
  intro fuel
  induction fuel with
  | zero =>
    intro listed a w vals hs hcl hf hx hw hc
    have hr := none_ready hs hc
    exact ⟨hr, done listed a w vals hs hf hx hw hr⟩
  | succ fuel ih =>
    intro listed a w vals hs hcl hf hx hw hc
    refine ⟨fun hr => done listed a w vals hs hf hx hw hr, fun i hm => ?_⟩
    obtain ⟨hi, hl, hn⟩ := ready_of hm
    have hnl := not_lst hs hi hl
    have e : Lst (listed.setIfInBounds i true) = fun j => j = i ∨ Lst listed j := funext fun j => propext (lst_set hs hi j)
    refine wpOp_step (Array.getElem?_eq_getElem hi) fun K' hK => ?_
    refine step i hi (Lst listed) vals a w _ (Array.getElem?_eq_getElem hi) hnl hn (fun j hj => lst_lt hs hj) hcl hf hx hw K' Q _ fun v w' hv hw' => hK _ _ ?_
    refine ih (listed.setIfInBounds i true) _ w' (upd vals i v) (by simpa using hs) ?_ ?_ ?_ (by rw [e]; exact hw') (count_step hs hi hl hc)
    · rw [e]
      rintro k j (rfl | hk) hkj
      · exact .inr (hn j hkj)
      · exact .inr (hcl k j hk hkj)
    · rw [e]
      have := Fr.put hok hf (fun j hj => lst_lt hs hj) hi hnl v
      have hsl : slot ops i = ops[i].dst := by unfold slot; rw [Array.getElem?_eq_getElem hi]; rfl
      rw [hsl] at this
      exact this
    · rw [e]
      rintro j (rfl | hj) u hu
      · rw [upd_same]; exact hv u hu
      · rw [upd_ne _ _ (fun e2 : j = i => hnl (e2 ▸ hj))]; exact hx j hj u hu
theorem region {ops : Array Oper} {id : Nat} {a0 : Act} {w0 : World} {Q : Exit → Act → World → Prop} (hP : Try.prog.follows .mixedOrders = true) (hok : okB ops a0.tmps.size = true) (fix : Nat → Option Value) (Wd : (Nat → Prop) → (Nat → Value) → World → Prop) (start : ∀ vals, Wd (fun _ => False) vals w0.drew) (step : ∀ i, i < ops.size → StepOk ops a0 fix Wd i)
    (fin : ∀ vals w, (∀ j, j < ops.size → ∀ u, fix j = some u → vals j = u) → Wd (fun j => j < ops.size) vals w → Q .normal (fold ops.toList 0 vals a0) w) : (Code.region id ops true).wp Try.prog Q a0 w0 := by
  have no : ∀ i, ¬ Lst (Array.replicate ops.size false) i := fun i h => by
    unfold Lst at h
    rw [Array.getD_eq_getD_getElem?, Array.getElem?_replicate] at h
    split at h <;> cases h
  have e : Lst (Array.replicate ops.size false) = fun _ => False := funext fun j => propext ⟨fun h => no j h, fun h => h.elim⟩
  refine wp_region_any hP ?_
  refine walk hok step fin ops.size _ a0 _ (fun _ => undef) (by simp) (fun k j hk => absurd hk (no k)) ⟨rfl, rfl, fun i t hi => absurd hi (no i), fun t _ => rfl⟩ (fun j hj => absurd hj (no j)) (by rw [e]; exact start _) (by simp)

theorem op_of {ops : Array Oper} {i : Nat} {o : Oper} {p : Op} (ho : ops[i]? = some o) (h : ops[i]?.map (·.op) = some p) : o.op = p := by
  rw [ho] at h; exact Option.some.inj h
theorem gd_of {ops : Array Oper} {i : Nat} {o : Oper} (ho : ops[i]? = some o) (h : ops[i]?.map (·.guard.isNone) = some true) : o.guard = none := by
  rw [ho] at h; exact Option.isNone_iff_eq_none.1 (Option.some.inj h)
section
variable {o : Oper} {a : Act} {w : World}
theorem x_move {x : Operand} (h : o.op = .move x) : (execOp a.eval o).run Try.prog w = .ok (.value (a.eval x)) w := by
  unfold execOp; rw [h]; rfl
theorem x_assign {x : Operand} (h : o.op = .assign x) : (execOp a.eval o).run Try.prog w = .ok (.value (a.eval x)) w := by
  unfold execOp; rw [h]; rfl
theorem x_nil {x : Operand} {p : Addr} (h : o.op = .nilCheck x) (hx : a.eval x = .pointer (some p)) : (execOp a.eval o).run Try.prog w = .ok (.value (.pointer (some p))) w := by
  unfold execOp; rw [h]; simp only [hx]; rfl
theorem x_field {x : Operand} {T f : Nat} {p q : Addr} (h : o.op = .fieldAddr T x f) (hx : a.eval x = .pointer (some p)) (hf : (Instr.fieldAt T (.pointer (some p)) f).run Try.prog w = .ok (.pointer (some q)) w) : (execOp a.eval o).run Try.prog w = .ok (.value (.pointer (some q))) w := by
  unfold execOp; rw [h]; simp only [hx, Sem.run_bind, hf, Result.andThen_ok, Sem.run_pure]
end
section
variable {o : Oper} {a : Act} {w : World} {ops : Array Oper} {K : Act → World → Prop} {Q : Exit → Act → World → Prop} {E : Prop}
theorem s_val {v : Value} {w' : World} (hg : o.guard = none) (h : (execOp a.eval o).run Try.prog w = .ok (.value v) w') (hk : K (a.put o.dst v) w') : if Region.wanted o (yielded ops a.tmps) = true then Oper.wp Try.prog o a w K Q else E := by
  have hw : Region.wanted o (yielded ops a.tmps) = true := by simp [Region.wanted, hg]
  rw [if_pos hw]; unfold Oper.wp; rw [h]; exact hk
theorem s_skip {w' : World} (hg : o.guard = none) (h : (execOp a.eval o).run Try.prog w = .ok .skip w') (hk : K (a.put o.dst undef) w') : if Region.wanted o (yielded ops a.tmps) = true then Oper.wp Try.prog o a w K Q else E := by
  have hw : Region.wanted o (yielded ops a.tmps) = true := by simp [Region.wanted, hg]
  rw [if_pos hw]; unfold Oper.wp; rw [h]; exact hk
theorem s_call {f : Nat} {args : Array Value} {R : Ending → World → Prop} (hg : o.guard = none) (h : (execOp a.eval o).run Try.prog w = .ok (.enter f args) w) (hc : Calls Try.prog f args w R)
    (hk : ∀ e w', R e w' → ∃ v, e = .returned v ∧ K (a.put o.dst v) w') : if Region.wanted o (yielded ops a.tmps) = true then Oper.wp Try.prog o a w K Q else E := by
  have hw : Region.wanted o (yielded ops a.tmps) = true := by simp [Region.wanted, hg]
  rw [if_pos hw]; unfold Oper.wp; rw [h, Oper.upon_enter]
  refine hc.mono ?_
  intro e w' hr
  obtain ⟨v, rfl, hk'⟩ := hk e w' hr
  exact hk'
end
end Go.Proofs.Ytmmlibehihknbaa.dw
