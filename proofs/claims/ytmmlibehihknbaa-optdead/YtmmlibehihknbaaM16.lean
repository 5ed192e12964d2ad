/-
  Texts put together: Contracts over this program: piece.Split. A region that draws its order, within a round, where its last operation writes a cell that others of it read: operations that read are taken first, and what they read need not stand behind the last.
-/
import Derived.Test.YtmmlibehihknbaaKPPh
import Derived.OrdersHeld
namespace Go.Proofs.Ytmmlibehihknbaa.pc
open Go.RowKit Go.Shelf
open df (Dfa ends nxt acpt byteAt here Ok right width endsOf DAt DBox Row RowRow iv bv In Owns IntsV)
set_option linter.unusedVariables false
attribute [local go_sem] Oper.semAt_some

def encE {s : ByteArray} (x : Pr s) : Value := .int .i64 (x.1.2 : Int)
def endsL (d : Dfa) (s : ByteArray) : List Int := (all d s 0).map fun p => (p.2 : Int)
theorem info3' : (Try.prog.info? 3).map (fun i => (i.zero, i.size, i.bytes)) = some (some (.int .i64 0), 1, 8) := by kernel_rfl
theorem encE_map {s : ByteArray} {d : Dfa} {xs : List (Pr s)} (h : xs.map (·.1) = all d s 0) : xs.map encE = (endsL d s).map (Value.int .i64) ∧ xs.length = (endsL d s).length := by
  unfold endsL
  rw [← h]
  constructor
  · simp [encE, Function.comp_def]
  · simp
end Go.Proofs.Ytmmlibehihknbaa.pc

namespace Go.Proofs.Ytmmlibehihknbaa.pc
set_option linter.unusedVariables false

section
variable {P : Program} {ops : Array Oper} {Q : Exit → Act → World → Prop} {S : World → Prop} {K : Nat}
/-- whichever order is picked; S stands behind every operation but K -/
def anyK (P : Program) (ops : Array Oper) (Q : Exit → Act → World → Prop) (S : World → Prop) (K : Nat) : Nat → Array Bool → Act → World → Prop
  | 0, done, a, w => Region.ready .any ops done = [] ∧ Q .normal a w
  | fuel + 1, done, a, w => (Region.ready .any ops done = [] → Q .normal a w) ∧ ∀ j ∈ Region.ready .any ops done, wpOp P ops Q j (fun a' w' => (j ≠ K → S w') ∧ anyK P ops Q S K fuel (done.setIfInBounds j true) a' w') a w
theorem any_of_K : ∀ (fuel : Nat) (done : Array Bool) (a : Act) (w : World), anyK P ops Q S K fuel done a w → wpAny P .any ops Q fuel done a w
  | 0, _, _, _, h => h
  | fuel + 1, _, _, _, h => ⟨h.1, fun j hj => wpOp_mono (fun a' w' h' => any_of_K fuel _ a' w' h'.2) (h.2 j hj)⟩
/-- op K waits for op i -/
def waits (ops : Array Oper) (K i : Nat) : Bool := match ops[K]? with | none => true | some o => o.after.any fun e => Region.binds .any e && e.on == i
theorem take_first {i : Nat} {oi : Oper} {v : Value} (hi : ops[i]? = some oi) (hs : Region.noSelect ops = true) (hK : waits ops K i = true) (hQ : ∀ c a w, Q (.panic c) (a.put oi.dst v) w → Q (.panic c) a w) :
    ∀ (fuel : Nat) (done : Array Bool) (a : Act) (w : World), (∀ j oj, ops[j]? = some oj → j ≠ i → done.getD j true = false → (∀ e ∈ oj.after, Region.binds .any e = true → e.on ≠ i) → oi.apart ops oj = true) →
      i ∈ Region.ready .any ops done → YieldsIf P ops S oi v a → S w → anyK P ops Q S K fuel (done.setIfInBounds i true) (a.put oi.dst v) w → anyK P ops Q S K (fuel + 1) done a w
  | fuel, done, a, w, hfree, hr, hy, hS, H => by
    refine ⟨fun h0 => (by rw [h0] at hr; cases hr), fun j hj => ?_⟩
    by_cases hji : j = i
    · subst hji
      exact hy.wpOp hi hS ⟨fun _ => hS, H⟩
    · have hj2 := ready_mono hj hji
      cases fuel with
      | zero => rw [H.1] at hj2; cases hj2
      | succ f =>
        obtain ⟨hun, oj, hoj, hall⟩ := mem_ready.1 hj
        have hno : ∀ e ∈ oj.after, Region.binds .any e = true → e.on ≠ i := fun e he hb q => by
          have z1 := hall e he hb
          have z0 := (mem_ready.1 hr).1
          rw [q] at z1
          rcases Nat.lt_or_ge i done.size with z | z
          · simp [z] at z0 z1; rw [z0] at z1; cases z1
          · simp [Array.getElem?_eq_none z] at z1
        have hjK : j ≠ K := fun q => by
          subst q
          unfold waits at hK
          rw [hoj] at hK
          simp only [Array.any_eq_true', Bool.and_eq_true, beq_iff_eq] at hK
          obtain ⟨e, he, hb, q⟩ := hK
          exact hno e he hb q
        have h2 := wpOp_putIf hoj (hfree j oj hoj hji hun hno) (fun cs b => Region.noSelect_spec hs i oi cs b hi) (fun cs b => Region.noSelect_spec hs j oj cs b hoj) hQ hy (H.2 j hj2)
        refine wpOp_mono (fun a' w' h3 => ⟨h3.2.1, take_first hi hs hK hQ f (done.setIfInBounds j true) a' w' (fun k ok hk hki hu hn => ?_) (ready_mono hr (Ne.symm hji)) h3.1 (h3.2.1 hjK) ?_⟩) h2
        · refine hfree k ok hk hki ?_ hn
          by_cases q : j = k
          · subst q; exact hun
          · rwa [getD_set_ne true q] at hu
        · rw [Array.setIfInBounds_comm _ _ hji]
          exact h3.2.2
theorem takeK {i : Nat} {oi : Oper} {fuel : Nat} {done : Array Bool} {a : Act} {w : World} (k : Nat) {v : Value} (hi : ops[i]? = some oi) (hd : oi.dst = some k) (hy : YieldsIf P ops S oi v a) (hs : Region.noSelect ops = true) (hK : waits ops K i = true) (hf : Region.free .any ops done i = true) (hr : (Region.ready .any ops done).contains i = true)
    (hQ : ∀ c a w, Q (.panic c) (a.put (some k) v) w → Q (.panic c) a w) (hS : S w) (h : anyK P ops Q S K fuel (done.setIfInBounds i true) (a.put (some k) v) w) : anyK P ops Q S K (fuel + 1) done a w :=
  take_first hi hs hK (by rw [hd]; exact hQ) fuel done a w (Region.free_spec hi hf) (by simpa using hr) hy hS (by rw [hd]; exact h)
/-- one alone may come up -/
theorem oneK {j : Nat} {o : Oper} {fuel : Nat} {done : Array Bool} {a : Act} {w : World} (hr : Region.ready .any ops done = [j]) (ho : ops[j]? = some o) (hw : Region.wanted o (yielded ops a.tmps) = true)
    (h : o.wp P a w (fun a' w' => (j ≠ K → S w') ∧ anyK P ops Q S K fuel (done.setIfInBounds j true) a' w') Q) : anyK P ops Q S K (fuel + 1) done a w := by
  refine ⟨fun h0 => (by rw [hr] at h0; cases h0), fun k hk => ?_⟩
  rw [hr] at hk
  simp at hk
  subst hk
  unfold wpOp
  simp only [ho, hw, if_true]
  exact .inl h
theorem doneK {fuel : Nat} {done : Array Bool} {a : Act} {w : World} (hr : Region.ready .any ops done = []) (h : Q .normal a w) : anyK P ops Q S K fuel done a w := by
  cases fuel with
  | zero => exact ⟨hr, h⟩
  | succ f => exact ⟨fun _ => h, by rw [hr]; simp⟩
theorem ops_round {r n : Nat} (hp : ∀ (j : Nat) (o : Oper), ops[j]? = some o → ∀ c, o.op ≠ .defer c) (hQ : ∀ a w, ¬ Q .outgrown a w) : ∀ (l : List Nat) (a : Act) (w : World), wpOps P ops Q l a w → wpOpsIn (Fence.wide.inRound r) n P ops Q l a w
  | [], a, w, h => h
  | i :: rest, a, w, h => by
    have ih := fun a w => ops_round (r := r) (n := n) hp hQ rest a w
    simp only [wpOps] at h
    simp only [wpOpsIn]
    cases ho : ops[i]? with
    | none => simp only [ho] at h ⊢; exact ih _ _ h
    | some o =>
      simp only [ho] at h ⊢
      split at h
      · rename_i hw
        rw [if_pos hw]
        rcases h with h | ⟨_, a', w', hl⟩
        case inr => exact (hQ _ _ hl).elim
        refine ⟨fun _ _ => trivial, ?_⟩
        rw [show (Fence.wide.inRound r).round = some r from rfl, Oper.semAt_some r _ o (hp i o ho)]
        unfold Oper.wp at h
        generalize (execOp a.eval o).run P w = res at *
        cases res with
        | ok x w' =>
          cases x <;> simp only [Oper.upon, Oper.uponIn] at h ⊢
          case value v => exact ih _ _ h
          case skip => exact ih _ _ h
          case defer d => exact ih _ _ h
          case enter f args =>
            refine ⟨fun q => (by cases q), ?_⟩
            refine (callsIn_wide.2 (Calls.mono h ?_) : CallsIn Fence.wide _ P f args w' _)
            intro e w2 he
            cases e with
            | returned v => exact ih _ _ he
            | panicked c => exact he
            | outgrown => exact he
          case row row args =>
            refine ⟨fun q => (by cases q), fun c cs _ => ?_⟩
            obtain ⟨v, w2, h1, h2⟩ := h c cs
            exact ⟨v, w2, ih _ _ h1, stepsIn_wide.2 h2⟩
        | halt x w' => cases x <;> simp only [Oper.upon, Oper.uponIn] at h ⊢ <;> exact h
      · rename_i hw
        rw [if_neg hw]
        exact ⟨fun _ _ => trivial, ih _ _ h⟩
def noDefer (ops : Array Oper) : Bool := ops.all fun o => match o.op with | .defer _ => false | _ => true
theorem region_round {id r n : Nat} {a : Act} {w : World} (S : World → Prop) (K : Nat) (hm : P.follows .mixedOrders = true) (hp : noDefer ops = true) (hQ : ∀ a w, ¬ Q .outgrown a w)
    (h : anyK P ops Q S K ops.size (Array.replicate ops.size false) a w.drew) : (Code.region id ops true).wpIn (Fence.wide.inRound r) n P Q a w :=
  wpIn_region_draw fun t => by
    simp only [Region.schedule, hm, Bool.true_or, if_true]
    refine ops_round (fun j o ho c q => ?_) hQ _ _ _ (wpAny_sound ops.size t _ a _ (any_of_K _ _ _ _ h))
    unfold noDefer at hp
    rw [Array.all_eq_true] at hp
    obtain ⟨hj, e⟩ := Array.getElem?_eq_some_iff.1 ho
    have := hp j hj
    rw [e, q] at this
    cases this
end
end Go.Proofs.Ytmmlibehihknbaa.pc
