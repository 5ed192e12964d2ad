/-
  A region that draws its order, within a round, of operations that neither call nor defer: walked as outside a round.
-/
import Derived.Test.YtbappfbojehkeaaRows
import Derived.WalkKit
import Derived.OrdersIn
import Derived.RegionIn
import Derived.OwnWalkIn
namespace Go.Proofs.Ytbappfbojehkeaa.rr
open Go
set_option linter.unusedVariables false

/-- neither a call nor a defer statement -/
def still : Op → Bool
  | .move _ | .assign _ | .binOp .. | .fieldAddr .. | .indexAddr .. | .load .. | .store .. | .extract .. => true
  | _ => false
def Calm : Result Next → Prop
  | .ok (.value _) _ | .ok .skip _ | .halt _ _ => True
  | _ => False
theorem calm_bind {α : Type} {P : Program} {w : World} (x : Sem α) (k : α → Sem Next) (h : ∀ v w', Calm ((k v).run P w')) : Calm ((x >>= k).run P w) := by
  rw [Sem.run_bind]
  cases hx : x.run P w with
  | ok v w' => simp only [Result.andThen]; exact h v w'
  | halt e w' => simp only [Result.andThen]; trivial
theorem calm_of (P : Program) (o : Oper) (ρ : Operand → Value) (w : World) (h : still o.op = true) : Calm ((execOp ρ o).run P w) := by
  unfold execOp
  cases ho : o.op <;> rw [ho] at h <;> simp only [still, Bool.false_eq_true] at h
  all_goals first | exact calm_bind _ _ (fun v w' => trivial) | trivial
theorem still_about (P : Program) (o : Oper) (ρ : Operand → Value) (w : World) (h : still o.op = true) : o.about P w ρ = none := by
  unfold Oper.about
  cases ho : o.op <;> rw [ho] at h <;> first | rfl | (simp only [still, Bool.false_eq_true] at h)
theorem still_defer (o : Oper) (h : still o.op = true) : ∀ c, o.op ≠ .defer c := by
  intro c hc
  rw [hc] at h
  cases h
theorem still_wp {F : Fence} {n m : Nat} {P : Program} {Q : Exit → Act → World → Prop} {o : Oper} {a : Act} {w : World} {K K' : Act → World → Prop} (ho : still o.op = true) (hk : ∀ a w, K a w → K' a w)
    (h : o.wpIn Fence.wide m P a w K Q) : o.wpIn F n P a w K' Q := by
  unfold Oper.wpIn at h ⊢
  refine ⟨(fun f hf => by rw [still_about P o a.eval w ho] at hf; cases hf), ?_⟩
  have h2 := h.2
  rw [Oper.semAt_plain Fence.wide a.eval o (still_defer o ho)] at h2
  rw [Oper.semAt_plain F a.eval o (still_defer o ho)]
  have hc := calm_of P o a.eval w ho
  generalize (execOp a.eval o).run P w = r at h2 hc
  match r, hc, h2 with
  | .ok (.value v) w', _, h2 => exact hk _ _ h2
  | .ok .skip w', _, h2 => exact hk _ _ h2
  | .halt (.panic v) w', _, h2 => exact h2
theorem any_fence {F : Fence} {n m : Nat} {P : Program} {md : Region.Mode} {ops : Array Oper} {Q : Exit → Act → World → Prop} (hs : ∀ (i : Nat) (o : Oper), ops[i]? = some o → still o.op = true) :
    ∀ fuel listed a w, wpAnyIn Fence.wide m P md ops Q fuel listed a w → wpAnyIn F n P md ops Q fuel listed a w := by
  intro fuel
  induction fuel with
  | zero => intro listed a w h; exact h
  | succ fuel ih =>
    intro listed a w h
    refine ⟨h.1, fun i hi => ?_⟩
    have h2 := h.2 i hi
    unfold wpOpIn at h2 ⊢
    cases ho : ops[i]? with
    | none => rw [ho] at h2; exact ih _ _ _ h2
    | some o =>
      rw [ho] at h2
      simp only at h2 ⊢
      by_cases hw : Region.wanted o (yielded ops a.tmps) = true
      · rw [if_pos hw] at h2 ⊢
        exact still_wp (hs i o ho) (fun a w hh => ih _ _ _ hh) h2
      · rw [if_neg hw] at h2 ⊢
        exact ⟨(fun f hf => by rw [still_about P o a.eval w (hs i o ho)] at hf; cases hf), ih _ _ _ h2.2⟩
theorem all_still {l : List Oper} (h : l.all (fun o => still o.op) = true) : ∀ (i : Nat) (o : Oper), l.toArray[i]? = some o → still o.op = true := by
  intro i o ho
  rw [List.getElem?_toArray] at ho
  exact List.all_eq_true.1 h o (List.mem_of_getElem? ho)
/-- within a round -/
theorem region_in {F : Fence} {n : Nat} {P : Program} {id : Nat} {l : List Oper} {Q : Exit → Act → World → Prop} {a : Act} {w : World} (hm : P.follows .mixedOrders = true) (hs : l.all (fun o => still o.op) = true)
    (h : wpAnyIn Fence.wide 0 P .any l.toArray Q l.toArray.size (Array.replicate l.toArray.size false) a w.drew) : (Code.region id l.toArray true).wpIn F n P Q a w :=
  wpIn_region_any hm (any_fence (all_still hs) _ _ _ _ h)
end Go.Proofs.Ytbappfbojehkeaa.rr
