/-
  Texts put together: A function that is called by a deferred call, and defers calls itself. Contracts over this program: a row is lent and taken back (Engine.lend, Engine.takeBack). Contracts over this program: the ids of a text (Engine.Tokens). Contracts over this program: the laws' own short and alive; lists of ids beside an engine.
-/
import Derived.Test.YtmmlibehihknbaaM10
import Derived.Test.YtmmlibehihknbaaKLk
import Derived.Test.YtmmlibehihknbaaM04
import Derived.Lib.SmallJoins
namespace Go.Proofs.Ytmmlibehihknbaa.en
open Go.ChangeShapes Go.WideShapes Go.ChangeAt Go.RowKit
set_option linter.unusedVariables false
set_option maxRecDepth 100000
section
variable {P : Program}
theorem leavesD_steps {fn : Func} {tmps : Array Value} {R : Ending → World → Prop} : ∀ (ds : List Deferred) (u : FrameMode) (w : World) (fr : Frame)
    (cs : List Frame), fr.mode = u → fr.defers = ds → fr.tmps = tmps → P.funcs[fr.fn]? = some fn → fr.kind = .deferred → Leaves P fn tmps R ds u w →
    ∃ e w' fr', R e w' ∧ Comes P (lone fr cs w) (lone fr' cs w') e ∧ fr'.kind = .deferred ∧ fr'.going P w' e := by
  intro ds
  induction ds with
  | nil =>
    intro u w fr cs hu hd ht hf hk h
    cases u with
    | run => exact h.elim
    | returning =>
      obtain ⟨v, hr, hR⟩ := h
      exact ⟨.returned v, w, fr, hR, Steps.refl P _, hk, hu, hd, fn, hf, ht ▸ hr⟩
    | panicking chain => exact ⟨.panicked chain, w, fr, h, Steps.refl P _, hk, hu, hd, fn, hf⟩
  | cons d ds ih =>
    intro u w fr cs hu hd ht hf hk h
    obtain ⟨hrun, fv, cap, f, args, htar, hinv, hcall⟩ := h
    have h1 := step_defer (cs := cs) (hu ▸ hrun) hd htar hinv
    obtain ⟨e, u', w', frX, hR, hsteps, hkX, hgo⟩ := hcall { fr with defers := ds } cs hu
    cases e with
    | returned v =>
      have h2 := step_going_returned (c := { { fr with defers := ds } with mode := u' }) (cs := cs) hkX hgo
      obtain ⟨e', w'', fr', hR', hs', hfn', hl'⟩ := ih (settle u') w' { { { fr with defers := ds } with mode := u' } with mode := settle u' } cs rfl rfl ht hf hk hR
      exact ⟨e', w'', fr', hR', Comes.of_steps (.head h1 (Steps.trans hsteps (.one h2))) hs', hfn', hl'⟩
    | panicked chain =>
      have h2 := step_going_panicked (c := { { fr with defers := ds } with mode := u' }) (cs := cs) hgo
      obtain ⟨e', w'', fr', hR', hs', hfn', hl'⟩ := ih (raised u' chain) w' { { { fr with defers := ds } with mode := u' } with mode := raised u' chain } cs rfl rfl ht hf hk hR
      exact ⟨e', w'', fr', hR', Comes.of_steps (.head h1 (Steps.trans hsteps (.one h2))) hs', hfn', hl'⟩
    | outgrown => exact ⟨.outgrown, w', fr, hR, Outgrown.of_steps (.one h1) hsteps, hk, trivial⟩
theorem callsD_of_wp_defers {f : FuncId} {fn : Func} {c : Code} {args : Array Value} {u : FrameMode} {w : World} {R : Ending → World → Prop}
    (hf : P.funcs[f]? = some fn) (hb : fn.body = some c)
    (h : c.wp P (bodyPostD P fn R) { tmps := args ++ Array.replicate (fn.ntmps - args.size) undef, defers := [] } w) :
    CallsD P f args u w fun e u' w' => u' = u ∧ R e w' := by
  intro c₀ cs hu
  let b : Frame := { (default : Frame) with fn := f, kind := .deferred }
  have henter : Frame.enter P f args .deferred =
      b.at { tmps := args ++ Array.replicate (fn.ntmps - args.size) undef, defers := [] } [.code c] := by
    simp [Frame.enter, Frame.at, hf, hb, b]
  have hc : ({ c₀ with mode := u } : Frame) = c₀ := by subst hu; rfl
  obtain ⟨e, a', w', hq, harr⟩ := h b [] (c₀ :: cs)
  rw [← henter] at harr
  cases e with
  | normal =>
    obtain ⟨e', w'', fr', hR, hs, hk, hl⟩ := leavesD_steps a'.defers .returning w' { b.at a' [] with mode := .returning } (c₀ :: cs) rfl rfl rfl hf rfl hq
    exact ⟨e', u, w'', fr', ⟨rfl, hR⟩, (by rw [hc]; exact Comes.of_steps (Steps.trans harr (.one step_end)) hs), hk, hl⟩
  | ret =>
    obtain ⟨todo, hs₀⟩ := harr
    obtain ⟨e', w'', fr', hR, hs, hk, hl⟩ := leavesD_steps a'.defers .returning w' { b.at a' todo with mode := .returning } (c₀ :: cs) rfl rfl rfl hf rfl hq
    exact ⟨e', u, w'', fr', ⟨rfl, hR⟩, (by rw [hc]; exact Comes.of_steps hs₀ hs), hk, hl⟩
  | panic chain =>
    obtain ⟨todo, hs₀⟩ := harr
    obtain ⟨e', w'', fr', hR, hs, hk, hl⟩ := leavesD_steps a'.defers (.panicking chain) w' { b.at a' todo with mode := .panicking chain } (c₀ :: cs) rfl rfl rfl hf rfl hq
    exact ⟨e', u, w'', fr', ⟨rfl, hR⟩, (by rw [hc]; exact Comes.of_steps hs₀ hs), hk, hl⟩
  | exit id => exact hq.elim
  | goto l => exact hq.elim
  | outgrown => exact ⟨.outgrown, u, w', b, ⟨rfl, hq⟩, harr.resolve_left (by simp [b]), rfl, trivial⟩
end
end Go.Proofs.Ytmmlibehihknbaa.en

namespace Go.Proofs.Ytmmlibehihknbaa.en
open Go.ChangeShapes Go.WideShapes Go.ChangeAt Go.RowKit Go.MuLone
open mg (Mg iv below_alloc chain app idsOf)
open pp (Pr plt)
open hp (RMap Heap own_keep ecells muLib)
set_option linter.unusedVariables false
set_option maxRecDepth 100000

/-- only one block changes, and new ones -/
structure ECh (eb : Nat) (W W' : World) : Prop where
  os : W'.os = W.os
  tape : W'.tape = W.tape
  output : W'.output = W.output
  size : W.heap.size ≤ W'.heap.size
  oth : ∀ k, k < W.heap.size → k ≠ eb → W'.heap[k]? = W.heap[k]?
section
variable {W W' : World} {B rb mb eb : Nat} {vs vp : Value} {K : List Mg} {S : List Sg} {L : List Pr}
theorem Rw.nrow {cs : Array Value} {fr : Nat × Nat} (h : Rw W B rb mb vs vp K S L) (he : W.heap[eb]? = some (.cells cs 150 fr)) : rb ≠ eb ∧ mb ≠ eb ∧ some eb ≠ vs.ownBlock ∧ some eb ≠ vp.ownBlock := by
  refine ⟨fun e => ?_, fun e => ?_, ow.type h.sg he (by decide), ow.type h.prs he (by decide)⟩
  · subst e; rw [h.box] at he; cases he
  · subst e; obtain ⟨es, c, e⟩ := h.map.obj; rw [e] at he; cases he
theorem Rw.keepE {cs : Array Value} {fr : Nat × Nat} (h : Rw W B rb mb vs vp K S L) (he : W.heap[eb]? = some (.cells cs 150 fr)) (c : ECh eb W W') : Rw W' B rb mb vs vp K S L := by
  obtain ⟨n1, n2, n3, n4⟩ := h.nrow he
  exact ⟨(c.oth rb h.lt n1).trans h.box, own_keep h.sg fun g eg => c.oth g (h.sg.lt g eg).2 (fun e => n3 (by rw [← e, eg])), own_keep h.prs fun g eg => c.oth g (h.prs.lt g eg).2 (fun e => n4 (by rw [← e, eg])), h.map.keep (c.oth mb h.map.lt n2), h.bb⟩
end
theorem set_e {W : World} {eb : Nat} {a b c d : Value} (h : W.heap[eb]? = some (.cells #[a, b, c, d] 150 (0, 0))) (v : Value) : (W.setCell ⟨eb, 1, none⟩ v).heap[eb]? = some (.cells #[a, v, c, d] 150 (0, 0)) ∧ (W.setCell ⟨eb, 3, none⟩ v).heap[eb]? = some (.cells #[a, b, c, v] 150 (0, 0)) := by
  have h1 := heap_setCell_same W eb 1 _ 150 v h
  have h2 := heap_setCell_same W eb 3 _ 150 v h
  exact ⟨by simpa using h1, by simpa using h2⟩
theorem ech_set (W : World) (eb j : Nat) (v : Value) : ECh eb W (W.setCell ⟨eb, j, none⟩ v) := ⟨rfl, rfl, rfl, by rw [World.size_setCell]; exact Nat.le_refl _, fun k _ hk => Below.heap_setCell _ _ _ _ hk⟩
theorem ECh.trans {eb : Nat} {W W1 W2 : World} (h : ECh eb W W1) (k : ECh eb W1 W2) : ECh eb W W2 := ⟨k.os.trans h.os, k.tape.trans h.tape, k.output.trans h.output, Nat.le_trans h.size k.size, fun x hx hne => (k.oth x (Nat.lt_of_lt_of_le hx h.size) hne).trans (h.oth x hx hne)⟩
theorem ECh.of_below {eb : Nat} {W W' : World} (h : Below W.heap.size W W') : ECh eb W W' := ⟨h.os, h.tape, h.output, h.size, fun k hk _ => h.block k hk⟩
def LendOut (B eb mb : Nat) (K : List Mg) (W : World) (e : Ending) (W' : World) : Prop :=
  ∃ rb vs vp S, e = .returned (.pointer (some ⟨rb, 0, none⟩)) ∧ Rw W' B rb mb vs vp K S [] ∧ W'.heap[eb]? = some (.cells (ecells mb (.pointer none)) 150 (0, 0)) ∧ ECh eb W W'
set_option maxHeartbeats 2000000 in
theorem lend_new {W : World} {B eb mb : Nat} {K : List Mg} (he : W.heap[eb]? = some (.cells (ecells mb (.pointer none)) 150 (0, 0))) (hm : RMap W mb K) (hB : B ≤ W.heap.size) : Calls Try.prog 90 #[.pointer (some ⟨eb, 0, none⟩)] W (LendOut B eb mb K W) := by
  have hel := (Array.getElem?_eq_some_iff.1 he).1
  have c1 : W.cell? ⟨eb, 0 + 1, none⟩ = some (.int .i32 0) := by rw [Lib.cell_of_heap he]; rfl
  have f1 : W.frozen? ⟨eb, 0 + 1, none⟩ = false := Lib.frozen_of_heap he 1
  have e1 := (set_e he (.int .i32 1)).1
  have a0 : (W.setCell ⟨eb, 1, none⟩ (.int .i32 1)).cell? ⟨eb, 0, none⟩ = some (.map (some mb)) := by rw [Lib.cell_of_heap e1]; rfl
  have a3 : (W.setCell ⟨eb, 1, none⟩ (.int .i32 1)).cell? ⟨eb, 3, none⟩ = some (.pointer none) := by rw [Lib.cell_of_heap e1]; rfl
  have ba := below_alloc (W.setCell ⟨eb, 1, none⟩ (.int .i32 1)) (.cells #[.map (some mb), .slice none 0 0, .slice none 0 0] 160)
  have hel1 : eb < (W.setCell ⟨eb, 1, none⟩ (.int .i32 1)).heap.size := by rw [World.size_setCell]; exact hel
  have e2 := (ba.block eb hel1).trans e1
  have e3 := (set_e e2 (.int .i32 0)).1
  have k1 : ((W.setCell ⟨eb, 1, none⟩ (.int .i32 1)).alloc (.cells #[.map (some mb), .slice none 0 0, .slice none 0 0] 160)).cell? ⟨eb, 1, none⟩ = some (.int .i32 1) := by rw [Lib.cell_of_heap e2]; rfl
  have k2 : ((W.setCell ⟨eb, 1, none⟩ (.int .i32 1)).alloc (.cells #[.map (some mb), .slice none 0 0, .slice none 0 0] 160)).frozen? ⟨eb, 1, none⟩ = false := Lib.frozen_of_heap e2 1
  have ec : ECh eb W (((W.setCell ⟨eb, 1, none⟩ (.int .i32 1)).alloc (.cells #[.map (some mb), .slice none 0 0, .slice none 0 0] 160)).setCell ⟨eb, 1, none⟩ (.int .i32 0)) := ((ech_set W eb 1 _).trans (ECh.of_below ba)).trans (ech_set _ eb 1 _)
  have hmb : mb ≠ eb := fun e => by subst e; obtain ⟨es, c, e⟩ := hm.obj; rw [e] at he; cases he
  have hrow : Rw (((W.setCell ⟨eb, 1, none⟩ (.int .i32 1)).alloc (.cells #[.map (some mb), .slice none 0 0, .slice none 0 0] 160)).setCell ⟨eb, 1, none⟩ (.int .i32 0)) B W.heap.size mb (.slice none 0 0) (.slice none 0 0) K [] [] := by
    refine ⟨?_, ow.nil _ _ _ _, ow.nil _ _ _ _, hm.keep (ec.oth mb hm.lt hmb), hB⟩
    rw [Below.heap_setCell _ _ _ _ (by show _ ≠ eb; omega)]
    have := World.alloc_heap_new (W.setCell ⟨eb, 1, none⟩ (.int .i32 1)) (.cells #[.map (some mb), .slice none 0 0, .slice none 0 0] 160)
    rw [World.size_setCell] at this
    exact this
  have HF := (show Hid (LendOut B eb mb K W (.returned (.pointer (some ⟨W.heap.size, 0, none⟩))) (((W.setCell ⟨eb, 1, none⟩ (.int .i32 1)).alloc (.cells #[.map (some mb), .slice none 0 0, .slice none 0 0] 160)).setCell ⟨eb, 1, none⟩ (.int .i32 0))) from ⟨_, _, _, _, rfl, hrow, e3, ec⟩)
  clear he hm e1 e2 e3 ec hrow ba
  go_enter_defers Try.func90, Try.ntmps90
  go_wp2_with (go_at_call 96; refine (lock_free muLib ⟨eb, 0 + 1, none⟩ _ c1 f1).mono ?_; rintro e w' ⟨rfl, rfl⟩)
  refine leaves_cons (f := 97) (args := #[.pointer (some ⟨eb, 1, none⟩)]) (by simp) (by simp [go_sem]) ?_
  refine (unlock_deferred muLib ⟨eb, 1, none⟩ .returning _ k1 k2).mono ?_
  rintro e u' w'' ⟨rfl, rfl, rfl⟩
  refine ⟨_, results_tmp rfl _ _ _, ?_⟩
  exact HF.out
set_option maxHeartbeats 2000000 in
theorem lend_old {W : World} {B eb mb rb : Nat} {vs vp : Value} {K : List Mg} {S : List Sg} (he : W.heap[eb]? = some (.cells (ecells mb (.pointer (some ⟨rb, 0, none⟩))) 150 (0, 0))) (hr : Rw W B rb mb vs vp K S []) : Calls Try.prog 90 #[.pointer (some ⟨eb, 0, none⟩)] W (LendOut B eb mb K W) := by
  have c1 : W.cell? ⟨eb, 0 + 1, none⟩ = some (.int .i32 0) := by rw [Lib.cell_of_heap he]; rfl
  have f1 : W.frozen? ⟨eb, 0 + 1, none⟩ = false := Lib.frozen_of_heap he 1
  have e1 := (set_e he (.int .i32 1)).1
  have a0 : (W.setCell ⟨eb, 1, none⟩ (.int .i32 1)).cell? ⟨eb, 0, none⟩ = some (.map (some mb)) := by rw [Lib.cell_of_heap e1]; rfl
  have a3 : (W.setCell ⟨eb, 1, none⟩ (.int .i32 1)).cell? ⟨eb, 3, none⟩ = some (.pointer (some ⟨rb, 0, none⟩)) := by rw [Lib.cell_of_heap e1]; rfl
  have a4 : (W.setCell ⟨eb, 1, none⟩ (.int .i32 1)).frozen? ⟨eb, 3, none⟩ = false := Lib.frozen_of_heap e1 3
  have e2 := (set_e e1 (.pointer none)).2
  have e3 := (set_e e2 (.int .i32 0)).1
  have k1 : ((W.setCell ⟨eb, 1, none⟩ (.int .i32 1)).setCell ⟨eb, 3, none⟩ (.pointer none)).cell? ⟨eb, 1, none⟩ = some (.int .i32 1) := by rw [Lib.cell_of_heap e2]; rfl
  have k2 : ((W.setCell ⟨eb, 1, none⟩ (.int .i32 1)).setCell ⟨eb, 3, none⟩ (.pointer none)).frozen? ⟨eb, 1, none⟩ = false := Lib.frozen_of_heap e2 1
  have ec : ECh eb W (((W.setCell ⟨eb, 1, none⟩ (.int .i32 1)).setCell ⟨eb, 3, none⟩ (.pointer none)).setCell ⟨eb, 1, none⟩ (.int .i32 0)) := ((ech_set W eb 1 _).trans (ech_set _ eb 3 _)).trans (ech_set _ eb 1 _)
  have HF := (show Hid (LendOut B eb mb K W (.returned (.pointer (some ⟨rb, 0, none⟩))) (((W.setCell ⟨eb, 1, none⟩ (.int .i32 1)).setCell ⟨eb, 3, none⟩ (.pointer none)).setCell ⟨eb, 1, none⟩ (.int .i32 0))) from ⟨_, _, _, _, rfl, hr.keepE he ec, e3, ec⟩)
  clear he hr e1 e2 e3 ec
  go_enter_defers Try.func90, Try.ntmps90
  go_wp2_with (go_at_call 96; refine (lock_free muLib ⟨eb, 0 + 1, none⟩ _ c1 f1).mono ?_; rintro e w' ⟨rfl, rfl⟩)
  refine leaves_cons (f := 97) (args := #[.pointer (some ⟨eb, 1, none⟩)]) (by simp) (by simp [go_sem]) ?_
  refine (unlock_deferred muLib ⟨eb, 1, none⟩ .returning _ k1 k2).mono ?_
  rintro e u' w'' ⟨rfl, rfl, rfl⟩
  refine ⟨_, results_tmp rfl _ _ _, ?_⟩
  exact HF.out
set_option maxHeartbeats 2000000 in
theorem back_any {W : World} {eb mb rb : Nat} {sp : Value} (u : FrameMode) (he : W.heap[eb]? = some (.cells (ecells mb sp) 150 (0, 0))) : CallsD Try.prog 91 #[.pointer (some ⟨eb, 0, none⟩), .pointer (some ⟨rb, 0, none⟩)] u W fun e u' W' => u' = u ∧ (e = .returned (.tuple #[]) ∧ W'.heap[eb]? = some (.cells (ecells mb (.pointer (some ⟨rb, 0, none⟩))) 150 (0, 0)) ∧ ECh eb W W') := by
  have c1 : W.cell? ⟨eb, 0 + 1, none⟩ = some (.int .i32 0) := by rw [Lib.cell_of_heap he]; rfl
  have f1 : W.frozen? ⟨eb, 0 + 1, none⟩ = false := Lib.frozen_of_heap he 1
  have e1 := (set_e he (.int .i32 1)).1
  have a3 : (W.setCell ⟨eb, 1, none⟩ (.int .i32 1)).cell? ⟨eb, 3, none⟩ = some sp := by rw [Lib.cell_of_heap e1]; rfl
  have a4 : (W.setCell ⟨eb, 1, none⟩ (.int .i32 1)).frozen? ⟨eb, 3, none⟩ = false := Lib.frozen_of_heap e1 3
  have e2 := (set_e e1 (.pointer (some ⟨rb, 0, none⟩))).2
  have e3 := (set_e e2 (.int .i32 0)).1
  have k1 : ((W.setCell ⟨eb, 1, none⟩ (.int .i32 1)).setCell ⟨eb, 3, none⟩ (.pointer (some ⟨rb, 0, none⟩))).cell? ⟨eb, 1, none⟩ = some (.int .i32 1) := by rw [Lib.cell_of_heap e2]; rfl
  have k2 : ((W.setCell ⟨eb, 1, none⟩ (.int .i32 1)).setCell ⟨eb, 3, none⟩ (.pointer (some ⟨rb, 0, none⟩))).frozen? ⟨eb, 1, none⟩ = false := Lib.frozen_of_heap e2 1
  have ec : ECh eb W (((W.setCell ⟨eb, 1, none⟩ (.int .i32 1)).setCell ⟨eb, 3, none⟩ (.pointer (some ⟨rb, 0, none⟩))).setCell ⟨eb, 1, none⟩ (.int .i32 0)) := ((ech_set W eb 1 _).trans (ech_set _ eb 3 _)).trans (ech_set _ eb 1 _)
  have HE := (show Hid _ from e3)
  have HC := (show Hid _ from ec)
  clear he e1 e2 e3 ec
  refine callsD_of_wp_defers Try.func91 rfl ?_
  simp only [Try.ntmps91, List.size_toArray, List.length_cons, List.length_nil, Nat.reduceAdd, Nat.reduceSub, Array.replicate_succ, Array.replicate_zero, List.push_toArray, List.append_toArray, List.nil_append, List.cons_append]
  go_wp2_with (go_at_call 96; refine (lock_free muLib ⟨eb, 0 + 1, none⟩ _ c1 f1).mono ?_; rintro e w' ⟨rfl, rfl⟩)
  refine leaves_cons (f := 97) (args := #[.pointer (some ⟨eb, 1, none⟩)]) (by simp) (by simp [go_sem]) ?_
  refine (unlock_deferred muLib ⟨eb, 1, none⟩ .returning _ k1 k2).mono ?_
  rintro e u' w'' ⟨rfl, rfl, rfl⟩
  exact ⟨_, results_none rfl _ _ _, rfl, HE.out, HC.out⟩
end Go.Proofs.Ytmmlibehihknbaa.en

namespace Go.Proofs.Ytmmlibehihknbaa.en
open Go.ChangeShapes Go.WideShapes Go.ChangeAt Go.RowKit Go.MuLone
open mg (Mg iv below_alloc chain app idsOf idsOf_len IntsV RowV)
open pp (Pr plt)
open hp (RMap Heap own_keep ecells muLib)
set_option linter.unusedVariables false
set_option maxRecDepth 100000

/-- below B nothing changes but one block -/
structure EB (B eb : Nat) (W W' : World) : Prop where
  os : W'.os = W.os
  tape : W'.tape = W.tape
  output : W'.output = W.output
  size : W.heap.size ≤ W'.heap.size
  oth : ∀ k, k < B → k ≠ eb → W'.heap[k]? = W.heap[k]?
theorem EB.trans {B eb : Nat} {W W1 W2 : World} (h : EB B eb W W1) (k : EB B eb W1 W2) : EB B eb W W2 := ⟨k.os.trans h.os, k.tape.trans h.tape, k.output.trans h.output, Nat.le_trans h.size k.size, fun x hx hne => (k.oth x hx hne).trans (h.oth x hx hne)⟩
theorem EB.below {B B' eb : Nat} {W W' : World} (h : EB B eb W W') (h1 : B' ≤ B) (h2 : B' ≤ eb) : Below B' W W' := ⟨h.os, h.tape, h.output, h.size, fun k hk => h.oth k (by omega) (by omega)⟩
theorem EB.of_below {B eb : Nat} {W W' : World} (h : Below B W W') : EB B eb W W' := ⟨h.os, h.tape, h.output, h.size, fun k hk _ => h.block k hk⟩
/-- an engine, between two calls -/
def Eng (W : World) (B eb mb : Nat) (K : List Mg) : Prop := ∃ sp, W.heap[eb]? = some (.cells (ecells mb sp) 150 (0, 0)) ∧ RMap W mb K ∧ (sp = .pointer none ∨ ∃ rb vs vp S, sp = .pointer (some ⟨rb, 0, none⟩) ∧ Rw W B rb mb vs vp K S [])
theorem Eng.later {W W' : World} {B eb mb : Nat} {K : List Mg} (h : Eng W B eb mb K) (b : Below W.heap.size W W') : Eng W' B eb mb K := by
  obtain ⟨sp, h1, h2, h4⟩ := h
  refine ⟨sp, (b.block eb (Array.getElem?_eq_some_iff.1 h1).1).trans h1, h2.keep (b.block mb h2.lt), ?_⟩
  rcases h4 with h4 | ⟨rb, vs, vp, S, e, r⟩
  · exact .inl h4
  · exact .inr ⟨rb, vs, vp, S, e, r.later b⟩
theorem lend_any {W : World} {B eb mb : Nat} {K : List Mg} (h : Eng W B eb mb K) (hB : B ≤ W.heap.size) : Calls Try.prog 90 #[.pointer (some ⟨eb, 0, none⟩)] W (LendOut B eb mb K W) := by
  obtain ⟨sp, h1, h2, h4⟩ := h
  rcases h4 with rfl | ⟨rb, vs, vp, S, rfl, r⟩
  · exact lend_new h1 h2 hB
  · exact lend_old h1 r
def TokOut (B eb mb : Nat) (K : List Mg) (s : ByteArray) (W : World) (e : Ending) (W' : World) : Prop :=
  ∃ v, e = .returned (.tuple #[v, .int .i64 0]) ∧ W'.ownsRow B 3 1 v (app K (idsOf s)).length ((app K (idsOf s)).map iv) ∧ Eng W' B eb mb K ∧ EB B eb W W' ∧ (∀ (k : Nat) (cs : Array Value) (fr : Nat × Nat), W.heap[k]? = some (Obj.cells cs 3 fr) → W'.heap[k]? = some (Obj.cells cs 3 fr))
theorem own_base {W : World} {B B' e sz n : Nat} {v : Value} {xs : List Value} (h : W.ownsRow B e sz v n xs) (hb : B' ≤ B) : W.ownsRow B' e sz v n xs := by
  refine ⟨h.1, ?_⟩
  rcases h.2 with h0 | ⟨g, cap, cur, rfl, h1, hr⟩
  · exact .inl h0
  · exact .inr ⟨g, cap, cur, rfl, Nat.le_trans hb h1, hr⟩
set_option maxHeartbeats 4000000 in
theorem tokens_any {W : World} {B eb mb : Nat} {K : List Mg} (h : Eng W B eb mb K) (hB : B ≤ W.heap.size) (hK : K.length ≤ 1024) (s : ByteArray) (hs : s.size ≤ 262144) :
    Calls Try.prog 86 #[.pointer (some ⟨eb, 0, none⟩), .string s] W (TokOut B eb mb K s W) := by
  have c24 := lend_any h hB
  obtain ⟨sp0, hb0, -, -⟩ := h
  have hel := (Array.getElem?_eq_some_iff.1 hb0).1
  have HB0 := (show Hid (W.heap[eb]? = some (.cells (ecells mb sp0) 150 (0, 0))) from hb0)
  clear hb0
  go_enter_defers Try.func86, Try.ntmps86
  go_wp2_with (fail)
  go_at_call 90
  refine c24.mono ?_
  rintro e w1 ⟨rb, vs, vp, S, rfl, R1, e1, ec1⟩
  have c26 := fill_any R1 (Nat.le_trans hB ec1.size) hK s (by omega)
  have E1 := (show Hid (w1.heap[eb]? = some (.cells (ecells mb (.pointer none)) 150 (0, 0))) from e1)
  have EC1 := (show Hid (ECh eb W w1) from ec1)
  clear c24 R1 e1 ec1
  go_wp2_with (fail)
  go_at_call 92
  refine c26.mono ?_
  rintro e w2 ⟨vs2, vp2, S2, L2, rfl, R2, I2, P2, l2, n2, ch2⟩
  have c27 := merge_any R2 (Nat.le_trans hB (Nat.le_trans EC1.out.size ch2.size)) P2 (by omega) hK I2 (allSm s) (by rw [List.length_range]; omega)
  have CH2 := (show Hid (Ch B w1 w2) from ch2)
  have N2 := (show Hid (S2.length = s.size) from n2)
  clear c26 R2 I2 P2 l2 n2 ch2
  go_wp2_with (fail)
  go_at_call 93
  refine c27.mono ?_
  rintro e w3 ⟨vp3, S3, ps3, rfl, R3, I3, n3, ch3⟩
  have hlen3 := I3.lk.len
  have hpl3 : ps3.length ≤ S3.length := by
    have := mg.app_len K (idsOf s)
    rw [idsOf_len] at this
    have := N2.out
    omega
  have c28 := ids_any R3 (by have := N2.out; omega) I3.lk I3.first (fun h0 => by
    have := app_pos K (idsOf s) (by rw [idsOf_len]; have := N2.out; omega)
    omega) hpl3
  have CH3 := (show Hid (Ch B w2 w3) from ch3)
  have R3' := (show Hid _ from R3)
  clear c27 R3 I3 n3 ch3 hlen3 hpl3
  go_wp2_with (fail)
  go_at_call 94
  refine c28.mono ?_
  rintro e w4 ⟨v4, rfl, o4, b4⟩
  have E4 : w4.heap[eb]? = some (.cells (ecells mb (.pointer none)) 150 (0, 0)) := by
    have q1 := (CH2.out.trans CH3.out).oth eb _ E1.out (fun _ _ e => by cases e) (fun _ _ e => by cases e) (fun _ _ e => by cases e)
    exact (b4.block eb (Array.getElem?_eq_some_iff.1 q1).1).trans q1
  have R4 := R3'.out.later b4
  have HF := (show Hid (∀ W', W'.heap[eb]? = some (.cells (ecells mb (.pointer (some ⟨rb, 0, none⟩))) 150 (0, 0)) → ECh eb w4 W' → TokOut B eb mb K s W (.returned (.tuple #[v4, .int .i64 0])) W') from by
    intro W' h1 h2
    have hw3 : B ≤ w3.heap.size := Nat.le_trans hB (Nat.le_trans EC1.out.size (Nat.le_trans CH2.out.size CH3.out.size))
    have heb3 : eb < w3.heap.size := Nat.lt_of_lt_of_le hel (Nat.le_trans EC1.out.size (Nat.le_trans CH2.out.size CH3.out.size))
    have chw := CH2.out.trans CH3.out
    refine ⟨v4, rfl, own_base (own_keep o4 fun g eg => h2.oth g (o4.lt g eg).2 (fun e => by have := (o4.lt g eg).1; omega)) hw3, ⟨_, h1, (R4.keepE E4 h2).map, .inr ⟨rb, vs2, vp3, S3, rfl, R4.keepE E4 h2⟩⟩, ?_, fun k cs fr hk => ?_⟩
    · have b1 : EB B eb W w1 := ⟨EC1.out.os, EC1.out.tape, EC1.out.output, EC1.out.size, fun k hk hne => EC1.out.oth k (by omega) hne⟩
      have b5 : EB B eb w4 W' := ⟨h2.os, h2.tape, h2.output, h2.size, fun k hk hne => h2.oth k (Nat.lt_of_lt_of_le (Nat.lt_of_lt_of_le hk hw3) b4.size) hne⟩
      exact (b1.trans (EB.of_below (chw.below.trans (b4.mono hw3)))).trans b5
    · have hkl := (Array.getElem?_eq_some_iff.1 hk).1
      have hke : k ≠ eb := fun e => by subst e; rw [HB0.out] at hk; cases hk
      have k1 := (EC1.out.oth k hkl hke).trans hk
      have k2 := chw.oth k _ k1 (fun _ _ e => by cases e) (fun _ _ e => by cases e) (fun _ _ e => by cases e)
      have k4 := (b4.block k (Array.getElem?_eq_some_iff.1 k2).1).trans k2
      exact (h2.oth k (Array.getElem?_eq_some_iff.1 k4).1 hke).trans k4)
  have HE4 := (show Hid _ from E4)
  clear c28 o4 b4 R3' R4 E4
  go_wp2_with (fail)
  refine leaves_cons (f := 91) (args := #[.pointer (some ⟨eb, 0, none⟩), .pointer (some ⟨rb, 0, none⟩)]) (by simp) (by simp [go_sem]) ?_
  refine (back_any (rb := rb) .returning HE4.out).mono ?_
  rintro e u' w5 ⟨rfl, rfl, h1, h2⟩
  refine ⟨_, results_tmp2 rfl _ _ _, ?_⟩
  exact HF.out w5 h1 h2
end Go.Proofs.Ytmmlibehihknbaa.en

namespace Go.Proofs.Ytmmlibehihknbaa.en
open Go.ChangeShapes Go.WideShapes Go.ChangeAt Go.RowKit
open mg (Mg iv below_alloc chain app idsOf idsOf_len IntsV RowV Row In)
open hp (RMap ecells newE NewOut keptL kept_nil)
set_option linter.unusedVariables false
set_option maxRecDepth 100000

theorem below_iter (w : World) (s : ByteArray) (p : Nat) : Below w.heap.size w (w.iter s p) := (Below.refl _ _).alloc (Nat.le_refl _) _
theorem count_a (s : ByteArray) (hd : Utf8.decode s 0 = (97, 1)) (h0 : 0 < s.size) (hz : s.size ≤ 1) (w : World) :
    Calls Try.prog 30 #[.string s] w fun e w' => e = .returned (.int .i64 1) ∧ Below w.heap.size w w' := by
  have HD : Hid (Utf8.decode s 0 = (97, 1)) := hd
  clear hd
  go_enter Try.func30, Try.ntmps30
  go_wp2
  go_loopw [3] (fun v wr => ∃ pos, wr = w.iter s pos ∧ ((pos = 0 ∧ v = .int .i64 0) ∨ (¬ pos < s.size ∧ v = .int .i64 1))) (fun _ wr => s.size - wr.iterPos w.heap.size)
  case atStart => exact ⟨0, rfl, .inl ⟨rfl, rfl⟩⟩
  case round =>
    obtain ⟨pos, rfl, ⟨rfl, rfl⟩ | ⟨hpos, rfl⟩⟩ := hrel
    · have hnx := fun ty => run_next_any (P := Try.prog) w s 0 ty h0
      rw [HD.out] at hnx
      go_wp2
      go_roundw
      case rel => exact ⟨1, by simp, .inr ⟨by omega, rfl⟩⟩
      case measure => simp; omega
    · have hnx := fun ty => run_next_end (P := Try.prog) w s pos ty hpos
      go_wp2
      go_ret
      exact ⟨rfl, below_iter _ _ _⟩
theorem alive_any (w : World) : Calls Try.prog 14 #[] w fun e w' => e = .returned (.bool true) ∧ Below w.heap.size w w' := by
  have h22 := count_a ⟨#[97]⟩ (by decide) (by decide) (by decide)
  go_enter Try.func14, Try.ntmps14
  go_wp2_with fail
  refine (h22 _).mono ?_
  rintro e w1 ⟨rfl, b1⟩
  go_wp2
  go_ret
  exact ⟨rfl, b1⟩
def cutN (s : ByteArray) (n : Nat) : ByteArray := if s.size ≤ n then s else s.extract 0 n
theorem cutN_size (s : ByteArray) (n : Nat) : (cutN s n).size ≤ n := by
  unfold cutN
  split
  · assumption
  · simp; omega
theorem short_any (s : ByteArray) (n : Nat) (hs : s.size ≤ 9223372036854775807) (hn : n ≤ 100000) (w : World) : Calls Try.prog 8 #[.string s, .int .i64 (n : Int)] w fun e w' => e = .returned (.string (cutN s n)) ∧ w' = w := by
  unfold cutN
  by_cases h : s.size ≤ n
  · rw [if_pos h]
    go_enter Try.func8, Try.ntmps8
    go_wp2
    go_ret
    exact ⟨rfl, rfl⟩
  · rw [if_neg h]
    have hn2 : n < s.size := by omega
    clear h
    go_enter Try.func8, Try.ntmps8
    go_wp2
    go_ret
    exact ⟨rfl, rfl⟩
theorem short2_any (s : ByteArray) (n : Nat) (hs : s.size ≤ 9223372036854775807) (hn : n ≤ 100000) (w : World) : Calls Try.prog 15 #[.string s, .int .i64 (n : Int)] w fun e w' => e = .returned (.string (cutN s n)) ∧ w' = w := by
  unfold cutN
  by_cases h : s.size ≤ n
  · rw [if_pos h]
    go_enter Try.func15, Try.ntmps15
    go_wp2
    go_ret
    exact ⟨rfl, rfl⟩
  · rw [if_neg h]
    have hn2 : n < s.size := by omega
    clear h
    go_enter Try.func15, Try.ntmps15
    go_wp2
    go_ret
    exact ⟨rfl, rfl⟩
end Go.Proofs.Ytmmlibehihknbaa.en
