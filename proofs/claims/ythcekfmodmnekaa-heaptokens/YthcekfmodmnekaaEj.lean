/-
  Contracts over this program: a row is lent and taken back (Engine.lend, Engine.takeBack).
-/
import Derived.Test.YthcekfmodmnekaaEi
namespace Go.Proofs.Ythcekfmodmnekaa.en
open Go.ChangeShapes Go.WideShapes Go.ChangeAt Go.RowKit Go.MuLone
open mg (Mg iv below_alloc chain app idsOf)
open pp (Pr plt)
open hp (RMap Heap own_keep ecells muLib)
set_option linter.unusedVariables false
set_option maxRecDepth 100000

/-- only one block changes, and new ones -/
structure ECh (eb : Nat) (W W' : World) : Prop where
  os : W'.os = W.os
  tape : W'.tape = W.tape
  output : W'.output = W.output
  size : W.heap.size ≤ W'.heap.size
  oth : ∀ k, k < W.heap.size → k ≠ eb → W'.heap[k]? = W.heap[k]?
section
variable {W W' : World} {B rb mb eb : Nat} {vs vp : Value} {K : List Mg} {S : List Sg} {L : List Pr}
theorem Rw.nrow {cs : Array Value} {fr : Nat × Nat} (h : Rw W B rb mb vs vp K S L) (he : W.heap[eb]? = some (.cells cs 60 fr)) : rb ≠ eb ∧ mb ≠ eb ∧ some eb ≠ vs.ownBlock ∧ some eb ≠ vp.ownBlock := by
  refine ⟨fun e => ?_, fun e => ?_, ow.type h.sg he (by decide), ow.type h.prs he (by decide)⟩
  · subst e; rw [h.box] at he; cases he
  · subst e; obtain ⟨es, c, e⟩ := h.map.obj; rw [e] at he; cases he
theorem Rw.keepE {cs : Array Value} {fr : Nat × Nat} (h : Rw W B rb mb vs vp K S L) (he : W.heap[eb]? = some (.cells cs 60 fr)) (c : ECh eb W W') : Rw W' B rb mb vs vp K S L := by
  obtain ⟨n1, n2, n3, n4⟩ := h.nrow he
  exact ⟨(c.oth rb h.lt n1).trans h.box, own_keep h.sg fun g eg => c.oth g (h.sg.lt g eg).2 (fun e => n3 (by rw [← e, eg])), own_keep h.prs fun g eg => c.oth g (h.prs.lt g eg).2 (fun e => n4 (by rw [← e, eg])), h.map.keep (c.oth mb h.map.lt n2), h.bb⟩
end
theorem set_e {W : World} {eb : Nat} {a b c d : Value} (h : W.heap[eb]? = some (.cells #[a, b, c, d] 60 (0, 0))) (v : Value) : (W.setCell ⟨eb, 1, none⟩ v).heap[eb]? = some (.cells #[a, v, c, d] 60 (0, 0)) ∧ (W.setCell ⟨eb, 3, none⟩ v).heap[eb]? = some (.cells #[a, b, c, v] 60 (0, 0)) := by
  have h1 := heap_setCell_same W eb 1 _ 60 v h
  have h2 := heap_setCell_same W eb 3 _ 60 v h
  exact ⟨by simpa using h1, by simpa using h2⟩
theorem ech_set (W : World) (eb j : Nat) (v : Value) : ECh eb W (W.setCell ⟨eb, j, none⟩ v) := ⟨rfl, rfl, rfl, by rw [World.size_setCell]; exact Nat.le_refl _, fun k _ hk => Below.heap_setCell _ _ _ _ hk⟩
theorem ECh.trans {eb : Nat} {W W1 W2 : World} (h : ECh eb W W1) (k : ECh eb W1 W2) : ECh eb W W2 := ⟨k.os.trans h.os, k.tape.trans h.tape, k.output.trans h.output, Nat.le_trans h.size k.size, fun x hx hne => (k.oth x (Nat.lt_of_lt_of_le hx h.size) hne).trans (h.oth x hx hne)⟩
theorem ECh.of_below {eb : Nat} {W W' : World} (h : Below W.heap.size W W') : ECh eb W W' := ⟨h.os, h.tape, h.output, h.size, fun k hk _ => h.block k hk⟩
def LendOut (B eb mb : Nat) (K : List Mg) (W : World) (e : Ending) (W' : World) : Prop :=
  ∃ rb vs vp S, e = .returned (.pointer (some ⟨rb, 0, none⟩)) ∧ Rw W' B rb mb vs vp K S [] ∧ W'.heap[eb]? = some (.cells (ecells mb (.pointer none)) 60 (0, 0)) ∧ ECh eb W W'
set_option maxHeartbeats 2000000 in
theorem lend_new {W : World} {B eb mb : Nat} {K : List Mg} (he : W.heap[eb]? = some (.cells (ecells mb (.pointer none)) 60 (0, 0))) (hm : RMap W mb K) (hB : B ≤ W.heap.size) : Calls Try.prog 24 #[.pointer (some ⟨eb, 0, none⟩)] W (LendOut B eb mb K W) := by
  have hel := (Array.getElem?_eq_some_iff.1 he).1
  have c1 : W.cell? ⟨eb, 0 + 1, none⟩ = some (.int .i32 0) := by rw [Lib.cell_of_heap he]; rfl
  have f1 : W.frozen? ⟨eb, 0 + 1, none⟩ = false := Lib.frozen_of_heap he 1
  have e1 := (set_e he (.int .i32 1)).1
  have a0 : (W.setCell ⟨eb, 1, none⟩ (.int .i32 1)).cell? ⟨eb, 0, none⟩ = some (.map (some mb)) := by rw [Lib.cell_of_heap e1]; rfl
  have a3 : (W.setCell ⟨eb, 1, none⟩ (.int .i32 1)).cell? ⟨eb, 3, none⟩ = some (.pointer none) := by rw [Lib.cell_of_heap e1]; rfl
  have ba := below_alloc (W.setCell ⟨eb, 1, none⟩ (.int .i32 1)) (.cells #[.map (some mb), .slice none 0 0, .slice none 0 0] 82)
  have hel1 : eb < (W.setCell ⟨eb, 1, none⟩ (.int .i32 1)).heap.size := by rw [World.size_setCell]; exact hel
  have e2 := (ba.block eb hel1).trans e1
  have e3 := (set_e e2 (.int .i32 0)).1
  have k1 : ((W.setCell ⟨eb, 1, none⟩ (.int .i32 1)).alloc (.cells #[.map (some mb), .slice none 0 0, .slice none 0 0] 82)).cell? ⟨eb, 1, none⟩ = some (.int .i32 1) := by rw [Lib.cell_of_heap e2]; rfl
  have k2 : ((W.setCell ⟨eb, 1, none⟩ (.int .i32 1)).alloc (.cells #[.map (some mb), .slice none 0 0, .slice none 0 0] 82)).frozen? ⟨eb, 1, none⟩ = false := Lib.frozen_of_heap e2 1
  have ec : ECh eb W (((W.setCell ⟨eb, 1, none⟩ (.int .i32 1)).alloc (.cells #[.map (some mb), .slice none 0 0, .slice none 0 0] 82)).setCell ⟨eb, 1, none⟩ (.int .i32 0)) := ((ech_set W eb 1 _).trans (ECh.of_below ba)).trans (ech_set _ eb 1 _)
  have hmb : mb ≠ eb := fun e => by subst e; obtain ⟨es, c, e⟩ := hm.obj; rw [e] at he; cases he
  have hrow : Rw (((W.setCell ⟨eb, 1, none⟩ (.int .i32 1)).alloc (.cells #[.map (some mb), .slice none 0 0, .slice none 0 0] 82)).setCell ⟨eb, 1, none⟩ (.int .i32 0)) B W.heap.size mb (.slice none 0 0) (.slice none 0 0) K [] [] := by
    refine ⟨?_, ow.nil _ _ _ _, ow.nil _ _ _ _, hm.keep (ec.oth mb hm.lt hmb), hB⟩
    rw [Below.heap_setCell _ _ _ _ (by show _ ≠ eb; omega)]
    have := World.alloc_heap_new (W.setCell ⟨eb, 1, none⟩ (.int .i32 1)) (.cells #[.map (some mb), .slice none 0 0, .slice none 0 0] 82)
    rw [World.size_setCell] at this
    exact this
  have HF := (show Hid (LendOut B eb mb K W (.returned (.pointer (some ⟨W.heap.size, 0, none⟩))) (((W.setCell ⟨eb, 1, none⟩ (.int .i32 1)).alloc (.cells #[.map (some mb), .slice none 0 0, .slice none 0 0] 82)).setCell ⟨eb, 1, none⟩ (.int .i32 0))) from ⟨_, _, _, _, rfl, hrow, e3, ec⟩)
  clear he hm e1 e2 e3 ec hrow ba
  go_enter_defers Try.func24, Try.ntmps24
  go_wp2_with (go_at_call 36; refine (lock_free muLib ⟨eb, 0 + 1, none⟩ _ c1 f1).mono ?_; rintro e w' ⟨rfl, rfl⟩)
  refine leaves_cons (f := 37) (args := #[.pointer (some ⟨eb, 1, none⟩)]) (by simp) (by simp [go_sem]) ?_
  refine (unlock_deferred muLib ⟨eb, 1, none⟩ .returning _ k1 k2).mono ?_
  rintro e u' w'' ⟨rfl, rfl, rfl⟩
  refine ⟨_, results_tmp rfl _ _ _, ?_⟩
  exact HF.out
set_option maxHeartbeats 2000000 in
theorem lend_old {W : World} {B eb mb rb : Nat} {vs vp : Value} {K : List Mg} {S : List Sg} (he : W.heap[eb]? = some (.cells (ecells mb (.pointer (some ⟨rb, 0, none⟩))) 60 (0, 0))) (hr : Rw W B rb mb vs vp K S []) : Calls Try.prog 24 #[.pointer (some ⟨eb, 0, none⟩)] W (LendOut B eb mb K W) := by
  have c1 : W.cell? ⟨eb, 0 + 1, none⟩ = some (.int .i32 0) := by rw [Lib.cell_of_heap he]; rfl
  have f1 : W.frozen? ⟨eb, 0 + 1, none⟩ = false := Lib.frozen_of_heap he 1
  have e1 := (set_e he (.int .i32 1)).1
  have a0 : (W.setCell ⟨eb, 1, none⟩ (.int .i32 1)).cell? ⟨eb, 0, none⟩ = some (.map (some mb)) := by rw [Lib.cell_of_heap e1]; rfl
  have a3 : (W.setCell ⟨eb, 1, none⟩ (.int .i32 1)).cell? ⟨eb, 3, none⟩ = some (.pointer (some ⟨rb, 0, none⟩)) := by rw [Lib.cell_of_heap e1]; rfl
  have a4 : (W.setCell ⟨eb, 1, none⟩ (.int .i32 1)).frozen? ⟨eb, 3, none⟩ = false := Lib.frozen_of_heap e1 3
  have e2 := (set_e e1 (.pointer none)).2
  have e3 := (set_e e2 (.int .i32 0)).1
  have k1 : ((W.setCell ⟨eb, 1, none⟩ (.int .i32 1)).setCell ⟨eb, 3, none⟩ (.pointer none)).cell? ⟨eb, 1, none⟩ = some (.int .i32 1) := by rw [Lib.cell_of_heap e2]; rfl
  have k2 : ((W.setCell ⟨eb, 1, none⟩ (.int .i32 1)).setCell ⟨eb, 3, none⟩ (.pointer none)).frozen? ⟨eb, 1, none⟩ = false := Lib.frozen_of_heap e2 1
  have ec : ECh eb W (((W.setCell ⟨eb, 1, none⟩ (.int .i32 1)).setCell ⟨eb, 3, none⟩ (.pointer none)).setCell ⟨eb, 1, none⟩ (.int .i32 0)) := ((ech_set W eb 1 _).trans (ech_set _ eb 3 _)).trans (ech_set _ eb 1 _)
  have HF := (show Hid (LendOut B eb mb K W (.returned (.pointer (some ⟨rb, 0, none⟩))) (((W.setCell ⟨eb, 1, none⟩ (.int .i32 1)).setCell ⟨eb, 3, none⟩ (.pointer none)).setCell ⟨eb, 1, none⟩ (.int .i32 0))) from ⟨_, _, _, _, rfl, hr.keepE he ec, e3, ec⟩)
  clear he hr e1 e2 e3 ec
  go_enter_defers Try.func24, Try.ntmps24
  go_wp2_with (go_at_call 36; refine (lock_free muLib ⟨eb, 0 + 1, none⟩ _ c1 f1).mono ?_; rintro e w' ⟨rfl, rfl⟩)
  refine leaves_cons (f := 37) (args := #[.pointer (some ⟨eb, 1, none⟩)]) (by simp) (by simp [go_sem]) ?_
  refine (unlock_deferred muLib ⟨eb, 1, none⟩ .returning _ k1 k2).mono ?_
  rintro e u' w'' ⟨rfl, rfl, rfl⟩
  refine ⟨_, results_tmp rfl _ _ _, ?_⟩
  exact HF.out
set_option maxHeartbeats 2000000 in
theorem back_any {W : World} {eb mb rb : Nat} {sp : Value} (u : FrameMode) (he : W.heap[eb]? = some (.cells (ecells mb sp) 60 (0, 0))) : CallsD Try.prog 25 #[.pointer (some ⟨eb, 0, none⟩), .pointer (some ⟨rb, 0, none⟩)] u W fun e u' W' => u' = u ∧ (e = .returned (.tuple #[]) ∧ W'.heap[eb]? = some (.cells (ecells mb (.pointer (some ⟨rb, 0, none⟩))) 60 (0, 0)) ∧ ECh eb W W') := by
  have c1 : W.cell? ⟨eb, 0 + 1, none⟩ = some (.int .i32 0) := by rw [Lib.cell_of_heap he]; rfl
  have f1 : W.frozen? ⟨eb, 0 + 1, none⟩ = false := Lib.frozen_of_heap he 1
  have e1 := (set_e he (.int .i32 1)).1
  have a3 : (W.setCell ⟨eb, 1, none⟩ (.int .i32 1)).cell? ⟨eb, 3, none⟩ = some sp := by rw [Lib.cell_of_heap e1]; rfl
  have a4 : (W.setCell ⟨eb, 1, none⟩ (.int .i32 1)).frozen? ⟨eb, 3, none⟩ = false := Lib.frozen_of_heap e1 3
  have e2 := (set_e e1 (.pointer (some ⟨rb, 0, none⟩))).2
  have e3 := (set_e e2 (.int .i32 0)).1
  have k1 : ((W.setCell ⟨eb, 1, none⟩ (.int .i32 1)).setCell ⟨eb, 3, none⟩ (.pointer (some ⟨rb, 0, none⟩))).cell? ⟨eb, 1, none⟩ = some (.int .i32 1) := by rw [Lib.cell_of_heap e2]; rfl
  have k2 : ((W.setCell ⟨eb, 1, none⟩ (.int .i32 1)).setCell ⟨eb, 3, none⟩ (.pointer (some ⟨rb, 0, none⟩))).frozen? ⟨eb, 1, none⟩ = false := Lib.frozen_of_heap e2 1
  have ec : ECh eb W (((W.setCell ⟨eb, 1, none⟩ (.int .i32 1)).setCell ⟨eb, 3, none⟩ (.pointer (some ⟨rb, 0, none⟩))).setCell ⟨eb, 1, none⟩ (.int .i32 0)) := ((ech_set W eb 1 _).trans (ech_set _ eb 3 _)).trans (ech_set _ eb 1 _)
  have HE := (show Hid _ from e3)
  have HC := (show Hid _ from ec)
  clear he e1 e2 e3 ec
  refine callsD_of_wp_defers Try.func25 rfl ?_
  simp only [Try.ntmps25, List.size_toArray, List.length_cons, List.length_nil, Nat.reduceAdd, Nat.reduceSub, Array.replicate_succ, Array.replicate_zero, List.push_toArray, List.append_toArray, List.nil_append, List.cons_append]
  go_wp2_with (go_at_call 36; refine (lock_free muLib ⟨eb, 0 + 1, none⟩ _ c1 f1).mono ?_; rintro e w' ⟨rfl, rfl⟩)
  refine leaves_cons (f := 37) (args := #[.pointer (some ⟨eb, 1, none⟩)]) (by simp) (by simp [go_sem]) ?_
  refine (unlock_deferred muLib ⟨eb, 1, none⟩ .returning _ k1 k2).mono ?_
  rintro e u' w'' ⟨rfl, rfl, rfl⟩
  exact ⟨_, results_none rfl _ _ _, rfl, HE.out, HC.out⟩
end Go.Proofs.Ythcekfmodmnekaa.en
