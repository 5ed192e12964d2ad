/-
  Contracts over this program: an engine is made (heap.New); what is refused (Engine.Tokens), what merging costs (heap.Cost).
-/
import Derived.Test.YthcekfmodmnekaaGb
import Derived.Test.YthcekfmodmnekaaMf
namespace Go.Proofs.Ythcekfmodmnekaa.hp
open Go.ChangeShapes Go.WideShapes Go.ChangeAt Go.RowKit Go.Shelf Go.Maps
open mg
set_option linter.unusedVariables false
set_option maxRecDepth 100000

/-- what an engine's cells hold: a lock that is free -/
abbrev ecells (mb : Nat) (sp : Value) : Array Value := #[.map (some mb), .int .i32 0, .int .u32 0, sp]
def newE (l : List Mg) (d : List Int) : Nat := if errOf l ≠ 0 then errOf l else if numB 0 l.length d = true then 0 else 1
def NewOut (l : List Mg) (d : List Int) (w : World) (e : Ending) (w' : World) : Prop :=
  ∃ v, e = .returned (.tuple #[v, .int .i64 (newE l d : Int)]) ∧ Below w.heap.size w w' ∧ ((newE l d ≠ 0 ∧ v = .pointer none) ∨ (newE l d = 0 ∧ ∃ eb mb, v = .pointer (some ⟨eb, 0, none⟩) ∧ w'.heap[eb]? = some (.cells (ecells mb (.pointer none)) 60 (0, 0)) ∧ RMap w' mb (keptL l d) ∧ w.heap.size ≤ eb ∧ w.heap.size ≤ mb))
theorem NewOut.bad {l : List Mg} {d : List Int} {w w' : World} (x : Nat) (hx : newE l d = x) (h0 : x ≠ 0) (hb : Below w.heap.size w w') : NewOut l d w (.returned (.tuple #[.pointer none, .int .i64 (x : Int)])) w' :=
  ⟨_, by rw [hx], hb, .inl ⟨by rw [hx]; exact h0, rfl⟩⟩
set_option maxHeartbeats 2000000 in
theorem new_any (l : List Mg) (d : List Int) (v vd : Value) (w : World) (hv : Mgs w v l) (hvd : IntsV w vd d) : Calls Try.prog 8 #[v, vd] w (NewOut l d w) := by
  have c21 := right_any l v w hv
  have HM : Hid (∀ W, Below w.heap.size w W → Mgs W v l) := fun W b => hv.later b
  have HD : Hid (∀ W, Below w.heap.size w W → IntsV W vd d) := fun W b => hvd.later b
  obtain ⟨o, cap, rfl, g1, g2, -⟩ := hv.form
  obtain ⟨od, capd, rfl, hrd⟩ := id hvd
  have g3 := hrd.fit
  have g4 := hrd.top
  clear hv hvd hrd
  rcases errOf_cases l with h | h | h
  · have HE : Hid (newE l d = 2) := by show _ = _; unfold newE; rw [if_pos (by rw [h]; simp), h]
    rw [h] at c21
    clear h
    go_enter Try.func8, Try.ntmps8
    go_wp2_with (go_at_call 21; refine c21.mono ?_; rintro e w1 ⟨rfl, b1⟩)
    go_ret2
    exact NewOut.bad 2 HE.out (by omega) b1
  · have HE : Hid (newE l d = 130) := by show _ = _; unfold newE; rw [if_pos (by rw [h]; simp), h]
    rw [h] at c21
    clear h
    go_enter Try.func8, Try.ntmps8
    go_wp2_with (go_at_call 21; refine c21.mono ?_; rintro e w1 ⟨rfl, b1⟩)
    go_ret2
    exact NewOut.bad 130 HE.out (by omega) b1
  · have hl4 : l.length ≤ 1024 := (ok_run h).1
    have HF : Hid (Fine l (textsOf l)) := fine h
    rw [h] at c21
    cases hn : numB 0 l.length d with
    | false =>
      have HE : Hid (newE l d = 1) := by show _ = _; unfold newE; rw [if_neg (by rw [h]; simp), if_neg (by rw [hn]; simp)]
      have c22 : ∀ W, Below w.heap.size w W → Calls Try.prog 22 #[.slice od d.length capd, iv l.length] W fun e w' => e = .returned (.bool false) ∧ Below W.heap.size W w' := fun W b => hn ▸ areNums_any d l.length hl4 _ W (HD.out W b)
      have C22 := (show Hid _ from c22)
      clear h hn c22
      go_enter Try.func8, Try.ntmps8
      go_wp2_with (first | (go_at_call 21; refine c21.mono ?_; rintro e w1 ⟨rfl, b1⟩) | (go_at_call 22; refine (C22.out _ b1).mono ?_; rintro e w2 ⟨rfl, b2⟩))
      go_ret2
      exact NewOut.bad 1 HE.out (by omega) (chain b1 b2)
    | true =>
      have HE : Hid (newE l d = 0) := by show _ = _; unfold newE; rw [if_neg (by rw [h]; simp), if_pos hn]
      have c22 : ∀ W, Below w.heap.size w W → Calls Try.prog 22 #[.slice od d.length capd, iv l.length] W fun e w' => e = .returned (.bool true) ∧ Below W.heap.size W w' := fun W b => hn ▸ areNums_any d l.length hl4 _ W (HD.out W b)
      have C22 := (show Hid _ from c22)
      have C23 := (show Hid (∀ W, Below w.heap.size w W → _) from fun W b => ranks_any l hl4 _ HF.out d hn _ _ W (HM.out W b) (HD.out W b))
      clear h hn c22
      go_enter Try.func8, Try.ntmps8
      go_wp2_with (first | (go_at_call 21; refine c21.mono ?_; rintro e w1 ⟨rfl, b1⟩) | (go_at_call 22; refine (C22.out _ b1).mono ?_; rintro e w2 ⟨rfl, b2⟩) | (go_at_call 23; refine (C23.out _ (chain b1 b2)).mono ?_; rintro e w3 ⟨mb, rfl, m1, m2, b3⟩))
      have b4 := below_alloc w3 (.cells #[.map (some mb), .int .i32 0, .int .u32 0, .pointer none] 60)
      go_ret2
      have b12 := chain b1 b2
      have b13 := chain b12 b3
      exact ⟨_, by rw [HE.out]; rfl, chain b13 b4, .inr ⟨HE.out, w3.heap.size, mb, rfl, World.alloc_heap_new w3 _, m2.keep (b4.block mb m2.lt), b13.size, Nat.le_trans b12.size m1⟩⟩
theorem tokens_nil (s : ByteArray) (w : World) : Calls Try.prog 12 #[.pointer none, .string s] w fun e w' => e = .returned (.tuple #[.slice none 0 0, .int .i64 1]) ∧ w' = w := by
  go_enter_defers Try.func12, Try.ntmps12
  go_wp2_with (fail)
  exact ⟨_, results_tmp2 rfl _ _ _, rfl, rfl⟩
theorem tokens_long (s : ByteArray) (hs : 262144 < s.size) (a : Addr) (w : World) : Calls Try.prog 12 #[.pointer (some a), .string s] w fun e w' => e = .returned (.tuple #[.slice none 0 0, .int .i64 2]) ∧ w' = w := by
  go_enter_defers Try.func12, Try.ntmps12
  go_wp2_with (fail)
  exact ⟨_, results_tmp2 rfl _ _ _, rfl, rfl⟩
def costOf (n : Int) : Int := if n < 0 ∨ 262144 < n then 0 else 1 + 4 * n
theorem cost_any (n : Int) (w : World) : Calls Try.prog 17 #[iv n] w fun e w' => e = .returned (iv (costOf n)) ∧ w' = w := by
  unfold costOf
  by_cases h1 : n < 0
  · rw [if_pos (.inl h1)]
    go_enter Try.func17, Try.ntmps17
    go_wp2_with (fail)
    go_ret
    exact ⟨rfl, rfl⟩
  · by_cases h2 : 262144 < n
    · rw [if_pos (.inr h2)]
      go_enter Try.func17, Try.ntmps17
      go_wp2_with (fail)
      go_ret
      exact ⟨rfl, rfl⟩
    · rw [if_neg (by omega)]
      go_enter Try.func17, Try.ntmps17
      go_wp2_with (fail)
      go_ret
      exact ⟨by go_num, rfl⟩
end Go.Proofs.Ythcekfmodmnekaa.hp
