/-
  Contracts over this program: rule.Right, rule.newFinder.
-/
import Derived.Test.YtiphhgihdpeanaaKUf
import Derived.Laws.ResultCell
import Derived.Laws.Tables
namespace Go.Proofs.Ytiphhgihdpeanaa.ru
open Go.ChangeShapes Go.WideShapes Go.ChangeAt Go.RowKit Go.Maps
set_option linter.unusedVariables false

theorem anyBad_no {l : List Ru} (h : anyBad l = false) : ∀ r ∈ l, bad r = false := fun r hr => by
  have := List.any_eq_false.1 h r hr
  simpa using this
theorem rightE_long {l : List Ru} (h : 64 < l.length) : rightE l = 2 := by unfold rightE; rw [if_pos h]
theorem rightE_bad {l : List Ru} (h : l.length ≤ 64) (hb : anyBad l = true) : rightE l = 110 := by
  unfold rightE
  rw [if_neg (by omega), if_neg]
  intro hg
  obtain ⟨r, hr, hbr⟩ := List.any_eq_true.1 hb
  rw [hg.2.1 r hr] at hbr
  cases hbr
theorem rightE_twice {l : List Ru} (h : l.length ≤ 64) (ho : ¬ Once l) : rightE l = 110 := by
  unfold rightE
  rw [if_neg (by omega), if_neg (fun hg => ho hg.2.2)]

def RightIs (l : List Ru) (x : Nat) : Prop := ∀ v w, Rus w v l → Calls Try.prog 10 #[v] w fun e w' => e = .returned (.int .i64 (x : Int)) ∧ Below w.heap.size w w'
theorem Rus.form {w : World} {v : Value} {l : List Ru} (h : Rus w v l) : ∃ a cap, v = .slice a l.length cap ∧ (l.length ≤ cap ∨ l.length = 0) ∧ (cap ≤ 9223372036854775807 ∨ l.length = 0) := by
  rcases h with ⟨rfl, a, cap, rfl⟩ | ⟨b, off, cap, rfl, hl, hm, _⟩
  · exact ⟨_, _, rfl, .inr rfl, .inr rfl⟩
  · exact ⟨_, _, rfl, .inl hl, .inl hm⟩
theorem Rus.small {w : World} {v : Value} {l : List Ru} (h : Rus w v l) : l.length ≤ 9223372036854775807 := by
  obtain ⟨a, cap, _, h1, h2⟩ := h.form
  omega

set_option maxHeartbeats 2000000 in
set_option maxRecDepth 100000 in
theorem right_any (l : List Ru) (x : Nat) (hx : x = rightE l) : RightIs l x := by
  intro v w hv
  have hsm := hv.small
  obtain ⟨a, cap, rfl, _, _⟩ := hv.form
  by_cases h1 : 64 < l.length
  · obtain rfl : x = 2 := by rw [hx, rightE_long h1]
    clear hx hv
    go_enter Try.func10, Try.ntmps10
    go_wp2
    go_ret
    exact ⟨rfl, Below.refl _ _⟩
  · have h1' : l.length ≤ 64 := by omega
    have c18 := anyBad_is l _ rfl _ w hv
    cases hb : anyBad l
    · rw [hb] at c18
      have hnb := anyBad_no hb
      have c20 := by_any l h1' (fun r hr => by have := bad_no.1 (hnb r hr); omega)
      have HX := (show Hid (∀ D, MapOf l D → x = if Maps.size D < l.length then 110 else 0) from fun D hD => by
        rw [hx]
        by_cases ho : Once l
        · rw [rightE_ok ⟨h1', hnb, ho⟩, if_neg (by have := hD.once.2 ho; omega)]
        · rw [rightE_twice h1' ho, if_pos (by have := hD.le; have : Maps.size D ≠ l.length := fun e => ho (hD.once.1 e); omega)])
      clear hx
      go_enter Try.func10, Try.ntmps10
      go_wp2_with (first | (go_at_call 18; refine c18.mono ?_; rintro e w1 ⟨rfl, b1⟩; have c20' := c20 _ w1 (hv.below b1)) | (go_at_call 20; refine c20'.mono ?_; rintro e w2 ⟨B, D, rfl, hB, hown, hM, b2⟩; have HM := (show Hid (MapOf l D) from hM); clear hM) | (at_len; refine wpList_len_own _ rfl _ 39 rfl 9 3 Try.underlying39 _ B l.length D rfl hown ?_))
      · rename_i hlt
        go_ret
        refine ⟨?_, chain b1 b2⟩
        rw [HX.out D HM.out, if_pos (by omega)]
        rfl
      · rename_i hlt
        go_ret
        refine ⟨?_, chain b1 b2⟩
        rw [HX.out D HM.out, if_neg (by omega)]
        rfl
    · rw [hb] at c18
      obtain rfl : x = 110 := by rw [hx, rightE_bad h1' hb]
      clear hx
      go_enter Try.func10, Try.ntmps10
      go_wp2_with (go_at_call 18; refine c18.mono ?_; rintro e w1 ⟨rfl, b1⟩)
      go_ret
      exact ⟨rfl, b1⟩

/-- a row of numbers that is read -/
def IntRow (w : World) (v : Value) (L : List Int) : Prop :=
  (L = [] ∧ ∃ a cap, v = .slice a 0 cap) ∨
  (∃ b cap, v = .slice (some ⟨b, 0, none⟩) L.length cap ∧ L.length ≤ cap ∧ cap ≤ 9223372036854775807 ∧ b < w.heap.size ∧ ∀ i, (h : i < L.length) → w.cell? ⟨b, i, none⟩ = some (.int .i64 L[i]))
theorem introw_of {w : World} {B : Nat} {v : Value} {L : List Int} (h : Owns w B v L) : IntRow w v L := by
  rcases h.2 with ⟨rfl, h0⟩ | ⟨g, cap, cur, rfl, hb, hg, hn, hc, hs, ht⟩
  · exact .inl ⟨List.length_eq_zero_iff.1 h0, _, _, rfl⟩
  · refine .inr ⟨g, cap, rfl, hn, by unfold maxLen at hc; omega, (Array.getElem?_eq_some_iff.1 hg).1, fun i hi => ?_⟩
    rw [World.ownsRow.cellAt h i (by omega), List.getElem?_map, List.getElem?_eq_getElem hi]
    rfl
theorem IntRow.below {w w' : World} {v : Value} {L : List Int} (h : IntRow w v L) (hb : Below w.heap.size w w') : IntRow w' v L := by
  rcases h with h | ⟨b, cap, hv, hl, hm, hlt, hc⟩
  · exact .inl h
  · exact .inr ⟨b, cap, hv, hl, hm, Nat.lt_of_lt_of_le hlt hb.size, fun i hi => by rw [hb.cell hlt]; exact hc i hi⟩
/-- what finds the rule that counts -/
structure Fdr (w : World) (l : List Ru) (rv : Value) (B : Nat) (D : DataW Unit) (lv : Value) : Prop where
  rus : Rus w rv l
  lt : B < w.heap.size
  own : w.ownsMap Try.prog 9 (plainElem (H := Unit) Try.prog 3) B l.length D
  map : MapOf l D
  row : IntRow w lv (lensOf l)
theorem ownsMap_lt {w : World} {B n : Nat} {D : DataW Unit} (h : w.ownsMap Try.prog 9 (plainElem (H := Unit) Try.prog 3) B n D) : B < w.heap.size := by
  obtain ⟨es, clock, hb, _⟩ := h
  exact (Array.getElem?_eq_some_iff.1 hb).1
theorem Fdr.below {w w' : World} {l : List Ru} {rv lv : Value} {B : Nat} {D : DataW Unit} (h : Fdr w l rv B D lv) (b3 : Below w.heap.size w w') : Fdr w' l rv B D lv :=
  ⟨h.rus.below b3, Nat.lt_of_lt_of_le h.lt b3.size, h.own.kept (row := none) ⟨b3.os, b3.tape, b3.output, b3.size, fun k hk _ => b3.block k hk⟩ (by simp), h.map, h.row.below b3⟩
theorem info42 : (Try.prog.info? 42).map (·.size) = some 3 := by kernel_rfl
theorem zero42 (w : World) : (zeroValue 42).run Try.prog w = .ok (.agg #[.slice none 0 0, .map none, .slice none 0 0]) w := by kernel_rfl
theorem ret42 {fn : Func} {p : Tmp} (h : fn.results = #[.cell p 42]) {a : Act} {W : World} {R : Ending → World → Prop} (g : Nat) (v0 v1 v2 : Value) (hp : a.tmps.getD p undef = .pointer (some ⟨g, 0, none⟩)) (hb : W.heap[g]? = some (.cells #[v0, v1, v2] 42 (0, 0))) (hd : a.defers = [])
    (hR : R (.returned (.agg #[v0, v1, v2])) W) : bodyPost Try.prog fn R .ret a W :=
  bodyPost_ret (results_cell_row h _ _ g 42 _ (0, 0) _ hp hb Try.underlying42 rfl (by kernel_rfl)) hd hR
theorem below_setRow {n g : Nat} {w W : World} (h : Below n w W) (hg : n ≤ g) (cs : Array Value) : Below n w (W.setRow g cs) := ⟨h.os, h.tape, h.output, by simpa using h.size, fun k hk => (setRow_other _ _ _ _ (by omega)).trans (h.block k hk)⟩
theorem setRow_grown (w : World) (g : Nat) (cs : Array Value) : w.grownBy (w.setRow g cs) (some g) := ⟨rfl, rfl, rfl, by simp, fun k hk hne => setRow_other _ _ _ _ (fun e => hne (by rw [e]))⟩

def NewIs (l : List Ru) : Prop := ∀ v w, Rus w v l → Calls Try.prog 17 #[v] w fun e w' => ∃ B D lv, e = .returned (.agg #[v, .map (some B), lv]) ∧ Fdr w' l v B D lv ∧ Below w.heap.size w w'
set_option maxHeartbeats 2000000 in
set_option maxRecDepth 100000 in
theorem new_any (l : List Ru) (hg : Good l) : NewIs l := by
  intro v w hv
  have c20 := by_any l hg.1 (fun r hr => by have := bad_no.1 (hg.2.1 r hr); omega)
  have c29 := lens_any l hg.1
  have hz := zero42
  obtain ⟨w1, hw1⟩ : ∃ w1, w1 = w.alloc (.cells #[.slice none 0 0, .map none, .slice none 0 0] 42) := ⟨_, rfl⟩
  have b1 : Below w.heap.size w w1 := by rw [hw1]; exact (Below.refl _ _).alloc (Nat.le_refl _) _
  have hn1 : w1.heap[w.heap.size]? = some (.cells #[.slice none 0 0, .map none, .slice none 0 0] 42 (0, 0)) := by rw [hw1]; exact heap_alloc_new w _
  have c20' := c20 _ w1 (hv.below b1)
  have hlt1 := (Array.getElem?_eq_some_iff.1 hn1).1
  obtain ⟨a, cap, rfl, _, _⟩ := hv.form
  rw [hw1] at c20'
  have HW := (show Hid _ from hw1)
  clear hw1
  go_enter Try.func17, Try.ntmps17
  go_wp2_with (first | (go_at_call 20; refine c20'.mono ?_; rw [← HW.out]; rintro e w2 ⟨B, D, rfl, hB, hown, hM, b2⟩; have c29' := c29 _ w2 ((hv.below b1).below b2); have HM := (show Hid (MapOf l D) from hM); clear hM) | (go_at_call 29; refine c29'.mono ?_; rintro e w3 ⟨v3, rfl, o3, b3⟩; obtain ⟨g3, c3, hv3, _⟩ := ow.form o3; subst hv3; have hn3 : w3.heap[w.heap.size]? = some (.cells #[.slice none 0 0, .map none, .slice none 0 0] 42 (0, 0)) := (b3.block _ (Nat.lt_of_lt_of_le hlt1 b2.size)).trans ((b2.block _ hlt1).trans hn1)) | (refine wpList_store_row (by rfl) 42 (.tmp 2) (.tmp 8) (by rfl) w.heap.size #[.slice a l.length cap, .map (some B), .slice g3 (lensOf l).length c3] (by rfl) (by rfl) 42 _ hn3 info42 rfl (by simp [Value.oneCell']) ?_))
  refine ret42 Try.results17 w.heap.size _ _ _ rfl (setRow_heap _ _ _ _ _ _ hn3) rfl ?_
  have hbl : Below w.heap.size w (w3.setRow w.heap.size #[.slice a l.length cap, .map (some B), .slice g3 (lensOf l).length c3]) := below_setRow (chain (chain b1 b2) b3) (Nat.le_refl _) _
  have hown3 := hown.kept (row := none) ⟨b3.os, b3.tape, b3.output, b3.size, fun k hk _ => b3.block k hk⟩ (by simp)
  have hown4 := hown3.kept (setRow_grown w3 w.heap.size #[.slice a l.length cap, .map (some B), .slice g3 (lensOf l).length c3]) (by intro e; cases e; omega)
  exact ⟨B, D, _, rfl, ⟨hv.below hbl, ownsMap_lt hown4, hown4, HM.out, introw_of (B := w2.heap.size) (ow.keep o3 fun g eg => setRow_other _ _ _ _ (by have := (ow.lt o3 eg).1; have := b2.size; omega))⟩, hbl⟩
end Go.Proofs.Ytiphhgihdpeanaa.ru
