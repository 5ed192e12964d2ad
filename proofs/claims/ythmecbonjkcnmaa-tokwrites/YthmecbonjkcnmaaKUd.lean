/-
  Contracts over this program: the map of the rules' numbers (rule.byFrom).
-/
import Derived.Test.YthmecbonjkcnmaaKUc
import Derived.Maps.OwnSet
import Derived.Maps.AppendAt
import Derived.DeepKeys4
import Derived.MapViews
namespace Go.Proofs.Ythmecbonjkcnmaa.ru
open Go.ChangeShapes Go.WideShapes Go.ChangeAt Go.RowKit Go.Maps
set_option linter.unusedVariables false

theorem law9 : Keyed Try.prog 9 := string_keyed Try.underlying9
theorem zero3 (w : World) : (zeroValue 3).run Try.prog w = .ok (.int .i64 0) w := by kernel_rfl

theorem make81 (n : Int) (w : World) : (Instr.makeMap 81 (some (.int .i64 n))).run Try.prog w = .ok (.map (some w.heap.size)) (w.alloc (.map #[] 0)) := by kernel_rfl
/-- what the map of the rules' numbers holds -/
structure MapOf (l : List Ru) (D : DataW Unit) : Prop where
  has : ∀ k, Maps.has D (.string k) = l.any (fun r => r.f == k)
  at' : Once l → ∀ i, i < l.length → D.atKey (.string (nth l i).f) (.lit (.int .i64 0)) = .lit (.int .i64 (i : Nat))
  le : Maps.size D ≤ l.length
  once : Maps.size D = l.length ↔ Once l
theorem mapOf_nil : MapOf [] (.map []) := ⟨fun k => rfl, fun _ i hi => by simp at hi, Nat.le_refl _, ⟨fun _ => List.nodup_nil, fun _ => rfl⟩⟩
theorem nth_append_left (l : List Ru) (r : Ru) (i : Nat) (h : i < l.length) : nth (l ++ [r]) i = nth l i := by
  unfold nth
  rw [List.getD_eq_getElem?_getD, List.getD_eq_getElem?_getD, List.getElem?_append_left h]
theorem nth_append_last (l : List Ru) (r : Ru) : nth (l ++ [r]) l.length = r := by
  unfold nth
  rw [List.getD_eq_getElem?_getD, List.getElem?_append_right (Nat.le_refl _)]
  simp
theorem once_snoc (l : List Ru) (r : Ru) : Once (l ++ [r]) ↔ Once l ∧ l.any (fun x => x.f == r.f) = false := by
  unfold Once
  rw [List.map_append, List.nodup_append]
  constructor
  · rintro ⟨h1, _, h3⟩
    refine ⟨h1, List.any_eq_false.2 fun x hx => ?_⟩
    have := h3 x.f (List.mem_map.2 ⟨x, hx, rfl⟩) r.f (by simp)
    simpa using this
  · rintro ⟨h1, h2⟩
    refine ⟨h1, by simp, fun a ha b hb => ?_⟩
    obtain ⟨x, hx, rfl⟩ := List.mem_map.1 ha
    simp at hb
    subst hb
    have := List.any_eq_false.1 h2 x hx
    simpa using this
theorem mapOf_put {l : List Ru} {D : DataW Unit} (h : MapOf l D) (hT : Tidy D) (r : Ru) : MapOf (l ++ [r]) (D.put (.string r.f) (.lit (.int .i64 (l.length : Nat)))) := by
  have hsz : Maps.size (D.put (.string r.f) (.lit (.int .i64 (l.length : Nat)))) = if l.any (fun x => x.f == r.f) = true then Maps.size D else Maps.size D + 1 := by
    rw [size_put hT, h.has]
  refine ⟨fun k => ?_, fun ho i hi => ?_, ?_, ?_⟩
  · rw [List.any_append]
    by_cases e : k = r.f
    · subst e
      rw [has_put_same hT.isMap (show WideAt.IsKeyLit (.string _) from trivial)]
      simp
    · rw [has_put_other (fun e2 => e (Lit.string.inj e2)), h.has k]
      have : (r.f == k) = false := by simp; exact fun e2 => e e2.symm
      simp [this]
  · obtain ⟨ho1, ho2⟩ := (once_snoc l r).1 ho
    by_cases e : i < l.length
    · rw [nth_append_left l r i e]
      have hne : (nth l i).f ≠ r.f := by
        have := List.any_eq_false.1 ho2 _ (nth_mem l i e)
        simpa using this
      rw [atKey_put_other (fun e2 => hne (Lit.string.inj e2)), h.at' ho1 i e]
    · have : i = l.length := by simp at hi; omega
      subst this
      rw [nth_append_last, atKey_put_same hT.isMap (show WideAt.IsKeyLit (.string _) from trivial)]
  · rw [hsz, List.length_append]
    have := h.le
    split <;> simp <;> omega
  · rw [hsz, once_snoc, List.length_append]
    have h1 := h.le
    have h2 := h.once
    cases e : l.any (fun x => x.f == r.f)
    · simp
      rw [h2]
    · simp
      omega

def ByIs (l : List Ru) : Prop := ∀ v w, Rus w v l → Calls Try.prog 52 #[v] w fun e w' => ∃ B D, e = .returned (.map (some B)) ∧ w.heap.size ≤ B ∧ w'.ownsMap Try.prog 9 (plainElem (H := Unit) Try.prog 3) B l.length D ∧ MapOf l D ∧ Below w.heap.size w w'

theorem key_of (r : Ru) (h : r.fr.size ≤ maxLen) : keyOf Try.prog 9 (.string r.fr) = some (.string r.f) := Go.WideMaps.keyOf_string_mk (P := Try.prog) Try.underlying9 h

set_option maxHeartbeats 2000000 in
set_option maxRecDepth 100000 in
theorem by_any (l : List Ru) (hl64 : l.length ≤ 64) (hsz : ∀ r ∈ l, r.fr.size ≤ 140737488355328) : ByIs l := by
  intro v w hv
  have hmm := make81
  have hmade : (w.alloc (.map #[] 0)).ownsMap Try.prog 9 (plainElem (H := Unit) Try.prog 3) w.heap.size 0 (.map []) := World.ownsMap_made _ _ _ _
  have hB0 := (Below.refl w.heap.size w).alloc (Nat.le_refl _) (.map #[] 0)
  rcases hv with ⟨rfl, a, cap, rfl⟩ | ⟨b, off, cap, rfl, hl, hm, hlt, hc⟩
  · go_enter Try.func52, Try.ntmps52
    go_wp2
    clear hmm
    generalize w.alloc (.map #[] 0) = w2 at *
    go_loopw [11] (fun x wr => x = .int .i64 0 ∧ wr = w2) (fun _ _ => 0)
    case atStart => exact ⟨rfl, rfl⟩
    case round =>
      obtain ⟨rfl, rfl⟩ := hrel
      go_wp2
      go_ret
      exact ⟨_, _, rfl, Nat.le_refl _, hmade, mapOf_nil, hB0⟩
  · go_enter Try.func52, Try.ntmps52
    go_wp2
    clear hmm
    generalize w.alloc (.map #[] 0) = w2 at *
    go_loopw [11] (fun y wr => ∃ (i : Nat) (D : DataW Unit), y = .int .i64 i ∧ i ≤ l.length ∧ wr.ownsMap Try.prog 9 (plainElem (H := Unit) Try.prog 3) w.heap.size i D ∧ Hid (MapOf (l.take i) D) ∧ Below w.heap.size w wr) (fun y _ => l.length - (intOf y).toNat)
    case atStart => exact ⟨0, _, rfl, by omega, hmade, by rw [List.take_zero]; exact mapOf_nil, hB0⟩
    case round =>
      obtain ⟨i, D, rfl, hi, hown, HM, hB⟩ := hrel
      by_cases hend : i < l.length
      · obtain ⟨hc1, hc2⟩ := hc i hend
        rw [← hB.cell (p := ⟨b, off + i * 2, none⟩) hlt] at hc1
        rw [← hB.cell (p := ⟨b, off + i * 2 + 1, none⟩) hlt] at hc2
        have HT := (show Hid (∀ D', D' = D.put (.string (nth l i).f) (.lit (.int .i64 (i : Nat))) → MapOf (l.take (i + 1)) D') from fun D' e => by
          have := mapOf_put HM.out (hown.tidy law9) (nth l i)
          rw [List.length_take, Nat.min_eq_left hi, ← take_nth l i hend] at this
          rw [e]
          exact this)
        have hkey := key_of (nth l i) (by have := hsz _ (nth_mem l i hend); unfold maxLen; omega)
        generalize nth l i = r at *
        have hown1 : (wr.alloc (.cells #[.string r.fr, .string r.to] 70)).ownsMap Try.prog 9 (plainElem (H := Unit) Try.prog 3) w.heap.size i D := by
          have b3 := (Below.refl wr.heap.size wr).alloc (Nat.le_refl _) (.cells #[.string r.fr, .string r.to] 70)
          exact hown.kept (row := none) ⟨b3.os, b3.tape, b3.output, b3.size, fun k hk _ => b3.block k hk⟩ (by simp)
        have hB1 : Below w.heap.size w (wr.alloc (.cells #[.string r.fr, .string r.to] 70)) := hB.alloc hB.size _
        clear hc HM hown hB
        go_wp2_with (at_mapUpdate; refine wpList_mapUpdate_own _ rfl _ _ _ 81 rfl 9 3 law9 Try.underlying81 _ w.heap.size i D rfl hown1 (by unfold maxLen; omega) _ _ _ rfl rfl hkey _ [] (plainElem_int Try.underlying3 (WalkArith.wf_i64 (by omega))) ?_; intro w4 hown4 hgrow4; have hB4 := hB1.grown hgrow4 hB1.size (by intro k hk; cases hk; omega))
        go_roundw
        case rel => exact ⟨i + 1, _, by go_num, by omega, hown4, HT.out _ rfl, hB4⟩
        case measure => simp [intOf]; omega
      · have he : i = l.length := by omega
        subst he
        rw [List.take_length] at HM
        go_wp2
        go_ret
        exact ⟨_, _, rfl, Nat.le_refl _, hown, HM.out, hB⟩
end Go.Proofs.Ythmecbonjkcnmaa.ru
