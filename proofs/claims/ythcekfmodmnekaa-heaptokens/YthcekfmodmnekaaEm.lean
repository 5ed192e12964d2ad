/-
  Contracts over this program: what may be dropped (the document's Drop), merges of which some are left out (the document's Tokens).
-/
import Derived.Test.YthcekfmodmnekaaEl
import Derived.Laws.OwnMore
namespace Go.Proofs.Ythcekfmodmnekaa.hp
open Go.ChangeShapes Go.WideShapes Go.ChangeAt Go.RowKit Go.Shelf Go.Maps
open mg
set_option linter.unusedVariables false
set_option maxRecDepth 100000

def cellsM (l : List Mg) : List Value := l.flatMap fun m => [iv m.1, iv m.2]
theorem cellsM_len (l : List Mg) : (cellsM l).length = l.length * 2 := by
  induction l with
  | nil => rfl
  | cons m l ih => simp only [cellsM, List.flatMap_cons, List.length_append] at ih ⊢; rw [ih]; simp; omega
theorem cellsM_append (l k : List Mg) : cellsM (l ++ k) = cellsM l ++ cellsM k := by simp [cellsM]
theorem cellsM_one (l : List Mg) : ∀ u ∈ cellsM l, u.oneCell' = true := fun u hu => by
  obtain ⟨m, _, h⟩ := List.mem_flatMap.1 hu
  simp at h
  rcases h with rfl | rfl <;> rfl
theorem cellsM_get (l : List Mg) (i : Nat) (h : i < l.length) : (cellsM l)[i * 2]? = some (iv l[i].1) ∧ (cellsM l)[i * 2 + 1]? = some (iv l[i].2) := by
  induction l generalizing i with
  | nil => simp at h
  | cons s l ih =>
    cases i with
    | zero => exact ⟨rfl, rfl⟩
    | succ i =>
      have := ih i (by simpa using h)
      have e1 : (i + 1) * 2 = i * 2 + 1 + 1 := by omega
      rw [e1]
      exact this
def OwnM (W : World) (B : Nat) (v : Value) (l : List Mg) : Prop := W.ownsRow B 62 2 v l.length (cellsM l)
theorem OwnM.mgs {W : World} {B : Nat} {v : Value} {l : List Mg} (h : OwnM W B v l) : Mgs W v l := by
  rcases h.2 with ⟨rfl, h0⟩ | ⟨g, cap, cur, rfl, hb, hg, hn, hc, hs, ht⟩
  · have e : l = [] := List.length_eq_zero_iff.1 h0
    subst e
    exact ⟨_, _, rfl, Nat.le_refl _, by omega, fun i h => by simp at h⟩
  · refine ⟨_, cap, rfl, hn, by unfold maxLen at hc; omega, fun i hi => ⟨g, 0, rfl, (Array.getElem?_eq_some_iff.1 hg).1, ?_⟩⟩
    have h2 := cellsM_get l i hi
    have hl := cellsM_len l
    rw [Nat.zero_add, World.ownsRow.cellAt h (i * 2) (by omega), World.ownsRow.cellAt h (i * 2 + 1) (by omega)]
    exact h2
theorem info62 : (Try.prog.info? 62).map (fun i => (i.zero, i.size, i.bytes)) = some (some (.agg #[.int .i64 0, .int .i64 0]), 2, 16) := by kernel_rfl
theorem app_any (W : World) (B : Nat) (v : Value) (l k : List Mg) (hown : OwnM W B v l) (a : Addr) (c : Nat) (ty : TypeId) (hn : ∀ j u, (cellsM k)[j]? = some u → W.cell? (a.add j) = some u) (hsm : (l.length + k.length) * 16 ≤ 140737488355328) (hB : B ≤ W.heap.size) :
    ∃ v' w', (Builtin.append_ #[22, 22] ty #[v, .slice (some a) k.length c]).run Try.prog W = .ok v' w' ∧ OwnM w' B v' (l ++ k) ∧ W.grownBy w' v.ownBlock := by
  obtain ⟨i0, hi, hz0, hz1, hz2⟩ := info_parts info62
  obtain ⟨v', w', h1, h2, h3, _⟩ := run_append_own (P := Try.prog) W B 22 ty 62 i0 _ 2 16 Try.underlying22 hi hz0 hz1 hz2 rfl (by omega) v l.length (cellsM l) hown a k.length c (cellsM k) (cellsM_len k) hn (cellsM_one k) (by unfold maxLen; omega) hsm hB
  exact ⟨v', w', h1, by unfold OwnM; rw [List.length_append, cellsM_append]; exact h2, h3⟩
theorem app_1 (W : World) (B : Nat) (v : Value) (l : List Mg) (p : Mg) (g : Nat) (hown : OwnM W B v l) (hg : W.heap[g]? = some (.cells #[.int .i64 p.1, .int .i64 p.2] 62 (0, 0))) (ty : TypeId) (hsm : l.length * 16 ≤ 140737488351232) (hB : B ≤ W.heap.size) :
    ∃ v' w', (Builtin.append_ #[22, 22] ty #[v, .slice (some ⟨g, 0, none⟩) 1 1]).run Try.prog W = .ok v' w' ∧ OwnM w' B v' (l ++ [p]) ∧ W.grownBy w' v.ownBlock :=
  app_any W B v l [p] hown ⟨g, 0, none⟩ 1 ty (fun j u hj => by
    have hadd : (⟨g, 0, none⟩ : Addr).add j = ⟨g, j, none⟩ := by unfold Addr.add; split <;> simp_all
    rw [hadd, Lib.cell_of_heap hg]
    match j, hj with
    | 0, hj => exact hj
    | 1, hj => exact hj
    | (j + 2), hj => simp [cellsM] at hj) (by simp; omega) hB
theorem made_M (W : World) (B : Nat) (hB : B ≤ W.heap.size) : OwnM (W.alloc (.cells #[] 62)) B (.slice (some ⟨W.heap.size, 0, none⟩) 0 0) [] := ⟨rfl, .inr ⟨W.heap.size, 0, #[], rfl, hB, heap_alloc_new W _, Nat.le_refl _, by unfold maxLen; omega, rfl, rfl⟩⟩
theorem OwnM.later {W W' : World} {B : Nat} {v : Value} {l : List Mg} (h : OwnM W B v l) (b : Below W.heap.size W W') : OwnM W' B v l := ow.later h b

set_option maxHeartbeats 4000000 in
theorem drop_any (l : List Int) (n : Nat) (hn : n ≤ 1024) (v : Value) (w : World) (h : IntsV w v l) : Calls Try.prog 10 #[v, iv n] w fun e w' => e = .returned (.bool (numB 0 n l)) ∧ Below w.heap.size w w' := by
  obtain ⟨o, cap, rfl, h1⟩ := h
  have f1 := h1.fit
  have f2 := h1.top
  have H1 : Hid (Row (In w) w iv o cap l) := h1
  clear h1
  go_enter Try.func10, Try.ntmps10
  go_wp2_with (fail)
  go_loopw [9] (fun y wr => ∃ (i m : Nat), y = .int .i64 i ∧ i ≤ l.length ∧ m ≤ 1024 ∧ Hid (numB 0 n l = numB m n (l.drop i)) ∧ Hid (∀ j x, i = j + 1 → l[j]? = some x → (m : Int) = x + 1) ∧ Hid (i = 0 → m = 0) ∧ Below w.heap.size w wr) (fun y _ => l.length - (intOf y).toNat)
  case atStart => exact ⟨0, 0, rfl, by omega, by omega, by show _ = _; simp, fun j x e => by omega, fun _ => rfl, Below.refl _ _⟩
  case round =>
    obtain ⟨i, m, rfl, hil, hm, HK, HP, HZ, hB⟩ := hrel
    by_cases hend : i < l.length
    · obtain ⟨b, off, rfl, hb, hc⟩ := H1.out.lie i hend
      have k1 := (hB.cell (p := ⟨b, off + i, none⟩) hb).trans hc
      have HN : Hid (numB 0 n l = if l[i] < (m : Int) ∨ (n : Int) ≤ l[i] then false else numB (l[i] + 1) n (l.drop (i + 1))) := by show _ = _; rw [HK.out, numB_at l _ i hend]
      have HX := (show Hid (l[i]? = some l[i]) from List.getElem?_eq_getElem hend)
      have hgo : ∀ k : Nat, l[i] = (k : Int) → ¬ (k : Int) < (m : Int) → ¬ (n : Int) ≤ (k : Int) → numB 0 n l = numB ((k + 1 : Nat) : Int) n (l.drop (i + 1)) ∧ k + 1 ≤ 1024 ∧ ∀ j x, i + 1 = j + 1 → l[j]? = some x → ((k + 1 : Nat) : Int) = x + 1 := fun k hk h1 h2 => by
        refine ⟨by rw [HN.out, hk, if_neg (by omega)]; rfl, by omega, fun j x e hx => ?_⟩
        have : j = i := by omega
        subst this
        rw [HX.out, hk] at hx
        have := Option.some.inj hx
        omega
      have HGO := (show Hid _ from hgo)
      generalize hxi : l[i] = x at *
      have HXI := (show Hid (l[i]? = some x) from HX.out)
      clear hc HK hxi hgo HX
      by_cases h1 : x < 0
      · have HE : Hid (numB 0 n l = false) := by show _ = _; rw [HN.out, if_pos (.inl (by omega))]
        have d1 : decide (x < 0) = true := decide_eq_true h1
        clear h1 HN HGO
        go_wp2_with (fail)
        go_ret
        exact ⟨by rw [HE.out]; rfl, hB⟩
      · have d1 : decide (x < 0) = false := decide_eq_false h1
        obtain ⟨k, rfl⟩ : ∃ k : Nat, x = (k : Int) := ⟨x.toNat, by omega⟩
        clear h1
        by_cases h2 : n ≤ k
        · have HE : Hid (numB 0 n l = false) := by show _ = _; rw [HN.out, if_pos (.inr (by omega))]
          have d2 : decide ((n : Int) ≤ (k : Int)) = true := decide_eq_true (by omega)
          clear HN HGO d2
          go_wp2_with (fail)
          go_ret
          exact ⟨by rw [HE.out]; rfl, hB⟩
        · have d2 : decide ((n : Int) ≤ (k : Int)) = false := decide_eq_false (by omega)
          rcases i with _ | j
          · have hm0 := HZ.out rfl
            subst hm0
            obtain ⟨g1, g2, g3⟩ := HGO.out k rfl (by omega) (by omega)
            have G1 := (show Hid _ from g1)
            have G3 := (show Hid (∀ j x, 0 + 1 = j + 1 → l[j]? = some x → ((k + 1 : Nat) : Int) = x + 1) from g3)
            have k1 : wr.cell? ⟨b, off, none⟩ = some (iv (k : Int)) := by simpa using k1
            clear HN HGO g1 g3 HP HZ
            go_wp2_with (fail)
            go_roundw
            case rel => exact ⟨1, k + 1, by go_num, by omega, g2, G1, G3, fun e => by omega, hB⟩
            case measure => simp [intOf]; omega
          · obtain ⟨b', off', e', hb', hc'⟩ := H1.out.lie j (by omega)
            cases e'
            have k2 := (hB.cell (p := ⟨b, off + j, none⟩) hb).trans hc'
            have hmp := HP.out j l[j] rfl (List.getElem?_eq_getElem (by omega))
            have hw : IntKind.i64.wrap ((j : Int) + 1 - 1) = (j : Int) := by rw [show (j : Int) + 1 - 1 = (j : Int) by omega]; exact IntWalk.i64_in _ (by omega)
            by_cases h3 : (k : Int) < (m : Int)
            · have HE : Hid (numB 0 n l = false) := by show _ = _; rw [HN.out, if_pos (.inl h3)]
              have d3 : decide ((k : Int) ≤ l[j]) = true := decide_eq_true (by omega)
              generalize l[j] = y at *
              clear HN HGO HP HZ hmp h3 hc'
              go_wp2_with (fail)
              go_ret
              exact ⟨by rw [HE.out]; rfl, hB⟩
            · have d3 : decide ((k : Int) ≤ l[j]) = false := decide_eq_false (by omega)
              obtain ⟨g1, g2, g3⟩ := HGO.out k rfl h3 (by omega)
              have G1 := (show Hid _ from g1)
              have G3 := (show Hid (∀ j' x, j + 1 + 1 = j' + 1 → l[j']? = some x → ((k + 1 : Nat) : Int) = x + 1) from g3)
              generalize l[j] = y at *
              clear HN HGO HP HZ hmp h3 hc' g1 g3
              go_wp2_with (fail)
              go_roundw
              case rel => exact ⟨j + 1 + 1, k + 1, by go_num, by omega, g2, G1, G3, fun e => by omega, hB⟩
              case measure => simp [intOf]; omega
    · have HE : Hid (numB 0 n l = true) := by show _ = _; rw [HK.out, List.drop_of_length_le (by omega)]; rfl
      clear HK
      go_wp2_with (fail)
      go_ret
      exact ⟨by rw [HE.out]; rfl, hB⟩
end Go.Proofs.Ythcekfmodmnekaa.hp
