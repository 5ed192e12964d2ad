/-
  Contracts over this program: how long the rules' Froms are, the greatest first (rule.lengths).
-/
import Derived.Test.YtiphhgihdpeanaaKUe
namespace Go.Proofs.Ytiphhgihdpeanaa.ru
open Go.ChangeShapes Go.WideShapes Go.ChangeAt Go.RowKit
set_option linter.unusedVariables false

theorem compact_sub (l : List Int) : (Lib.compact l).Sublist l := by
  unfold Lib.compact Lib.compactUpTo
  have h : ((List.range l.length).filter (Lib.keeps l.toArray)).Sublist (List.range l.length) := List.filter_sublist
  have h2 := h.map (fun i => l.toArray[i]!)
  have e : (List.range l.length).map (fun i => l.toArray[i]!) = l := by
    apply List.ext_getElem?
    intro i
    rw [List.getElem?_map]
    by_cases hi : i < l.length
    · rw [List.getElem?_range hi, List.getElem?_eq_getElem hi, Option.map_some, getElem!_pos _ _ (by simpa using hi)]
      simp
    · rw [List.getElem?_eq_none (by simp; omega), List.getElem?_eq_none (by omega)]
      rfl
  rw [e] at h2
  exact h2
theorem compact_mem (l : List Int) : ∀ j, j < l.length → l.toArray[j]! ∈ Lib.compact l := by
  intro j
  induction j with
  | zero =>
    intro hj
    unfold Lib.compact Lib.compactUpTo
    exact List.mem_map.2 ⟨0, List.mem_filter.2 ⟨List.mem_range.2 hj, by simp [Lib.keeps]⟩, rfl⟩
  | succ j ih =>
    intro hj
    by_cases hk : Lib.keeps l.toArray (j + 1) = true
    · unfold Lib.compact Lib.compactUpTo
      exact List.mem_map.2 ⟨j + 1, List.mem_filter.2 ⟨List.mem_range.2 hj, hk⟩, rfl⟩
    · unfold Lib.keeps at hk
      simp only [decide_eq_true_eq, not_or] at hk
      have e := Classical.not_not.1 hk.2
      rw [e, Nat.add_sub_cancel]
      exact ih (by omega)
theorem compact_iff (l : List Int) (n : Int) : n ∈ Lib.compact l ↔ n ∈ l := by
  refine ⟨fun h => (compact_sub l).subset h, fun h => ?_⟩
  obtain ⟨j, hj, rfl⟩ := List.mem_iff_getElem.1 h
  have := compact_mem l j hj
  rw [getElem!_pos _ _ (by simpa using hj)] at this
  simpa using this

def lenL (l : List Ru) : List Int := l.map fun r => (r.fr.size : Int)
def lensOf (l : List Ru) : List Int := Lib.compact (sorted (lenL l)).reverse
theorem lens_mem (l : List Ru) (n : Int) : n ∈ lensOf l ↔ ∃ r ∈ l, (r.fr.size : Int) = n := by
  unfold lensOf sorted lenL
  rw [compact_iff, List.mem_reverse, (List.mergeSort_perm _ _).mem_iff, List.mem_map]
theorem lens_down (l : List Ru) : (lensOf l).Pairwise (fun a b => b ≤ a) := by
  unfold lensOf
  refine List.Pairwise.sublist (compact_sub _) ?_
  rw [List.pairwise_reverse]
  have h1 : (sorted (lenL l)).Pairwise (fun a b => decide (a ≤ b) = true) := List.pairwise_mergeSort (le := fun a b => decide (a ≤ b)) (fun a b c h1 h2 => by simp at *; omega) (fun a b => by simp; omega) _
  exact h1.imp (fun h => by simpa using h)
theorem lens_length (l : List Ru) : (lensOf l).length ≤ l.length := by
  unfold lensOf
  refine Nat.le_trans (compact_len _) ?_
  unfold sorted lenL
  simp [List.length_mergeSort]
theorem lenL_take (l : List Ru) (i : Nat) (h : i < l.length) : lenL (l.take (i + 1)) = lenL (l.take i) ++ [((nth l i).fr.size : Int)] := by
  rw [take_nth l i h]
  simp [lenL]

theorem info3 : (Try.prog.info? 3).map (fun i => (i.zero, i.size, i.bytes)) = some (some (.int .i64 0), 1, 8) := by kernel_rfl
theorem Owns.lt {W : World} {B : Nat} {v : Value} {l : List Int} (h : Owns W B v l) : ∀ k, v.ownBlock = some k → B ≤ k := fun k hk => (ow.lt h hk).1

def LensIs (l : List Ru) : Prop := ∀ v w, Rus w v l → Calls Try.prog 29 #[v] w fun e w' => ∃ v', e = .returned v' ∧ Owns w' w.heap.size v' (lensOf l) ∧ Below w.heap.size w w'

set_option maxHeartbeats 2000000 in
set_option maxRecDepth 100000 in
theorem lens_any (l : List Ru) (hl64 : l.length ≤ 64) : LensIs l := by
  intro v w hv
  have h33 := sort_any (lenL l) (by unfold lenL; simp; omega)
  have h34 := rev_any (sorted (lenL l)) (by unfold sorted lenL; simp [List.length_mergeSort]; omega)
  have h35 := cmp_any (sorted (lenL l)).reverse (by unfold sorted lenL; simp [List.length_mergeSort]; omega)
  have HE := (show Hid (Lib.compact (sorted (lenL l)).reverse = lensOf l) from rfl)
  unfold CmpIs at h35
  rw [HE.out] at h35
  generalize lensOf l = LO at *
  unfold SortIs at h33
  unfold RevIs at h34
  obtain ⟨L0, HL0⟩ : ∃ L0, Hid (L0 = lenL l) := ⟨_, rfl⟩
  clear HE
  rw [← HL0.out] at h33 h34 h35
  generalize sorted L0 = S1 at *
  generalize S1.reverse = S2 at *
  rcases hv with ⟨rfl, a, cap, rfl⟩ | ⟨b, off, cap, rfl, hl, hm, hlt, hc⟩
  · go_enter Try.func29, Try.ntmps29
    go_wp2
    go_loopw [3, 8] (fun u x wr => u = .slice none 0 0 ∧ x = .int .i64 0 ∧ wr = w) (fun _ _ _ => 0)
    case atStart => exact ⟨rfl, rfl, rfl⟩
    case round =>
      obtain ⟨rfl, rfl, rfl⟩ := hrel
      have e0 : L0 = [] := HL0.out
      have c33 := h33 wr.heap.size (.slice none 0 0) wr (by rw [e0]; exact World.ownsRow_nil _ _ _ _)
      clear h33 HL0 e0
      go_wp2_with (first | (go_at_call 33; refine c33.mono ?_; rintro e w1 ⟨⟨r, rfl⟩, o1, g1⟩; have c34 := h34 _ _ _ o1; have b1 := (Below.refl wr.heap.size wr).grown g1 (Nat.le_refl _) (by simp [Value.ownBlock])) | (go_at_call 34; refine c34.mono ?_; rintro e w2 ⟨⟨r2, rfl⟩, o2, g2⟩; have c35 := h35 _ _ _ o2; have b2 := b1.grown g2 b1.size (by simp [Value.ownBlock])) | (go_at_call 35; refine c35.mono ?_; rintro e w3 ⟨v3, rfl, o3, g3⟩; have b3 := b2.grown g3 b2.size (by simp [Value.ownBlock])))
      go_ret
      exact ⟨_, rfl, o3, b3⟩
  · go_enter Try.func29, Try.ntmps29
    go_wp2
    go_loopw [3, 8] (fun u x wr => ∃ (i : Nat), x = .int .i64 i ∧ i ≤ l.length ∧ Owns wr w.heap.size u (lenL (l.take i)) ∧ Below w.heap.size w wr) (fun _ x _ => l.length - (intOf x).toNat)
    case atStart => exact ⟨0, rfl, by omega, World.ownsRow_nil _ _ _ _, Below.refl _ _⟩
    case round =>
      obtain ⟨i, rfl, hi, hO, hB⟩ := hrel
      by_cases hend : i < l.length
      · obtain ⟨hc1, hc2⟩ := hc i hend
        rw [← hB.cell (p := ⟨b, off + i * 2, none⟩) hlt] at hc1
        rw [← hB.cell (p := ⟨b, off + i * 2 + 1, none⟩) hlt] at hc2
        have hlt2 : (lenL (l.take i)).length = i := by unfold lenL; simp; omega
        have HN := (show Hid (∀ W v, W.ownsRow w.heap.size 3 1 v (i + 1) ((lenL (l.take i)).map (Value.int .i64) ++ [.int .i64 ((nth l i).fr.size : Int)]) → Owns W w.heap.size v (lenL (l.take (i + 1)))) from fun W v h => by
          unfold Owns
          rw [lenL_take l i hend, List.map_append, List.length_append, hlt2]
          exact h)
        generalize nth l i = r at *
        have hO1 : (((wr.alloc (.cells #[.string r.fr, .string r.to] 34)).alloc (.cells #[.int .i64 (r.fr.size : Int)] 3))).ownsRow w.heap.size 3 1 u3 i ((lenL (l.take i)).map (Value.int .i64)) := by
          have := ow.later (ow.later hO ((Below.refl _ _).alloc (Nat.le_refl _) (.cells #[.string r.fr, .string r.to] 34))) ((Below.refl _ _).alloc (Nat.le_refl _) (.cells #[.int .i64 (r.fr.size : Int)] 3))
          rw [hlt2] at this
          exact this
        have hB1 : Below w.heap.size w ((wr.alloc (.cells #[.string r.fr, .string r.to] 34)).alloc (.cells #[.int .i64 (r.fr.size : Int)] 3)) := (hB.alloc hB.size _).alloc (by simp; have := hB.size; omega) _
        have hOb : ∀ k, u3.ownBlock = some k → w.heap.size ≤ k := hO.lt
        have hnew : ∀ j u, [Value.int .i64 (r.fr.size : Int)][j]? = some u → ((wr.alloc (.cells #[.string r.fr, .string r.to] 34)).alloc (.cells #[.int .i64 (r.fr.size : Int)] 3)).cell? ((⟨wr.heap.size + 1, 0, none⟩ : Addr).add j) = some u := by
          have := ow.new1 (wr.alloc (.cells #[.string r.fr, .string r.to] 34)) (.int .i64 (r.fr.size : Int)) 3
          rw [World.size_alloc] at this
          exact this
        have HNW := (show Hid _ from hnew)
        have HO1 := (show Hid _ from hO1)
        have hsz1 := hB1.size
        obtain ⟨og, oc, hu3, hoc1, hoc2⟩ := ow.form hO1
        subst hu3
        clear hc hO hB hnew hO1
        go_wp2_with (at_builtin; refine ow.wpList_append (by rfl) (.tmp 12) (.tmp 16) 40 (by rfl) 3 (.int .i64 0) 1 8 Try.underlying40 info3 (by rfl) (by decide) (by decide) w.heap.size (.slice og i oc) i _ (wr.heap.size + 1) [.int .i64 (r.fr.size : Int)] (by rfl) (by rfl) (by exact HO1.out) (by rfl) (by exact HNW.out) (by exact ow.one1 _ rfl) (by omega) (by exact hsz1) ?_; intro g' cap' w4 o4 g4 _; have b4 := hB1.grown g4 hB1.size hOb)
        go_roundw
        case rel => exact ⟨i + 1, by go_num, by omega, HN.out _ _ o4, b4⟩
        case measure => simp [intOf]; omega
      · have he : i = l.length := by omega
        subst he
        rw [List.take_length, ← HL0.out] at hO
        have c33 := h33 _ _ _ hO
        have hOb : ∀ k, u3.ownBlock = some k → w.heap.size ≤ k := hO.lt
        clear hc
        go_wp2_with (first | (go_at_call 33; refine c33.mono ?_; rintro e w1 ⟨⟨r, rfl⟩, o1, g1⟩; have c34 := h34 _ _ _ o1; have b1 := hB.grown g1 hB.size hOb) | (go_at_call 34; refine c34.mono ?_; rintro e w2 ⟨⟨r2, rfl⟩, o2, g2⟩; have c35 := h35 _ _ _ o2; have b2 := b1.grown g2 b1.size hOb) | (go_at_call 35; refine c35.mono ?_; rintro e w3 ⟨v3, rfl, o3, g3⟩; have b3 := b2.grown g3 b2.size hOb))
        go_ret
        exact ⟨_, rfl, o3, b3⟩
end Go.Proofs.Ytiphhgihdpeanaa.ru
