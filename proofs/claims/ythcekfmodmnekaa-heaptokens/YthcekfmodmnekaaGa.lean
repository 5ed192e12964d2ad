/-
  Plain: which numbers may be dropped, the merges that are left. Contracts over this program: heap.areNumbers, the document's Drop.
-/
import Derived.Test.YthcekfmodmnekaaMi
namespace Go.Proofs.Ythcekfmodmnekaa.hp
open Go.ChangeShapes Go.WideShapes Go.ChangeAt Go.RowKit Go.Shelf Go.Maps
open mg
set_option linter.unusedVariables false
set_option maxRecDepth 100000

def numB (least : Int) (n : Nat) : List Int → Bool
  | [] => true
  | k :: t => if k < least ∨ (n : Int) ≤ k then false else numB (k + 1) n t
theorem numB_all {n : Nat} : ∀ (l : List Int) (m : Int), 0 ≤ m → numB m n l = true → ∀ k ∈ l, m ≤ k ∧ k < (n : Int) := by
  intro l
  induction l with
  | nil => intro m _ _ k hk; cases hk
  | cons a t ih =>
    intro m hm h k hk
    rw [numB] at h
    split at h
    · cases h
    · rename_i hn
      rcases List.mem_cons.1 hk with rfl | hk
      · omega
      · have := ih (a + 1) (by omega) h k hk
        omega
theorem numB_at {n : Nat} (l : List Int) (m : Int) (i : Nat) (hi : i < l.length) : numB m n (l.drop i) = if l[i] < m ∨ (n : Int) ≤ l[i] then false else numB (l[i] + 1) n (l.drop (i + 1)) := by
  rw [List.drop_eq_getElem_cons hi, numB]
/-- the merges that are left: those that are dropped have ids that nothing has -/
def keptL (l : List Mg) (d : List Int) : List Mg := l.mapIdx fun k m => if ((k : Nat) : Int) ∈ d then (-1, -1) else m
theorem kept_len (l : List Mg) (d : List Int) : (keptL l d).length = l.length := by simp [keptL]
theorem kept_at (l : List Mg) (d : List Int) (k : Nat) : (keptL l d)[k]? = (l[k]?).map fun m => if (k : Int) ∈ d then (-1, -1) else m := by simp [keptL]
theorem kept_nil (l : List Mg) : keptL l [] = l := List.ext_getElem? fun k => by rw [kept_at]; simp
theorem kept_mem {l : List Mg} {d : List Int} {s : Mg} (hs : 0 ≤ s.1) : s ∈ keptL l d ↔ ∃ k, l[k]? = some s ∧ ((k : Nat) : Int) ∉ d := by
  constructor
  · intro h
    obtain ⟨k, hk⟩ := List.getElem?_of_mem h
    rw [kept_at] at hk
    cases e : l[k]? with
    | none => rw [e] at hk; cases hk
    | some m =>
      rw [e] at hk
      simp only [Option.map_some, Option.some.injEq] at hk
      split at hk
      · rw [← hk] at hs; simp at hs
      · rename_i hn
        subst hk
        exact ⟨k, e, hn⟩
  · rintro ⟨k, hk, hn⟩
    refine List.mem_of_getElem? (i := k) ?_
    rw [kept_at, hk]
    simp [hn]
theorem kept_idx {l : List Mg} {ts : List ByteArray} (F : Fine l ts) {d : List Int} {s : Mg} (hs : 0 ≤ s.1) {k : Nat} (hk : l[k]? = some s) (hn : ((k : Nat) : Int) ∉ d) : (keptL l d).idxOf s = k := by
  have hm := (kept_mem hs).2 ⟨k, hk, hn⟩
  have h1 := List.idxOf_lt_length_of_mem hm
  have h2 : (keptL l d)[(keptL l d).idxOf s]? = some s := by rw [List.getElem?_eq_getElem h1, List.getElem_idxOf]
  rw [kept_at] at h2
  cases e : l[(keptL l d).idxOf s]? with
  | none => rw [e] at h2; cases h2
  | some m =>
    rw [e] at h2
    simp only [Option.map_some, Option.some.injEq] at h2
    split at h2
    · rw [← h2] at hs; simp at hs
    · subst h2
      exact F.once e hk
set_option maxHeartbeats 2000000 in
theorem areNums_any (l : List Int) (n : Nat) (hn : n ≤ 1024) (v : Value) (w : World) (h : IntsV w v l) : Calls Try.prog 22 #[v, iv n] w fun e w' => e = .returned (.bool (numB 0 n l)) ∧ Below w.heap.size w w' := by
  obtain ⟨o, cap, rfl, h1⟩ := h
  have f1 := h1.fit
  have f2 := h1.top
  have H1 : Hid (Row (In w) w iv o cap l) := h1
  clear h1
  go_enter Try.func22, Try.ntmps22
  go_wp2_with (fail)
  go_loopw [10, 5] (fun y z wr => ∃ (i : Nat) (m : Nat), y = .int .i64 i ∧ z = .int .i64 m ∧ i ≤ l.length ∧ m ≤ 1024 ∧ Hid (numB 0 n l = numB m n (l.drop i)) ∧ Below w.heap.size w wr) (fun y _ _ => l.length - (intOf y).toNat)
  case atStart => exact ⟨0, 0, rfl, rfl, by omega, by omega, by show _ = _; simp, Below.refl _ _⟩
  case round =>
    obtain ⟨i, m, rfl, rfl, hil, hm, HK, hB⟩ := hrel
    by_cases hend : i < l.length
    · obtain ⟨b, off, rfl, hb, hc⟩ := H1.out.lie i hend
      have k1 := (hB.cell (p := ⟨b, off + i, none⟩) hb).trans hc
      have HN : Hid (numB 0 n l = if l[i] < (m : Int) ∨ (n : Int) ≤ l[i] then false else numB (l[i] + 1) n (l.drop (i + 1))) := by show _ = _; rw [HK.out, numB_at l _ i hend]
      generalize l[i] = x at *
      clear hc HK
      by_cases h1 : x < (m : Int)
      · have HE : Hid (numB 0 n l = false) := by show _ = _; rw [HN.out, if_pos (.inl h1)]
        have d1 : decide (x < (m : Int)) = true := decide_eq_true h1
        clear h1 HN
        go_wp2_with (fail)
        go_ret
        exact ⟨by rw [HE.out]; rfl, hB⟩
      · by_cases h2 : (n : Int) ≤ x
        · have HE : Hid (numB 0 n l = false) := by show _ = _; rw [HN.out, if_pos (.inr h2)]
          have d1 : decide (x < (m : Int)) = false := decide_eq_false h1
          have d2 : decide ((n : Int) ≤ x) = true := decide_eq_true h2
          clear h1 h2 HN
          go_wp2_with (fail)
          go_ret
          exact ⟨by rw [HE.out]; rfl, hB⟩
        · obtain ⟨k, rfl⟩ : ∃ k : Nat, x = (k : Int) := ⟨x.toNat, by omega⟩
          have HE : Hid (numB 0 n l = numB (((k + 1 : Nat) : Int)) n (l.drop (i + 1))) := by show _ = _; rw [HN.out, if_neg (by omega)]; rfl
          have h1' : ¬ k < m := by omega
          have h2' : ¬ n ≤ k := by omega
          clear h1 h2 HN
          go_wp2_with (fail)
          go_roundw
          case rel => exact ⟨i + 1, k + 1, by go_num, by go_num, by omega, by omega, HE.out, hB⟩
          case measure => simp [intOf]; omega
    · have HE : Hid (numB 0 n l = true) := by show _ = _; rw [HK.out, List.drop_of_length_le (by omega)]; rfl
      clear HK
      go_wp2_with (fail)
      go_ret
      exact ⟨by rw [HE.out]; rfl, hB⟩
end Go.Proofs.Ythcekfmodmnekaa.hp
