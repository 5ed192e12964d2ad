/-
  No program: a great region may be walked in the order of its text, asked of three small tables of numbers.
-/
import Derived.Lib.QuietBelow
namespace Go.Proofs.Ytfpihoghpogblaa.st
set_option linter.unusedVariables false

def summ (ops : Array Oper) (o : Oper) : Nat × List Nat × List Nat :=
  ((match o.dst with | some d => d + 1 | none => 0), o.looksAt ops, (o.after.toList.filter (Region.binds .any)).map (·.on))
def apartS (x y : Nat × List Nat × List Nat) : Bool :=
  (match x.1 with | d + 1 => !y.2.1.any (fun e => Nat.beq e d) && !Nat.beq y.1 (d + 1) | 0 => true) && (match y.1 with | d + 1 => !x.2.1.any (fun e => Nat.beq e d) | 0 => true)
def okS : Nat → List (Nat × List Nat × List Nat) → Bool
  | _, [] => true
  | k, s :: rest => s.2.2.all (fun e => Nat.blt e k) && rest.all (fun t => t.2.2.any (fun e => Nat.beq e k) || apartS s t) && okS (k + 1) rest

theorem any_beq (l : List Nat) (d : Nat) : l.any (fun e => Nat.beq e d) = l.contains d := by
  rw [Bool.eq_iff_iff, List.any_eq_true, List.contains_iff_mem]
  constructor
  · rintro ⟨x, hx, h⟩
    rw [Nat.eq_of_beq_eq_true h] at hx
    exact hx
  · intro h
    exact ⟨d, h, Nat.beq_refl d⟩

theorem apart_summ (ops : Array Oper) (x y : Oper) (h : apartS (summ ops x) (summ ops y) = true) : x.apart ops y = true := by
  unfold apartS summ at h
  unfold Oper.apart
  simp only [any_beq, Bool.and_eq_true] at h ⊢
  refine ⟨?_, ?_⟩
  · have h1 := h.1
    cases hx : x.dst with
    | none => rfl
    | some d =>
      rw [hx] at h1
      simp only [Bool.and_eq_true] at h1 ⊢
      refine ⟨h1.1, ?_⟩
      have h2 := h1.2
      rw [bne_iff_ne]
      intro e
      rw [e] at h2
      simp [Nat.beq_refl] at h2
  · have h1 := h.2
    cases hy : y.dst with
    | none => rfl
    | some d =>
      rw [hy] at h1
      exact h1

theorem lex_from (l : List Oper) (S : List (Nat × List Nat × List Nat)) (hS : l.map (summ l.toArray) = S) : ∀ (fuel k : Nat) (listed : Array Bool), k + fuel = l.length → listed.size = l.length →
    (∀ j, j < l.length → listed[j]? = some (decide (j < k))) → okS k (S.drop k) = true → Region.lexFrom .any l.toArray fuel k listed = true := by
  intro fuel
  induction fuel with
  | zero =>
    intro k listed hk hsz hl _
    unfold Region.lexFrom Region.ready
    rw [List.isEmpty_iff, List.filter_eq_nil_iff]
    intro i hi
    have hi2 : i < l.length := by simpa using hi
    have := hl i hi2
    rw [Array.getD_eq_getD_getElem?, this]
    have : decide (i < k) = true := by simp; omega
    simp [this]
  | succ fuel ih =>
    intro k listed hk hsz hl hok
    have hkl : k < l.length := by omega
    obtain ⟨o, ho⟩ : ∃ o, l[k]? = some o := ⟨l[k], List.getElem?_eq_getElem hkl⟩
    have hoa : l.toArray[k]? = some o := by simpa using ho
    have hd : S.drop k = summ l.toArray o :: S.drop (k + 1) := by
      rw [← hS, ← List.map_drop, ← List.map_drop, List.drop_eq_getElem_cons hkl, List.map_cons]
      congr 2
      rw [List.getElem?_eq_getElem hkl] at ho
      exact Option.some.inj ho
    rw [hd] at hok
    simp only [okS, Bool.and_eq_true] at hok
    obtain ⟨⟨h1, h2⟩, h3⟩ := hok
    unfold Region.lexFrom
    simp only [Bool.and_eq_true]
    refine ⟨⟨?_, ?_⟩, ?_⟩
    · rw [List.contains_iff_mem]
      unfold Region.ready
      rw [List.mem_filter]
      refine ⟨by simpa using hkl, ?_⟩
      rw [Array.getD_eq_getD_getElem?, hl k hkl, hoa]
      simp only [Nat.lt_irrefl, decide_false, Option.getD_some, Bool.not_false, Bool.true_and, Option.map_some]
      rw [Array.all_eq_true_iff_forall_mem]
      intro e he
      by_cases hb : Region.binds .any e = true
      · have hm : e.on ∈ (summ l.toArray o).2.2 := List.mem_map.2 ⟨e, List.mem_filter.2 ⟨by simpa using he, hb⟩, rfl⟩
        have hlt : e.on < k := by
          have := List.all_eq_true.1 h1 _ hm
          exact Nat.le_of_ble_eq_true this
        rw [Array.getD_eq_getD_getElem?, hl e.on (by omega)]
        simp [hlt]
      · simp [hb]
    · unfold Region.free
      rw [hoa]
      simp only [List.all_eq_true]
      intro j hj
      have hjl : j < l.length := by simpa using hj
      by_cases hjk : j = k
      · simp [hjk]
      by_cases hjlt : j < k
      · rw [Array.getD_eq_getD_getElem?, hl j hjl]
        simp [hjlt]
      · obtain ⟨oj, hoj⟩ : ∃ o, l[j]? = some o := ⟨l[j], List.getElem?_eq_getElem hjl⟩
        have hoja : l.toArray[j]? = some oj := by simpa using hoj
        have hmem : summ l.toArray oj ∈ S.drop (k + 1) := by
          rw [← hS, ← List.map_drop]
          refine List.mem_map.2 ⟨oj, ?_, rfl⟩
          refine List.mem_of_getElem? (i := j - (k + 1)) ?_
          rw [List.getElem?_drop, show k + 1 + (j - (k + 1)) = j from by omega]
          exact hoj
        have h4 := List.all_eq_true.1 h2 _ hmem
        rw [hoja]
        simp only [Bool.or_eq_true] at h4 ⊢
        rcases h4 with h4 | h4
        · right
          left
          rw [any_beq, List.contains_iff_mem] at h4
          obtain ⟨e, he, hek⟩ := List.mem_map.1 h4
          obtain ⟨he1, he2⟩ := List.mem_filter.1 he
          rw [← Array.any_toList, List.any_eq_true]
          exact ⟨e, he1, by simp [he2, hek]⟩
        · right
          right
          exact apart_summ _ _ _ h4
    · refine ih (k + 1) _ (by omega) (by simpa using hsz) ?_ h3
      intro j hj
      rw [Array.getElem?_setIfInBounds]
      by_cases hjk : k = j
      · subst hjk
        simp [hsz, hkl]
      · rw [if_neg hjk, hl j hj]
        congr 1
        rw [decide_eq_decide]
        omega

theorem lex_of {l : List Oper} (S : List (Nat × List Nat × List Nat)) (hS : l.map (summ l.toArray) = S) (hn : Region.noSelect l.toArray = true) (hc : okS 0 S = true) : Region.lexB .any l.toArray = true := by
  simp only [Region.lexB, Bool.and_eq_true]
  refine ⟨hn, ?_⟩
  have := lex_from l S hS l.length 0 (Array.replicate l.length false) (by omega) (by simp) (fun j hj => by simp [hj]) (by simpa using hc)
  simpa using this
end Go.Proofs.Ytfpihoghpogblaa.st
