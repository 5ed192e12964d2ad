/-
  Texts put together: Plain mathematics: what follows behind a piece is taken apart as if it stood alone; pieces, one behind the other, are the text. Contracts over this program: the document's Like (fretsawref10), at two rows that hold the same.
-/
import Derived.Test.YtfilndgbgdnpiaaKPk
import Derived.Deep.MidRow
namespace Go.Proofs.Ytfilndgbgdnpiaa.pc
open df (Dfa ends nxt acpt byteAt here Ok right width endsOf)
set_option linter.unusedVariables false

section
variable (d : Dfa) (s : ByteArray) (t0 : Nat)
/-- what stands from a place on -/
def rest' (s : ByteArray) (t0 : Nat) : ByteArray := s.extract t0 s.size
theorem rest_size : (rest' s t0).size = s.size - t0 := by unfold rest'; rw [ByteArray.size_extract]; omega
theorem rest_byte (i : Nat) (h : t0 + i < s.size) : byteAt (rest' s t0) i = byteAt s (t0 + i) := by
  have h1 : i < (rest' s t0).size := by rw [rest_size]; omega
  rw [df.byte_eq _ i h1, df.byte_eq s (t0 + i) h]
  have e : (rest' s t0)[i] = s[t0 + i] := by simp only [rest', ByteArray.getElem_extract]
  rw [e]
theorem here_rest (q t : Nat) : here d q t = (here d q (t0 + t)).map (fun x : Int => x - t0) := by
  unfold here
  split
  · simp
    omega
  · rfl
theorem ends_rest : ∀ (f t : Nat) (q : Int), t0 + t + f = s.size → ends d (rest' s t0) f q t = (ends d s f q (t0 + t)).map (fun x : Int => x - t0)
  | f, t, q, h => by
    by_cases hq : q < 0
    · rw [df.ends_neg _ _ _ _ _ hq, df.ends_neg _ _ _ _ _ hq]; rfl
    · obtain ⟨n, rfl⟩ : ∃ n : Nat, q = (n : Int) := ⟨q.toNat, by omega⟩
      cases f with
      | zero => rw [df.ends_zero, df.ends_zero, here_rest d t0]
      | succ f =>
        rw [df.ends_succ, df.ends_succ, List.map_append, ← here_rest d t0, rest_byte s t0 t (by omega)]
        congr 1
        have := ends_rest f (t + 1) (nxt d n (d.cls (byteAt s (t0 + t)))) (by omega)
        rw [this]
        rfl
theorem E_rest (q : Int) (t : Nat) (h : t0 + t ≤ s.size) : E d (rest' s t0) q t = (E d s q (t0 + t)).map (fun x : Int => x - t0) := by
  unfold E
  rw [rest_size, show s.size - t0 - t = s.size - (t0 + t) by omega]
  exact ends_rest d s t0 _ t q (by omega)
theorem stop_rest (t : Nat) (h : t0 + t ≤ s.size) : stop d s (t0 + t) = t0 + stop d (rest' s t0) t := by
  have e1 := stop_eq d s (t0 + t)
  have e2 := stop_eq d (rest' s t0) t
  rw [E_rest d s t0 0 t h] at e2
  unfold lastOr at e1 e2
  rw [List.getLast?_map] at e2
  cases hl : (E d s 0 (t0 + t)).getLast? with
  | none => rw [hl] at e1 e2; simp at e1 e2; omega
  | some x => rw [hl] at e1 e2; simp at e1 e2; omega
theorem pcs_rest : ∀ (f t : Nat), pcs d s f (t0 + t) = (pcs d (rest' s t0) f t).map (fun p => (t0 + p.1, t0 + p.2))
  | 0, t => rfl
  | f + 1, t => by
    unfold pcs
    rw [rest_size]
    by_cases h : t0 + t < s.size
    · rw [if_pos h, if_pos (by omega), stop_rest d s t0 t (by omega), pcs_rest f]
      rfl
    · rw [if_neg h, if_neg (by omega)]
      rfl
theorem all_rest : all d s t0 = (all d (rest' s t0) 0).map (fun p => (t0 + p.1, t0 + p.2)) := by
  unfold all
  rw [rest_size]
  exact pcs_rest d s t0 (s.size - t0) 0
end
theorem all_in (d : Dfa) (s : ByteArray) : ∀ (f t : Nat), s.size ≤ t + f → ∀ p ∈ all d s t, t ≤ p.1 ∧ p.1 < p.2 ∧ p.2 ≤ s.size
  | 0, t, h, p, hp => by rw [all_end d s t (by omega)] at hp; cases hp
  | f + 1, t, h, p, hp => by
    by_cases e : t < s.size
    · rw [all_more d s t e] at hp
      have h1 := stop_gt d s t
      have h2 := stop_le d s t e
      rcases List.mem_cons.1 hp with rfl | hp
      · exact ⟨Nat.le_refl _, h1, h2⟩
      · have := all_in d s f (stop d s t) (by omega) p hp
        omega
    · rw [all_end d s t (by omega)] at hp; cases hp
def textsAt (d : Dfa) (s : ByteArray) (t : Nat) : List ByteArray := (all d s t).map fun p => s.extract p.1 p.2
theorem texts_rest (d : Dfa) (s : ByteArray) (t0 : Nat) (h : t0 ≤ s.size) : textsAt d s t0 = textsL d (rest' s t0) := by
  unfold textsAt textsL
  rw [all_rest d s t0, List.map_map]
  refine List.map_congr_left fun p hp => ?_
  have := all_in d (rest' s t0) (rest' s t0).size 0 (by omega) p hp
  rw [rest_size] at this
  show s.extract (t0 + p.1) (t0 + p.2) = (s.extract t0 s.size).extract p.1 p.2
  rw [ByteArray.extract_extract, Nat.min_eq_left (by omega)]
theorem texts_drop (d : Dfa) (s : ByteArray) : ∀ k, k ≤ (textsL d s).length → ∃ t, t ≤ s.size ∧ (textsL d s).drop k = textsAt d s t
  | 0, _ => ⟨0, Nat.zero_le _, rfl⟩
  | k + 1, h => by
    obtain ⟨t, ht, e⟩ := texts_drop d s k (by omega)
    have hl : ((textsL d s).drop k).length = (textsL d s).length - k := List.length_drop
    have hlt : t < s.size := by
      rcases Nat.lt_or_ge t s.size with z | z
      · exact z
      · rw [e, textsAt, all_end d s t z] at hl
        simp at hl
        omega
    refine ⟨stop d s t, stop_le d s t hlt, ?_⟩
    rw [← List.drop_drop, e]
    unfold textsAt
    rw [all_more d s t hlt]
    rfl
/-- texts, one behind the other -/
def cat : List ByteArray → ByteArray
  | [] => ByteArray.empty
  | x :: l => x ++ cat l
theorem cat_texts (d : Dfa) (s : ByteArray) : ∀ (f t : Nat), s.size ≤ t + f → cat (textsAt d s t) = s.extract t s.size
  | 0, t, h => by
    unfold textsAt
    rw [all_end d s t (by omega), List.map_nil, cat]
    exact (ByteArray.extract_eq_empty_iff.2 (by omega)).symm
  | f + 1, t, h => by
    by_cases e : t < s.size
    · have h1 := stop_gt d s t
      have h2 := stop_le d s t e
      have ih := cat_texts d s f (stop d s t) (by omega)
      unfold textsAt at ih ⊢
      rw [all_more d s t e, List.map_cons, cat, ih]
      show s.extract t (stop d s t) ++ s.extract (stop d s t) s.size = _
      rw [ByteArray.extract_append_extract, Nat.min_eq_left (by omega), Nat.max_eq_right (by omega)]
    · unfold textsAt
      rw [all_end d s t (by omega), List.map_nil, cat]
      exact (ByteArray.extract_eq_empty_iff.2 (by omega)).symm
theorem cat_all (d : Dfa) (s : ByteArray) : cat (textsL d s) = s := by
  have := cat_texts d s s.size 0 (by omega)
  rw [ByteArray.extract_zero_size] at this
  exact this
theorem texts_full (d : Dfa) (s : ByteArray) : ∀ x ∈ textsL d s, x ≠ ByteArray.empty := by
  intro x hx e
  unfold textsL at hx
  obtain ⟨p, hp, rfl⟩ := List.mem_map.1 hx
  have := all_in d s s.size 0 (by omega) p hp
  have h2 : (s.extract p.1 p.2).size = 0 := by rw [e]; rfl
  rw [ByteArray.size_extract] at h2
  omega
end Go.Proofs.Ytfilndgbgdnpiaa.pc

namespace Go.Proofs.Ytfilndgbgdnpiaa.pc
open Go.RowKit Go.Shelf
open df (Dfa Row In)
set_option linter.unusedVariables false

set_option maxHeartbeats 1000000 in
theorem like_same (l : List ByteArray) (v1 v2 : Value) (w : World) (h1 : StrsV w v1 l) (h2 : StrsV w v2 l) : Calls Try.prog 24 #[v1, v2] w fun e w' => e = .returned (.bool true) ∧ Below w.heap.size w w' := by
  obtain ⟨o, cap, rfl, h1⟩ := h1
  obtain ⟨o', cap', rfl, h2⟩ := h2
  have f1 := h1.fit
  have f2 := h1.top
  have f3 := h2.fit
  have f4 := h2.top
  have H1 : Hid (Row (In w) w Value.string o cap l) := h1
  have H2 : Hid (Row (In w) w Value.string o' cap' l) := h2
  clear h1 h2
  go_enter Try.func24, Try.ntmps24
  go_wp2_with (fail)
  go_loopw [13] (fun y wr => ∃ i : Nat, y = .int .i64 i ∧ i ≤ l.length ∧ Below w.heap.size w wr) (fun y _ => l.length - (intOf y).toNat)
  case atStart => exact ⟨0, rfl, by omega, Below.refl _ _⟩
  case round =>
    obtain ⟨i, rfl, hil, hB⟩ := hrel
    by_cases hend : i < l.length
    · obtain ⟨b, off, rfl, hb, hc⟩ := H1.out.lie i hend
      obtain ⟨b', off', rfl, hb', hc'⟩ := H2.out.lie i hend
      have k1 := (hB.cell (p := ⟨b, off + i, none⟩) hb).trans hc
      have k2 := (hB.cell (p := ⟨b', off' + i, none⟩) hb').trans hc'
      generalize l[i] = x at *
      clear hc hc'
      go_wp2_with (fail)
      go_quiet (fail)
      go_wp2_with (fail)
      go_roundw
      case rel => exact ⟨i + 1, by go_num, by omega, df.below_drewN hB _⟩
      case measure => simp [intOf]; omega
    · go_wp2_with (fail)
      go_ret
      exact ⟨rfl, hB⟩
end Go.Proofs.Ytfilndgbgdnpiaa.pc
