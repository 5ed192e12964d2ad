/-
  Plain mathematics: of small machines there is never too much of anything.
-/
import Derived.Test.YtafcekognhkmgaaKl
namespace Go.Proofs.Ytafcekognhkmgaa.mk
open tr
set_option linter.unusedVariables false

theorem few_of {α : Type} [DecidableEq α] : ∀ {L M : List α}, L.Nodup → (∀ a ∈ L, a ∈ M) → L.length ≤ M.length
  | [], M, _, _ => Nat.zero_le _
  | x :: L, M, hd, hs => by
    have hx := hs x (List.mem_cons_self ..)
    have h1 := few_of (L := L) (M := M.erase x) (List.nodup_cons.1 hd).2 (fun b hb => (List.mem_erase_of_ne (fun (e : b = x) => (List.nodup_cons.1 hd).1 (by rw [← e]; exact hb))).2 (hs b (List.mem_cons_of_mem _ hb)))
    have h2 := List.length_erase_of_mem hx
    have h3 := List.length_pos_of_mem hx
    rw [List.length_cons]
    omega
theorem pairs_le {l : List St} {n m : Nat} (hd : l.Nodup) (h : ∀ s ∈ l, s.1 < n ∧ s.2 < m) : l.length ≤ n * m := by
  have := few_of hd (M := (List.range n).flatMap fun x => (List.range m).map fun y => (x, y)) (fun s hs => by
    have := h s hs
    exact List.mem_flatMap.2 ⟨s.1, List.mem_range.2 this.1, List.mem_map.2 ⟨s.2, List.mem_range.2 this.2, rfl⟩⟩)
  have e : ∀ n : Nat, ((List.range n).flatMap fun x => (List.range m).map fun y => (x, y)).length = n * m := by
    intro n
    induction n with
    | zero => simp
    | succ n ih =>
      rw [List.range_succ, List.flatMap_append, List.length_append, ih, Nat.succ_mul]
      simp
  have := e n
  omega
section
variable {m : Mc}
theorem tx8 (h : ∀ t ∈ m.txt, t.size ≤ 8) (k : Nat) : (tx m k).data.toList.length ≤ 8 := by
  rw [list_len]
  unfold tx
  rw [List.getD_eq_getElem?_getD]
  cases e : m.txt[k]? with
  | none => simp [ByteArray.size]
  | some t => exact h t (List.mem_of_getElem? e)
theorem outp9 (h : ∀ t ∈ m.txt, t.size ≤ 8) (s : Nat) (c : UInt8) : (outp m s c).length ≤ 9 := by
  unfold outp
  rw [List.length_append]
  have := tx8 h (pt m s c.toNat / 2)
  have : (if pt m s c.toNat % 2 = 1 then [c] else []).length ≤ 1 := by split <;> simp
  omega
theorem go9 (h : ∀ t ∈ m.txt, t.size ≤ 8) (l : List UInt8) : ∀ s, (go m s l).1.length ≤ l.length * 9 := by
  induction l with
  | nil => intro s; simp [go]
  | cons c l ih =>
    intro s
    simp only [go, List.length_append, List.length_cons]
    have := outp9 h s c
    have := ih (nx m s c.toNat)
    omega
end
theorem Pl.small {a b : Mc} {d : Kq} {i : Nat} (h : Pl a b d i) (hi : i ≤ d.sts.length) (ha : a.next.length ≤ 10) (hb : b.next.length ≤ 10) (h1 : a.next.length = 1 ∨ b.next.length = 1) (ta : ∀ t ∈ a.txt, t.size ≤ 8) (tb : ∀ t ∈ b.txt, t.size ≤ 8) :
    ¬ (1200 < d.sts.length ∨ 4096 < d.txs.length ∨ ∃ t ∈ d.txs, 4096 < t.size) := by
  have hp := pairs_le h.nd h.ins
  have hle : d.sts.length ≤ 10 := by
    rcases h1 with e | e
    · rw [e, Nat.one_mul] at hp; omega
    · rw [e, Nat.mul_one] at hp; omega
  have hct := h.ct
  rintro (h2 | h2 | ⟨t, ht, h2⟩)
  · omega
  · omega
  · have hl := list_len t
    obtain ⟨s, _, _, h3⟩ := h.tt t ht
    rcases h3 with ⟨c, odd, x, _, _, h4⟩ | h4
    · have h5 := go9 tb (outp a s.1 c) s.2
      have h6 := outp9 ta s.1 c
      rcases h4 with h4 | h4
      · rw [h4] at h5
        simp only [List.length_append] at h5
        omega
      · have := h4.2
        omega
    · have h5 := go9 tb (tx a (en a s.1)).data.toList s.2
      have h6 := tx8 ta (en a s.1)
      have h7 := tx8 tb (en b (tr.go b s.2 (tx a (en a s.1)).data.toList).2)
      have h8 : (tr.total b s.2 (tx a (en a s.1)).data.toList).length ≤ 80 := by
        unfold tr.total
        rw [List.length_append]
        omega
      rcases h4 with h4 | h4
      · rw [h4] at h8
        omega
      · have := h4.2
        omega
end Go.Proofs.Ytafcekognhkmgaa.mk
