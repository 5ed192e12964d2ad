/-
  Contracts over this program: strings.HasPrefix; plain words on a text's last bytes.
-/
import Derived.Test.YtiphhgihdpeanaaKArg
namespace Go.Proofs.Ytiphhgihdpeanaa.ru
open Go.ChangeShapes Go.WideShapes Go.ChangeAt Go.RowKit
set_option linter.unusedVariables false

def pre (s t : ByteArray) : Bool := t.data.toList.isPrefixOf s.data.toList
theorem pre_long {s t : ByteArray} (h : s.size < t.size) : pre s t = false := by
  unfold pre
  rw [Bool.eq_false_iff]
  intro hp
  have := (List.isPrefixOf_iff_prefix.1 hp).length_le
  rw [list_len, list_len] at this
  omega
theorem pre_eq2 {s t : ByteArray} (h : t.size ≤ s.size) : pre s t = ((s.extract 0 t.size).toList == t.toList) := by
  unfold pre
  rw [ByteArray.toList_eq, ByteArray.toList_eq, extract_list, Bool.eq_iff_iff, List.isPrefixOf_iff_prefix, beq_iff_eq]
  constructor
  · intro hp
    have := List.prefix_iff_eq_take.1 hp
    rw [list_len] at this
    exact this.symm
  · intro e
    rw [← e]
    exact List.take_prefix _ _
set_option maxHeartbeats 1000000 in
set_option maxRecDepth 100000 in
theorem pre24 (s t : ByteArray) (hs : s.size ≤ 140737488355328) (ht : t.size ≤ 140737488355328) (x : Bool) (hx : x = pre s t) (w : World) : Calls Try.prog 24 #[.string s, .string t] w fun e w' => e = .returned (.bool x) ∧ w' = w := by
  by_cases h : t.size ≤ s.size
  · have HX := (show Hid (((s.extract 0 t.size).toList == t.toList) = x) from by show _ = _; rw [hx, pre_eq2 h])
    have h1 : (t.size : Int) ≤ (s.size : Int) := by omega
    clear hx
    go_enter Try.func24, Try.ntmps24
    go_wp2
    go_ret
    refine ⟨?_, rfl⟩
    rw [← HX.out]
    rfl
  · have h1 : (s.size : Int) < (t.size : Int) := by omega
    obtain rfl : x = false := by rw [hx, pre_long (by omega)]
    clear hx
    go_enter Try.func24, Try.ntmps24
    go_wp2
    go_ret
    exact ⟨rfl, rfl⟩
theorem pre_any (s t : ByteArray) (hs : s.size ≤ 140737488355328) (ht : t.size ≤ 140737488355328) (x : Bool) (hx : x = pre s t) (w : World) : Calls Try.prog 15 #[.string s, .string t] w fun e w' => e = .returned (.bool x) ∧ w' = w := by
  have h := pre24 s t hs ht x hx
  clear hx
  go_enter Try.func15, Try.ntmps15
  go_wp2_with (go_at_call 24; refine (h _).mono ?_; rintro e w1 ⟨rfl, rfl⟩)
  go_ret
  exact ⟨rfl, rfl⟩
/-- none of the last bytes begins a From -/
def Clean (l : List Ru) (a : ByteArray) (n : Nat) : Prop := ∀ k, 1 ≤ k → k < n → k ≤ a.size → ∀ r ∈ l, pre r.fr (a.extract (a.size - k) a.size) = false
theorem clean_all {l : List Ru} (hg : Good l) {a : ByteArray} {n : Nat} (h : Clean l a n) (hn : a.size < n ∨ 16 < n) : ∀ u, u <:+ a.data.toList → u ≠ [] → ∀ r ∈ l, ¬ u <+: r.f := by
  intro u hu hne r hr hp
  have h1 := hu.length_le
  rw [list_len] at h1
  have h2 : 1 ≤ u.length := List.length_pos_iff.2 hne
  have h3 := hp.length_le
  have h4 := hg.pos hr
  have h5 := h u.length h2 (by omega) h1 r hr
  unfold pre at h5
  rw [drop_list] at h5
  have e : a.data.toList.drop (a.size - u.length) = u := by
    have := List.suffix_iff_eq_drop.1 hu
    rw [list_len] at this
    exact this.symm
  rw [e] at h5
  rw [Bool.eq_false_iff] at h5
  exact h5 (List.isPrefixOf_iff_prefix.2 hp)
theorem append_list (a b : ByteArray) : (a ++ b).data.toList = a.data.toList ++ b.data.toList := by
  rw [ByteArray.toList_data_append]
theorem ba_list {a b : ByteArray} (h : a.data.toList = b.data.toList) : a = b := ba_ext h
theorem apT_append {l : List Ru} (hg : Good l) {a b : ByteArray} (ha : a.size ≤ 1000) (hb : b.size ≤ 1000) (h : ∀ u, u <:+ a.data.toList → u ≠ [] → ∀ r ∈ l, ¬ u <+: r.f) : apT l (a ++ b) = apT l a ++ apT l b := by
  have hab : (a ++ b).size = a.size + b.size := by rw [ByteArray.size_append]
  unfold apT
  rw [if_pos ⟨hg, by omega⟩, if_pos ⟨hg, by omega⟩, if_pos ⟨hg, by omega⟩]
  refine ba_ext ?_
  rw [append_list, txt_list, append_list, txt_list, txt_list]
  exact ap_append hg _ _ _ (Nat.le_refl _) h
section
variable {op : Oper} {a : Act} {w : World}
theorem x_slice9f {x y : Operand} {s : ByteArray} {m : Nat} (h : op.op = .slice 9 x (some y) none none) (hx : a.eval x = .string s) (hy : a.eval y = .int .i64 (m : Int)) (hm : m ≤ s.size) : (execOp a.eval op).run Try.prog w = .ok (.value (.string (s.extract m s.size))) w := by
  have h1 : (m : Int) ≤ (s.size : Int) := by omega
  unfold execOp; rw [h]; simp only [hx, hy, Option.map]; go_simp
theorem x_load9 {x : Operand} {p : Addr} {v : Value} (h : op.op = .load 9 x) (hx : a.eval x = .pointer (some p)) (hc : w.cell? p = some v) : (execOp a.eval op).run Try.prog w = .ok (.value v) w := by
  unfold execOp; rw [h]; simp only [hx]; go_simp
end
end Go.Proofs.Ytiphhgihdpeanaa.ru
