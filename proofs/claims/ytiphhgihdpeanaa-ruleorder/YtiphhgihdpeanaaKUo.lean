/-
  Contracts over this program: strings.Contains from the shelf; plain words on the order of rules, and on one rule more.
-/
import Derived.Test.YtiphhgihdpeanaaKUn
import Derived.Shelf.Strings.Search3
import Derived.Shelf.Vars
namespace Go.Proofs.Ytiphhgihdpeanaa.ru
open Go.RowKit Go.Shelf
set_option linter.unusedVariables false

def ren144 : Go.Shelf.Ren := ⟨fun | 144 => 14 | 143 => 23 | 219 => 31 | 217 => 36 | 225 => 37 | 224 => 38 | 267 => 39 | 266 => 43 | 314 => 44 | n => n, fun | 9 => 9 | 4 => 4 | 3 => 3 | 5 => 5 | 46 => 68 | 146 => 74 | 51 => 73 | n => n, fun | 1 => 0 | n => n⟩
theorem lays144 : Go.Proofs.Lays.n144 Try.prog ren144 := {
  mixed := by kernel_rfl
  f143 := Try.func23.trans (congrArg some (by kernel_rfl))
  f144 := Try.func14.trans (congrArg some (by kernel_rfl))
  f217 := Try.func36.trans (congrArg some (by kernel_rfl))
  f219 := Try.func31.trans (congrArg some (by kernel_rfl))
  f224 := Try.func38.trans (congrArg some (by kernel_rfl))
  f225 := Try.func37.trans (congrArg some (by kernel_rfl))
  f266 := Try.func43.trans (congrArg some (by kernel_rfl))
  f267 := Try.func39.trans (congrArg some (by kernel_rfl))
  f314 := Try.func44.trans (congrArg some (by kernel_rfl))
  t3 := Try.underlying3
  a3 := Try.isAgg3
  z3 := Try.sizeOf3
  v3 := Try.zeroValue3
  t4 := Try.underlying4
  a4 := Try.isAgg4
  z4 := Try.sizeOf4
  v4 := Try.zeroValue4
  t5 := Try.underlying5
  a5 := Try.isAgg5
  z5 := Try.sizeOf5
  v5 := Try.zeroValue5
  t9 := Try.underlying9
  a9 := Try.isAgg9
  z9 := Try.sizeOf9
  v9 := Try.zeroValue9
  t46 := Try.underlying68
  a46 := Try.isAgg68
  z46 := Try.sizeOf68
  v46 := Try.zeroValue68
  t51 := Try.underlying73
  a51 := Try.isAgg73
  z51 := Try.sizeOf73
  v51 := Try.zeroValue73
  t146 := Try.underlying74
  a146 := Try.isAgg74
  z146 := Try.sizeOf74
  v146 := Try.zeroValue74
  g1 := by kernel_rfl }

theorem maxLen_cell {w : World} (h : w.ShapedOpen Try.prog) : ∃ m, w.cell? ⟨0, 0, none⟩ = some (.int .i64 m) :=
  cell_of_shapedOpen_int (P := Try.prog) (g := 0) (t := 3) (zero := #[.int .i64 0]) h (of_decide_eq_true (by kernel_rfl)) (by kernel_rfl) rfl (by kernel_rfl) (by kernel_rfl) Try.underlying3
def Mx (w : World) : Prop := ∃ m, w.cell? ⟨0, 0, none⟩ = some (.int .i64 m)
theorem Mx.lt {w : World} (h : Mx w) : 0 < w.heap.size := by
  obtain ⟨m, h⟩ := h
  unfold World.cell? at h
  rcases Nat.lt_or_ge 0 w.heap.size with h1 | h1
  · exact h1
  · rw [Array.getElem?_eq_none (by simpa using h1)] at h
    simp at h
theorem Mx.below {w W : World} (h : Mx w) (b : Below w.heap.size w W) : Mx W := by
  obtain ⟨m, hm⟩ := h
  exact ⟨m, by rw [b.cell (Mx.lt ⟨m, hm⟩)]; exact hm⟩
def inn (s t : ByteArray) : Bool := Lib.contains s.data.toList t.data.toList
theorem inn_any (s t : ByteArray) (hs : s.size ≤ 3000) (w : World) (h : Mx w) (x : Bool) (hx : x = inn s t) : Calls Try.prog 14 #[.string s, .string t] w fun e w' => e = .returned (.bool x) ∧ w' = w := by
  obtain ⟨m, hm⟩ := h
  rw [hx]
  exact Any.strings_Contains lays144 s t m w (by omega) hm

theorem index_no : ∀ (s t : List UInt8), Lib.index s t = -1 → ∀ u, u <:+ s → ¬ t <+: u
  | [], t, h, u, hu, hp => by
    have : u = [] := List.suffix_nil.1 hu
    subst this
    have : t = [] := List.prefix_nil.1 hp
    subst this
    simp [Lib.index] at h
  | b :: l, t, h, u, hu, hp => by
    unfold Lib.index at h
    split at h
    · cases h
    · rename_i h1
      split at h
      · rename_i h2
        rcases List.suffix_cons_iff.1 hu with rfl | hu
        · exact h1 (List.isPrefixOf_iff_prefix.2 hp)
        · exact index_no l t (eq_of_beq h2) u hu hp
      · have := Lib.index_ge l t
        omega
theorem inn_no {s t : ByteArray} (h : inn s t = false) : ∀ u, u <:+ s.data.toList → ¬ t.data.toList <+: u := by
  unfold inn Lib.contains at h
  have h1 := of_decide_eq_false h
  exact index_no _ _ (by have := Lib.index_ge s.data.toList t.data.toList; omega)
/-- some From stands in the text -/
def stands (l : List Ru) (s : ByteArray) : Bool := l.any fun r => inn s r.fr
theorem best_same {l k : List Ru} (hl : Good l) (hk : Good k) (hm : ∀ r, r ∈ l ↔ r ∈ k) (u : List UInt8) : best l u = best k u := by
  refine isBest_unique hl (best_is l u) ?_
  have h := best_is k u
  exact ⟨fun r hr => ⟨(hm r).2 (h.1 r hr).1, (h.1 r hr).2⟩, fun r hr hp => h.2 r ((hm r).1 hr) hp⟩
def rot (l : List Ru) (b : Nat) : List Ru := l.drop b ++ l.take b
theorem rot_perm (l : List Ru) (b : Nat) : (rot l b).Perm l := by
  unfold rot
  exact List.perm_append_comm.trans (by rw [List.take_append_drop])
theorem rot_good {l : List Ru} (h : Good l) (b : Nat) : Good (rot l b) := by
  have hp := rot_perm l b
  refine ⟨by rw [hp.length_eq]; exact h.1, fun r hr => h.2.1 r (hp.mem_iff.1 hr), ?_⟩
  unfold Once
  exact (hp.map Ru.f).nodup_iff.2 h.2.2
theorem apT_same {l k : List Ru} (hl : Good l) (hk : Good k) (s : ByteArray) (hs : s.size ≤ 3000) (h : ∀ u, u <:+ s.data.toList → best l u = best k u) : apT k s = apT l s := by
  unfold apT
  rw [if_pos ⟨hk, by omega⟩, if_pos ⟨hl, by omega⟩, ap_same hl hk _ _ (Nat.le_refl _) h]
theorem rot_ap {l : List Ru} (h : Good l) (b : Nat) (s : ByteArray) (hs : s.size ≤ 3000) : apT (rot l b) s = apT l s :=
  apT_same h (rot_good h b) s hs fun u _ => best_same h (rot_good h b) (fun r => ((rot_perm l b).mem_iff).symm) u
theorem apT_idle {l : List Ru} (hg : Good l) (s : ByteArray) (hs : s.size ≤ 3000) (h : ∀ u, u <:+ s.data.toList → ∀ r, best l u = some r → r.t = r.f) : apT l s = s := by
  unfold apT
  rw [if_pos ⟨hg, by omega⟩, ap_idle hg _ _ (Nat.le_refl _) h]
  exact ba_ext (txt_list _)
theorem stands_no {l : List Ru} (hg : Good l) (s : ByteArray) (hs : s.size ≤ 3000) (h : stands l s = false) : apT l s = s := by
  refine apT_idle hg s hs fun u hu r hb => ?_
  have hr := (best_is l u).1 r hb
  have h1 := List.any_eq_false.1 h r hr.1
  exact absurd hr.2 (inn_no (by simpa using h1) u hu)
def wide (l : List Ru) (m : ByteArray) : List Ru := l ++ [⟨m, m⟩]
theorem wide_good {l : List Ru} (h : Good l) {m : ByteArray} (h1 : l.length < 64) (h2 : 1 ≤ m.size) (h3 : m.size ≤ 16) (hn : ∀ r ∈ l, r.fr ≠ m) : Good (wide l m) := by
  unfold wide
  refine ⟨by simp; omega, fun r hr => ?_, ?_⟩
  · rcases List.mem_append.1 hr with hr | hr
    · exact h.2.1 r hr
    · rw [List.mem_singleton] at hr
      rw [hr, bad_no]
      exact ⟨h2, h3, by show m.size ≤ 32; omega⟩
  · rw [once_snoc]
    refine ⟨h.2.2, List.any_eq_false.2 fun x hx => ?_⟩
    simp only [beq_iff_eq]
    exact fun e => hn x hx (ba_ext e)
theorem wide_same {l : List Ru} (h : Good l) {m : ByteArray} (hw : Good (wide l m)) (s : ByteArray) (hs : s.size ≤ 3000) (hc : inn s m = false) : apT (wide l m) s = apT l s := by
  refine apT_same h hw s hs fun u hu => isBest_unique hw ?_ (best_is _ _)
  have hb := best_is l u
  refine ⟨fun r hr => ⟨List.mem_append_left _ (hb.1 r hr).1, (hb.1 r hr).2⟩, fun r hr hp => ?_⟩
  rcases List.mem_append.1 hr with hr | hr
  · exact hb.2 r hr hp
  · rw [List.mem_singleton] at hr
    rw [hr] at hp
    exact absurd hp (inn_no hc u hu)
theorem wide_idle {l : List Ru} {m : ByteArray} (hw : Good (wide l m)) (s : ByteArray) (hs : s.size ≤ 3000) (h : stands l s = false) : apT (wide l m) s = s := by
  refine apT_idle hw s hs fun u hu r hb => ?_
  have hr := (best_is _ u).1 r hb
  rcases List.mem_append.1 hr.1 with h1 | h1
  · have h2 := List.any_eq_false.1 h r h1
    exact absurd hr.2 (inn_no (by simpa using h2) u hu)
  · rw [List.mem_singleton] at h1
    rw [h1]
    rfl
end Go.Proofs.Ytiphhgihdpeanaa.ru
