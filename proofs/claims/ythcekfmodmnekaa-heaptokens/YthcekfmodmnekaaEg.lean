/-
  Over this program: the signs of a text: plain; one sign more in memory.
-/
import Derived.Test.YthcekfmodmnekaaEf
import Derived.Test.YthcekfmodmnekaaMo
namespace Go.Proofs.Ythcekfmodmnekaa.en
open Go.ChangeShapes Go.WideShapes Go.ChangeAt Go.RowKit Go.Shelf Go.Maps
open mg (Mg iv OkM I64 below_alloc chain rk nx joinAt joinAt_len joinAt_get app app_some app_none IntsV RowV idsOf idsOf_len idsOf_at)
open pp (Pr plt Pil cs2)
open hp (RMap Heap Mv own_keep)
set_option linter.unusedVariables false
set_option maxRecDepth 100000

def sgn (s : ByteArray) (i : Nat) : Sg := { id := (idsOf s).getD i 0, before := (i : Int) - 1, after := (i : Int) + 1, rank := 0 }
def part (s : ByteArray) (i : Nat) : List Sg := (List.range i).map (sgn s)
theorem part_len (s : ByteArray) (i : Nat) : (part s i).length = i := by simp [part]
theorem part_succ (s : ByteArray) (i : Nat) : part s (i + 1) = part s i ++ [sgn s i] := by simp [part, List.range_succ]
theorem part_at (s : ByteArray) (n i : Nat) (h : i < n) : (part s n)[i]? = some (sgn s i) := by simp [part, h]
def S0 (s : ByteArray) : List Sg := if 0 < s.size then (part s s.size).set (s.size - 1) { sgn s (s.size - 1) with after := -1 } else []
theorem S0_len (s : ByteArray) : (S0 s).length = s.size := by
  unfold S0
  split
  · simp [part_len]
  · simp; omega
theorem range_pl (n i : Nat) (h : i < n) : pl (List.range n) i = i := by
  unfold pl
  rw [List.getD_eq_getElem?_getD, List.getElem?_eq_getElem (by simpa using h)]
  simp
theorem S0_at (s : ByteArray) (i : Nat) (h : i < s.size) : (S0 s)[i]? = some { sgn s i with after := nextOf (List.range s.size) i } := by
  unfold S0
  rw [if_pos (by omega), set_at _ _ _ _ (by rw [part_len]; omega)]
  unfold nextOf
  simp only [List.length_range]
  by_cases e : s.size - 1 = i
  · rw [if_pos e, if_neg (by omega), e]
  · rw [if_neg e, if_pos (by omega), part_at _ _ _ h, range_pl _ _ (by omega)]
    rfl
theorem half0 (K : List Mg) (s : ByteArray) : Half K (S0 s) (List.range s.size) (idsOf s) [] (fun j => 0 ≤ j) := by
  refine ⟨⟨by simp [idsOf_len], fun i j h1 h2 => ?_, fun i hi => ?_, fun i hi => ?_⟩, fun i _ h => absurd (Nat.zero_le _) h, fun p z hz hd => ?_, fun i _ h => absurd (Nat.zero_le _) h, fun x hx => (by cases hx), fun h => range_pl _ _ (by simpa using h)⟩
  · simp at h2
    rw [range_pl _ _ (by omega), range_pl _ _ h2]
    exact h1
  · simp at hi
    rw [range_pl _ _ hi, S0_len]
    exact hi
  · simp at hi
    refine ⟨_, by rw [range_pl _ _ hi, S0_at s i hi], rfl, ?_, rfl⟩
    unfold prevOf
    split
    · rename_i e; subst e; rfl
    · rw [range_pl _ _ (by omega)]
      simp only [sgn]
      omega
  · exfalso
    have := (List.getElem?_eq_some_iff.1 hz).1
    rw [S0_len] at this
    exact hd p (by simpa using this) (range_pl _ _ this)
theorem allSm (s : ByteArray) : AllSm (idsOf s) := fun i hi => by
  rw [idsOf_len] at hi
  rw [idsOf_at s i hi]
  have := s[i].toNat_lt
  unfold Sm
  omega
theorem info84 : (Try.prog.info? 84).map (fun i => (i.zero, i.size, i.bytes)) = some (some (.agg #[.int .i64 0, .int .i64 0, .int .i64 0, .int .i64 0]), 4, 32) := by kernel_rfl
abbrev v4 (x : Sg) : Array Value := #[.int .i64 x.id, .int .i64 x.before, .int .i64 x.after, .int .i64 x.rank]
theorem new4 (W : World) (x : Sg) (t : TypeId) : ∀ j u, [Value.int .i64 x.id, .int .i64 x.before, .int .i64 x.after, .int .i64 x.rank][j]? = some u → (W.alloc (.cells (v4 x) t)).cell? ((⟨W.heap.size, 0, none⟩ : Addr).add j) = some u := fun j u hx => by
  rw [show ((⟨W.heap.size, 0, none⟩ : Addr).add j) = ⟨W.heap.size, j, none⟩ by unfold Addr.add; simp; omega, Lib.cell_of_heap (World.alloc_heap_new W _)]
  rw [← hx]
  simp
theorem one4 (x : Sg) : ∀ u ∈ [Value.int .i64 x.id, .int .i64 x.before, .int .i64 x.after, .int .i64 x.rank], u.oneCell' = true := fun u hu => by
  simp at hu
  rcases hu with rfl | rfl | rfl | rfl <;> rfl
/-- a sign more, and the row's cell -/
theorem Rw.more {w w2 : World} {B rb mb g cap : Nat} {vs vp : Value} {K : List Mg} {S : List Sg} {L : List Pr} {x : Sg} (h : Rw w B rb mb vs vp K S L)
    (ho : w2.ownsRow B 84 4 (.slice (some ⟨g, 0, none⟩) (S.length + 1) cap) (S.length + 1) (cs4 S ++ [.int .i64 x.id, .int .i64 x.before, .int .i64 x.after, .int .i64 x.rank])) (hg : (w.alloc (.cells (v4 x) 84)).grownBy w2 vs.ownBlock) (hw : some g = vs.ownBlock ∨ (w.alloc (.cells (v4 x) 84)).heap.size ≤ g) :
    Rw (w2.setCell ⟨rb, 1, none⟩ (.slice (some ⟨g, 0, none⟩) (S.length + 1) cap)) B rb mb (.slice (some ⟨g, 0, none⟩) (S.length + 1) cap) vp K (S ++ [x]) L ∧ Ch B w (w2.setCell ⟨rb, 1, none⟩ (.slice (some ⟨g, 0, none⟩) (S.length + 1) cap)) ∧ w2.cell? ⟨rb, 1, none⟩ = some vs ∧ w2.frozen? ⟨rb, 1, none⟩ = false := by
  have ba := (Below.refl w.heap.size w).alloc (Nat.le_refl _) (.cells (v4 x) 84)
  have kept : ∀ k, k < w.heap.size → some k ≠ vs.ownBlock → w2.heap[k]? = w.heap[k]? := fun k hk hne => (hg.block k (Nat.lt_of_lt_of_le hk ba.size) hne).trans (ba.block k hk)
  have hb2 := (kept rb h.lt h.ns).trans h.box
  have hbg : rb ≠ g := by
    intro e
    subst e
    rcases hw with e | e
    · exact h.ns e
    · have := h.lt; have := ba.size; omega
  have oth : ∀ k, k ≠ rb → (w2.setCell ⟨rb, 1, none⟩ (.slice (some ⟨g, 0, none⟩) (S.length + 1) cap)).heap[k]? = w2.heap[k]? := fun k hk => Below.heap_setCell _ _ _ _ hk
  have bx := heap_setCell_same w2 rb 1 _ 82 (.slice (some ⟨g, 0, none⟩) (S.length + 1) cap) hb2
  refine ⟨⟨by rw [bx]; rfl, ?_, own_keep h.prs fun k eg => ?_, h.map.keep ((oth mb h.nm).trans (kept mb h.map.lt h.nsm)), h.bb⟩, ⟨hg.os.trans ba.os, hg.tape.trans ba.tape, hg.output.trans ba.output, ?_, fun k hk => ?_, fun k ob h0 h1 h2 _ => ?_⟩, by rw [Lib.cell_of_heap hb2]; rfl, Lib.frozen_of_heap hb2 1⟩
  · have := own_keep ho (W' := w2.setCell ⟨rb, 1, none⟩ (.slice (some ⟨g, 0, none⟩) (S.length + 1) cap)) fun k e => oth k (by intro e'; subst e'; cases e; exact hbg rfl)
    rw [cs4_app, List.length_append]
    exact this
  · have hk := (h.prs.lt k eg).2
    exact (oth k (fun e => h.np (by rw [← e, eg]))).trans (kept k hk (fun e => h.nsp e.symm eg))
  · rw [World.size_setCell]; exact Nat.le_trans ba.size hg.size
  · have hbb := h.bb
    have hkw : k < w.heap.size := by have := h.lt; omega
    exact (oth k (by omega)).trans (kept k hkw (fun e => by have := (h.sg.lt k e.symm).1; omega))
  · have hk := (Array.getElem?_eq_some_iff.1 h0).1
    refine (oth k (fun e => ?_)).trans ((kept k hk (fun e => ?_)).trans h0)
    · subst e; rw [h.box] at h0; cases h0; exact h1 _ _ rfl
    · obtain ⟨cs, hcs⟩ := own_cells h.sg e.symm
      rw [hcs] at h0; cases h0; exact h2 _ _ rfl
/-- no sign is left: the row is used again -/
theorem Rw.none {w : World} {B rb mb : Nat} {o : Option Addr} {n cap : Nat} {vp : Value} {K : List Mg} {S : List Sg} {L : List Pr} (h : Rw w B rb mb (.slice o n cap) vp K S L) : Rw (w.setCell ⟨rb, 1, .none⟩ (.slice o 0 cap)) B rb mb (.slice o 0 cap) vp K [] L ∧ Ch B w (w.setCell ⟨rb, 1, .none⟩ (.slice o 0 cap)) := by
  have oth : ∀ k, k ≠ rb → (w.setCell ⟨rb, 1, .none⟩ (.slice o 0 cap)).heap[k]? = w.heap[k]? := fun k hk => Below.heap_setCell _ _ _ _ hk
  have bx := heap_setCell_same w rb 1 _ 82 (.slice o 0 cap) h.box
  refine ⟨⟨by rw [bx]; rfl, ?_, own_keep h.prs fun k eg => oth k (fun e => h.np (by rw [← e, eg])), h.map.keep (oth mb h.nm), h.bb⟩, rfl, rfl, rfl, by rw [World.size_setCell]; exact Nat.le_refl _, fun k hk => oth k (by have := h.bb; omega), fun k ob h0 h1 _ _ => ?_⟩
  · refine ⟨rfl, ?_⟩
    rcases h.sg.2 with ⟨e, h0⟩ | ⟨g, cp, cur, e, hb, hg, h1, h2, h3, h4⟩
    · cases e
      exact .inl ⟨rfl, rfl⟩
    · cases e
      refine .inr ⟨g, cap, cur, rfl, hb, (oth g (fun e => h.ns (by rw [← e]; rfl))).trans hg, Nat.zero_le _, h2, h3, by simp [cs4]⟩
  · refine (oth k (fun e => ?_)).trans h0
    subst e; rw [h.box] at h0; cases h0; exact h1 _ _ rfl
end Go.Proofs.Ythcekfmodmnekaa.en
