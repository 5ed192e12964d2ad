/-
  Contracts over this program: fretsawref07's from as a whole; its Ends.
-/
import Derived.Test.YtfilndgbgdnpiaaKXi
import Derived.Test.YtfilndgbgdnpiaaKArg
import Derived.Test.YtfilndgbgdnpiaaKAp
namespace Go.Proofs.Ytfilndgbgdnpiaa.nb
open Go.ChangeShapes Go.WideShapes Go.ChangeAt Go.RowKit
open st (Tr Q4 nodesOf goods okNode Is Box nthT)
open nf (Ed IRow icells dOf)
open df (Row iv In IntsV)
set_option linter.unusedVariables false

set_option maxHeartbeats 4000000 in
set_option maxRecDepth 100000 in
theorem from4 (s : ByteArray) (hs : s.size ≤ 60) (t : Tr) (hk : t.kind = 4) (hrep : RepIs s t) : FromIs s t := by
  intro S P g tv w Q0 hP hR hI
  obtain ⟨o, n0, cap0, rfl⟩ := hI.shape
  have hm : ∀ W, (Instr.makeSlice 79 (.int .i64 ((s.size : Int) + 1)) (.int .i64 ((s.size : Int) + 1))).run Try.prog W = .ok (.slice (some ⟨W.heap.size, 0, none⟩) (s.size + 1) (s.size + 1)) (W.alloc (.cells (icells (List.replicate (s.size + 1) 0)) 3)) := fun W => by
    have := make79 (s.size + 1) (by omega) W
    rw [Int.natCast_add] at this
    exact this
  obtain ⟨w2, HW2⟩ : ∃ w2, Hid (w2 = (w.alloc (.cells #[.int .i64 t.kind, .int .u64 t.set.a, .int .u64 t.set.b, .int .u64 t.set.c, .int .u64 t.set.d, .int .i64 t.min, .int .i64 t.max, .slice o n0 cap0] 28)).alloc (.cells (icells (List.replicate (s.size + 1) 0)) 3)) := ⟨_, rfl⟩
  have HT0 := (show Hid _ from two_new w t _ (s.size + 1) w2 HW2.out)
  have c58 := hrep S P g _ w2 _ hP (hR.later HT0.out.be) (hI.later HT0.out.be)
  have hbx : ((w.alloc (.cells #[.int .i64 t.kind, .int .u64 t.set.a, .int .u64 t.set.b, .int .u64 t.set.c, .int .u64 t.set.d, .int .i64 t.min, .int .i64 t.max, .slice o n0 cap0] 28)).alloc (.cells (icells (List.replicate (s.size + 1) 0)) 3)).heap[w.heap.size]? = some (.cells #[.int .i64 t.kind, .int .u64 t.set.a, .int .u64 t.set.b, .int .u64 t.set.c, .int .u64 t.set.d, .int .i64 t.min, .int .i64 t.max, .slice o n0 cap0] 28 (0, 0)) := by
    rw [← HW2.out]; exact HT0.out.box
  have hb2 := HT0.out.be
  clear hP hR hI hrep
  unfold trV at c58 ⊢
  rw [hk] at HW2 hbx c58 ⊢
  go_enter Try.func37, Try.ntmps37
  go_wp2_with (first | (refine wpList_load_row rfl 28 (.tmp 3) rfl w.heap.size rfl 28 _ (0, 0) _ hbx Try.underlying28 rfl info28 ?_) | (go_at_call 58; rw [← HW2.out]; refine c58.mono ?_; rintro e w3 ⟨g3, Q3, rfl, hg3, hr3, hp3, b3⟩))
  go_ret
  exact ⟨_, Q3, rfl, Nat.le_trans hb2.size hg3, hr3, hp3, nf.chain hb2 b3⟩
theorem kind_of (t : Tr) (h : okNode t = true) : t.kind = 1 ∨ t.kind = 2 ∨ t.kind = 3 ∨ t.kind = 4 := by
  unfold okNode at h
  split at h
  · exact .inl (by assumption)
  · split at h
    · exact .inr (.inl (by assumption))
    · split at h
      · exact .inr (.inr (.inl (by assumption)))
      · split at h
        · exact .inr (.inr (.inr (by assumption)))
        · cases h
theorem sane_kid : ∀ (l : List Tr), st.sanes l → ∀ i, i < l.length → (nthT l i).sane
  | [], _, i, h => by simp at h
  | t :: l, hs, 0, h => by unfold st.sanes at hs; exact hs.1
  | t :: l, hs, i + 1, h => by
    unfold st.sanes at hs
    exact sane_kid l hs.2 i (by simpa using h)
theorem from_any (s : ByteArray) (hs : s.size ≤ 60) : ∀ (d : Nat) (t : Tr), t.depth ≤ d → t.good = true → t.sane → FromIs s t
  | 0, t, h, _, _ => by rw [Tr.depth_eq] at h; omega
  | d + 1, t, h, hg, hsn => by
    rw [Tr.good_eq, Bool.and_eq_true] at hg
    have hkid : ∀ i, i < t.kids.length → FromIs s (nthT t.kids i) := fun i hi => by
      refine from_any s hs d (nthT t.kids i) ?_ ?_ ?_
      · have := st.depth_nth t.kids i hi
        rw [Tr.depth_eq] at h
        omega
      · exact goods_mem t.kids hg.2 _ (st.nthT_mem t.kids i hi)
      · refine sane_kid t.kids ?_ i hi
        cases t with
        | node k q mn mx l => unfold Tr.sane at hsn; exact hsn.2.2.2.2
    rcases kind_of t hg.1 with hk | hk | hk | hk
    · refine from1 s hs t hk ?_
      cases t with
      | node k q mn mx l => unfold Tr.sane at hsn; exact hsn.1
    · exact from2 s hs t hk hkid
    · exact from3 s hs t hk hkid
    · obtain ⟨h1, h2, h3, h4⟩ := times_of t hg.1 hk
      obtain ⟨_, _, h5⟩ := times_ok t hg.1 hk
      exact from4 s hs t hk (rep_any s hs t hk t.min.toNat (by omega) (by omega) (by omega) h1 (hkid 0 (by omega)))
end Go.Proofs.Ytfilndgbgdnpiaa.nb
