/-
  Contracts over this program: trie.Longest.
-/
import Derived.Test.YtbappfbojehkeaaYe
import Derived.Stop.RegionWithIn
import Derived.Test.YtbappfbojehkeaaRr
namespace Go.Proofs.Ytbappfbojehkeaa.ti
open Go.RowKit Go.Shelf Go.Sort
set_option linter.unusedVariables false
attribute [local go_sem] Oper.semAt_some

set_option maxHeartbeats 1000000 in
theorem longest_out (t : Tr) (s : ByteArray) (hs : s.size ≤ 1000000) (at' : Int) (hat : at' < 0 ∨ (s.size : Int) < at') (p : Tp) (w : World) :
    Calls Try.prog 9 #[.agg (tv t p), .string s, .int .i64 at'] w fun e W' => e = .returned (.tuple #[.int .i64 (-1), .int .i64 (-1)]) ∧ Below w.heap.size w W' := by
  have HB : Below w.heap.size w ((w.alloc (.cells (tv t p) 24)).alloc (.cells #[.int .i64 at'] 3)) := ((Below.refl _ w).alloc (Nat.le_refl _) _).alloc (by simp) _
  by_cases h1 : at' < 0
  · clear hat
    go_enter Try.func9, Try.ntmps9
    go_wp2_with (fail)
    go_ret2
    exact ⟨rfl, HB⟩
  · have h2 : (s.size : Int) < at' := by omega
    clear hat
    go_enter Try.func9, Try.ntmps9
    go_wp2_with (fail)
    go_ret2
    exact ⟨rfl, HB⟩

set_option maxRecDepth 100000 in
set_option maxHeartbeats 6000000 in
theorem longest_in (t : Tr) (s : ByteArray) (hs : s.size ≤ 1000000) (at' : Nat) (hat : at' ≤ s.size) (p : Tp) (w : World) (hD : TAt (In w) w t p) (r : Int × Int) (hrr : r = far t at' (fullOf t (s.extract at' s.size))) :
    CallsIn Fence.wide 6 Try.prog 9 #[.agg (tv t p), .string s, .int .i64 (at' : Int)] w fun e W' => e = .returned (.tuple #[.int .i64 r.1, .int .i64 r.2]) ∧ Below w.heap.size w W' := by
  have HRR : Hid (r = far t at' (fullOf t (s.extract at' s.size))) := hrr
  clear hrr
  obtain ⟨u, hu⟩ : ∃ u, u = s.extract at' s.size := ⟨_, rfl⟩
  have hus : u.size ≤ 1000000 := by rw [hu]; simp [ByteArray.size_extract]; omega
  obtain ⟨wA, hwA⟩ : ∃ wA, wA = (w.alloc (.cells (tv t p) 24)).alloc (.cells #[.int .i64 (at' : Int)] 3) := ⟨_, rfl⟩
  have HA : Below w.heap.size w wA := by rw [hwA]; exact ((Below.refl _ w).alloc (Nat.le_refl _) _).alloc (by simp) _
  have hsA : wA.heap.size = w.heap.size + 1 + 1 := by rw [hwA]; simp
  have bTA : Box wA w.heap.size t p := by rw [hwA]; exact (Below.heap_alloc _ _ _ (by simp)).trans (box_new w t p)
  have bAA : Boxed wA (w.heap.size + 1) 3 (.int .i64 (at' : Int)) := by rw [hwA]; have := Boxed.new (w.alloc (.cells (tv t p) 24)) 3 (.int .i64 (at' : Int)); simpa using this
  obtain ⟨wB, hwB⟩ : ∃ wB, wB = (wA.alloc (.cells #[.int .i64 (-1)] 3)).alloc (.cells #[.int .i64 (-1)] 3) := ⟨_, rfl⟩
  have HAB : Below wA.heap.size wA wB := by rw [hwB]; exact ((Below.refl _ _).alloc (Nat.le_refl _) _).alloc (by simp) _
  have hsB : wB.heap.size = w.heap.size + 1 + 1 + 1 + 1 := by rw [hwB]; simp [hsA]
  have bN : Boxed wB (w.heap.size + 1 + 1) 3 (.int .i64 (-1)) := by rw [hwB, ← hsA]; exact (Below.heap_alloc _ _ _ (by simp)).trans (Boxed.new _ _ _)
  have bF : Boxed wB (w.heap.size + 1 + 1 + 1) 3 (.int .i64 (-1)) := by rw [hwB, ← hsA]; have := Boxed.new (wA.alloc (.cells #[.int .i64 (-1)] 3)) 3 (.int .i64 (-1)); simpa using this
  have h17 := fun w => walk_in t p (s.extract at' s.size) w
  have HAX : Hid (∀ W, Below wA.heap.size wA W → Box W w.heap.size t p ∧ Boxed W (w.heap.size + 1) 3 (.int .i64 (at' : Int)) ∧ TAt (In wA) W t p) := fun W b => ⟨bTA.later b, (b.block _ (by omega)).trans bAA, (hD.later HA).carry (fun k hk => b.block k hk) (fun _ => id)⟩
  refine callsIn_of_wp_marks Try.func9 rfl trivial ?_ rfl
  simp only [Try.ntmps9, List.size_toArray, List.length_cons, List.length_nil, Nat.reduceAdd, Nat.reduceSub, Array.replicate_succ, Array.replicate_zero, List.push_toArray, List.append_toArray, List.nil_append, List.cons_append]
  have f1 : decide ((at' : Int) < 0) = false := decide_eq_false (by omega)
  gi_wp2
  rename_i Q2 hQ2 K2 hK2 K1 hK1
  have hkey : Exit.then K1 (Exit.then K2 Q2) .normal { tmps := #[.agg (tv t p), .string s, .int .i64 (at' : Int), .pointer (some ⟨w.heap.size, 0, none⟩), undef, .pointer (some ⟨w.heap.size + 1, 0, none⟩), .int .i64 0, .int .i64 0, .pointer (some ⟨w.heap.size + 1 + 1, 0, none⟩), .pointer (some ⟨w.heap.size + 1 + 1 + 1, 0, none⟩), undef, undef, .int .i64 (at' : Int), .bool false, .bool false, .int .i64 (at' : Int), .string s, .int .i64 (s.size : Int), .bool false, .bool false, .agg (tv t p), .string s, .int .i64 (at' : Int), .string u, .func (.func 25) #[] #[.pointer (some ⟨w.heap.size + 1 + 1 + 1 + 1, 0, none⟩), .pointer (some ⟨w.heap.size + 1 + 1 + 1 + 1 + 1, 0, none⟩)], undef, undef, undef, undef, undef, undef, undef, undef, undef, undef, undef, undef, undef, undef, undef, undef, undef, undef], defers := [] } ((wB.alloc (.cells (tv t p) 24)).alloc (.cells #[.string u] 9)).drew := by
    obtain ⟨M, B⟩ := walk_mem (fun b => b ≠ w.heap.size + 1 + 1 ∧ b ≠ w.heap.size + 1 + 1 + 1) u (hD.carry (w' := wB) (Q := fun b => In wB b ∧ (b ≠ w.heap.size + 1 + 1 ∧ b ≠ w.heap.size + 1 + 1 + 1)) (fun b hb => (chain HA HAB).block b hb) (fun b hb => ⟨Nat.lt_of_lt_of_le hb (chain HA HAB).size, by unfold In at hb; omega⟩))
    obtain ⟨wC, hwC⟩ : ∃ wC, wC = ((wB.alloc (.cells (tv t p) 24)).alloc (.cells #[.string u] 9)).drew := ⟨_, rfl⟩
    have hsC : wC.heap.size = w.heap.size + 1 + 1 + 1 + 1 + 1 + 1 := by rw [hwC]; show ((wB.alloc (.cells (tv t p) 24)).alloc (.cells #[.string u] 9)).heap.size = _; simp [hsB]
    have B2 : Below wB.heap.size wB wC := by rw [hwC]; exact below_drewN B 1
    have M2 : Mem _ wC t p u wB.heap.size (wB.heap.size + 1) := M.carry (W' := wC) (by rw [hwC]; exact ⟨Nat.le_refl _, fun b hb => rfl⟩)
    rw [← hwC]
    rw [hsB] at M2
    have hst := walk_stops _ _ _ t p u hus _ M2
    have HS : Hid (wA.heap.size = w.heap.size + 1 + 1 ∧ wB.heap.size = w.heap.size + 1 + 1 + 1 + 1 ∧ wC.heap.size = w.heap.size + 1 + 1 + 1 + 1 + 1 + 1) := ⟨hsA, hsB, hsC⟩
    have HUS : Hid (u = s.extract at' s.size) := hu
    rw [← hu] at HRR
    clear h17 hwA hwB hwC hsA hsB hsC M M2 B bTA bAA hu f1
    gi_wp2
    refine wpIn_rangeFunc_ownG rfl (by omega) (gf := 25) (lb := #[.pointer (some ⟨w.heap.size + 1 + 1 + 1 + 1, 0, none⟩), .pointer (some ⟨w.heap.size + 1 + 1 + 1 + 1 + 1, 0, none⟩)]) rfl trivial (enters_of Try.func25 (by kernel_rfl) rfl)
      hst (fun h k => h.trans k) (Kp.book (fun b hb => by have := HS.out; omega)) (Below.refl _ _) (fun _ => rfl)
      (fun pre W => (Boxed W (w.heap.size + 1 + 1) 3 (.int .i64 (far t at' (pre.map (cl (u.size + 1) t.word.length))).1) ∧ Boxed W (w.heap.size + 1 + 1 + 1) 3 (.int .i64 (far t at' (pre.map (cl (u.size + 1) t.word.length))).2)) ∧ Below wA.heap.size wA W)
      (fun _ _ _ => False)
      (OwnFrom.and (OwnFrom.and (Own.from (boxed_own _ _ (fun pre : List (Nat × Nat) => Value.int .i64 (far t at' (pre.map (cl (u.size + 1) t.word.length))).1)) _) (Own.from (boxed_own _ _ (fun pre : List (Nat × Nat) => Value.int .i64 (far t at' (pre.map (cl (u.size + 1) t.word.length))).2)) _)) (ownFrom_below (Nat.le_refl _) (by have := HS.out; omega)))
      (fun _ _ _ _ _ hs _ _ => hs)
      ⟨⟨(B2.block _ (by have := HS.out; omega)).trans bN, (B2.block _ (by have := HS.out; omega)).trans bF⟩, chain HAB B2⟩
      (fun x => { tmps := #[.agg (tv t p), .string s, .int .i64 (at' : Int), .pointer (some ⟨w.heap.size, 0, none⟩), undef, .pointer (some ⟨w.heap.size + 1, 0, none⟩), .int .i64 0, .int .i64 0, .pointer (some ⟨w.heap.size + 1 + 1, 0, none⟩), .pointer (some ⟨w.heap.size + 1 + 1 + 1, 0, none⟩), .int .i64 (kl (u.size + 1) x.1 : Int), .int .i64 (kl t.word.length x.2 : Int), .int .i64 (at' : Int), .bool false, .bool false, .int .i64 (at' : Int), .string s, .int .i64 (s.size : Int), .bool false, .bool false, .agg (tv t p), .string s, .int .i64 (at' : Int), .string u, .func (.func 25) #[] #[.pointer (some ⟨w.heap.size + 1 + 1 + 1 + 1, 0, none⟩), .pointer (some ⟨w.heap.size + 1 + 1 + 1 + 1 + 1, 0, none⟩)], .int .i64 (kl (u.size + 1) x.1 : Int), .int .i64 (kl t.word.length x.2 : Int), undef, undef, undef, undef, undef, undef, undef, undef, undef, undef, undef, undef, undef, undef, undef, undef], defers := [] }) ?assign ?body ?done ?stop
    case assign =>
      intro l x W K hK
      gi_wp2
      exact hK
    case body =>
      rintro l pre ⟨e, q⟩ W ⟨⟨hv, hv2⟩, hB⟩ hlt
      have hr : right t = true := by
        unfold roomOf at hlt
        by_cases h : right t = true
        · exact h
        · rw [if_neg h] at hlt; omega
      obtain ⟨g1, g2, g3, g4⟩ := (right_iff t).1 hr
      obtain ⟨kT, kS, kA⟩ := HAX.out W hB
      have HN : Hid (far t at' ((pre ++ [(e, q)]).map (cl (u.size + 1) t.word.length)) = if 0 ≤ t.word.getD (kl t.word.length q) 0 then (t.word.getD (kl t.word.length q) 0, ((at' + kl (u.size + 1) e : Nat) : Int)) else far t at' (pre.map (cl (u.size + 1) t.word.length))) := by
        show _ = _
        rw [List.map_append, List.map_cons, List.map_nil, far_snoc]; rfl
      have hc := hv.cell
      have hf := hv.frozen
      have hc2 := hv2.cell
      have hf2 := hv2.frozen
      have ks := kS.cell
      have kt := kT.c2
      have hql := kl_in (show 0 < t.word.length by omega) q
      have f1 := kA.rw.fit
      have f2 := kA.rw.top
      obtain ⟨bb, off, ho, hbb, hcw⟩ := kA.rw.at hql
      have hi := getD_I64 kA.dw (kl t.word.length q)
      have hbl : bb < w.heap.size + 1 + 1 := by have := HS.out; unfold In at hbb; omega
      rw [ho] at kt
      generalize far t at' (pre.map (cl (u.size + 1) t.word.length)) = z0 at hv hv2 hc hc2 HN
      generalize t.word.getD (kl t.word.length q) 0 = z2 at *
      unfold I64 at hi
      have hel := kl_in (show 0 < u.size + 1 by omega) e
      generalize kl (u.size + 1) e = e' at *
      clear kA kT kS g3 g4
      by_cases he : 0 ≤ z2
      · have e1 : Hid (far t at' ((pre ++ [(e, q)]).map (cl (u.size + 1) t.word.length)) = (z2, ((at' + e' : Nat) : Int))) := by show _ = _; rw [HN.out, if_pos he]
        clear HN
        gi_wp2
        have hwr : IntKind.i64.wrap ((at' : Int) + (e' : Int)) = (at' : Int) + (e' : Int) := by unfold IntKind.wrap; simp [IntKind.signed, IntKind.bits]; omega
        have hkey2 : KeepsFrom wC.heap.size W (((W.setCell ⟨w.heap.size + 1 + 1, 0, none⟩ (.int .i64 z2)).setCell ⟨w.heap.size + 1 + 1 + 1, 0, none⟩ (.int .i64 ((at' : Int) + (e' : Int)))).drew) ∧ Kp (fun b => (b < w.heap.size + 1 + 1 + 1 + 1 ∧ (b ≠ w.heap.size + 1 + 1 ∧ b ≠ w.heap.size + 1 + 1 + 1)) ∨ (w.heap.size + 1 + 1 + 1 + 1 ≤ b ∧ b < w.heap.size + 1 + 1 + 1 + 1 + 1 + 1)) W (((W.setCell ⟨w.heap.size + 1 + 1, 0, none⟩ (.int .i64 z2)).setCell ⟨w.heap.size + 1 + 1 + 1, 0, none⟩ (.int .i64 ((at' : Int) + (e' : Int)))).drew) ∧
            ((Boxed (((W.setCell ⟨w.heap.size + 1 + 1, 0, none⟩ (.int .i64 z2)).setCell ⟨w.heap.size + 1 + 1 + 1, 0, none⟩ (.int .i64 ((at' : Int) + (e' : Int)))).drew) (w.heap.size + 1 + 1) 3 (.int .i64 (far t at' ((pre ++ [(e, q)]).map (cl (u.size + 1) t.word.length))).1) ∧ Boxed (((W.setCell ⟨w.heap.size + 1 + 1, 0, none⟩ (.int .i64 z2)).setCell ⟨w.heap.size + 1 + 1 + 1, 0, none⟩ (.int .i64 ((at' : Int) + (e' : Int)))).drew) (w.heap.size + 1 + 1 + 1) 3 (.int .i64 (far t at' ((pre ++ [(e, q)]).map (cl (u.size + 1) t.word.length))).2)) ∧ Below wA.heap.size wA (((W.setCell ⟨w.heap.size + 1 + 1, 0, none⟩ (.int .i64 z2)).setCell ⟨w.heap.size + 1 + 1 + 1, 0, none⟩ (.int .i64 ((at' : Int) + (e' : Int)))).drew)) := by
          refine ⟨(((KeepsOthers.setCell _ _ _).trans (KeepsOthers.setCell _ _ _)).trans (KeepsOthers.drew _)).from _, ⟨by simp [World.drew], fun b hb => ?_⟩, ⟨?_, ?_⟩, ?_⟩
          · show ((W.setCell ⟨w.heap.size + 1 + 1, 0, none⟩ (.int .i64 z2)).setCell ⟨w.heap.size + 1 + 1 + 1, 0, none⟩ (.int .i64 ((at' : Int) + (e' : Int)))).heap[b]? = _
            have hne : b ≠ w.heap.size + 1 + 1 ∧ b ≠ w.heap.size + 1 + 1 + 1 := by have := HS.out; omega
            exact (Below.heap_setCell _ _ _ b (fun e => hne.2 (by simpa using e))).trans (Below.heap_setCell _ _ _ b (fun e => hne.1 (by simpa using e)))
          · rw [e1.out]
            exact (hv.set _).other (by omega) _
          · rw [e1.out]
            have := (hv2.other (B' := w.heap.size + 1 + 1) (by omega) (.int .i64 z2)).set (.int .i64 ((at' : Int) + (e' : Int)))
            rw [show (((at' + e' : Nat) : Int)) = (at' : Int) + (e' : Int) by omega]
            exact this
          · exact below_drewN ((hB.setCell (p := ⟨w.heap.size + 1 + 1, 0, none⟩) (by have := HS.out; simp; omega) _).setCell (p := ⟨w.heap.size + 1 + 1 + 1, 0, none⟩) (by have := HS.out; simp; omega) _) 1
        refine rr.region_in (by kernel_rfl) (by kernel_rfl) ?_
        refine wpAnyIn_take (i := 0) (v := .pointer (some ⟨w.heap.size, 2, none⟩)) rfl rfl (by kernel_rfl) (by kernel_rfl) (by kernel_rfl) (fun _ _ _ h => h) ⟨Or.inl ⟨by rfl, by intro w; go_simp⟩, fun _ => rfl⟩ ?_
        refine wpAnyIn_take (i := 2) (v := .int .i64 (kl t.word.length q : Int)) rfl rfl (by kernel_rfl) (by kernel_rfl) (by kernel_rfl) (fun _ _ _ h => h) ⟨Or.inl ⟨by rfl, by intro w; go_simp⟩, fun _ => rfl⟩ ?_
        refine wpAnyIn_take (i := 6) (v := .int .i64 (e' : Int)) rfl rfl (by kernel_rfl) (by kernel_rfl) (by kernel_rfl) (fun _ _ _ h => h) ⟨Or.inl ⟨by rfl, by intro w; go_simp⟩, fun _ => rfl⟩ ?_
        refine wpAnyIn_ready (rs := [1, 5]) (by kernel_rfl) (by simp) (AllReadyIn.cons rfl (fun K hK => ?_) (AllReadyIn.cons rfl (fun K hK => ?_) AllReadyIn.nil))
        · go_simp
          refine hK _ _ ?_
          clear hK K
          refine wpAnyIn_take (i := 3) (v := .pointer (some ⟨bb, off + kl t.word.length q, none⟩)) rfl rfl (by kernel_rfl) (by kernel_rfl) (by kernel_rfl) (fun _ _ _ h => h) ⟨Or.inl ⟨by rfl, by intro w; go_simp⟩, fun _ => rfl⟩ ?_
          refine wpAnyIn_ready (rs := [4, 5]) (by kernel_rfl) (by simp) (AllReadyIn.cons rfl (fun K hK => ?_) (AllReadyIn.cons rfl (fun K hK => ?_) AllReadyIn.nil))
          · go_simp
            refine hK _ _ ?_
            clear hK K
            refine wpAnyIn_ready (rs := [5, 8]) (by kernel_rfl) (by simp) (AllReadyIn.cons rfl (fun K hK => ?_) (AllReadyIn.cons rfl (fun K hK => ?_) AllReadyIn.nil))
            · go_simp
              refine hK _ _ ?_
              clear hK K
              refine wpAnyIn_take (i := 7) (v := .int .i64 ((at' : Int) + (e' : Int))) rfl rfl (by kernel_rfl) (by kernel_rfl) (by kernel_rfl) (fun _ _ _ h => h) ⟨Or.inl ⟨by rfl, by intro w; go_simp⟩, fun _ => rfl⟩ ?_
              refine wpAnyIn_ready (rs := [8]) (by kernel_rfl) (by simp) (AllReadyIn.cons rfl (fun K hK => ?_) AllReadyIn.nil)
              go_simp
              refine hK _ _ ?_
              clear hK K
              refine wpAnyIn_ready (rs := [9]) (by kernel_rfl) (by simp) (AllReadyIn.cons rfl (fun K hK => ?_) AllReadyIn.nil)
              go_simp
              refine hK _ _ ?_
              clear hK K
              refine wpAnyIn_done (by kernel_rfl) ?_ _
              exact hkey2
            · go_simp
              refine hK _ _ ?_
              clear hK K
              refine wpAnyIn_ready (rs := [5]) (by kernel_rfl) (by simp) (AllReadyIn.cons rfl (fun K hK => ?_) AllReadyIn.nil)
              go_simp
              refine hK _ _ ?_
              clear hK K
              refine wpAnyIn_take (i := 7) (v := .int .i64 ((at' : Int) + (e' : Int))) rfl rfl (by kernel_rfl) (by kernel_rfl) (by kernel_rfl) (fun _ _ _ h => h) ⟨Or.inl ⟨by rfl, by intro w; go_simp⟩, fun _ => rfl⟩ ?_
              refine wpAnyIn_ready (rs := [9]) (by kernel_rfl) (by simp) (AllReadyIn.cons rfl (fun K hK => ?_) AllReadyIn.nil)
              go_simp
              refine hK _ _ ?_
              clear hK K
              refine wpAnyIn_done (by kernel_rfl) ?_ _
              exact hkey2
          · go_simp
            refine hK _ _ ?_
            clear hK K
            refine wpAnyIn_take (i := 7) (v := .int .i64 ((at' : Int) + (e' : Int))) rfl rfl (by kernel_rfl) (by kernel_rfl) (by kernel_rfl) (fun _ _ _ h => h) ⟨Or.inl ⟨by rfl, by intro w; go_simp⟩, fun _ => rfl⟩ ?_
            refine wpAnyIn_ready (rs := [4]) (by kernel_rfl) (by simp) (AllReadyIn.cons rfl (fun K hK => ?_) AllReadyIn.nil)
            go_simp
            refine hK _ _ ?_
            clear hK K
            refine wpAnyIn_ready (rs := [8]) (by kernel_rfl) (by simp) (AllReadyIn.cons rfl (fun K hK => ?_) AllReadyIn.nil)
            go_simp
            refine hK _ _ ?_
            clear hK K
            refine wpAnyIn_ready (rs := [9]) (by kernel_rfl) (by simp) (AllReadyIn.cons rfl (fun K hK => ?_) AllReadyIn.nil)
            go_simp
            refine hK _ _ ?_
            clear hK K
            refine wpAnyIn_done (by kernel_rfl) ?_ _
            exact hkey2
        · go_simp
          refine hK _ _ ?_
          clear hK K
          refine wpAnyIn_take (i := 7) (v := .int .i64 ((at' : Int) + (e' : Int))) rfl rfl (by kernel_rfl) (by kernel_rfl) (by kernel_rfl) (fun _ _ _ h => h) ⟨Or.inl ⟨by rfl, by intro w; go_simp⟩, fun _ => rfl⟩ ?_
          refine wpAnyIn_ready (rs := [1]) (by kernel_rfl) (by simp) (AllReadyIn.cons rfl (fun K hK => ?_) AllReadyIn.nil)
          go_simp
          refine hK _ _ ?_
          clear hK K
          refine wpAnyIn_take (i := 3) (v := .pointer (some ⟨bb, off + kl t.word.length q, none⟩)) rfl rfl (by kernel_rfl) (by kernel_rfl) (by kernel_rfl) (fun _ _ _ h => h) ⟨Or.inl ⟨by rfl, by intro w; go_simp⟩, fun _ => rfl⟩ ?_
          refine wpAnyIn_ready (rs := [4]) (by kernel_rfl) (by simp) (AllReadyIn.cons rfl (fun K hK => ?_) AllReadyIn.nil)
          go_simp
          refine hK _ _ ?_
          clear hK K
          refine wpAnyIn_ready (rs := [8]) (by kernel_rfl) (by simp) (AllReadyIn.cons rfl (fun K hK => ?_) AllReadyIn.nil)
          go_simp
          refine hK _ _ ?_
          clear hK K
          refine wpAnyIn_ready (rs := [9]) (by kernel_rfl) (by simp) (AllReadyIn.cons rfl (fun K hK => ?_) AllReadyIn.nil)
          go_simp
          refine hK _ _ ?_
          clear hK K
          refine wpAnyIn_done (by kernel_rfl) ?_ _
          exact hkey2
      · have e1 : Hid (far t at' ((pre ++ [(e, q)]).map (cl (u.size + 1) t.word.length)) = z0) := by show _ = _; rw [HN.out, if_neg he]
        clear HN
        gi_wp2
        exact ⟨(KeepsOthers.refl _).from _, ⟨Nat.le_refl _, fun b hb => rfl⟩, ⟨by rw [e1.out]; exact hv, by rw [e1.out]; exact hv2⟩, hB⟩
    case done =>
      rintro D ys W hD2 rfl ⟨⟨hv, hv2⟩, hB⟩ hK
      have hc := hv.cell
      have hc2 := hv2.cell
      rw [fullOf_cl, ← HRR.out] at hc hc2
      have HE : Hid (Below w.heap.size w (W.putObj D (.deferred none))) := (chain HA hB).trans (belowK_b (w := w) (Nat.le_refl _) W D _ _ (by have := HS.out; omega) hK rfl rfl)
      clear hv hv2
      gi_wp2
      gi_quiet (fail)
      gi_wp2
      refine ⟨by simp, .inl ⟨_, _, rfl, run_takeDeferred (w := W.drewN nq) hK, ?_⟩⟩
      exact ⟨_, results_tmp2 rfl _ _ _, rfl, below_drewN (w := W.putObj D (.deferred none)) HE.out nq⟩
    case stop =>
      rintro D c pre W _ _ h _
      exact h.elim
  first | gi_region_with (first | (refine ⟨trivial, ?_⟩; (refine (callsIn_wide.2 (h17 _)).mono ?_); rintro e w2 ⟨rfl, rfl⟩) | ((refine (callsIn_wide.2 (h17 _)).mono ?_); rintro e w2 ⟨rfl, rfl⟩)) | fail
  all_goals (rw [← hwA, ← hwB, ← hu]; exact hkey)
theorem longest_any (t : Tr) (s : ByteArray) (hs : s.size ≤ 1000000) (at' : Int) (r : Int × Int) (hr : r = if right t = true ∧ 0 ≤ at' ∧ at' ≤ (s.size : Int) then lng t (byte (s.extract at'.toNat s.size)) at'.toNat (s.size - at'.toNat + 1) else (-1, -1)) (p : Tp) (w : World) (hD : TAt (In w) w t p) :
    Calls Try.prog 9 #[.agg (tv t p), .string s, .int .i64 at'] w fun e W' => e = .returned (.tuple #[.int .i64 r.1, .int .i64 r.2]) ∧ Below w.heap.size w W' := by
  by_cases h : 0 ≤ at' ∧ at' ≤ (s.size : Int)
  · obtain ⟨k, rfl⟩ : ∃ k : Nat, at' = (k : Int) := ⟨at'.toNat, by omega⟩
    refine callsIn_wide.1 (longest_in t s hs k (by omega) p w hD r ?_)
    rw [hr, Int.toNat_natCast]
    unfold fullOf
    have e : (s.extract k s.size).size = s.size - k := by rw [ByteArray.size_extract]; omega
    by_cases hg : right t = true
    · rw [if_pos ⟨hg, h⟩, if_pos hg, e, far_all]
    · rw [if_neg (fun x => hg x.1), if_neg hg]; rfl
  · rw [if_neg (fun x => h x.2)] at hr
    subst hr
    exact longest_out t s hs at' (by omega) p w
end Go.Proofs.Ytbappfbojehkeaa.ti
