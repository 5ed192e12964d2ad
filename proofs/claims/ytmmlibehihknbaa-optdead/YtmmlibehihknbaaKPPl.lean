/-
  Contracts over this program: the document's Split (fretsawref10).
-/
import Derived.Test.YtmmlibehihknbaaKPPk
import Derived.Test.YtmmlibehihknbaaM36
namespace Go.Proofs.Ytmmlibehihknbaa.pc
open Go.ChangeShapes Go.WideShapes Go.ChangeAt Go.RowKit Go.Shelf
open df (Dfa ends nxt acpt byteAt here Ok right width endsOf DAt DBox Row RowRow iv bv In Owns IntsV)
set_option linter.unusedVariables false

theorem lon_stop (d : Dfa) (s : ByteArray) (t : Nat) (hr : right d = true) (h : t ≤ s.size) (r : Int) (e : r = (endsOf d s t).getLast?.getD (-1)) : (r ≤ t → stop d s t = t + 1) ∧ ((t : Int) < r → ((stop d s t : Nat) : Int) = r) := by
  have e0 : endsOf d s t = E d s 0 t := by unfold endsOf E; rw [if_pos ⟨hr, by omega, by omega⟩]; simp
  rw [e0] at e
  have hs := stop_eq d s t
  unfold lastOr at hs
  cases hl : (E d s 0 t).getLast? with
  | none => rw [hl] at e hs; simp at e hs; omega
  | some x => rw [hl] at e hs; simp at e hs; omega
set_option maxRecDepth 100000 in
set_option maxHeartbeats 2000000 in
theorem rsplit_any (d : Dfa) (s : ByteArray) (hr : right d = true) (hs : s.size ≤ 1000000) (cs : Array Value) (o : Option Addr) (cap : Nat) (ao : Option Addr) (acap : Nat) (w : World) (hD : DAt (In w) w d cs o cap ao acap) :
    Calls Try.prog 24 #[.agg cs, .string s] w fun e w' => ∃ v, e = .returned v ∧ Owns w' w.heap.size v (endsL d s) ∧ Below w.heap.size w w' := by
  have hw8 := hD.size
  have b0 := df.dbox_new w cs
  have HB0 := df.below_alloc w (.cells cs 36)
  have hw1s : (w.alloc (.cells cs 36)).heap.size = w.heap.size + 1 := by simp
  have HD := (show Hid (DAt (In (w.alloc (.cells cs 36))) (w.alloc (.cells cs 36)) d cs o cap ao acap) from hD.later HB0)
  have HBx : Hid (∀ W, Below (w.heap.size + 1) (w.alloc (.cells cs 36)) W → DBox W w.heap.size cs) := fun W hW => (hW.block _ (by omega)).trans b0
  have HDx : Hid (∀ W, Below (w.heap.size + 1) (w.alloc (.cells cs 36)) W → DAt (In W) W d cs o cap ao acap) := fun W hW => HD.out.later (by rw [hw1s]; exact hW)
  have HBf : Hid (∀ W, Below (w.heap.size + 1) (w.alloc (.cells cs 36)) W → Below w.heap.size w W) := fun W hW => df.chain HB0 (by rw [hw1s]; exact hW)
  have hst : Owns ((w.alloc (.cells cs 36)).alloc (.cells #[] 3)) (w.heap.size + 1) (.slice (some ⟨w.heap.size + 1, 0, none⟩) 0 0) [] := by
    refine ⟨rfl, .inr ⟨w.heap.size + 1, 0, #[], rfl, Nat.le_refl _, ?_, Nat.le_refl _, Nat.zero_le _, rfl, rfl⟩⟩
    have := World.alloc_heap_new (w.alloc (.cells cs 36)) (.cells #[] 3)
    rwa [hw1s] at this
  have HL : Hid ((endsL d s).length ≤ s.size) := by show _ ≤ _; unfold endsL; rw [List.length_map]; exact all_len d s s.size 0 (by omega)
  obtain ⟨full, hfull⟩ : ∃ full, full = endsL d s := ⟨_, rfl⟩
  have HI : Hid (full = [] ++ (all d s 0).map fun p => (p.2 : Int)) := hfull
  have H21 := (show Hid (∀ (t : Nat) (W : World), t ≤ s.size → Below (w.heap.size + 1) (w.alloc (.cells cs 36)) W → Calls Try.prog 32 #[.agg cs, .string s, .int .i64 (t : Int)] W fun e w' => e = .returned (.int .i64 ((endsOf d s t).getLast?.getD (-1))) ∧ Below W.heap.size W w') from fun t W ht hW => df.rlongest_any d s t hr ht (by omega) _ rfl cs o cap ao acap W (HDx.out W hW))
  rw [← hfull] at HL ⊢
  clear hfull hD HD
  go_enter Try.func24, Try.ntmps24
  go_wp2_with (fail)
  go_loopw [5, 6] (fun v y wr => ∃ (t : Nat) (pre : List Int), y = .int .i64 (t : Int) ∧ t ≤ s.size ∧ Hid (full = pre ++ (all d s t).map fun p => (p.2 : Int)) ∧ Owns wr (w.heap.size + 1) v pre ∧ Below (w.heap.size + 1) (w.alloc (.cells cs 36)) wr) (fun _ y _ => s.size + 1 - (intOf y).toNat)
  case atStart => exact ⟨0, [], rfl, by omega, HI, hst, (Below.refl _ _).alloc (by omega) _⟩
  case round =>
    obtain ⟨t, pre, rfl, ht, HE, hrow, hB⟩ := hrel
    have hpl : pre.length ≤ 1000000000001 := by have := HL.out; rw [HE.out, List.length_append] at this; omega
    have hrow0 := hrow
    have kb := HBx.out wr hB
    obtain ⟨gv, cv, rfl⟩ := df.own_slice hrow
    by_cases htt : s.size ≤ t
    · have HF : Hid (full = pre) := by show _ = _; rw [HE.out, all_end d s t htt]; simp
      clear HE
      go_wp2_with (fail)
      go_ret
      exact ⟨_, rfl, by rw [HF.out]; exact base_down hrow (by omega), HBf.out _ hB⟩
    · have htt2 : t < s.size := by omega
      have h21 := H21.out t wr ht hB
      obtain ⟨g1, g2⟩ := lon_stop d s t hr ht _ rfl
      have hle := stop_le d s t htt2
      have hgt := stop_gt d s t
      have HF : Hid (full = pre ++ [((stop d s t : Nat) : Int)] ++ (all d s (stop d s t)).map fun p => (p.2 : Int)) := by show _ = _; rw [HE.out, all_more d s t htt2]; simp
      clear HE
      generalize (endsOf d s t).getLast?.getD (-1) = r at *
      generalize stop d s t = u at *
      by_cases hrt : r ≤ (t : Int)
      · have e1 := g1 hrt
        subst e1
        clear g1 g2
        go_wp2_with (first | (refine wpList_load_row rfl 36 (.tmp 2) rfl w.heap.size rfl 36 cs (0, 0) _ kb Try.underlying36 rfl (df.info36 cs hw8) ?_) | (go_at_call 32; refine h21.mono ?_; rintro e w1 ⟨rfl, b1⟩; have hB1 : Below (w.heap.size + 1) (w.alloc (.cells cs 36)) w1 := hB.trans (b1.mono (by have := hB.size; omega)); have hrow1 := owns_keep hrow (fun k hk => b1.block k (owns_lt hrow hk).2); clear hrow) | (at_builtin; refine df.wpList_append_int rfl _ _ rfl (w.heap.size + 1) _ pre ((t + 1 : Nat) : Int) w1.heap.size rfl rfl (hrow1.alloc _) (by simp) (by omega) (by have := hB1.size; simp at this; simp; omega) ?_; intro g' cap' w2 hown2 hgr2; have hB2 : Below (w.heap.size + 1) (w.alloc (.cells cs 36)) w2 := (hB1.alloc (by have := hB1.size; simp at this; omega) _).grown hgr2 (by have := hB1.size; simp at this; simp; omega) (df.own_ge hrow0)))
        go_roundw
        case rel => exact ⟨t + 1, _, rfl, by omega, HF, hown2, hB2⟩
        case measure => simp [intOf]; omega
      · have e1 := g2 (by omega)
        subst e1
        clear g1 g2
        go_wp2_with (first | (refine wpList_load_row rfl 36 (.tmp 2) rfl w.heap.size rfl 36 cs (0, 0) _ kb Try.underlying36 rfl (df.info36 cs hw8) ?_) | (go_at_call 32; refine h21.mono ?_; rintro e w1 ⟨rfl, b1⟩; have hB1 : Below (w.heap.size + 1) (w.alloc (.cells cs 36)) w1 := hB.trans (b1.mono (by have := hB.size; omega)); have hrow1 := owns_keep hrow (fun k hk => b1.block k (owns_lt hrow hk).2); clear hrow) | (at_builtin; refine df.wpList_append_int rfl _ _ rfl (w.heap.size + 1) _ pre ((u : Nat) : Int) w1.heap.size rfl rfl (hrow1.alloc _) (by simp) (by omega) (by have := hB1.size; simp at this; simp; omega) ?_; intro g' cap' w2 hown2 hgr2; have hB2 : Below (w.heap.size + 1) (w.alloc (.cells cs 36)) w2 := (hB1.alloc (by have := hB1.size; simp at this; omega) _).grown hgr2 (by have := hB1.size; simp at this; simp; omega) (df.own_ge hrow0)))
        go_roundw
        case rel => exact ⟨u, _, rfl, by omega, HF, hown2, hB2⟩
        case measure => simp [intOf]; omega
end Go.Proofs.Ytmmlibehihknbaa.pc
