/-
  For every dfa, every text and every number the law DfaBegins of package fretsawlaw08 returns true (what a dfa takes of a text's beginning are just the places up to its end that it takes of the text), and the arguments read as before. No condition.
-/
import Derived.Test.YthknhbmibmndoabDk
import Derived.Test.YthknhbmibmndoabDl
import Derived.Test.YthknhbmibmndoabDm
import Derived.Test.YthknhbmibmndoabDn
import Derived.Test.YthknhbmibmndoabRg
import Derived.WalkKit
import Derived.ProofKit
import Derived.OpenShut
import Derived.ChangeOld
import Derived.SizedLaws
import Derived.ShutString
import Derived.OwnWalk
import Derived.Below
namespace Go.Proofs.Ythknhbmibmndoab.dfaBegins
open Go.ChangeShapes Go.WideShapes Go.ChangeAt Go.RowKit
open Go.ChangeMaps (open_string shut_string)
set_option linter.unusedVariables false

theorem own : ownKnob Try.prog.godebug = none := by kernel_rfl
theorem laidOut : laidOutB Try.prog = true := by kernel_rfl
def Kept (w1 : World) (W : World) : Prop := Below w1.heap.size w1 W
theorem cut_le (u : ByteArray) (n : Nat) : (u.extract 0 n).size ≤ u.size := by simp; omega
theorem ints_drew {w : World} {v : Value} {l : List Int} (h : df.IntsV w v l) : df.IntsV w.drew v l := h.later (Below.refl _ _).drew
theorem Kept.drew {w1 W : World} (h : Kept w1 W) : Kept w1 W.drew := Below.drew h
set_option maxHeartbeats 4000000 in
set_option maxRecDepth 100000 in
theorem walk_neg {d : df.Dfa} {cs : Array Value} {o ao : Option Addr} {cap acap : Nat} {w0 : World} (hD : df.DAt (df.In w0) w0 d cs o cap ao acap) {s : ByteArray} (hs : s.size ≤ 140737488351232) {n : Int} (hn : n < 0) :
    Calls Try.prog 6 #[.agg cs, .string s, .int .i64 n] w0 fun e w' => e = .returned (.bool true) ∧ Below w0.heap.size w0 w' := by
  have h18 := df.short_any 18 rfl s 2000 (by omega) (by omega)
  have hcut := df.cut_size s 2000
  generalize df.cut s 2000 = u at *
  have hw8 := hD.size
  have b0 := df.dbox_new w0 cs
  have HB := df.below_alloc w0 (.cells cs 51)
  have D1 := hD.later HB
  obtain ⟨w1, hw1⟩ : ∃ w1, w1 = w0.alloc (.cells cs 51) := ⟨_, rfl⟩
  rw [← hw1] at b0 HB D1
  have hfil : (df.endsOf d u 0).filter (fun x => decide (x ≤ 0)) = df.endsOf d (u.extract 0 0) 0 := df.begins_all d u 0 (by omega)
  have h21 : ∀ W, Kept w1 W → Calls Try.prog 21 #[.agg cs, .string u, .int .i64 0] W fun e w' => ∃ vo vc, e = .returned (.slice vo (df.endsOf d u 0).length vc) ∧ df.Row (df.In w') w' df.iv vo vc (df.endsOf d u 0) ∧ Kept w1 w' := fun W h => (df.ends_any d u 0 (by omega) cs o cap ao acap W (D1.later h)).mono fun e w' ⟨v, h1, ⟨vo, vc, h2, h3⟩, h4⟩ => ⟨vo, vc, by rw [h1, h2], h3, df.chain h h4⟩
  have hz : (u.extract 0 0).size ≤ 1000000000000 := Nat.le_trans (cut_le u 0) (by omega)
  have h21b : ∀ W, Kept w1 W → Calls Try.prog 21 #[.agg cs, .string (u.extract 0 0), .int .i64 0] W fun e w' => ∃ v, e = .returned v ∧ df.IntsV w' v (df.endsOf d (u.extract 0 0) 0) ∧ Kept w1 w' ∧ Below W.heap.size W w' := fun W h => (df.ends_any d (u.extract 0 0) 0 hz cs o cap ao acap W (D1.later h)).mono fun e w' ⟨v, h1, h2, h3⟩ => ⟨v, h1, h2, df.chain h h3, h3⟩
  have h22 : ∀ W, Kept w1 W → Calls Try.prog 22 #[.agg cs, .string (u.extract 0 0), .int .i64 0] W fun e w' => e = .returned (.int .i64 ((df.endsOf d (u.extract 0 0) 0).getLast?.getD (-1))) ∧ Kept w1 w' := fun W h => (df.longest_any d (u.extract 0 0) 0 hz cs o cap ao acap W (D1.later h)).mono fun e w' ⟨h1, h2⟩ => ⟨h1, df.chain h h2⟩
  have h23 : ∀ W, Kept w1 W → Calls Try.prog 23 #[.agg cs] W fun e w' => e = .returned (.bool (df.right d)) ∧ Kept w1 w' ∧ Below W.heap.size W w' := fun W h => (df.right_any d _ rfl cs o cap ao acap W (D1.later h)).mono fun e w' ⟨h1, h2⟩ => ⟨h1, df.chain h h2, h2⟩
  have h24 : ∀ W, Kept w1 W → Calls Try.prog 24 #[.agg cs] W fun e w' => e = .returned (.bool (df.right d)) ∧ Kept w1 w' ∧ Below W.heap.size W w' := fun W h => (df.rright_any d _ rfl cs o cap ao acap W (D1.later h)).mono fun e w' ⟨h1, h2⟩ => ⟨h1, df.chain h h2, h2⟩
  rw [← hfil] at h21b h22
  have h14 := df.ints_any ((df.endsOf d u 0).filter (fun x => decide (x ≤ 0))) ((df.endsOf d u 0).filter (fun x => decide (x ≤ 0))) true (by simp)
  unfold df.IntsIs at h14
  have hlen := df.endsOf_len d u 0
  have k0 : Kept w1 w1 := Below.refl _ _
  generalize df.endsOf d u 0 = full at *
  generalize df.right d = r at *
  clear hfil hz
  go_enter Try.func6, Try.ntmps6
  go_wp2_with (first | (go_at_call 20; (refine (h18 _).mono ?_); rintro e w2 ⟨rfl, hw⟩; obtain rfl := hw.symm) | (refine wpList_load_row rfl 51 (.tmp 3) rfl w0.heap.size rfl 51 cs (0, 0) _ (hw1 ▸ b0) Try.underlying51 rfl (df.info37 cs hw8) ?_) | (go_at_call 21; (refine (h21 _ (hw1 ▸ k0)).mono ?_); rintro e w3 ⟨vo, vc, rfl, hv3, k3⟩))
  have hv3f := hv3.fit
  have hv3t := hv3.top
  have HV3 := (show Hid (df.Row (df.In w3) w3 df.iv vo vc full) from hv3)
  clear hv3 h18 hw1
  go_loopw [7, 23] (fun v y wr => ∃ (i : Nat) (l : List Int), y = .int .i64 i ∧ i ≤ full.length ∧ l.length ≤ i ∧ Hid (l = (full.take i).filter (fun x => decide (x ≤ 0))) ∧ df.Owns wr w3.heap.size v l ∧ Below w3.heap.size w3 wr) (fun _ y _ => full.length - (intOf y).toNat)
  case atStart => exact ⟨0, [], rfl, by omega, by simp, by show _ = _; simp, World.ownsRow_nil _ _ _ _, Below.refl _ _⟩
  case round =>
    obtain ⟨i, l, rfl, hi, hli, HL, hrow, hBr⟩ := hrel
    obtain ⟨gv, cv, rfl⟩ := df.own_slice hrow
    by_cases hlt : i < full.length
    · obtain ⟨b, off, rfl, hb, hc⟩ := HV3.out.lie i hlt
      have hc2 := (hBr.cell (p := ⟨b, off + i, none⟩) hb).trans hc
      have hrow0 := hrow
      have hsn := df.take_snoc hlt
      obtain ⟨x, hx⟩ : ∃ x, x = full[i] := ⟨_, rfl⟩
      rw [← hx] at hc2 hsn
      clear hx hc
      by_cases hxk : x ≤ 0
      · have HN : Hid (l ++ [x] = (full.take (i + 1)).filter (fun x => decide (x ≤ 0))) := by show _ = _; rw [hsn, List.filter_append, HL.out]; simp [hxk]
        have f1 : decide (x ≤ 0) = true := decide_eq_true hxk
        clear HL hsn hxk
        go_wp2_with (at_builtin; refine df.wpList_append_int rfl _ _ rfl w3.heap.size _ l x wr.heap.size rfl rfl (hrow.alloc _) (by simp) (by omega) (by have := hBr.size; simp; omega) ?_; intro g' cap' w4 hown4 hgr4; clear hrow)
        go_roundw
        case rel => exact ⟨i + 1, l ++ [x], by go_num, by omega, by simp; omega, HN, hown4, (hBr.alloc hBr.size _).grown hgr4 (by have := hBr.size; simp; omega) (df.own_ge hrow0)⟩
        case measure => simp [intOf]; omega
      · have HN : Hid (l = (full.take (i + 1)).filter (fun x => decide (x ≤ 0))) := by show _ = _; rw [hsn, List.filter_append, HL.out]; simp [hxk]
        have f1 : decide (x ≤ 0) = false := decide_eq_false hxk
        clear HL hsn hxk
        go_wp2_with (fail)
        go_roundw
        case rel => exact ⟨i + 1, l, by go_num, by omega, by omega, HN, hrow0, hBr⟩
        case measure => simp [intOf]; omega
    · have HN : Hid (l = full.filter (fun x => decide (x ≤ 0))) := by show _ = _; rw [HL.out, List.take_of_length_le (by omega)]
      have hw := df.ints_of_owns hrow
      have kr : Kept w1 wr := df.chain k3 hBr
      rw [← HN.out] at h21b h22 h14
      clear HL HN hrow
      go_wp2_with (fail)
      refine wp_region_held (S := Kept w1) (by kernel_rfl) ?_
      refine df.take_op (i := 0) 35 rfl rfl (df.yields_load rfl (.tmp 3) rfl w0.heap.size rfl cs hw8 (fun W h => b0.later h)) (by kernel_rfl) (by kernel_rfl) (by kernel_rfl) (fun _ _ _ h => h) kr.drew ?_
      simp only [Act.put, List.setIfInBounds_toArray, List.set_cons_zero, List.set_cons_succ]
      refine df.take_op (i := 1) 36 rfl rfl (df.yields_move rfl (.tmp 1) rfl) (by kernel_rfl) (by kernel_rfl) (by kernel_rfl) (fun _ _ _ h => h) kr.drew ?_
      simp only [Act.put, List.setIfInBounds_toArray, List.set_cons_zero, List.set_cons_succ]
      refine df.take_op (i := 2) 37 rfl rfl (df.yields_move rfl (.tmp 2) rfl) (by kernel_rfl) (by kernel_rfl) (by kernel_rfl) (fun _ _ _ h => h) kr.drew ?_
      simp only [Act.put, List.setIfInBounds_toArray, List.set_cons_zero, List.set_cons_succ]
      refine df.take_op (i := 3) 38 (v := .string (u.extract 0 0)) rfl rfl (.inl ⟨rfl, fun w _ => by go_simp <;> (intro hh; omega)⟩) (by kernel_rfl) (by kernel_rfl) (by kernel_rfl) (fun _ _ _ h => h) kr.drew ?_
      simp only [Act.put, List.setIfInBounds_toArray, List.set_cons_zero, List.set_cons_succ]
      refine df.call_op 4 39 (f := 21) (args := #[.agg cs, .string (u.extract 0 0), .int .i64 0]) (by kernel_rfl) rfl rfl rfl (by kernel_rfl) ((h21b _ kr.drew).mono ?_)
      rintro e w5 ⟨v5, rfl, hv5, k5, b5⟩
      refine ⟨_, rfl, k5, ?_⟩
      simp only [Act.put, List.setIfInBounds_toArray, List.set_cons_zero, List.set_cons_succ]
      refine df.take_op (i := 5) 10 rfl rfl (df.yields_assign rfl (.tmp 39) rfl) (by kernel_rfl) (by kernel_rfl) (by kernel_rfl) (fun _ _ _ h => h) k5 ?_
      simp only [Act.put, List.setIfInBounds_toArray, List.set_cons_zero, List.set_cons_succ]
      refine df.done_op (by kernel_rfl) ?_
      have hw5 : df.IntsV w5 (.slice gv l.length cv) l := df.IntsV.later (ints_drew hw) b5
      have hll : l.length ≤ 1000000000000 := by omega
      by_cases hl0 : l.length = 0
      · have e0 : l = [] := List.length_eq_zero_iff.1 hl0
        subst e0
        have hlast : ([] : List Int).getLast?.getD (-1) = -1 := rfl
        rw [hlast] at h22
        clear hl0 hlast hli
        have hw5 : df.IntsV w5 (.slice gv 0 cv) [] := hw5
        go_wp2_with (fail)
        cases r
        all_goals
          refine wp_region_held (S := Kept w1) (by kernel_rfl) ?_
          refine df.take_op (i := 0) 49 rfl rfl (df.yields_load rfl (.tmp 3) rfl w0.heap.size rfl cs hw8 (fun W h => b0.later h)) (by kernel_rfl) (by kernel_rfl) (by kernel_rfl) (fun _ _ _ h => h) k5.drew ?_
          simp only [Act.put, List.setIfInBounds_toArray, List.set_cons_zero, List.set_cons_succ]
          refine df.take_op (i := 2) 51 rfl rfl (df.yields_load rfl (.tmp 3) rfl w0.heap.size rfl cs hw8 (fun W h => b0.later h)) (by kernel_rfl) (by kernel_rfl) (by kernel_rfl) (fun _ _ _ h => h) k5.drew ?_
          simp only [Act.put, List.setIfInBounds_toArray, List.set_cons_zero, List.set_cons_succ]
          refine df.call_op 1 50 (f := 23) (args := #[.agg cs]) (by kernel_rfl) rfl rfl rfl (by kernel_rfl) ((h23 _ k5.drew).mono ?_)
          rintro e w6 ⟨rfl, k6, b6⟩
          refine ⟨_, rfl, k6, ?_⟩
          simp only [Act.put, List.setIfInBounds_toArray, List.set_cons_zero, List.set_cons_succ]
          refine df.call_op 3 52 (f := 24) (args := #[.agg cs]) (by kernel_rfl) rfl rfl rfl (by kernel_rfl) ((h24 _ k6).mono ?_)
          rintro e w7 ⟨rfl, k7, b7⟩
          refine ⟨_, rfl, k7, ?_⟩
          simp only [Act.put, List.setIfInBounds_toArray, List.set_cons_zero, List.set_cons_succ]
          refine df.take_op (i := 4) 53 (v := .bool true) rfl rfl (.inl ⟨rfl, fun w _ => by kernel_rfl⟩) (by kernel_rfl) (by kernel_rfl) (by kernel_rfl) (fun _ _ _ h => h) k7 ?_
          simp only [Act.put, List.setIfInBounds_toArray, List.set_cons_zero, List.set_cons_succ]
          refine df.take_op (i := 5) 54 rfl rfl (df.yields_move rfl (.tmp 53) rfl) (by kernel_rfl) (by kernel_rfl) (by kernel_rfl) (fun _ _ _ h => h) k7 ?_
          simp only [Act.put, List.setIfInBounds_toArray, List.set_cons_zero, List.set_cons_succ]
          refine df.take_op (i := 6) 55 rfl rfl (df.yields_move rfl (.tmp 10) rfl) (by kernel_rfl) (by kernel_rfl) (by kernel_rfl) (fun _ _ _ h => h) k7 ?_
          simp only [Act.put, List.setIfInBounds_toArray, List.set_cons_zero, List.set_cons_succ]
          refine df.take_op (i := 7) 56 rfl rfl (df.yields_move rfl (.tmp 7) rfl) (by kernel_rfl) (by kernel_rfl) (by kernel_rfl) (fun _ _ _ h => h) k7 ?_
          simp only [Act.put, List.setIfInBounds_toArray, List.set_cons_zero, List.set_cons_succ]
          refine df.call_op 8 57 (f := 14) (args := #[v5, .slice gv 0 cv]) (by kernel_rfl) rfl rfl rfl (by kernel_rfl) ((h14 _ _ _ (((ints_drew hv5).later b6).later b7) (((ints_drew hw5).later b6).later b7)).mono ?_)
          rintro e w8 ⟨rfl, b8⟩
          refine ⟨_, rfl, (df.chain k7 b8 : Kept w1 w8), ?_⟩
          simp only [Act.put, List.setIfInBounds_toArray, List.set_cons_zero, List.set_cons_succ]
          have k8 : Kept w1 w8 := df.chain k7 b8
          refine df.take_op (i := 9) 58 (v := .bool true) rfl rfl (.inl ⟨rfl, fun w _ => by kernel_rfl⟩) (by kernel_rfl) (by kernel_rfl) (by kernel_rfl) (fun _ _ _ h => h) k8 ?_
          simp only [Act.put, List.setIfInBounds_toArray, List.set_cons_zero, List.set_cons_succ]
          refine df.take_op (i := 10) 59 rfl rfl (df.yields_move rfl (.tmp 58) rfl) (by kernel_rfl) (by kernel_rfl) (by kernel_rfl) (fun _ _ _ h => h) k8 ?_
          simp only [Act.put, List.setIfInBounds_toArray, List.set_cons_zero, List.set_cons_succ]
          refine df.take_op (i := 11) 60 rfl rfl (df.yields_load rfl (.tmp 3) rfl w0.heap.size rfl cs hw8 (fun W h => b0.later h)) (by kernel_rfl) (by kernel_rfl) (by kernel_rfl) (fun _ _ _ h => h) k8 ?_
          simp only [Act.put, List.setIfInBounds_toArray, List.set_cons_zero, List.set_cons_succ]
          refine df.take_op (i := 12) 61 rfl rfl (df.yields_move rfl (.tmp 1) rfl) (by kernel_rfl) (by kernel_rfl) (by kernel_rfl) (fun _ _ _ h => h) k8 ?_
          simp only [Act.put, List.setIfInBounds_toArray, List.set_cons_zero, List.set_cons_succ]
          refine df.take_op (i := 13) 62 rfl rfl (df.yields_move rfl (.tmp 2) rfl) (by kernel_rfl) (by kernel_rfl) (by kernel_rfl) (fun _ _ _ h => h) k8 ?_
          simp only [Act.put, List.setIfInBounds_toArray, List.set_cons_zero, List.set_cons_succ]
          refine df.take_op (i := 14) 63 (v := .string (u.extract 0 0)) rfl rfl (.inl ⟨rfl, fun w _ => by go_simp <;> (intro hh; omega)⟩) (by kernel_rfl) (by kernel_rfl) (by kernel_rfl) (fun _ _ _ h => h) k8 ?_
          simp only [Act.put, List.setIfInBounds_toArray, List.set_cons_zero, List.set_cons_succ]
          refine df.take_op (i := 16) 65 rfl rfl (df.yields_move rfl (.tmp 11) rfl) (by kernel_rfl) (by kernel_rfl) (by kernel_rfl) (fun _ _ _ h => h) k8 ?_
          simp only [Act.put, List.setIfInBounds_toArray, List.set_cons_zero, List.set_cons_succ]
          refine df.call_op 15 64 (f := 22) (args := #[.agg cs, .string (u.extract 0 0), .int .i64 0]) (by kernel_rfl) rfl rfl rfl (by kernel_rfl) ((h22 _ k8).mono ?_)
          rintro e w9 ⟨rfl, k9⟩
          refine ⟨_, rfl, k9, ?_⟩
          simp only [Act.put, List.setIfInBounds_toArray, List.set_cons_zero, List.set_cons_succ]
          refine df.take_op (i := 17) 66 (v := .bool true) rfl rfl (.inl ⟨rfl, fun w _ => by go_simp⟩) (by kernel_rfl) (by kernel_rfl) (by kernel_rfl) (fun _ _ _ h => h) k9 ?_
          simp only [Act.put, List.setIfInBounds_toArray, List.set_cons_zero, List.set_cons_succ]
          refine df.take_op (i := 18) 67 (v := .bool true) rfl rfl (.inl ⟨rfl, fun w _ => by kernel_rfl⟩) (by kernel_rfl) (by kernel_rfl) (by kernel_rfl) (fun _ _ _ h => h) k9 ?_
          simp only [Act.put, List.setIfInBounds_toArray, List.set_cons_zero, List.set_cons_succ]
          refine df.take_op (i := 19) 6 rfl rfl (df.yields_assign rfl (.tmp 67) rfl) (by kernel_rfl) (by kernel_rfl) (by kernel_rfl) (fun _ _ _ h => h) k9 ?_
          simp only [Act.put, List.setIfInBounds_toArray, List.set_cons_zero, List.set_cons_succ]
          refine df.done_op (by kernel_rfl) ?_
          go_wp2_with (fail)
          go_ret
          exact ⟨rfl, df.chain HB k9⟩
      · have hl1 : 1 ≤ l.length := by omega
        have hwr : IntKind.i64.wrap ((l.length : Int) - 1) = ((l.length - 1 : Nat) : Int) := by
          have : (l.length : Int) - 1 = ((l.length - 1 : Nat) : Int) := by omega
          rw [this]
          exact IntWalk.i64_in _ (by omega)
        obtain ⟨go, gc, ge, hgr⟩ := hw5
        cases ge
        have hgf := hgr.fit
        have hgt := hgr.top
        obtain ⟨gb, goff, rfl, hgb, hgc⟩ := df.ints_last hgr hl1
        have hw5 : df.IntsV w5 (.slice (some ⟨gb, goff, none⟩) l.length cv) l := ⟨_, _, rfl, hgr⟩
        generalize l.getLast?.getD (-1) = last at *
        clear hl0 hli
        go_wp2_with (fail)
        cases r
        all_goals
          refine wp_region_held (S := Kept w1) (by kernel_rfl) ?_
          refine df.take_op (i := 0) 49 rfl rfl (df.yields_load rfl (.tmp 3) rfl w0.heap.size rfl cs hw8 (fun W h => b0.later h)) (by kernel_rfl) (by kernel_rfl) (by kernel_rfl) (fun _ _ _ h => h) k5.drew ?_
          simp only [Act.put, List.setIfInBounds_toArray, List.set_cons_zero, List.set_cons_succ]
          refine df.take_op (i := 2) 51 rfl rfl (df.yields_load rfl (.tmp 3) rfl w0.heap.size rfl cs hw8 (fun W h => b0.later h)) (by kernel_rfl) (by kernel_rfl) (by kernel_rfl) (fun _ _ _ h => h) k5.drew ?_
          simp only [Act.put, List.setIfInBounds_toArray, List.set_cons_zero, List.set_cons_succ]
          refine df.call_op 1 50 (f := 23) (args := #[.agg cs]) (by kernel_rfl) rfl rfl rfl (by kernel_rfl) ((h23 _ k5.drew).mono ?_)
          rintro e w6 ⟨rfl, k6, b6⟩
          refine ⟨_, rfl, k6, ?_⟩
          simp only [Act.put, List.setIfInBounds_toArray, List.set_cons_zero, List.set_cons_succ]
          refine df.call_op 3 52 (f := 24) (args := #[.agg cs]) (by kernel_rfl) rfl rfl rfl (by kernel_rfl) ((h24 _ k6).mono ?_)
          rintro e w7 ⟨rfl, k7, b7⟩
          refine ⟨_, rfl, k7, ?_⟩
          simp only [Act.put, List.setIfInBounds_toArray, List.set_cons_zero, List.set_cons_succ]
          refine df.take_op (i := 4) 53 (v := .bool true) rfl rfl (.inl ⟨rfl, fun w _ => by kernel_rfl⟩) (by kernel_rfl) (by kernel_rfl) (by kernel_rfl) (fun _ _ _ h => h) k7 ?_
          simp only [Act.put, List.setIfInBounds_toArray, List.set_cons_zero, List.set_cons_succ]
          refine df.take_op (i := 5) 54 rfl rfl (df.yields_move rfl (.tmp 53) rfl) (by kernel_rfl) (by kernel_rfl) (by kernel_rfl) (fun _ _ _ h => h) k7 ?_
          simp only [Act.put, List.setIfInBounds_toArray, List.set_cons_zero, List.set_cons_succ]
          refine df.take_op (i := 6) 55 rfl rfl (df.yields_move rfl (.tmp 10) rfl) (by kernel_rfl) (by kernel_rfl) (by kernel_rfl) (fun _ _ _ h => h) k7 ?_
          simp only [Act.put, List.setIfInBounds_toArray, List.set_cons_zero, List.set_cons_succ]
          refine df.take_op (i := 7) 56 rfl rfl (df.yields_move rfl (.tmp 7) rfl) (by kernel_rfl) (by kernel_rfl) (by kernel_rfl) (fun _ _ _ h => h) k7 ?_
          simp only [Act.put, List.setIfInBounds_toArray, List.set_cons_zero, List.set_cons_succ]
          refine df.call_op 8 57 (f := 14) (args := #[v5, .slice (some ⟨gb, goff, none⟩) l.length cv]) (by kernel_rfl) rfl rfl rfl (by kernel_rfl) ((h14 _ _ _ (((ints_drew hv5).later b6).later b7) (((ints_drew hw5).later b6).later b7)).mono ?_)
          rintro e w8 ⟨rfl, b8⟩
          refine ⟨_, rfl, (df.chain k7 b8 : Kept w1 w8), ?_⟩
          simp only [Act.put, List.setIfInBounds_toArray, List.set_cons_zero, List.set_cons_succ]
          have k8 : Kept w1 w8 := df.chain k7 b8
          refine df.take_op (i := 9) 58 (v := .bool true) rfl rfl (.inl ⟨rfl, fun w _ => by kernel_rfl⟩) (by kernel_rfl) (by kernel_rfl) (by kernel_rfl) (fun _ _ _ h => h) k8 ?_
          simp only [Act.put, List.setIfInBounds_toArray, List.set_cons_zero, List.set_cons_succ]
          refine df.take_op (i := 10) 59 rfl rfl (df.yields_move rfl (.tmp 58) rfl) (by kernel_rfl) (by kernel_rfl) (by kernel_rfl) (fun _ _ _ h => h) k8 ?_
          simp only [Act.put, List.setIfInBounds_toArray, List.set_cons_zero, List.set_cons_succ]
          refine df.take_op (i := 11) 60 rfl rfl (df.yields_load rfl (.tmp 3) rfl w0.heap.size rfl cs hw8 (fun W h => b0.later h)) (by kernel_rfl) (by kernel_rfl) (by kernel_rfl) (fun _ _ _ h => h) k8 ?_
          simp only [Act.put, List.setIfInBounds_toArray, List.set_cons_zero, List.set_cons_succ]
          refine df.take_op (i := 12) 61 rfl rfl (df.yields_move rfl (.tmp 1) rfl) (by kernel_rfl) (by kernel_rfl) (by kernel_rfl) (fun _ _ _ h => h) k8 ?_
          simp only [Act.put, List.setIfInBounds_toArray, List.set_cons_zero, List.set_cons_succ]
          refine df.take_op (i := 13) 62 rfl rfl (df.yields_move rfl (.tmp 2) rfl) (by kernel_rfl) (by kernel_rfl) (by kernel_rfl) (fun _ _ _ h => h) k8 ?_
          simp only [Act.put, List.setIfInBounds_toArray, List.set_cons_zero, List.set_cons_succ]
          refine df.take_op (i := 14) 63 (v := .string (u.extract 0 0)) rfl rfl (.inl ⟨rfl, fun w _ => by go_simp <;> (intro hh; omega)⟩) (by kernel_rfl) (by kernel_rfl) (by kernel_rfl) (fun _ _ _ h => h) k8 ?_
          simp only [Act.put, List.setIfInBounds_toArray, List.set_cons_zero, List.set_cons_succ]
          refine df.take_op (i := 16) 65 rfl rfl (df.yields_move rfl (.tmp 11) rfl) (by kernel_rfl) (by kernel_rfl) (by kernel_rfl) (fun _ _ _ h => h) k8 ?_
          simp only [Act.put, List.setIfInBounds_toArray, List.set_cons_zero, List.set_cons_succ]
          refine df.call_op 15 64 (f := 22) (args := #[.agg cs, .string (u.extract 0 0), .int .i64 0]) (by kernel_rfl) rfl rfl rfl (by kernel_rfl) ((h22 _ k8).mono ?_)
          rintro e w9 ⟨rfl, k9⟩
          refine ⟨_, rfl, k9, ?_⟩
          simp only [Act.put, List.setIfInBounds_toArray, List.set_cons_zero, List.set_cons_succ]
          refine df.take_op (i := 17) 66 (v := .bool true) rfl rfl (.inl ⟨rfl, fun w _ => by go_simp⟩) (by kernel_rfl) (by kernel_rfl) (by kernel_rfl) (fun _ _ _ h => h) k9 ?_
          simp only [Act.put, List.setIfInBounds_toArray, List.set_cons_zero, List.set_cons_succ]
          refine df.take_op (i := 18) 67 (v := .bool true) rfl rfl (.inl ⟨rfl, fun w _ => by kernel_rfl⟩) (by kernel_rfl) (by kernel_rfl) (by kernel_rfl) (fun _ _ _ h => h) k9 ?_
          simp only [Act.put, List.setIfInBounds_toArray, List.set_cons_zero, List.set_cons_succ]
          refine df.take_op (i := 19) 6 rfl rfl (df.yields_assign rfl (.tmp 67) rfl) (by kernel_rfl) (by kernel_rfl) (by kernel_rfl) (fun _ _ _ h => h) k9 ?_
          simp only [Act.put, List.setIfInBounds_toArray, List.set_cons_zero, List.set_cons_succ]
          refine df.done_op (by kernel_rfl) ?_
          go_wp2_with (fail)
          go_ret
          exact ⟨rfl, df.chain HB k9⟩
set_option maxHeartbeats 4000000 in
set_option maxRecDepth 100000 in
theorem walk_mid {d : df.Dfa} {cs : Array Value} {o ao : Option Addr} {cap acap : Nat} {w0 : World} (hD : df.DAt (df.In w0) w0 d cs o cap ao acap) {s : ByteArray} (hs : s.size ≤ 140737488351232) {k : Nat} (hk : k < (df.cut s 2000).size) :
    Calls Try.prog 6 #[.agg cs, .string s, .int .i64 (k : Int)] w0 fun e w' => e = .returned (.bool true) ∧ Below w0.heap.size w0 w' := by
  have h18 := df.short_any 18 rfl s 2000 (by omega) (by omega)
  have hcut := df.cut_size s 2000
  generalize df.cut s 2000 = u at *
  have hw8 := hD.size
  have b0 := df.dbox_new w0 cs
  have HB := df.below_alloc w0 (.cells cs 51)
  have D1 := hD.later HB
  obtain ⟨w1, hw1⟩ : ∃ w1, w1 = w0.alloc (.cells cs 51) := ⟨_, rfl⟩
  rw [← hw1] at b0 HB D1
  have hfil : (df.endsOf d u 0).filter (fun x => decide (x ≤ (k : Int))) = df.endsOf d (u.extract 0 k) 0 := df.begins_all d u k (by omega)
  have h21 : ∀ W, Kept w1 W → Calls Try.prog 21 #[.agg cs, .string u, .int .i64 0] W fun e w' => ∃ vo vc, e = .returned (.slice vo (df.endsOf d u 0).length vc) ∧ df.Row (df.In w') w' df.iv vo vc (df.endsOf d u 0) ∧ Kept w1 w' := fun W h => (df.ends_any d u 0 (by omega) cs o cap ao acap W (D1.later h)).mono fun e w' ⟨v, h1, ⟨vo, vc, h2, h3⟩, h4⟩ => ⟨vo, vc, by rw [h1, h2], h3, df.chain h h4⟩
  have hz : (u.extract 0 k).size ≤ 1000000000000 := Nat.le_trans (cut_le u k) (by omega)
  have h21b : ∀ W, Kept w1 W → Calls Try.prog 21 #[.agg cs, .string (u.extract 0 k), .int .i64 0] W fun e w' => ∃ v, e = .returned v ∧ df.IntsV w' v (df.endsOf d (u.extract 0 k) 0) ∧ Kept w1 w' ∧ Below W.heap.size W w' := fun W h => (df.ends_any d (u.extract 0 k) 0 hz cs o cap ao acap W (D1.later h)).mono fun e w' ⟨v, h1, h2, h3⟩ => ⟨v, h1, h2, df.chain h h3, h3⟩
  have h22 : ∀ W, Kept w1 W → Calls Try.prog 22 #[.agg cs, .string (u.extract 0 k), .int .i64 0] W fun e w' => e = .returned (.int .i64 ((df.endsOf d (u.extract 0 k) 0).getLast?.getD (-1))) ∧ Kept w1 w' := fun W h => (df.longest_any d (u.extract 0 k) 0 hz cs o cap ao acap W (D1.later h)).mono fun e w' ⟨h1, h2⟩ => ⟨h1, df.chain h h2⟩
  have h23 : ∀ W, Kept w1 W → Calls Try.prog 23 #[.agg cs] W fun e w' => e = .returned (.bool (df.right d)) ∧ Kept w1 w' ∧ Below W.heap.size W w' := fun W h => (df.right_any d _ rfl cs o cap ao acap W (D1.later h)).mono fun e w' ⟨h1, h2⟩ => ⟨h1, df.chain h h2, h2⟩
  have h24 : ∀ W, Kept w1 W → Calls Try.prog 24 #[.agg cs] W fun e w' => e = .returned (.bool (df.right d)) ∧ Kept w1 w' ∧ Below W.heap.size W w' := fun W h => (df.rright_any d _ rfl cs o cap ao acap W (D1.later h)).mono fun e w' ⟨h1, h2⟩ => ⟨h1, df.chain h h2, h2⟩
  rw [← hfil] at h21b h22
  have h14 := df.ints_any ((df.endsOf d u 0).filter (fun x => decide (x ≤ (k : Int)))) ((df.endsOf d u 0).filter (fun x => decide (x ≤ (k : Int)))) true (by simp)
  unfold df.IntsIs at h14
  have hlen := df.endsOf_len d u 0
  have k0 : Kept w1 w1 := Below.refl _ _
  generalize df.endsOf d u 0 = full at *
  generalize df.right d = r at *
  clear hfil hz
  go_enter Try.func6, Try.ntmps6
  go_wp2_with (first | (go_at_call 20; (refine (h18 _).mono ?_); rintro e w2 ⟨rfl, hw⟩; obtain rfl := hw.symm) | (refine wpList_load_row rfl 51 (.tmp 3) rfl w0.heap.size rfl 51 cs (0, 0) _ (hw1 ▸ b0) Try.underlying51 rfl (df.info37 cs hw8) ?_) | (go_at_call 21; (refine (h21 _ (hw1 ▸ k0)).mono ?_); rintro e w3 ⟨vo, vc, rfl, hv3, k3⟩))
  have hv3f := hv3.fit
  have hv3t := hv3.top
  have HV3 := (show Hid (df.Row (df.In w3) w3 df.iv vo vc full) from hv3)
  clear hv3 h18 hw1
  go_loopw [7, 23] (fun v y wr => ∃ (i : Nat) (l : List Int), y = .int .i64 i ∧ i ≤ full.length ∧ l.length ≤ i ∧ Hid (l = (full.take i).filter (fun x => decide (x ≤ (k : Int)))) ∧ df.Owns wr w3.heap.size v l ∧ Below w3.heap.size w3 wr) (fun _ y _ => full.length - (intOf y).toNat)
  case atStart => exact ⟨0, [], rfl, by omega, by simp, by show _ = _; simp, World.ownsRow_nil _ _ _ _, Below.refl _ _⟩
  case round =>
    obtain ⟨i, l, rfl, hi, hli, HL, hrow, hBr⟩ := hrel
    obtain ⟨gv, cv, rfl⟩ := df.own_slice hrow
    by_cases hlt : i < full.length
    · obtain ⟨b, off, rfl, hb, hc⟩ := HV3.out.lie i hlt
      have hc2 := (hBr.cell (p := ⟨b, off + i, none⟩) hb).trans hc
      have hrow0 := hrow
      have hsn := df.take_snoc hlt
      obtain ⟨x, hx⟩ : ∃ x, x = full[i] := ⟨_, rfl⟩
      rw [← hx] at hc2 hsn
      clear hx hc
      by_cases hxk : x ≤ (k : Int)
      · have HN : Hid (l ++ [x] = (full.take (i + 1)).filter (fun x => decide (x ≤ (k : Int)))) := by show _ = _; rw [hsn, List.filter_append, HL.out]; simp [hxk]
        have f1 : decide (x ≤ (k : Int)) = true := decide_eq_true hxk
        clear HL hsn hxk
        go_wp2_with (at_builtin; refine df.wpList_append_int rfl _ _ rfl w3.heap.size _ l x wr.heap.size rfl rfl (hrow.alloc _) (by simp) (by omega) (by have := hBr.size; simp; omega) ?_; intro g' cap' w4 hown4 hgr4; clear hrow)
        go_roundw
        case rel => exact ⟨i + 1, l ++ [x], by go_num, by omega, by simp; omega, HN, hown4, (hBr.alloc hBr.size _).grown hgr4 (by have := hBr.size; simp; omega) (df.own_ge hrow0)⟩
        case measure => simp [intOf]; omega
      · have HN : Hid (l = (full.take (i + 1)).filter (fun x => decide (x ≤ (k : Int)))) := by show _ = _; rw [hsn, List.filter_append, HL.out]; simp [hxk]
        have f1 : decide (x ≤ (k : Int)) = false := decide_eq_false hxk
        clear HL hsn hxk
        go_wp2_with (fail)
        go_roundw
        case rel => exact ⟨i + 1, l, by go_num, by omega, by omega, HN, hrow0, hBr⟩
        case measure => simp [intOf]; omega
    · have HN : Hid (l = full.filter (fun x => decide (x ≤ (k : Int)))) := by show _ = _; rw [HL.out, List.take_of_length_le (by omega)]
      have hw := df.ints_of_owns hrow
      have kr : Kept w1 wr := df.chain k3 hBr
      rw [← HN.out] at h21b h22 h14
      clear HL HN hrow
      go_wp2_with (fail)
      refine wp_region_held (S := Kept w1) (by kernel_rfl) ?_
      refine df.take_op (i := 0) 35 rfl rfl (df.yields_load rfl (.tmp 3) rfl w0.heap.size rfl cs hw8 (fun W h => b0.later h)) (by kernel_rfl) (by kernel_rfl) (by kernel_rfl) (fun _ _ _ h => h) kr.drew ?_
      simp only [Act.put, List.setIfInBounds_toArray, List.set_cons_zero, List.set_cons_succ]
      refine df.take_op (i := 1) 36 rfl rfl (df.yields_move rfl (.tmp 1) rfl) (by kernel_rfl) (by kernel_rfl) (by kernel_rfl) (fun _ _ _ h => h) kr.drew ?_
      simp only [Act.put, List.setIfInBounds_toArray, List.set_cons_zero, List.set_cons_succ]
      refine df.take_op (i := 2) 37 rfl rfl (df.yields_move rfl (.tmp 2) rfl) (by kernel_rfl) (by kernel_rfl) (by kernel_rfl) (fun _ _ _ h => h) kr.drew ?_
      simp only [Act.put, List.setIfInBounds_toArray, List.set_cons_zero, List.set_cons_succ]
      refine df.take_op (i := 3) 38 (v := .string (u.extract 0 k)) rfl rfl (.inl ⟨rfl, fun w _ => by go_simp <;> (intro hh; omega)⟩) (by kernel_rfl) (by kernel_rfl) (by kernel_rfl) (fun _ _ _ h => h) kr.drew ?_
      simp only [Act.put, List.setIfInBounds_toArray, List.set_cons_zero, List.set_cons_succ]
      refine df.call_op 4 39 (f := 21) (args := #[.agg cs, .string (u.extract 0 k), .int .i64 0]) (by kernel_rfl) rfl rfl rfl (by kernel_rfl) ((h21b _ kr.drew).mono ?_)
      rintro e w5 ⟨v5, rfl, hv5, k5, b5⟩
      refine ⟨_, rfl, k5, ?_⟩
      simp only [Act.put, List.setIfInBounds_toArray, List.set_cons_zero, List.set_cons_succ]
      refine df.take_op (i := 5) 10 rfl rfl (df.yields_assign rfl (.tmp 39) rfl) (by kernel_rfl) (by kernel_rfl) (by kernel_rfl) (fun _ _ _ h => h) k5 ?_
      simp only [Act.put, List.setIfInBounds_toArray, List.set_cons_zero, List.set_cons_succ]
      refine df.done_op (by kernel_rfl) ?_
      have hw5 : df.IntsV w5 (.slice gv l.length cv) l := df.IntsV.later (ints_drew hw) b5
      have hll : l.length ≤ 1000000000000 := by omega
      by_cases hl0 : l.length = 0
      · have e0 : l = [] := List.length_eq_zero_iff.1 hl0
        subst e0
        have hlast : ([] : List Int).getLast?.getD (-1) = -1 := rfl
        rw [hlast] at h22
        clear hl0 hlast hli
        have hw5 : df.IntsV w5 (.slice gv 0 cv) [] := hw5
        go_wp2_with (fail)
        cases r
        all_goals
          refine wp_region_held (S := Kept w1) (by kernel_rfl) ?_
          refine df.take_op (i := 0) 49 rfl rfl (df.yields_load rfl (.tmp 3) rfl w0.heap.size rfl cs hw8 (fun W h => b0.later h)) (by kernel_rfl) (by kernel_rfl) (by kernel_rfl) (fun _ _ _ h => h) k5.drew ?_
          simp only [Act.put, List.setIfInBounds_toArray, List.set_cons_zero, List.set_cons_succ]
          refine df.take_op (i := 2) 51 rfl rfl (df.yields_load rfl (.tmp 3) rfl w0.heap.size rfl cs hw8 (fun W h => b0.later h)) (by kernel_rfl) (by kernel_rfl) (by kernel_rfl) (fun _ _ _ h => h) k5.drew ?_
          simp only [Act.put, List.setIfInBounds_toArray, List.set_cons_zero, List.set_cons_succ]
          refine df.call_op 1 50 (f := 23) (args := #[.agg cs]) (by kernel_rfl) rfl rfl rfl (by kernel_rfl) ((h23 _ k5.drew).mono ?_)
          rintro e w6 ⟨rfl, k6, b6⟩
          refine ⟨_, rfl, k6, ?_⟩
          simp only [Act.put, List.setIfInBounds_toArray, List.set_cons_zero, List.set_cons_succ]
          refine df.call_op 3 52 (f := 24) (args := #[.agg cs]) (by kernel_rfl) rfl rfl rfl (by kernel_rfl) ((h24 _ k6).mono ?_)
          rintro e w7 ⟨rfl, k7, b7⟩
          refine ⟨_, rfl, k7, ?_⟩
          simp only [Act.put, List.setIfInBounds_toArray, List.set_cons_zero, List.set_cons_succ]
          refine df.take_op (i := 4) 53 (v := .bool true) rfl rfl (.inl ⟨rfl, fun w _ => by kernel_rfl⟩) (by kernel_rfl) (by kernel_rfl) (by kernel_rfl) (fun _ _ _ h => h) k7 ?_
          simp only [Act.put, List.setIfInBounds_toArray, List.set_cons_zero, List.set_cons_succ]
          refine df.take_op (i := 5) 54 rfl rfl (df.yields_move rfl (.tmp 53) rfl) (by kernel_rfl) (by kernel_rfl) (by kernel_rfl) (fun _ _ _ h => h) k7 ?_
          simp only [Act.put, List.setIfInBounds_toArray, List.set_cons_zero, List.set_cons_succ]
          refine df.take_op (i := 6) 55 rfl rfl (df.yields_move rfl (.tmp 10) rfl) (by kernel_rfl) (by kernel_rfl) (by kernel_rfl) (fun _ _ _ h => h) k7 ?_
          simp only [Act.put, List.setIfInBounds_toArray, List.set_cons_zero, List.set_cons_succ]
          refine df.take_op (i := 7) 56 rfl rfl (df.yields_move rfl (.tmp 7) rfl) (by kernel_rfl) (by kernel_rfl) (by kernel_rfl) (fun _ _ _ h => h) k7 ?_
          simp only [Act.put, List.setIfInBounds_toArray, List.set_cons_zero, List.set_cons_succ]
          refine df.call_op 8 57 (f := 14) (args := #[v5, .slice gv 0 cv]) (by kernel_rfl) rfl rfl rfl (by kernel_rfl) ((h14 _ _ _ (((ints_drew hv5).later b6).later b7) (((ints_drew hw5).later b6).later b7)).mono ?_)
          rintro e w8 ⟨rfl, b8⟩
          refine ⟨_, rfl, (df.chain k7 b8 : Kept w1 w8), ?_⟩
          simp only [Act.put, List.setIfInBounds_toArray, List.set_cons_zero, List.set_cons_succ]
          have k8 : Kept w1 w8 := df.chain k7 b8
          refine df.take_op (i := 9) 58 (v := .bool true) rfl rfl (.inl ⟨rfl, fun w _ => by kernel_rfl⟩) (by kernel_rfl) (by kernel_rfl) (by kernel_rfl) (fun _ _ _ h => h) k8 ?_
          simp only [Act.put, List.setIfInBounds_toArray, List.set_cons_zero, List.set_cons_succ]
          refine df.take_op (i := 10) 59 rfl rfl (df.yields_move rfl (.tmp 58) rfl) (by kernel_rfl) (by kernel_rfl) (by kernel_rfl) (fun _ _ _ h => h) k8 ?_
          simp only [Act.put, List.setIfInBounds_toArray, List.set_cons_zero, List.set_cons_succ]
          refine df.take_op (i := 11) 60 rfl rfl (df.yields_load rfl (.tmp 3) rfl w0.heap.size rfl cs hw8 (fun W h => b0.later h)) (by kernel_rfl) (by kernel_rfl) (by kernel_rfl) (fun _ _ _ h => h) k8 ?_
          simp only [Act.put, List.setIfInBounds_toArray, List.set_cons_zero, List.set_cons_succ]
          refine df.take_op (i := 12) 61 rfl rfl (df.yields_move rfl (.tmp 1) rfl) (by kernel_rfl) (by kernel_rfl) (by kernel_rfl) (fun _ _ _ h => h) k8 ?_
          simp only [Act.put, List.setIfInBounds_toArray, List.set_cons_zero, List.set_cons_succ]
          refine df.take_op (i := 13) 62 rfl rfl (df.yields_move rfl (.tmp 2) rfl) (by kernel_rfl) (by kernel_rfl) (by kernel_rfl) (fun _ _ _ h => h) k8 ?_
          simp only [Act.put, List.setIfInBounds_toArray, List.set_cons_zero, List.set_cons_succ]
          refine df.take_op (i := 14) 63 (v := .string (u.extract 0 k)) rfl rfl (.inl ⟨rfl, fun w _ => by go_simp <;> (intro hh; omega)⟩) (by kernel_rfl) (by kernel_rfl) (by kernel_rfl) (fun _ _ _ h => h) k8 ?_
          simp only [Act.put, List.setIfInBounds_toArray, List.set_cons_zero, List.set_cons_succ]
          refine df.take_op (i := 16) 65 rfl rfl (df.yields_move rfl (.tmp 11) rfl) (by kernel_rfl) (by kernel_rfl) (by kernel_rfl) (fun _ _ _ h => h) k8 ?_
          simp only [Act.put, List.setIfInBounds_toArray, List.set_cons_zero, List.set_cons_succ]
          refine df.call_op 15 64 (f := 22) (args := #[.agg cs, .string (u.extract 0 k), .int .i64 0]) (by kernel_rfl) rfl rfl rfl (by kernel_rfl) ((h22 _ k8).mono ?_)
          rintro e w9 ⟨rfl, k9⟩
          refine ⟨_, rfl, k9, ?_⟩
          simp only [Act.put, List.setIfInBounds_toArray, List.set_cons_zero, List.set_cons_succ]
          refine df.take_op (i := 17) 66 (v := .bool true) rfl rfl (.inl ⟨rfl, fun w _ => by go_simp⟩) (by kernel_rfl) (by kernel_rfl) (by kernel_rfl) (fun _ _ _ h => h) k9 ?_
          simp only [Act.put, List.setIfInBounds_toArray, List.set_cons_zero, List.set_cons_succ]
          refine df.take_op (i := 18) 67 (v := .bool true) rfl rfl (.inl ⟨rfl, fun w _ => by kernel_rfl⟩) (by kernel_rfl) (by kernel_rfl) (by kernel_rfl) (fun _ _ _ h => h) k9 ?_
          simp only [Act.put, List.setIfInBounds_toArray, List.set_cons_zero, List.set_cons_succ]
          refine df.take_op (i := 19) 6 rfl rfl (df.yields_assign rfl (.tmp 67) rfl) (by kernel_rfl) (by kernel_rfl) (by kernel_rfl) (fun _ _ _ h => h) k9 ?_
          simp only [Act.put, List.setIfInBounds_toArray, List.set_cons_zero, List.set_cons_succ]
          refine df.done_op (by kernel_rfl) ?_
          go_wp2_with (fail)
          go_ret
          exact ⟨rfl, df.chain HB k9⟩
      · have hl1 : 1 ≤ l.length := by omega
        have hwr : IntKind.i64.wrap ((l.length : Int) - 1) = ((l.length - 1 : Nat) : Int) := by
          have : (l.length : Int) - 1 = ((l.length - 1 : Nat) : Int) := by omega
          rw [this]
          exact IntWalk.i64_in _ (by omega)
        obtain ⟨go, gc, ge, hgr⟩ := hw5
        cases ge
        have hgf := hgr.fit
        have hgt := hgr.top
        obtain ⟨gb, goff, rfl, hgb, hgc⟩ := df.ints_last hgr hl1
        have hw5 : df.IntsV w5 (.slice (some ⟨gb, goff, none⟩) l.length cv) l := ⟨_, _, rfl, hgr⟩
        generalize l.getLast?.getD (-1) = last at *
        clear hl0 hli
        go_wp2_with (fail)
        cases r
        all_goals
          refine wp_region_held (S := Kept w1) (by kernel_rfl) ?_
          refine df.take_op (i := 0) 49 rfl rfl (df.yields_load rfl (.tmp 3) rfl w0.heap.size rfl cs hw8 (fun W h => b0.later h)) (by kernel_rfl) (by kernel_rfl) (by kernel_rfl) (fun _ _ _ h => h) k5.drew ?_
          simp only [Act.put, List.setIfInBounds_toArray, List.set_cons_zero, List.set_cons_succ]
          refine df.take_op (i := 2) 51 rfl rfl (df.yields_load rfl (.tmp 3) rfl w0.heap.size rfl cs hw8 (fun W h => b0.later h)) (by kernel_rfl) (by kernel_rfl) (by kernel_rfl) (fun _ _ _ h => h) k5.drew ?_
          simp only [Act.put, List.setIfInBounds_toArray, List.set_cons_zero, List.set_cons_succ]
          refine df.call_op 1 50 (f := 23) (args := #[.agg cs]) (by kernel_rfl) rfl rfl rfl (by kernel_rfl) ((h23 _ k5.drew).mono ?_)
          rintro e w6 ⟨rfl, k6, b6⟩
          refine ⟨_, rfl, k6, ?_⟩
          simp only [Act.put, List.setIfInBounds_toArray, List.set_cons_zero, List.set_cons_succ]
          refine df.call_op 3 52 (f := 24) (args := #[.agg cs]) (by kernel_rfl) rfl rfl rfl (by kernel_rfl) ((h24 _ k6).mono ?_)
          rintro e w7 ⟨rfl, k7, b7⟩
          refine ⟨_, rfl, k7, ?_⟩
          simp only [Act.put, List.setIfInBounds_toArray, List.set_cons_zero, List.set_cons_succ]
          refine df.take_op (i := 4) 53 (v := .bool true) rfl rfl (.inl ⟨rfl, fun w _ => by kernel_rfl⟩) (by kernel_rfl) (by kernel_rfl) (by kernel_rfl) (fun _ _ _ h => h) k7 ?_
          simp only [Act.put, List.setIfInBounds_toArray, List.set_cons_zero, List.set_cons_succ]
          refine df.take_op (i := 5) 54 rfl rfl (df.yields_move rfl (.tmp 53) rfl) (by kernel_rfl) (by kernel_rfl) (by kernel_rfl) (fun _ _ _ h => h) k7 ?_
          simp only [Act.put, List.setIfInBounds_toArray, List.set_cons_zero, List.set_cons_succ]
          refine df.take_op (i := 6) 55 rfl rfl (df.yields_move rfl (.tmp 10) rfl) (by kernel_rfl) (by kernel_rfl) (by kernel_rfl) (fun _ _ _ h => h) k7 ?_
          simp only [Act.put, List.setIfInBounds_toArray, List.set_cons_zero, List.set_cons_succ]
          refine df.take_op (i := 7) 56 rfl rfl (df.yields_move rfl (.tmp 7) rfl) (by kernel_rfl) (by kernel_rfl) (by kernel_rfl) (fun _ _ _ h => h) k7 ?_
          simp only [Act.put, List.setIfInBounds_toArray, List.set_cons_zero, List.set_cons_succ]
          refine df.call_op 8 57 (f := 14) (args := #[v5, .slice (some ⟨gb, goff, none⟩) l.length cv]) (by kernel_rfl) rfl rfl rfl (by kernel_rfl) ((h14 _ _ _ (((ints_drew hv5).later b6).later b7) (((ints_drew hw5).later b6).later b7)).mono ?_)
          rintro e w8 ⟨rfl, b8⟩
          refine ⟨_, rfl, (df.chain k7 b8 : Kept w1 w8), ?_⟩
          simp only [Act.put, List.setIfInBounds_toArray, List.set_cons_zero, List.set_cons_succ]
          have k8 : Kept w1 w8 := df.chain k7 b8
          refine df.take_op (i := 9) 58 (v := .bool true) rfl rfl (.inl ⟨rfl, fun w _ => by kernel_rfl⟩) (by kernel_rfl) (by kernel_rfl) (by kernel_rfl) (fun _ _ _ h => h) k8 ?_
          simp only [Act.put, List.setIfInBounds_toArray, List.set_cons_zero, List.set_cons_succ]
          refine df.take_op (i := 10) 59 rfl rfl (df.yields_move rfl (.tmp 58) rfl) (by kernel_rfl) (by kernel_rfl) (by kernel_rfl) (fun _ _ _ h => h) k8 ?_
          simp only [Act.put, List.setIfInBounds_toArray, List.set_cons_zero, List.set_cons_succ]
          refine df.take_op (i := 11) 60 rfl rfl (df.yields_load rfl (.tmp 3) rfl w0.heap.size rfl cs hw8 (fun W h => b0.later h)) (by kernel_rfl) (by kernel_rfl) (by kernel_rfl) (fun _ _ _ h => h) k8 ?_
          simp only [Act.put, List.setIfInBounds_toArray, List.set_cons_zero, List.set_cons_succ]
          refine df.take_op (i := 12) 61 rfl rfl (df.yields_move rfl (.tmp 1) rfl) (by kernel_rfl) (by kernel_rfl) (by kernel_rfl) (fun _ _ _ h => h) k8 ?_
          simp only [Act.put, List.setIfInBounds_toArray, List.set_cons_zero, List.set_cons_succ]
          refine df.take_op (i := 13) 62 rfl rfl (df.yields_move rfl (.tmp 2) rfl) (by kernel_rfl) (by kernel_rfl) (by kernel_rfl) (fun _ _ _ h => h) k8 ?_
          simp only [Act.put, List.setIfInBounds_toArray, List.set_cons_zero, List.set_cons_succ]
          refine df.take_op (i := 14) 63 (v := .string (u.extract 0 k)) rfl rfl (.inl ⟨rfl, fun w _ => by go_simp <;> (intro hh; omega)⟩) (by kernel_rfl) (by kernel_rfl) (by kernel_rfl) (fun _ _ _ h => h) k8 ?_
          simp only [Act.put, List.setIfInBounds_toArray, List.set_cons_zero, List.set_cons_succ]
          refine df.take_op (i := 16) 65 rfl rfl (df.yields_move rfl (.tmp 11) rfl) (by kernel_rfl) (by kernel_rfl) (by kernel_rfl) (fun _ _ _ h => h) k8 ?_
          simp only [Act.put, List.setIfInBounds_toArray, List.set_cons_zero, List.set_cons_succ]
          refine df.call_op 15 64 (f := 22) (args := #[.agg cs, .string (u.extract 0 k), .int .i64 0]) (by kernel_rfl) rfl rfl rfl (by kernel_rfl) ((h22 _ k8).mono ?_)
          rintro e w9 ⟨rfl, k9⟩
          refine ⟨_, rfl, k9, ?_⟩
          simp only [Act.put, List.setIfInBounds_toArray, List.set_cons_zero, List.set_cons_succ]
          refine df.take_op (i := 17) 66 (v := .bool true) rfl rfl (.inl ⟨rfl, fun w _ => by go_simp⟩) (by kernel_rfl) (by kernel_rfl) (by kernel_rfl) (fun _ _ _ h => h) k9 ?_
          simp only [Act.put, List.setIfInBounds_toArray, List.set_cons_zero, List.set_cons_succ]
          refine df.take_op (i := 18) 67 (v := .bool true) rfl rfl (.inl ⟨rfl, fun w _ => by kernel_rfl⟩) (by kernel_rfl) (by kernel_rfl) (by kernel_rfl) (fun _ _ _ h => h) k9 ?_
          simp only [Act.put, List.setIfInBounds_toArray, List.set_cons_zero, List.set_cons_succ]
          refine df.take_op (i := 19) 6 rfl rfl (df.yields_assign rfl (.tmp 67) rfl) (by kernel_rfl) (by kernel_rfl) (by kernel_rfl) (fun _ _ _ h => h) k9 ?_
          simp only [Act.put, List.setIfInBounds_toArray, List.set_cons_zero, List.set_cons_succ]
          refine df.done_op (by kernel_rfl) ?_
          go_wp2_with (fail)
          go_ret
          exact ⟨rfl, df.chain HB k9⟩
set_option maxHeartbeats 4000000 in
set_option maxRecDepth 100000 in
theorem walk_far {d : df.Dfa} {cs : Array Value} {o ao : Option Addr} {cap acap : Nat} {w0 : World} (hD : df.DAt (df.In w0) w0 d cs o cap ao acap) {s : ByteArray} (hs : s.size ≤ 140737488351232) {k : Nat} (hk : (df.cut s 2000).size < k) :
    Calls Try.prog 6 #[.agg cs, .string s, .int .i64 (k : Int)] w0 fun e w' => e = .returned (.bool true) ∧ Below w0.heap.size w0 w' := by
  have h18 := df.short_any 18 rfl s 2000 (by omega) (by omega)
  have hcut := df.cut_size s 2000
  generalize df.cut s 2000 = u at *
  have hw8 := hD.size
  have b0 := df.dbox_new w0 cs
  have HB := df.below_alloc w0 (.cells cs 51)
  have D1 := hD.later HB
  obtain ⟨w1, hw1⟩ : ∃ w1, w1 = w0.alloc (.cells cs 51) := ⟨_, rfl⟩
  rw [← hw1] at b0 HB D1
  have hfil : (df.endsOf d u 0).filter (fun x => decide (x ≤ (u.size : Int))) = df.endsOf d (u.extract 0 u.size) 0 := df.begins_all d u u.size (Nat.le_refl _)
  have h21 : ∀ W, Kept w1 W → Calls Try.prog 21 #[.agg cs, .string u, .int .i64 0] W fun e w' => ∃ vo vc, e = .returned (.slice vo (df.endsOf d u 0).length vc) ∧ df.Row (df.In w') w' df.iv vo vc (df.endsOf d u 0) ∧ Kept w1 w' := fun W h => (df.ends_any d u 0 (by omega) cs o cap ao acap W (D1.later h)).mono fun e w' ⟨v, h1, ⟨vo, vc, h2, h3⟩, h4⟩ => ⟨vo, vc, by rw [h1, h2], h3, df.chain h h4⟩
  have hz : (u.extract 0 u.size).size ≤ 1000000000000 := Nat.le_trans (cut_le u u.size) (by omega)
  have h21b : ∀ W, Kept w1 W → Calls Try.prog 21 #[.agg cs, .string (u.extract 0 u.size), .int .i64 0] W fun e w' => ∃ v, e = .returned v ∧ df.IntsV w' v (df.endsOf d (u.extract 0 u.size) 0) ∧ Kept w1 w' ∧ Below W.heap.size W w' := fun W h => (df.ends_any d (u.extract 0 u.size) 0 hz cs o cap ao acap W (D1.later h)).mono fun e w' ⟨v, h1, h2, h3⟩ => ⟨v, h1, h2, df.chain h h3, h3⟩
  have h22 : ∀ W, Kept w1 W → Calls Try.prog 22 #[.agg cs, .string (u.extract 0 u.size), .int .i64 0] W fun e w' => e = .returned (.int .i64 ((df.endsOf d (u.extract 0 u.size) 0).getLast?.getD (-1))) ∧ Kept w1 w' := fun W h => (df.longest_any d (u.extract 0 u.size) 0 hz cs o cap ao acap W (D1.later h)).mono fun e w' ⟨h1, h2⟩ => ⟨h1, df.chain h h2⟩
  have h23 : ∀ W, Kept w1 W → Calls Try.prog 23 #[.agg cs] W fun e w' => e = .returned (.bool (df.right d)) ∧ Kept w1 w' ∧ Below W.heap.size W w' := fun W h => (df.right_any d _ rfl cs o cap ao acap W (D1.later h)).mono fun e w' ⟨h1, h2⟩ => ⟨h1, df.chain h h2, h2⟩
  have h24 : ∀ W, Kept w1 W → Calls Try.prog 24 #[.agg cs] W fun e w' => e = .returned (.bool (df.right d)) ∧ Kept w1 w' ∧ Below W.heap.size W w' := fun W h => (df.rright_any d _ rfl cs o cap ao acap W (D1.later h)).mono fun e w' ⟨h1, h2⟩ => ⟨h1, df.chain h h2, h2⟩
  rw [← hfil] at h21b h22
  have h14 := df.ints_any ((df.endsOf d u 0).filter (fun x => decide (x ≤ (u.size : Int)))) ((df.endsOf d u 0).filter (fun x => decide (x ≤ (u.size : Int)))) true (by simp)
  unfold df.IntsIs at h14
  have hlen := df.endsOf_len d u 0
  have k0 : Kept w1 w1 := Below.refl _ _
  generalize df.endsOf d u 0 = full at *
  generalize df.right d = r at *
  clear hfil hz
  go_enter Try.func6, Try.ntmps6
  go_wp2_with (first | (go_at_call 20; (refine (h18 _).mono ?_); rintro e w2 ⟨rfl, hw⟩; obtain rfl := hw.symm) | (refine wpList_load_row rfl 51 (.tmp 3) rfl w0.heap.size rfl 51 cs (0, 0) _ (hw1 ▸ b0) Try.underlying51 rfl (df.info37 cs hw8) ?_) | (go_at_call 21; (refine (h21 _ (hw1 ▸ k0)).mono ?_); rintro e w3 ⟨vo, vc, rfl, hv3, k3⟩))
  have hv3f := hv3.fit
  have hv3t := hv3.top
  have HV3 := (show Hid (df.Row (df.In w3) w3 df.iv vo vc full) from hv3)
  clear hv3 h18 hw1
  go_loopw [7, 23] (fun v y wr => ∃ (i : Nat) (l : List Int), y = .int .i64 i ∧ i ≤ full.length ∧ l.length ≤ i ∧ Hid (l = (full.take i).filter (fun x => decide (x ≤ (u.size : Int)))) ∧ df.Owns wr w3.heap.size v l ∧ Below w3.heap.size w3 wr) (fun _ y _ => full.length - (intOf y).toNat)
  case atStart => exact ⟨0, [], rfl, by omega, by simp, by show _ = _; simp, World.ownsRow_nil _ _ _ _, Below.refl _ _⟩
  case round =>
    obtain ⟨i, l, rfl, hi, hli, HL, hrow, hBr⟩ := hrel
    obtain ⟨gv, cv, rfl⟩ := df.own_slice hrow
    by_cases hlt : i < full.length
    · obtain ⟨b, off, rfl, hb, hc⟩ := HV3.out.lie i hlt
      have hc2 := (hBr.cell (p := ⟨b, off + i, none⟩) hb).trans hc
      have hrow0 := hrow
      have hsn := df.take_snoc hlt
      obtain ⟨x, hx⟩ : ∃ x, x = full[i] := ⟨_, rfl⟩
      rw [← hx] at hc2 hsn
      clear hx hc
      by_cases hxk : x ≤ (u.size : Int)
      · have HN : Hid (l ++ [x] = (full.take (i + 1)).filter (fun x => decide (x ≤ (u.size : Int)))) := by show _ = _; rw [hsn, List.filter_append, HL.out]; simp [hxk]
        have f1 : decide (x ≤ (u.size : Int)) = true := decide_eq_true hxk
        clear HL hsn hxk
        go_wp2_with (at_builtin; refine df.wpList_append_int rfl _ _ rfl w3.heap.size _ l x wr.heap.size rfl rfl (hrow.alloc _) (by simp) (by omega) (by have := hBr.size; simp; omega) ?_; intro g' cap' w4 hown4 hgr4; clear hrow)
        go_roundw
        case rel => exact ⟨i + 1, l ++ [x], by go_num, by omega, by simp; omega, HN, hown4, (hBr.alloc hBr.size _).grown hgr4 (by have := hBr.size; simp; omega) (df.own_ge hrow0)⟩
        case measure => simp [intOf]; omega
      · have HN : Hid (l = (full.take (i + 1)).filter (fun x => decide (x ≤ (u.size : Int)))) := by show _ = _; rw [hsn, List.filter_append, HL.out]; simp [hxk]
        have f1 : decide (x ≤ (u.size : Int)) = false := decide_eq_false hxk
        clear HL hsn hxk
        go_wp2_with (fail)
        go_roundw
        case rel => exact ⟨i + 1, l, by go_num, by omega, by omega, HN, hrow0, hBr⟩
        case measure => simp [intOf]; omega
    · have HN : Hid (l = full.filter (fun x => decide (x ≤ (u.size : Int)))) := by show _ = _; rw [HL.out, List.take_of_length_le (by omega)]
      have hw := df.ints_of_owns hrow
      have kr : Kept w1 wr := df.chain k3 hBr
      rw [← HN.out] at h21b h22 h14
      clear HL HN hrow
      go_wp2_with (fail)
      refine wp_region_held (S := Kept w1) (by kernel_rfl) ?_
      refine df.take_op (i := 0) 35 rfl rfl (df.yields_load rfl (.tmp 3) rfl w0.heap.size rfl cs hw8 (fun W h => b0.later h)) (by kernel_rfl) (by kernel_rfl) (by kernel_rfl) (fun _ _ _ h => h) kr.drew ?_
      simp only [Act.put, List.setIfInBounds_toArray, List.set_cons_zero, List.set_cons_succ]
      refine df.take_op (i := 1) 36 rfl rfl (df.yields_move rfl (.tmp 1) rfl) (by kernel_rfl) (by kernel_rfl) (by kernel_rfl) (fun _ _ _ h => h) kr.drew ?_
      simp only [Act.put, List.setIfInBounds_toArray, List.set_cons_zero, List.set_cons_succ]
      refine df.take_op (i := 2) 37 rfl rfl (df.yields_move rfl (.tmp 2) rfl) (by kernel_rfl) (by kernel_rfl) (by kernel_rfl) (fun _ _ _ h => h) kr.drew ?_
      simp only [Act.put, List.setIfInBounds_toArray, List.set_cons_zero, List.set_cons_succ]
      refine df.take_op (i := 3) 38 (v := .string (u.extract 0 u.size)) rfl rfl (.inl ⟨rfl, fun w _ => by go_simp <;> (intro hh; omega)⟩) (by kernel_rfl) (by kernel_rfl) (by kernel_rfl) (fun _ _ _ h => h) kr.drew ?_
      simp only [Act.put, List.setIfInBounds_toArray, List.set_cons_zero, List.set_cons_succ]
      refine df.call_op 4 39 (f := 21) (args := #[.agg cs, .string (u.extract 0 u.size), .int .i64 0]) (by kernel_rfl) rfl rfl rfl (by kernel_rfl) ((h21b _ kr.drew).mono ?_)
      rintro e w5 ⟨v5, rfl, hv5, k5, b5⟩
      refine ⟨_, rfl, k5, ?_⟩
      simp only [Act.put, List.setIfInBounds_toArray, List.set_cons_zero, List.set_cons_succ]
      refine df.take_op (i := 5) 10 rfl rfl (df.yields_assign rfl (.tmp 39) rfl) (by kernel_rfl) (by kernel_rfl) (by kernel_rfl) (fun _ _ _ h => h) k5 ?_
      simp only [Act.put, List.setIfInBounds_toArray, List.set_cons_zero, List.set_cons_succ]
      refine df.done_op (by kernel_rfl) ?_
      have hw5 : df.IntsV w5 (.slice gv l.length cv) l := df.IntsV.later (ints_drew hw) b5
      have hll : l.length ≤ 1000000000000 := by omega
      by_cases hl0 : l.length = 0
      · have e0 : l = [] := List.length_eq_zero_iff.1 hl0
        subst e0
        have hlast : ([] : List Int).getLast?.getD (-1) = -1 := rfl
        rw [hlast] at h22
        clear hl0 hlast hli
        have hw5 : df.IntsV w5 (.slice gv 0 cv) [] := hw5
        go_wp2_with (fail)
        cases r
        all_goals
          refine wp_region_held (S := Kept w1) (by kernel_rfl) ?_
          refine df.take_op (i := 0) 49 rfl rfl (df.yields_load rfl (.tmp 3) rfl w0.heap.size rfl cs hw8 (fun W h => b0.later h)) (by kernel_rfl) (by kernel_rfl) (by kernel_rfl) (fun _ _ _ h => h) k5.drew ?_
          simp only [Act.put, List.setIfInBounds_toArray, List.set_cons_zero, List.set_cons_succ]
          refine df.take_op (i := 2) 51 rfl rfl (df.yields_load rfl (.tmp 3) rfl w0.heap.size rfl cs hw8 (fun W h => b0.later h)) (by kernel_rfl) (by kernel_rfl) (by kernel_rfl) (fun _ _ _ h => h) k5.drew ?_
          simp only [Act.put, List.setIfInBounds_toArray, List.set_cons_zero, List.set_cons_succ]
          refine df.call_op 1 50 (f := 23) (args := #[.agg cs]) (by kernel_rfl) rfl rfl rfl (by kernel_rfl) ((h23 _ k5.drew).mono ?_)
          rintro e w6 ⟨rfl, k6, b6⟩
          refine ⟨_, rfl, k6, ?_⟩
          simp only [Act.put, List.setIfInBounds_toArray, List.set_cons_zero, List.set_cons_succ]
          refine df.call_op 3 52 (f := 24) (args := #[.agg cs]) (by kernel_rfl) rfl rfl rfl (by kernel_rfl) ((h24 _ k6).mono ?_)
          rintro e w7 ⟨rfl, k7, b7⟩
          refine ⟨_, rfl, k7, ?_⟩
          simp only [Act.put, List.setIfInBounds_toArray, List.set_cons_zero, List.set_cons_succ]
          refine df.take_op (i := 4) 53 (v := .bool true) rfl rfl (.inl ⟨rfl, fun w _ => by kernel_rfl⟩) (by kernel_rfl) (by kernel_rfl) (by kernel_rfl) (fun _ _ _ h => h) k7 ?_
          simp only [Act.put, List.setIfInBounds_toArray, List.set_cons_zero, List.set_cons_succ]
          refine df.take_op (i := 5) 54 rfl rfl (df.yields_move rfl (.tmp 53) rfl) (by kernel_rfl) (by kernel_rfl) (by kernel_rfl) (fun _ _ _ h => h) k7 ?_
          simp only [Act.put, List.setIfInBounds_toArray, List.set_cons_zero, List.set_cons_succ]
          refine df.take_op (i := 6) 55 rfl rfl (df.yields_move rfl (.tmp 10) rfl) (by kernel_rfl) (by kernel_rfl) (by kernel_rfl) (fun _ _ _ h => h) k7 ?_
          simp only [Act.put, List.setIfInBounds_toArray, List.set_cons_zero, List.set_cons_succ]
          refine df.take_op (i := 7) 56 rfl rfl (df.yields_move rfl (.tmp 7) rfl) (by kernel_rfl) (by kernel_rfl) (by kernel_rfl) (fun _ _ _ h => h) k7 ?_
          simp only [Act.put, List.setIfInBounds_toArray, List.set_cons_zero, List.set_cons_succ]
          refine df.call_op 8 57 (f := 14) (args := #[v5, .slice gv 0 cv]) (by kernel_rfl) rfl rfl rfl (by kernel_rfl) ((h14 _ _ _ (((ints_drew hv5).later b6).later b7) (((ints_drew hw5).later b6).later b7)).mono ?_)
          rintro e w8 ⟨rfl, b8⟩
          refine ⟨_, rfl, (df.chain k7 b8 : Kept w1 w8), ?_⟩
          simp only [Act.put, List.setIfInBounds_toArray, List.set_cons_zero, List.set_cons_succ]
          have k8 : Kept w1 w8 := df.chain k7 b8
          refine df.take_op (i := 9) 58 (v := .bool true) rfl rfl (.inl ⟨rfl, fun w _ => by kernel_rfl⟩) (by kernel_rfl) (by kernel_rfl) (by kernel_rfl) (fun _ _ _ h => h) k8 ?_
          simp only [Act.put, List.setIfInBounds_toArray, List.set_cons_zero, List.set_cons_succ]
          refine df.take_op (i := 10) 59 rfl rfl (df.yields_move rfl (.tmp 58) rfl) (by kernel_rfl) (by kernel_rfl) (by kernel_rfl) (fun _ _ _ h => h) k8 ?_
          simp only [Act.put, List.setIfInBounds_toArray, List.set_cons_zero, List.set_cons_succ]
          refine df.take_op (i := 11) 60 rfl rfl (df.yields_load rfl (.tmp 3) rfl w0.heap.size rfl cs hw8 (fun W h => b0.later h)) (by kernel_rfl) (by kernel_rfl) (by kernel_rfl) (fun _ _ _ h => h) k8 ?_
          simp only [Act.put, List.setIfInBounds_toArray, List.set_cons_zero, List.set_cons_succ]
          refine df.take_op (i := 12) 61 rfl rfl (df.yields_move rfl (.tmp 1) rfl) (by kernel_rfl) (by kernel_rfl) (by kernel_rfl) (fun _ _ _ h => h) k8 ?_
          simp only [Act.put, List.setIfInBounds_toArray, List.set_cons_zero, List.set_cons_succ]
          refine df.take_op (i := 13) 62 rfl rfl (df.yields_move rfl (.tmp 2) rfl) (by kernel_rfl) (by kernel_rfl) (by kernel_rfl) (fun _ _ _ h => h) k8 ?_
          simp only [Act.put, List.setIfInBounds_toArray, List.set_cons_zero, List.set_cons_succ]
          refine df.take_op (i := 14) 63 (v := .string (u.extract 0 u.size)) rfl rfl (.inl ⟨rfl, fun w _ => by go_simp <;> (intro hh; omega)⟩) (by kernel_rfl) (by kernel_rfl) (by kernel_rfl) (fun _ _ _ h => h) k8 ?_
          simp only [Act.put, List.setIfInBounds_toArray, List.set_cons_zero, List.set_cons_succ]
          refine df.take_op (i := 16) 65 rfl rfl (df.yields_move rfl (.tmp 11) rfl) (by kernel_rfl) (by kernel_rfl) (by kernel_rfl) (fun _ _ _ h => h) k8 ?_
          simp only [Act.put, List.setIfInBounds_toArray, List.set_cons_zero, List.set_cons_succ]
          refine df.call_op 15 64 (f := 22) (args := #[.agg cs, .string (u.extract 0 u.size), .int .i64 0]) (by kernel_rfl) rfl rfl rfl (by kernel_rfl) ((h22 _ k8).mono ?_)
          rintro e w9 ⟨rfl, k9⟩
          refine ⟨_, rfl, k9, ?_⟩
          simp only [Act.put, List.setIfInBounds_toArray, List.set_cons_zero, List.set_cons_succ]
          refine df.take_op (i := 17) 66 (v := .bool true) rfl rfl (.inl ⟨rfl, fun w _ => by go_simp⟩) (by kernel_rfl) (by kernel_rfl) (by kernel_rfl) (fun _ _ _ h => h) k9 ?_
          simp only [Act.put, List.setIfInBounds_toArray, List.set_cons_zero, List.set_cons_succ]
          refine df.take_op (i := 18) 67 (v := .bool true) rfl rfl (.inl ⟨rfl, fun w _ => by kernel_rfl⟩) (by kernel_rfl) (by kernel_rfl) (by kernel_rfl) (fun _ _ _ h => h) k9 ?_
          simp only [Act.put, List.setIfInBounds_toArray, List.set_cons_zero, List.set_cons_succ]
          refine df.take_op (i := 19) 6 rfl rfl (df.yields_assign rfl (.tmp 67) rfl) (by kernel_rfl) (by kernel_rfl) (by kernel_rfl) (fun _ _ _ h => h) k9 ?_
          simp only [Act.put, List.setIfInBounds_toArray, List.set_cons_zero, List.set_cons_succ]
          refine df.done_op (by kernel_rfl) ?_
          go_wp2_with (fail)
          go_ret
          exact ⟨rfl, df.chain HB k9⟩
      · have hl1 : 1 ≤ l.length := by omega
        have hwr : IntKind.i64.wrap ((l.length : Int) - 1) = ((l.length - 1 : Nat) : Int) := by
          have : (l.length : Int) - 1 = ((l.length - 1 : Nat) : Int) := by omega
          rw [this]
          exact IntWalk.i64_in _ (by omega)
        obtain ⟨go, gc, ge, hgr⟩ := hw5
        cases ge
        have hgf := hgr.fit
        have hgt := hgr.top
        obtain ⟨gb, goff, rfl, hgb, hgc⟩ := df.ints_last hgr hl1
        have hw5 : df.IntsV w5 (.slice (some ⟨gb, goff, none⟩) l.length cv) l := ⟨_, _, rfl, hgr⟩
        generalize l.getLast?.getD (-1) = last at *
        clear hl0 hli
        go_wp2_with (fail)
        cases r
        all_goals
          refine wp_region_held (S := Kept w1) (by kernel_rfl) ?_
          refine df.take_op (i := 0) 49 rfl rfl (df.yields_load rfl (.tmp 3) rfl w0.heap.size rfl cs hw8 (fun W h => b0.later h)) (by kernel_rfl) (by kernel_rfl) (by kernel_rfl) (fun _ _ _ h => h) k5.drew ?_
          simp only [Act.put, List.setIfInBounds_toArray, List.set_cons_zero, List.set_cons_succ]
          refine df.take_op (i := 2) 51 rfl rfl (df.yields_load rfl (.tmp 3) rfl w0.heap.size rfl cs hw8 (fun W h => b0.later h)) (by kernel_rfl) (by kernel_rfl) (by kernel_rfl) (fun _ _ _ h => h) k5.drew ?_
          simp only [Act.put, List.setIfInBounds_toArray, List.set_cons_zero, List.set_cons_succ]
          refine df.call_op 1 50 (f := 23) (args := #[.agg cs]) (by kernel_rfl) rfl rfl rfl (by kernel_rfl) ((h23 _ k5.drew).mono ?_)
          rintro e w6 ⟨rfl, k6, b6⟩
          refine ⟨_, rfl, k6, ?_⟩
          simp only [Act.put, List.setIfInBounds_toArray, List.set_cons_zero, List.set_cons_succ]
          refine df.call_op 3 52 (f := 24) (args := #[.agg cs]) (by kernel_rfl) rfl rfl rfl (by kernel_rfl) ((h24 _ k6).mono ?_)
          rintro e w7 ⟨rfl, k7, b7⟩
          refine ⟨_, rfl, k7, ?_⟩
          simp only [Act.put, List.setIfInBounds_toArray, List.set_cons_zero, List.set_cons_succ]
          refine df.take_op (i := 4) 53 (v := .bool true) rfl rfl (.inl ⟨rfl, fun w _ => by kernel_rfl⟩) (by kernel_rfl) (by kernel_rfl) (by kernel_rfl) (fun _ _ _ h => h) k7 ?_
          simp only [Act.put, List.setIfInBounds_toArray, List.set_cons_zero, List.set_cons_succ]
          refine df.take_op (i := 5) 54 rfl rfl (df.yields_move rfl (.tmp 53) rfl) (by kernel_rfl) (by kernel_rfl) (by kernel_rfl) (fun _ _ _ h => h) k7 ?_
          simp only [Act.put, List.setIfInBounds_toArray, List.set_cons_zero, List.set_cons_succ]
          refine df.take_op (i := 6) 55 rfl rfl (df.yields_move rfl (.tmp 10) rfl) (by kernel_rfl) (by kernel_rfl) (by kernel_rfl) (fun _ _ _ h => h) k7 ?_
          simp only [Act.put, List.setIfInBounds_toArray, List.set_cons_zero, List.set_cons_succ]
          refine df.take_op (i := 7) 56 rfl rfl (df.yields_move rfl (.tmp 7) rfl) (by kernel_rfl) (by kernel_rfl) (by kernel_rfl) (fun _ _ _ h => h) k7 ?_
          simp only [Act.put, List.setIfInBounds_toArray, List.set_cons_zero, List.set_cons_succ]
          refine df.call_op 8 57 (f := 14) (args := #[v5, .slice (some ⟨gb, goff, none⟩) l.length cv]) (by kernel_rfl) rfl rfl rfl (by kernel_rfl) ((h14 _ _ _ (((ints_drew hv5).later b6).later b7) (((ints_drew hw5).later b6).later b7)).mono ?_)
          rintro e w8 ⟨rfl, b8⟩
          refine ⟨_, rfl, (df.chain k7 b8 : Kept w1 w8), ?_⟩
          simp only [Act.put, List.setIfInBounds_toArray, List.set_cons_zero, List.set_cons_succ]
          have k8 : Kept w1 w8 := df.chain k7 b8
          refine df.take_op (i := 9) 58 (v := .bool true) rfl rfl (.inl ⟨rfl, fun w _ => by kernel_rfl⟩) (by kernel_rfl) (by kernel_rfl) (by kernel_rfl) (fun _ _ _ h => h) k8 ?_
          simp only [Act.put, List.setIfInBounds_toArray, List.set_cons_zero, List.set_cons_succ]
          refine df.take_op (i := 10) 59 rfl rfl (df.yields_move rfl (.tmp 58) rfl) (by kernel_rfl) (by kernel_rfl) (by kernel_rfl) (fun _ _ _ h => h) k8 ?_
          simp only [Act.put, List.setIfInBounds_toArray, List.set_cons_zero, List.set_cons_succ]
          refine df.take_op (i := 11) 60 rfl rfl (df.yields_load rfl (.tmp 3) rfl w0.heap.size rfl cs hw8 (fun W h => b0.later h)) (by kernel_rfl) (by kernel_rfl) (by kernel_rfl) (fun _ _ _ h => h) k8 ?_
          simp only [Act.put, List.setIfInBounds_toArray, List.set_cons_zero, List.set_cons_succ]
          refine df.take_op (i := 12) 61 rfl rfl (df.yields_move rfl (.tmp 1) rfl) (by kernel_rfl) (by kernel_rfl) (by kernel_rfl) (fun _ _ _ h => h) k8 ?_
          simp only [Act.put, List.setIfInBounds_toArray, List.set_cons_zero, List.set_cons_succ]
          refine df.take_op (i := 13) 62 rfl rfl (df.yields_move rfl (.tmp 2) rfl) (by kernel_rfl) (by kernel_rfl) (by kernel_rfl) (fun _ _ _ h => h) k8 ?_
          simp only [Act.put, List.setIfInBounds_toArray, List.set_cons_zero, List.set_cons_succ]
          refine df.take_op (i := 14) 63 (v := .string (u.extract 0 u.size)) rfl rfl (.inl ⟨rfl, fun w _ => by go_simp <;> (intro hh; omega)⟩) (by kernel_rfl) (by kernel_rfl) (by kernel_rfl) (fun _ _ _ h => h) k8 ?_
          simp only [Act.put, List.setIfInBounds_toArray, List.set_cons_zero, List.set_cons_succ]
          refine df.take_op (i := 16) 65 rfl rfl (df.yields_move rfl (.tmp 11) rfl) (by kernel_rfl) (by kernel_rfl) (by kernel_rfl) (fun _ _ _ h => h) k8 ?_
          simp only [Act.put, List.setIfInBounds_toArray, List.set_cons_zero, List.set_cons_succ]
          refine df.call_op 15 64 (f := 22) (args := #[.agg cs, .string (u.extract 0 u.size), .int .i64 0]) (by kernel_rfl) rfl rfl rfl (by kernel_rfl) ((h22 _ k8).mono ?_)
          rintro e w9 ⟨rfl, k9⟩
          refine ⟨_, rfl, k9, ?_⟩
          simp only [Act.put, List.setIfInBounds_toArray, List.set_cons_zero, List.set_cons_succ]
          refine df.take_op (i := 17) 66 (v := .bool true) rfl rfl (.inl ⟨rfl, fun w _ => by go_simp⟩) (by kernel_rfl) (by kernel_rfl) (by kernel_rfl) (fun _ _ _ h => h) k9 ?_
          simp only [Act.put, List.setIfInBounds_toArray, List.set_cons_zero, List.set_cons_succ]
          refine df.take_op (i := 18) 67 (v := .bool true) rfl rfl (.inl ⟨rfl, fun w _ => by kernel_rfl⟩) (by kernel_rfl) (by kernel_rfl) (by kernel_rfl) (fun _ _ _ h => h) k9 ?_
          simp only [Act.put, List.setIfInBounds_toArray, List.set_cons_zero, List.set_cons_succ]
          refine df.take_op (i := 19) 6 rfl rfl (df.yields_assign rfl (.tmp 67) rfl) (by kernel_rfl) (by kernel_rfl) (by kernel_rfl) (fun _ _ _ h => h) k9 ?_
          simp only [Act.put, List.setIfInBounds_toArray, List.set_cons_zero, List.set_cons_succ]
          refine df.done_op (by kernel_rfl) ?_
          go_wp2_with (fail)
          go_ret
          exact ⟨rfl, df.chain HB k9⟩
set_option maxHeartbeats 4000000 in
set_option maxRecDepth 100000 in
theorem walk_eq {d : df.Dfa} {cs : Array Value} {o ao : Option Addr} {cap acap : Nat} {w0 : World} (hD : df.DAt (df.In w0) w0 d cs o cap ao acap) {s : ByteArray} (hs : s.size ≤ 140737488351232)  :
    Calls Try.prog 6 #[.agg cs, .string s, .int .i64 ((df.cut s 2000).size : Int)] w0 fun e w' => e = .returned (.bool true) ∧ Below w0.heap.size w0 w' := by
  have h18 := df.short_any 18 rfl s 2000 (by omega) (by omega)
  have hcut := df.cut_size s 2000
  generalize df.cut s 2000 = u at *
  have hw8 := hD.size
  have b0 := df.dbox_new w0 cs
  have HB := df.below_alloc w0 (.cells cs 51)
  have D1 := hD.later HB
  obtain ⟨w1, hw1⟩ : ∃ w1, w1 = w0.alloc (.cells cs 51) := ⟨_, rfl⟩
  rw [← hw1] at b0 HB D1
  have hfil : (df.endsOf d u 0).filter (fun x => decide (x ≤ (u.size : Int))) = df.endsOf d (u.extract 0 u.size) 0 := df.begins_all d u u.size (Nat.le_refl _)
  have h21 : ∀ W, Kept w1 W → Calls Try.prog 21 #[.agg cs, .string u, .int .i64 0] W fun e w' => ∃ vo vc, e = .returned (.slice vo (df.endsOf d u 0).length vc) ∧ df.Row (df.In w') w' df.iv vo vc (df.endsOf d u 0) ∧ Kept w1 w' := fun W h => (df.ends_any d u 0 (by omega) cs o cap ao acap W (D1.later h)).mono fun e w' ⟨v, h1, ⟨vo, vc, h2, h3⟩, h4⟩ => ⟨vo, vc, by rw [h1, h2], h3, df.chain h h4⟩
  have hz : (u.extract 0 u.size).size ≤ 1000000000000 := Nat.le_trans (cut_le u u.size) (by omega)
  have h21b : ∀ W, Kept w1 W → Calls Try.prog 21 #[.agg cs, .string (u.extract 0 u.size), .int .i64 0] W fun e w' => ∃ v, e = .returned v ∧ df.IntsV w' v (df.endsOf d (u.extract 0 u.size) 0) ∧ Kept w1 w' ∧ Below W.heap.size W w' := fun W h => (df.ends_any d (u.extract 0 u.size) 0 hz cs o cap ao acap W (D1.later h)).mono fun e w' ⟨v, h1, h2, h3⟩ => ⟨v, h1, h2, df.chain h h3, h3⟩
  have h22 : ∀ W, Kept w1 W → Calls Try.prog 22 #[.agg cs, .string (u.extract 0 u.size), .int .i64 0] W fun e w' => e = .returned (.int .i64 ((df.endsOf d (u.extract 0 u.size) 0).getLast?.getD (-1))) ∧ Kept w1 w' := fun W h => (df.longest_any d (u.extract 0 u.size) 0 hz cs o cap ao acap W (D1.later h)).mono fun e w' ⟨h1, h2⟩ => ⟨h1, df.chain h h2⟩
  have h23 : ∀ W, Kept w1 W → Calls Try.prog 23 #[.agg cs] W fun e w' => e = .returned (.bool (df.right d)) ∧ Kept w1 w' ∧ Below W.heap.size W w' := fun W h => (df.right_any d _ rfl cs o cap ao acap W (D1.later h)).mono fun e w' ⟨h1, h2⟩ => ⟨h1, df.chain h h2, h2⟩
  have h24 : ∀ W, Kept w1 W → Calls Try.prog 24 #[.agg cs] W fun e w' => e = .returned (.bool (df.right d)) ∧ Kept w1 w' ∧ Below W.heap.size W w' := fun W h => (df.rright_any d _ rfl cs o cap ao acap W (D1.later h)).mono fun e w' ⟨h1, h2⟩ => ⟨h1, df.chain h h2, h2⟩
  rw [← hfil] at h21b h22
  have h14 := df.ints_any ((df.endsOf d u 0).filter (fun x => decide (x ≤ (u.size : Int)))) ((df.endsOf d u 0).filter (fun x => decide (x ≤ (u.size : Int)))) true (by simp)
  unfold df.IntsIs at h14
  have hlen := df.endsOf_len d u 0
  have k0 : Kept w1 w1 := Below.refl _ _
  generalize df.endsOf d u 0 = full at *
  generalize df.right d = r at *
  clear hfil hz
  go_enter Try.func6, Try.ntmps6
  go_wp2_with (first | (go_at_call 20; (refine (h18 _).mono ?_); rintro e w2 ⟨rfl, hw⟩; obtain rfl := hw.symm) | (refine wpList_load_row rfl 51 (.tmp 3) rfl w0.heap.size rfl 51 cs (0, 0) _ (hw1 ▸ b0) Try.underlying51 rfl (df.info37 cs hw8) ?_) | (go_at_call 21; (refine (h21 _ (hw1 ▸ k0)).mono ?_); rintro e w3 ⟨vo, vc, rfl, hv3, k3⟩))
  have hv3f := hv3.fit
  have hv3t := hv3.top
  have HV3 := (show Hid (df.Row (df.In w3) w3 df.iv vo vc full) from hv3)
  clear hv3 h18 hw1
  go_loopw [7, 23] (fun v y wr => ∃ (i : Nat) (l : List Int), y = .int .i64 i ∧ i ≤ full.length ∧ l.length ≤ i ∧ Hid (l = (full.take i).filter (fun x => decide (x ≤ (u.size : Int)))) ∧ df.Owns wr w3.heap.size v l ∧ Below w3.heap.size w3 wr) (fun _ y _ => full.length - (intOf y).toNat)
  case atStart => exact ⟨0, [], rfl, by omega, by simp, by show _ = _; simp, World.ownsRow_nil _ _ _ _, Below.refl _ _⟩
  case round =>
    obtain ⟨i, l, rfl, hi, hli, HL, hrow, hBr⟩ := hrel
    obtain ⟨gv, cv, rfl⟩ := df.own_slice hrow
    by_cases hlt : i < full.length
    · obtain ⟨b, off, rfl, hb, hc⟩ := HV3.out.lie i hlt
      have hc2 := (hBr.cell (p := ⟨b, off + i, none⟩) hb).trans hc
      have hrow0 := hrow
      have hsn := df.take_snoc hlt
      obtain ⟨x, hx⟩ : ∃ x, x = full[i] := ⟨_, rfl⟩
      rw [← hx] at hc2 hsn
      clear hx hc
      by_cases hxk : x ≤ (u.size : Int)
      · have HN : Hid (l ++ [x] = (full.take (i + 1)).filter (fun x => decide (x ≤ (u.size : Int)))) := by show _ = _; rw [hsn, List.filter_append, HL.out]; simp [hxk]
        have f1 : decide (x ≤ (u.size : Int)) = true := decide_eq_true hxk
        clear HL hsn hxk
        go_wp2_with (at_builtin; refine df.wpList_append_int rfl _ _ rfl w3.heap.size _ l x wr.heap.size rfl rfl (hrow.alloc _) (by simp) (by omega) (by have := hBr.size; simp; omega) ?_; intro g' cap' w4 hown4 hgr4; clear hrow)
        go_roundw
        case rel => exact ⟨i + 1, l ++ [x], by go_num, by omega, by simp; omega, HN, hown4, (hBr.alloc hBr.size _).grown hgr4 (by have := hBr.size; simp; omega) (df.own_ge hrow0)⟩
        case measure => simp [intOf]; omega
      · have HN : Hid (l = (full.take (i + 1)).filter (fun x => decide (x ≤ (u.size : Int)))) := by show _ = _; rw [hsn, List.filter_append, HL.out]; simp [hxk]
        have f1 : decide (x ≤ (u.size : Int)) = false := decide_eq_false hxk
        clear HL hsn hxk
        go_wp2_with (fail)
        go_roundw
        case rel => exact ⟨i + 1, l, by go_num, by omega, by omega, HN, hrow0, hBr⟩
        case measure => simp [intOf]; omega
    · have HN : Hid (l = full.filter (fun x => decide (x ≤ (u.size : Int)))) := by show _ = _; rw [HL.out, List.take_of_length_le (by omega)]
      have hw := df.ints_of_owns hrow
      have kr : Kept w1 wr := df.chain k3 hBr
      rw [← HN.out] at h21b h22 h14
      clear HL HN hrow
      go_wp2_with (fail)
      refine wp_region_held (S := Kept w1) (by kernel_rfl) ?_
      refine df.take_op (i := 0) 35 rfl rfl (df.yields_load rfl (.tmp 3) rfl w0.heap.size rfl cs hw8 (fun W h => b0.later h)) (by kernel_rfl) (by kernel_rfl) (by kernel_rfl) (fun _ _ _ h => h) kr.drew ?_
      simp only [Act.put, List.setIfInBounds_toArray, List.set_cons_zero, List.set_cons_succ]
      refine df.take_op (i := 1) 36 rfl rfl (df.yields_move rfl (.tmp 1) rfl) (by kernel_rfl) (by kernel_rfl) (by kernel_rfl) (fun _ _ _ h => h) kr.drew ?_
      simp only [Act.put, List.setIfInBounds_toArray, List.set_cons_zero, List.set_cons_succ]
      refine df.take_op (i := 2) 37 rfl rfl (df.yields_move rfl (.tmp 2) rfl) (by kernel_rfl) (by kernel_rfl) (by kernel_rfl) (fun _ _ _ h => h) kr.drew ?_
      simp only [Act.put, List.setIfInBounds_toArray, List.set_cons_zero, List.set_cons_succ]
      refine df.take_op (i := 3) 38 (v := .string (u.extract 0 u.size)) rfl rfl (.inl ⟨rfl, fun w _ => by go_simp <;> (intro hh; omega)⟩) (by kernel_rfl) (by kernel_rfl) (by kernel_rfl) (fun _ _ _ h => h) kr.drew ?_
      simp only [Act.put, List.setIfInBounds_toArray, List.set_cons_zero, List.set_cons_succ]
      refine df.call_op 4 39 (f := 21) (args := #[.agg cs, .string (u.extract 0 u.size), .int .i64 0]) (by kernel_rfl) rfl rfl rfl (by kernel_rfl) ((h21b _ kr.drew).mono ?_)
      rintro e w5 ⟨v5, rfl, hv5, k5, b5⟩
      refine ⟨_, rfl, k5, ?_⟩
      simp only [Act.put, List.setIfInBounds_toArray, List.set_cons_zero, List.set_cons_succ]
      refine df.take_op (i := 5) 10 rfl rfl (df.yields_assign rfl (.tmp 39) rfl) (by kernel_rfl) (by kernel_rfl) (by kernel_rfl) (fun _ _ _ h => h) k5 ?_
      simp only [Act.put, List.setIfInBounds_toArray, List.set_cons_zero, List.set_cons_succ]
      refine df.done_op (by kernel_rfl) ?_
      have hw5 : df.IntsV w5 (.slice gv l.length cv) l := df.IntsV.later (ints_drew hw) b5
      have hll : l.length ≤ 1000000000000 := by omega
      by_cases hl0 : l.length = 0
      · have e0 : l = [] := List.length_eq_zero_iff.1 hl0
        subst e0
        have hlast : ([] : List Int).getLast?.getD (-1) = -1 := rfl
        rw [hlast] at h22
        clear hl0 hlast hli
        have hw5 : df.IntsV w5 (.slice gv 0 cv) [] := hw5
        go_wp2_with (fail)
        cases r
        all_goals
          refine wp_region_held (S := Kept w1) (by kernel_rfl) ?_
          refine df.take_op (i := 0) 49 rfl rfl (df.yields_load rfl (.tmp 3) rfl w0.heap.size rfl cs hw8 (fun W h => b0.later h)) (by kernel_rfl) (by kernel_rfl) (by kernel_rfl) (fun _ _ _ h => h) k5.drew ?_
          simp only [Act.put, List.setIfInBounds_toArray, List.set_cons_zero, List.set_cons_succ]
          refine df.take_op (i := 2) 51 rfl rfl (df.yields_load rfl (.tmp 3) rfl w0.heap.size rfl cs hw8 (fun W h => b0.later h)) (by kernel_rfl) (by kernel_rfl) (by kernel_rfl) (fun _ _ _ h => h) k5.drew ?_
          simp only [Act.put, List.setIfInBounds_toArray, List.set_cons_zero, List.set_cons_succ]
          refine df.call_op 1 50 (f := 23) (args := #[.agg cs]) (by kernel_rfl) rfl rfl rfl (by kernel_rfl) ((h23 _ k5.drew).mono ?_)
          rintro e w6 ⟨rfl, k6, b6⟩
          refine ⟨_, rfl, k6, ?_⟩
          simp only [Act.put, List.setIfInBounds_toArray, List.set_cons_zero, List.set_cons_succ]
          refine df.call_op 3 52 (f := 24) (args := #[.agg cs]) (by kernel_rfl) rfl rfl rfl (by kernel_rfl) ((h24 _ k6).mono ?_)
          rintro e w7 ⟨rfl, k7, b7⟩
          refine ⟨_, rfl, k7, ?_⟩
          simp only [Act.put, List.setIfInBounds_toArray, List.set_cons_zero, List.set_cons_succ]
          refine df.take_op (i := 4) 53 (v := .bool true) rfl rfl (.inl ⟨rfl, fun w _ => by kernel_rfl⟩) (by kernel_rfl) (by kernel_rfl) (by kernel_rfl) (fun _ _ _ h => h) k7 ?_
          simp only [Act.put, List.setIfInBounds_toArray, List.set_cons_zero, List.set_cons_succ]
          refine df.take_op (i := 5) 54 rfl rfl (df.yields_move rfl (.tmp 53) rfl) (by kernel_rfl) (by kernel_rfl) (by kernel_rfl) (fun _ _ _ h => h) k7 ?_
          simp only [Act.put, List.setIfInBounds_toArray, List.set_cons_zero, List.set_cons_succ]
          refine df.take_op (i := 6) 55 rfl rfl (df.yields_move rfl (.tmp 10) rfl) (by kernel_rfl) (by kernel_rfl) (by kernel_rfl) (fun _ _ _ h => h) k7 ?_
          simp only [Act.put, List.setIfInBounds_toArray, List.set_cons_zero, List.set_cons_succ]
          refine df.take_op (i := 7) 56 rfl rfl (df.yields_move rfl (.tmp 7) rfl) (by kernel_rfl) (by kernel_rfl) (by kernel_rfl) (fun _ _ _ h => h) k7 ?_
          simp only [Act.put, List.setIfInBounds_toArray, List.set_cons_zero, List.set_cons_succ]
          refine df.call_op 8 57 (f := 14) (args := #[v5, .slice gv 0 cv]) (by kernel_rfl) rfl rfl rfl (by kernel_rfl) ((h14 _ _ _ (((ints_drew hv5).later b6).later b7) (((ints_drew hw5).later b6).later b7)).mono ?_)
          rintro e w8 ⟨rfl, b8⟩
          refine ⟨_, rfl, (df.chain k7 b8 : Kept w1 w8), ?_⟩
          simp only [Act.put, List.setIfInBounds_toArray, List.set_cons_zero, List.set_cons_succ]
          have k8 : Kept w1 w8 := df.chain k7 b8
          refine df.take_op (i := 9) 58 (v := .bool true) rfl rfl (.inl ⟨rfl, fun w _ => by kernel_rfl⟩) (by kernel_rfl) (by kernel_rfl) (by kernel_rfl) (fun _ _ _ h => h) k8 ?_
          simp only [Act.put, List.setIfInBounds_toArray, List.set_cons_zero, List.set_cons_succ]
          refine df.take_op (i := 10) 59 rfl rfl (df.yields_move rfl (.tmp 58) rfl) (by kernel_rfl) (by kernel_rfl) (by kernel_rfl) (fun _ _ _ h => h) k8 ?_
          simp only [Act.put, List.setIfInBounds_toArray, List.set_cons_zero, List.set_cons_succ]
          refine df.take_op (i := 11) 60 rfl rfl (df.yields_load rfl (.tmp 3) rfl w0.heap.size rfl cs hw8 (fun W h => b0.later h)) (by kernel_rfl) (by kernel_rfl) (by kernel_rfl) (fun _ _ _ h => h) k8 ?_
          simp only [Act.put, List.setIfInBounds_toArray, List.set_cons_zero, List.set_cons_succ]
          refine df.take_op (i := 12) 61 rfl rfl (df.yields_move rfl (.tmp 1) rfl) (by kernel_rfl) (by kernel_rfl) (by kernel_rfl) (fun _ _ _ h => h) k8 ?_
          simp only [Act.put, List.setIfInBounds_toArray, List.set_cons_zero, List.set_cons_succ]
          refine df.take_op (i := 13) 62 rfl rfl (df.yields_move rfl (.tmp 2) rfl) (by kernel_rfl) (by kernel_rfl) (by kernel_rfl) (fun _ _ _ h => h) k8 ?_
          simp only [Act.put, List.setIfInBounds_toArray, List.set_cons_zero, List.set_cons_succ]
          refine df.take_op (i := 14) 63 (v := .string (u.extract 0 u.size)) rfl rfl (.inl ⟨rfl, fun w _ => by go_simp <;> (intro hh; omega)⟩) (by kernel_rfl) (by kernel_rfl) (by kernel_rfl) (fun _ _ _ h => h) k8 ?_
          simp only [Act.put, List.setIfInBounds_toArray, List.set_cons_zero, List.set_cons_succ]
          refine df.take_op (i := 16) 65 rfl rfl (df.yields_move rfl (.tmp 11) rfl) (by kernel_rfl) (by kernel_rfl) (by kernel_rfl) (fun _ _ _ h => h) k8 ?_
          simp only [Act.put, List.setIfInBounds_toArray, List.set_cons_zero, List.set_cons_succ]
          refine df.call_op 15 64 (f := 22) (args := #[.agg cs, .string (u.extract 0 u.size), .int .i64 0]) (by kernel_rfl) rfl rfl rfl (by kernel_rfl) ((h22 _ k8).mono ?_)
          rintro e w9 ⟨rfl, k9⟩
          refine ⟨_, rfl, k9, ?_⟩
          simp only [Act.put, List.setIfInBounds_toArray, List.set_cons_zero, List.set_cons_succ]
          refine df.take_op (i := 17) 66 (v := .bool true) rfl rfl (.inl ⟨rfl, fun w _ => by go_simp⟩) (by kernel_rfl) (by kernel_rfl) (by kernel_rfl) (fun _ _ _ h => h) k9 ?_
          simp only [Act.put, List.setIfInBounds_toArray, List.set_cons_zero, List.set_cons_succ]
          refine df.take_op (i := 18) 67 (v := .bool true) rfl rfl (.inl ⟨rfl, fun w _ => by kernel_rfl⟩) (by kernel_rfl) (by kernel_rfl) (by kernel_rfl) (fun _ _ _ h => h) k9 ?_
          simp only [Act.put, List.setIfInBounds_toArray, List.set_cons_zero, List.set_cons_succ]
          refine df.take_op (i := 19) 6 rfl rfl (df.yields_assign rfl (.tmp 67) rfl) (by kernel_rfl) (by kernel_rfl) (by kernel_rfl) (fun _ _ _ h => h) k9 ?_
          simp only [Act.put, List.setIfInBounds_toArray, List.set_cons_zero, List.set_cons_succ]
          refine df.done_op (by kernel_rfl) ?_
          go_wp2_with (fail)
          go_ret
          exact ⟨rfl, df.chain HB k9⟩
      · have hl1 : 1 ≤ l.length := by omega
        have hwr : IntKind.i64.wrap ((l.length : Int) - 1) = ((l.length - 1 : Nat) : Int) := by
          have : (l.length : Int) - 1 = ((l.length - 1 : Nat) : Int) := by omega
          rw [this]
          exact IntWalk.i64_in _ (by omega)
        obtain ⟨go, gc, ge, hgr⟩ := hw5
        cases ge
        have hgf := hgr.fit
        have hgt := hgr.top
        obtain ⟨gb, goff, rfl, hgb, hgc⟩ := df.ints_last hgr hl1
        have hw5 : df.IntsV w5 (.slice (some ⟨gb, goff, none⟩) l.length cv) l := ⟨_, _, rfl, hgr⟩
        generalize l.getLast?.getD (-1) = last at *
        clear hl0 hli
        go_wp2_with (fail)
        cases r
        all_goals
          refine wp_region_held (S := Kept w1) (by kernel_rfl) ?_
          refine df.take_op (i := 0) 49 rfl rfl (df.yields_load rfl (.tmp 3) rfl w0.heap.size rfl cs hw8 (fun W h => b0.later h)) (by kernel_rfl) (by kernel_rfl) (by kernel_rfl) (fun _ _ _ h => h) k5.drew ?_
          simp only [Act.put, List.setIfInBounds_toArray, List.set_cons_zero, List.set_cons_succ]
          refine df.take_op (i := 2) 51 rfl rfl (df.yields_load rfl (.tmp 3) rfl w0.heap.size rfl cs hw8 (fun W h => b0.later h)) (by kernel_rfl) (by kernel_rfl) (by kernel_rfl) (fun _ _ _ h => h) k5.drew ?_
          simp only [Act.put, List.setIfInBounds_toArray, List.set_cons_zero, List.set_cons_succ]
          refine df.call_op 1 50 (f := 23) (args := #[.agg cs]) (by kernel_rfl) rfl rfl rfl (by kernel_rfl) ((h23 _ k5.drew).mono ?_)
          rintro e w6 ⟨rfl, k6, b6⟩
          refine ⟨_, rfl, k6, ?_⟩
          simp only [Act.put, List.setIfInBounds_toArray, List.set_cons_zero, List.set_cons_succ]
          refine df.call_op 3 52 (f := 24) (args := #[.agg cs]) (by kernel_rfl) rfl rfl rfl (by kernel_rfl) ((h24 _ k6).mono ?_)
          rintro e w7 ⟨rfl, k7, b7⟩
          refine ⟨_, rfl, k7, ?_⟩
          simp only [Act.put, List.setIfInBounds_toArray, List.set_cons_zero, List.set_cons_succ]
          refine df.take_op (i := 4) 53 (v := .bool true) rfl rfl (.inl ⟨rfl, fun w _ => by kernel_rfl⟩) (by kernel_rfl) (by kernel_rfl) (by kernel_rfl) (fun _ _ _ h => h) k7 ?_
          simp only [Act.put, List.setIfInBounds_toArray, List.set_cons_zero, List.set_cons_succ]
          refine df.take_op (i := 5) 54 rfl rfl (df.yields_move rfl (.tmp 53) rfl) (by kernel_rfl) (by kernel_rfl) (by kernel_rfl) (fun _ _ _ h => h) k7 ?_
          simp only [Act.put, List.setIfInBounds_toArray, List.set_cons_zero, List.set_cons_succ]
          refine df.take_op (i := 6) 55 rfl rfl (df.yields_move rfl (.tmp 10) rfl) (by kernel_rfl) (by kernel_rfl) (by kernel_rfl) (fun _ _ _ h => h) k7 ?_
          simp only [Act.put, List.setIfInBounds_toArray, List.set_cons_zero, List.set_cons_succ]
          refine df.take_op (i := 7) 56 rfl rfl (df.yields_move rfl (.tmp 7) rfl) (by kernel_rfl) (by kernel_rfl) (by kernel_rfl) (fun _ _ _ h => h) k7 ?_
          simp only [Act.put, List.setIfInBounds_toArray, List.set_cons_zero, List.set_cons_succ]
          refine df.call_op 8 57 (f := 14) (args := #[v5, .slice (some ⟨gb, goff, none⟩) l.length cv]) (by kernel_rfl) rfl rfl rfl (by kernel_rfl) ((h14 _ _ _ (((ints_drew hv5).later b6).later b7) (((ints_drew hw5).later b6).later b7)).mono ?_)
          rintro e w8 ⟨rfl, b8⟩
          refine ⟨_, rfl, (df.chain k7 b8 : Kept w1 w8), ?_⟩
          simp only [Act.put, List.setIfInBounds_toArray, List.set_cons_zero, List.set_cons_succ]
          have k8 : Kept w1 w8 := df.chain k7 b8
          refine df.take_op (i := 9) 58 (v := .bool true) rfl rfl (.inl ⟨rfl, fun w _ => by kernel_rfl⟩) (by kernel_rfl) (by kernel_rfl) (by kernel_rfl) (fun _ _ _ h => h) k8 ?_
          simp only [Act.put, List.setIfInBounds_toArray, List.set_cons_zero, List.set_cons_succ]
          refine df.take_op (i := 10) 59 rfl rfl (df.yields_move rfl (.tmp 58) rfl) (by kernel_rfl) (by kernel_rfl) (by kernel_rfl) (fun _ _ _ h => h) k8 ?_
          simp only [Act.put, List.setIfInBounds_toArray, List.set_cons_zero, List.set_cons_succ]
          refine df.take_op (i := 11) 60 rfl rfl (df.yields_load rfl (.tmp 3) rfl w0.heap.size rfl cs hw8 (fun W h => b0.later h)) (by kernel_rfl) (by kernel_rfl) (by kernel_rfl) (fun _ _ _ h => h) k8 ?_
          simp only [Act.put, List.setIfInBounds_toArray, List.set_cons_zero, List.set_cons_succ]
          refine df.take_op (i := 12) 61 rfl rfl (df.yields_move rfl (.tmp 1) rfl) (by kernel_rfl) (by kernel_rfl) (by kernel_rfl) (fun _ _ _ h => h) k8 ?_
          simp only [Act.put, List.setIfInBounds_toArray, List.set_cons_zero, List.set_cons_succ]
          refine df.take_op (i := 13) 62 rfl rfl (df.yields_move rfl (.tmp 2) rfl) (by kernel_rfl) (by kernel_rfl) (by kernel_rfl) (fun _ _ _ h => h) k8 ?_
          simp only [Act.put, List.setIfInBounds_toArray, List.set_cons_zero, List.set_cons_succ]
          refine df.take_op (i := 14) 63 (v := .string (u.extract 0 u.size)) rfl rfl (.inl ⟨rfl, fun w _ => by go_simp <;> (intro hh; omega)⟩) (by kernel_rfl) (by kernel_rfl) (by kernel_rfl) (fun _ _ _ h => h) k8 ?_
          simp only [Act.put, List.setIfInBounds_toArray, List.set_cons_zero, List.set_cons_succ]
          refine df.take_op (i := 16) 65 rfl rfl (df.yields_move rfl (.tmp 11) rfl) (by kernel_rfl) (by kernel_rfl) (by kernel_rfl) (fun _ _ _ h => h) k8 ?_
          simp only [Act.put, List.setIfInBounds_toArray, List.set_cons_zero, List.set_cons_succ]
          refine df.call_op 15 64 (f := 22) (args := #[.agg cs, .string (u.extract 0 u.size), .int .i64 0]) (by kernel_rfl) rfl rfl rfl (by kernel_rfl) ((h22 _ k8).mono ?_)
          rintro e w9 ⟨rfl, k9⟩
          refine ⟨_, rfl, k9, ?_⟩
          simp only [Act.put, List.setIfInBounds_toArray, List.set_cons_zero, List.set_cons_succ]
          refine df.take_op (i := 17) 66 (v := .bool true) rfl rfl (.inl ⟨rfl, fun w _ => by go_simp⟩) (by kernel_rfl) (by kernel_rfl) (by kernel_rfl) (fun _ _ _ h => h) k9 ?_
          simp only [Act.put, List.setIfInBounds_toArray, List.set_cons_zero, List.set_cons_succ]
          refine df.take_op (i := 18) 67 (v := .bool true) rfl rfl (.inl ⟨rfl, fun w _ => by kernel_rfl⟩) (by kernel_rfl) (by kernel_rfl) (by kernel_rfl) (fun _ _ _ h => h) k9 ?_
          simp only [Act.put, List.setIfInBounds_toArray, List.set_cons_zero, List.set_cons_succ]
          refine df.take_op (i := 19) 6 rfl rfl (df.yields_assign rfl (.tmp 67) rfl) (by kernel_rfl) (by kernel_rfl) (by kernel_rfl) (fun _ _ _ h => h) k9 ?_
          simp only [Act.put, List.setIfInBounds_toArray, List.set_cons_zero, List.set_cons_succ]
          refine df.done_op (by kernel_rfl) ?_
          go_wp2_with (fail)
          go_ret
          exact ⟨rfl, df.chain HB k9⟩
theorem walk {d : df.Dfa} {cs : Array Value} {o ao : Option Addr} {cap acap : Nat} {w : World} (hD : df.DAt (df.In w) w d cs o cap ao acap) {s : ByteArray} (hs : s.size ≤ 140737488351232) {n : Int} (wa : (Lit.int .i64 n).wf = true) (w0 : World) (hw0 : w0 = w := by rfl) :
    Calls Try.prog 6 #[.agg cs, .string s, .int .i64 n] w0 fun e w' => e = .returned (.bool true) ∧ Below w0.heap.size w0 w' := by
  subst hw0
  by_cases h1 : n < 0
  · exact walk_neg hD hs h1
  · obtain ⟨k, rfl⟩ : ∃ k : Nat, n = (k : Int) := ⟨n.toNat, by omega⟩
    by_cases h2 : k < (df.cut s 2000).size
    · exact walk_mid hD hs h2
    · by_cases h3 : (df.cut s 2000).size < k
      · exact walk_far hD hs h3
      · have e : k = (df.cut s 2000).size := by omega
        rw [e]
        exact walk_eq hD hs

set_option maxRecDepth 100000 in
theorem lifted (os : Os) (started : os.Started) (H : Type) (enc : TypeId × Value → H) :
    ReturnsInHanded {} Try.checked os 6 .any (Rows.dfaBeginsSpec.pre6 enc Try.prog Try.f6 Rows.dfaBeginsRow.domain false) (Rows.dfaBeginsSpec.post enc Try.prog Try.f6 false true false false) := by
  refine returnsInHanded_of_change_sized (C := Try.checked) own started (by kernel_rfl) Try.func6
    (ChangeSpec.witness6 (enc := enc) (C := Try.checked) false ⟨#[], #[.agg ((List.replicate 256 (Value.int .u8 0) ++ [Value.slice none 0 0, Value.slice none 0 0]).toArray), .string ByteArray.empty, .int .i64 0], []⟩ 8 (by kernel_rfl) (by kernel_rfl) (by kernel_rfl) (by kernel_rfl)) ?_
  intro W base args ds gs before hval0 hW hcnd hsz0 _
  have hsz : (DataW.weightsEach Try.prog (Try.f6.params.toList ++ Rows.dfaBeginsSpec.plain.varTypes Try.prog) (ds ++ gs)).all (· ≤ reachBytes) = true := hsz0
  have hval : ∀ (j : Nat) t v, Try.f6.params[j]? = some t → args[j]? = some v → Value.okWide Try.prog W .any base t v := hval0
  have hW' := hW
  obtain ⟨p, q, hA0, hV, rfl, hfz, hnd⟩ := hW
  have hA : DataW.TrodAll enc Try.prog W 0 (fun _ => true) true Try.f6.params.toList args.toList ds p := hA0
  rw [Try.params6] at hA hval hsz
  obtain ⟨v0, vs0, d0, ds0, p0, q0, hargs, rfl, rfl, h0, r0⟩ := trodAll_cons hA
  obtain ⟨v1, vs1, d1, ds1, p1, q1, rfl, rfl, rfl, h1, r1⟩ := trodAll_cons r0
  obtain ⟨v2, vs2, d2, ds2, p2, q2, rfl, rfl, rfl, h2, r2⟩ := trodAll_cons r1
  obtain ⟨rfl, rfl, rfl⟩ := trodAll_nil r2
  obtain rfl : args = #[v0, v1, v2] := by cases args; simp_all
  obtain ⟨rfl, rfl⟩ := trodVars_none hV
  have k0 := h0
  have lt0 : ∀ x ∈ p0, x.block < W.heap.size := by obtain ⟨m, hm⟩ := k0; exact DataW.trod_lt m _ _ _ hm
  obtain ⟨e0, cs0, o0, cap0, ao0, acap0, rfl, F0⟩ := df.open37 (hval 0 51 v0 rfl rfl) h0
  obtain ⟨a1, rfl, rfl, rfl, w1⟩ := open_string Try.underlying9 (hval 1 9 v1 rfl rfl) h1
  have F1 : a1.size ≤ 140737488351232 := by
    have := sized_string hsz (j := 1) (t := 9) rfl rfl
    simpa [reachBytes] using this
  obtain ⟨a2, rfl, rfl, rfl, w2⟩ := open_int Try.underlying3 (hval 2 3 v2 rfl rfl) h2
  clear hA0 hval0
  refine (walk F0 F1 w2 W).mono fun e W' ⟨he, bel⟩ => ?_
  subst he
  exact ⟨_, rfl, _, _, _, [], _, [], hW', trodAll_mk1 (shut_bool Try.underlying4 _), (trodAll_cons_mk (Below.trod laidOut (by kernel_rfl) (of_decide_eq_true (by kernel_rfl)) k0 bel lt0) (trodAll_cons_mk (shut_string Try.underlying9 w1) (trodAll_cons_mk (shut_int Try.underlying3 w2) trodAll_mk0))), rfl, bel.frame _, fun h => by cases h⟩

theorem over : Rows.dfaBeginsRow.holds Try.pinned (OpenSpec.ofChange Rows.dfaBeginsSpec) :=
  OpenClaim.holds_of_wide 6 Try.f6 rfl rfl rfl rfl rfl rfl rfl ⟨rfl, rfl, rfl, rfl, rfl⟩ rfl rfl rfl rfl rfl (by kernel_rfl) Try.func6 (by kernel_rfl)
    (of_decide_eq_true (by kernel_rfl)) (by unfold Func.isWrapper; first | (rw [if_pos (by decide +kernel)]; kernel_rfl) | (rw [if_neg (by decide +kernel)]; exact ⟨rfl, rfl⟩))
    (fun os started H enc _ => lifted os started H enc)

theorem proved : Rows.DfaBeginsSaid :=
  over
#print axioms proved
end Go.Proofs.Ythknhbmibmndoab.dfaBegins
