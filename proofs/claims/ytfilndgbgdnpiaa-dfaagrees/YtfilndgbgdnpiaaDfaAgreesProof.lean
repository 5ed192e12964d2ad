/-
  For every expression, every text and every place the law DfaAgrees of package fretsawlaw08 returns true (the dfa that is built of an expression's nfa takes just what the nfa takes, and the longest of it), and the arguments read as before. No condition.
-/
import Derived.Test.YtfilndgbgdnpiaaKCb
import Derived.Test.YtfilndgbgdnpiaaM12
import Derived.Test.YtfilndgbgdnpiaaM19
import Derived.Test.YtfilndgbgdnpiaaM20
import Derived.WalkKit
import Derived.ProofKit
import Derived.OpenShut
import Derived.ChangeOld
import Derived.SizedLaws
import Derived.ShutString
import Derived.Deep.RegionHeld3
import Derived.Below
namespace Go.Proofs.Ytfilndgbgdnpiaa.dfaAgrees
open Go.ChangeShapes Go.WideShapes Go.ChangeAt Go.RowKit
open Go.ChangeMaps (open_string shut_string)
open nf (Nfa Ed Eds nfaV Box Rt)
open df (Row iv In IntsV Owns DAt DBox)
open bd (z37 z37_size zero37 Built)
open st (Tr Is rightN)
open nb (trV built nfaOf Ans)
set_option linter.unusedVariables false

theorem own : ownKnob Try.prog.godebug = none := by kernel_rfl
theorem laidOut : laidOutB Try.prog = true := by kernel_rfl

def Kept (w1 : World) (W : World) : Prop := Below w1.heap.size w1 W
theorem Kept.drew {w1 W : World} (h : Kept w1 W) : Kept w1 W.drew := Below.drew h
theorem byte_same (s : ByteArray) : df.byteAt s = nf.dOf s := by
  funext i
  unfold df.byteAt nf.dOf
  by_cases h : i < s.size
  · rw [dif_pos h, getElem?_pos s i h]; rfl
  · rw [dif_neg h, getElem?_neg s i h]; rfl
/-- a dfa is put into a cell of its own -/
theorem put51 (w : World) (cs : Array Value) (hs : cs.size = 258) : Below w.heap.size w ((w.alloc (.cells z37 51)).setRow w.heap.size cs) ∧ DBox ((w.alloc (.cells z37 51)).setRow w.heap.size cs) w.heap.size cs :=
  ⟨nb.below_setRow (nf.below_alloc _ _) (Nat.le_refl _) (Nat.le_refl _) _, setRow_heap _ _ _ _ _ _ (heap_alloc_new w _)⟩
theorem one_of {P : Nat → Prop} {w : World} {d : df.Dfa} {cs : Array Value} {o ao : Option Addr} {cap acap : Nat} (h : DAt P w d cs o cap ao acap) : cs.all (·.oneCell') = true := by
  rw [Array.all_eq_true]
  intro i hi
  have hs := h.size
  have hv : cs[i]? = some cs[i] := Array.getElem?_eq_getElem hi
  by_cases h1 : i < 256
  · have := h.cl i h1
    rw [hv] at this
    rw [Option.some.inj this]; rfl
  · by_cases h2 : i = 256
    · subst h2
      have := h.nx
      rw [hv] at this
      rw [Option.some.inj this]; rfl
    · have h3 : i = 257 := by omega
      subst h3
      have := h.ac
      rw [hv] at this
      rw [Option.some.inj this]; rfl
/-- an nfa is put into a cell of its own -/
theorem put31 (w : World) (n s e : Int) (o : Option Addr) (m cap : Nat) : ∃ w', Hid (w' = (w.alloc (.cells #[.int .i64 0, .int .i64 0, .int .i64 0, .slice none 0 0] 31)).setRow w.heap.size #[.int .i64 n, .int .i64 s, .int .i64 e, .slice o m cap]) ∧ Below w.heap.size w w' ∧ Box w' w.heap.size n s e o m cap :=
  ⟨_, rfl, nb.below_setRow (nf.below_alloc _ _) (Nat.le_refl _) (Nat.le_refl _) _, setRow_heap _ _ _ _ _ _ (heap_alloc_new w _)⟩
/-- the tree is put into a cell of its own -/
theorem box1 {t : Tr} {tv : Value} {w : World} (ht : Is w (fun _ => True) t tv) : ∃ w1, Hid (w1 = w.alloc (.cells #[.int .i64 t.kind, .int .u64 t.set.a, .int .u64 t.set.b, .int .u64 t.set.c, .int .u64 t.set.d, .int .i64 t.min, .int .i64 t.max, tv] 28)) ∧ Below w.heap.size w w1 ∧ st.Box w1 w.heap.size t tv ∧ Is w1 (fun _ => True) t tv := by
  have bl := nf.below_alloc w (.cells #[.int .i64 t.kind, .int .u64 t.set.a, .int .u64 t.set.b, .int .u64 t.set.c, .int .u64 t.set.d, .int .i64 t.min, .int .i64 t.max, tv] 28)
  exact ⟨_, rfl, bl, st.box_new w t tv, ht.carry bl.size (fun _ _ _ => trivial) (fun b _ hlt => bl.block b hlt)⟩

set_option maxHeartbeats 4000000 in
set_option maxRecDepth 100000 in
/-- no nfa is built -/
theorem walk_err {t : Tr} {tv : Value} {w : World} (ht : Is w (fun _ => True) t tv) {s : ByteArray} {at' : Int} (r : Int) (hr : r ≠ 0)
    (h7 : ∀ W, Is W (fun _ => True) t tv → Calls Try.prog 7 #[trV t tv] W fun e w' => e = .returned (.tuple #[nfaV 0 0 0 none 0 0, .int .i64 r]) ∧ Below W.heap.size W w') :
    Calls Try.prog 5 #[trV t tv, .string s, .int .i64 at'] w fun e w' => e = .returned (.bool true) ∧ Below w.heap.size w w' := by
  obtain ⟨w1, HW1, b1, bx, ht1⟩ := box1 ht
  have c7 := h7 w1 ht1
  have hq : (r == 0) = false := beq_eq_false_iff_ne.2 hr
  have hq2 : (r != 0) = true := bne_iff_ne.2 hr
  have HB1 := (show Hid _ from b1)
  have HP := (show Hid (∀ w2 : World, Below w1.heap.size w1 w2 → Below w.heap.size w ((w2.alloc (.cells #[.int .i64 0, .int .i64 0, .int .i64 0, .slice none 0 0] 31)).setRow w2.heap.size #[.int .i64 0, .int .i64 0, .int .i64 0, .slice none 0 0])) from fun w2 b2 => nf.chain (nf.chain b1 b2) (nb.below_setRow (nf.below_alloc _ _) (Nat.le_refl _) (Nat.le_refl _) _))
  rw [HW1.out] at bx
  clear ht ht1 h7 hr b1
  go_enter Try.func5, Try.ntmps5
  go_wp2_with (first | (refine wpList_load_row rfl 28 (.tmp 3) rfl w.heap.size rfl 28 _ (0, 0) _ bx Try.underlying28 rfl nb.info28 ?_) | (go_at_call 7; rw [← HW1.out]; refine c7.mono ?_; rintro e w2 ⟨rfl, b2⟩; have HB2 := (show Hid _ from HP.out w2 b2); clear b2) | (refine wpList_store_row (by rfl) 31 (.tmp 7) (.tmp 15) (by rfl) w2.heap.size #[.int .i64 0, .int .i64 0, .int .i64 0, .slice none 0 0] (by rfl) (by rfl) 31 _ (heap_alloc_new w2 _) nb.info31 rfl (by simp [Value.oneCell']) ?_))
  go_ret
  exact ⟨rfl, HB2.out⟩

section
variable {ops : Array Oper} {S : World → Prop} {op : Oper} {a : Act}
theorem x_index39 {x y : Operand} {b off n cap i : Nat} {w : World} (h : op.op = .indexAddr 39 x y) (hx : a.eval x = .slice (some ⟨b, off, none⟩) n cap) (hy : a.eval y = .int .i64 (i : Int)) (hi : i < n) : (execOp a.eval op).run Try.prog w = .ok (.value (.pointer (some ⟨b, off + i, none⟩))) w := by
  unfold execOp; rw [h]
  have hs : (sizeOf 3).run Try.prog w = .ok 1 w := by kernel_rfl
  have hb : (0 : Int) ≤ (i : Int) ∧ (i : Int) < (n : Int) := by omega
  simp only [Instr.indexAt, hx, hy, asIntOf, Sem.run_bind, Sem.run_pure, Result.andThen_ok, run_underlying Try.underlying39, hb, and_self, if_true, hs, Int.toNat_natCast, Addr.add_mid, Nat.mul_one]
theorem x_load3 {x : Operand} {b off : Nat} {v : Int} {w : World} (h : op.op = .load 3 x) (hx : a.eval x = .pointer (some ⟨b, off, none⟩)) (hc : w.cell? ⟨b, off, none⟩ = some (.int .i64 v)) : (execOp a.eval op).run Try.prog w = .ok (.value (.int .i64 v)) w := by
  unfold execOp; rw [h]; simp only [hx]; go_simp
theorem yields_run (hw : Region.wanted op (yielded ops a.tmps) = true) {v : Value} (h : ∀ W, S W → (execOp a.eval op).run Try.prog W = .ok (.value v) W) : YieldsIf Try.prog ops S op v a := .inl ⟨hw, h⟩
end
set_option maxHeartbeats 4000000 in
set_option maxRecDepth 100000 in
/-- an nfa is built -/
theorem walk_ok {t : Tr} {tv : Value} {w : World} (ht : Is w (fun _ => True) t tv) (hsane : t.sane) {s : ByteArray} (hs : s.size ≤ 140737488351232) {at' : Int} (hr0 : rightN t = 0) (hfull : (built t).full = false) :
    Calls Try.prog 5 #[trV t tv, .string s, .int .i64 at'] w fun e w' => e = .returned (.bool true) ∧ Below w.heap.size w w' := by
  obtain ⟨w1, HW1, b1, bx, ht1⟩ := box1 ht
  have c7 : Calls Try.prog 7 #[trV t tv] w1 fun e w' => (∃ o cap, e = .returned (.tuple #[nfaV (nfaOf t).n (nfaOf t).s (nfaOf t).e o (nfaOf t).edges.length cap, .int .i64 0]) ∧ Eds w' o cap (nfaOf t).edges) ∧ Below w1.heap.size w1 w' := by
    refine (nb.build_yes t hr0 tv w1 ht1).mono ?_
    rintro e w' ⟨h | h, b⟩
    · rw [hfull] at h; exact absurd h.1 (by simp)
    · exact ⟨h.2, b⟩
  have hr := nb.built_right t hfull
  have hfit := nb.built_fits t hsane
  obtain ⟨n, R1⟩ := nf.rt_of _ hr
  have hxe : (nfaOf t).e = ((1 : Nat) : Int) := rfl
  generalize nfaOf t = x at *
  have HB1 := (show Hid _ from b1)
  have HR1 := (show Hid (Rt x n) from R1)
  have HFIT := (show Hid (∀ e ∈ x.edges, nf.Fits e) from hfit)
  have HRT := (show Hid (nf.right x = true) from hr)
  have HXE := (show Hid (x.e = ((1 : Nat) : Int)) from hxe)
  have hz := zero37
  rw [HW1.out] at bx
  clear ht ht1 hr hfit R1 hxe b1 hr0 hfull
  go_enter Try.func5, Try.ntmps5
  go_wp2_with (refine wpList_load_row rfl 28 (.tmp 3) rfl w.heap.size rfl 28 _ (0, 0) _ bx Try.underlying28 rfl nb.info28 ?_)
  go_at_call 7
  rw [← HW1.out]
  refine c7.mono ?_
  rintro ev w2 ⟨⟨o, cap, rfl, hE2⟩, b2⟩
  obtain ⟨w3, HW3, b3, bx3⟩ := put31 w2 x.n x.s x.e o x.edges.length cap
  have HE3 := (show Hid (Eds w3 o cap x.edges) from hE2.later b3)
  have HB3 := (show Hid (Below w.heap.size w w3) from nf.chain (nf.chain HB1.out b2) b3)
  have HX3 := (show Hid (Box w3 w2.heap.size x.n x.s x.e o x.edges.length cap) from bx3)
  have q0 := bx3.c0
  have h19 := bd.build_yes x n 1 HR1.out HRT.out HFIT.out HXE.out o cap w3 HE3.out
  unfold bd.YesIs at h19
  clear c7 bx bx3 b2 b3 hE2 HW1
  by_cases hbig : 500 < x.n
  · have f1 : decide (500 < x.n) = true := decide_eq_true hbig
    clear h19 hbig
    go_wp2_with (refine wpList_store_row (by rfl) 31 (.tmp 7) (.tmp 15) (by rfl) w2.heap.size #[.int .i64 x.n, .int .i64 x.s, .int .i64 x.e, .slice o x.edges.length cap] (by rfl) (by rfl) 31 _ (heap_alloc_new w2 _) nb.info31 rfl (by simp [Value.oneCell']) ?_; rw [← HW3.out])
    go_ret
    exact ⟨rfl, HB3.out⟩
  · have f1 : decide (500 < x.n) = false := decide_eq_false hbig
    clear hbig
    have HX := HX3.out
    go_wp2_with (first | (refine wpList_store_row (by rfl) 31 (.tmp 7) (.tmp 15) (by rfl) w2.heap.size #[.int .i64 x.n, .int .i64 x.s, .int .i64 x.e, .slice o x.edges.length cap] (by rfl) (by rfl) 31 _ (heap_alloc_new w2 _) nb.info31 rfl (by simp [Value.oneCell']) ?_; rw [← HW3.out]) | (refine wpList_load_row rfl 31 (.tmp 7) rfl w2.heap.size rfl 31 _ (0, 0) _ HX Try.underlying31 rfl nb.info31 ?_))
    go_at_call 19
    refine h19.mono ?_
    rintro ev w4 ⟨b4, ⟨rfl, hL⟩ | ⟨L0, d, cs, od, dcap, ao, acap, rfl, hB, hL, hD⟩⟩
    · obtain ⟨w5, hw5⟩ : ∃ w5, w5 = (w4.alloc (.cells z37 51)).setRow w4.heap.size z37 := ⟨_, rfl⟩
      have HB5 := (show Hid (Below w.heap.size w w5) from by show Below _ _ _; rw [hw5]; exact nf.chain (nf.chain HB3.out b4) (put51 w4 z37 z37_size).1)
      have HW5 := (show Hid _ from hw5)
      clear hw5 b4 hL
      go_wp2_with (refine wpList_store_row (by rfl) 51 (.tmp 9) (.tmp 27) (by rfl) w4.heap.size z37 (by rfl) (by rfl) 51 z37 (heap_alloc_new w4 _) (df.info51 _ z37_size) rfl bd.one37 ?_; rw [← HW5.out])
      go_ret
      exact ⟨rfl, HB5.out⟩
    · have hcs := hD.size
      have hone := one_of hD
      obtain ⟨w5, hw5⟩ : ∃ w5, w5 = (w4.alloc (.cells z37 51)).setRow w4.heap.size cs := ⟨_, rfl⟩
      have p5 := put51 w4 cs hcs
      rw [← hw5] at p5
      have HW5 := (show Hid _ from hw5)
      have HB5 := (show Hid (Below w.heap.size w w5) from nf.chain (nf.chain HB3.out b4) p5.1)
      have HD5 := (show Hid (DBox w5 w4.heap.size cs) from p5.2)
      have HX5 := (show Hid (Box w5 w2.heap.size x.n x.s x.e o x.edges.length cap) from HX3.out.later (nf.chain b4 p5.1))
      have hD5 := hD.later p5.1
      have hright := hB.right hL
      have h20 := df.short_any 20 rfl s 200 (by omega) (by omega)
      have hcut := df.cut_size s 200
      generalize df.cut s 200 = u at *
      have hE5 := HE3.out.later (nf.chain b4 p5.1)
      have H21 := (show Hid (∀ W, Kept w5 W → Calls Try.prog 21 #[.agg cs, .string u, .int .i64 at'] W fun e w' => ∃ v, e = .returned v ∧ IntsV w' v (df.endsOf d u at') ∧ Kept w5 w' ∧ Below W.heap.size W w') from fun W h => (df.ends_any d u at' (by omega) cs od dcap ao acap W (hD5.later h)).mono fun e w' ⟨v, h1, h2, h4⟩ => ⟨v, h1, h2, df.chain h h4, h4⟩)
      have H22 := (show Hid (∀ W, Kept w5 W → Calls Try.prog 22 #[.agg cs, .string u, .int .i64 at'] W fun e w' => e = .returned (.int .i64 ((df.endsOf d u at').getLast?.getD (-1))) ∧ Kept w5 w' ∧ Below W.heap.size W w') from fun W h => (df.longest_any d u at' (by omega) cs od dcap ao acap W (hD5.later h)).mono fun e w' ⟨h1, h4⟩ => ⟨h1, df.chain h h4, h4⟩)
      have H12 := (show Hid (∀ W, Kept w5 W → Calls Try.prog 12 #[nfaV x.n x.s x.e o x.edges.length cap, .string u, .int .i64 at'] W fun e w' => ∃ vo vc, e = .returned (.slice vo (df.endsOf d u at').length vc) ∧ Row (In w') w' iv vo vc (df.endsOf d u at') ∧ Kept w5 w') from fun W h => by
        by_cases hin : 0 ≤ at' ∧ at' ≤ (u.size : Int)
        · obtain ⟨k, rfl⟩ : ∃ k : Nat, at' = (k : Int) := ⟨at'.toNat, by omega⟩
          have hruns := bd.takes_all HR1.out hB hL u k (by omega)
          rw [byte_same] at hruns
          have e1 : df.endsOf d u (k : Int) = df.ends d u (u.size - k) 0 k := by
            unfold df.endsOf
            rw [if_pos ⟨hright, by omega, by omega⟩, Int.toNat_natCast]
          rw [e1]
          exact (nf.ends_yes x n HR1.out HFIT.out u k (by omega) (by omega) HRT.out _ hruns o cap W (hE5.later h)).mono fun e w' ⟨v, h1, ⟨vo, vc, h2, h3⟩, h4⟩ => ⟨vo, vc, by rw [h1, h2], h3, df.chain h h4⟩
        · have e1 : df.endsOf d u at' = [] := by
            unfold df.endsOf
            rw [if_neg (fun h => hin h.2)]
          rw [e1]
          exact (nf.ends_no x u at' (by omega) (fun h => hin h.2) o cap W (hE5.later h)).mono fun e w' ⟨v, h1, ⟨vo, vc, h2, h3⟩, h4⟩ => ⟨vo, vc, by rw [h1, h2], h3, df.chain h h4⟩)
      have h14 := df.ints_any (df.endsOf d u at') (df.endsOf d u at') true (by simp)
      unfold df.IntsIs at h14
      have H14 := (show Hid _ from h14)
      have k5 : Kept w5 w5 := Below.refl _ _
      have bx5 := HX5.out
      generalize df.endsOf d u at' = L at *
      clear hw5 p5 hD hD5 hB hL hright hE5 h14 h19 b4 HE3 HRT HFIT HR1 HXE hcut
      go_wp2_with (first | (refine wpList_store_row (by rfl) 51 (.tmp 9) (.tmp 27) (by rfl) w4.heap.size cs (by rfl) (by rfl) 51 z37 (heap_alloc_new w4 _) (df.info51 _ hcs) (by rw [z37_size, hcs]) hone ?_; rw [← HW5.out]) | (go_at_call 20; (refine (h20 _).mono ?_); rintro e w6 ⟨rfl, hw⟩; obtain rfl := hw.symm) | (refine wpList_load_row rfl 31 (.tmp 7) rfl w2.heap.size rfl 31 _ (0, 0) _ bx5 Try.underlying31 rfl nb.info31 ?_) | (go_at_call 12; refine (H12.out _ k5).mono ?_; rintro e w7 ⟨vo, vc, rfl, hv7, k7⟩; have HV7 := (show Hid (Row (In w7) w7 iv vo vc L) from hv7); clear hv7) | (refine wpList_load_row rfl 51 (.tmp 9) rfl w4.heap.size rfl 51 cs (0, 0) _ (by exact df.DBox.later HD5.out k7) Try.underlying51 rfl (df.info51 cs hcs) ?_) | (go_at_call 21; refine (H21.out _ k7).mono ?_; rintro e w8 ⟨v8, rfl, hv8, k8, b8⟩; have HV8 := (show Hid _ from hv8); have HB8 := (show Hid (Below w7.heap.size w7 w8) from b8); clear hv8 b8) | (go_at_call 14; refine (H14.out _ _ _ HV8.out (df.IntsV.later ⟨vo, vc, rfl, HV7.out⟩ HB8.out)).mono ?_; rintro e w9 ⟨rfl, b9⟩; have k9 : Kept w5 w9 := df.chain k8 b9; have HB9 := (show Hid (Below w7.heap.size w7 w9) from nf.chain HB8.out b9); clear b9) | (refine wpList_load_row rfl 51 (.tmp 9) rfl w4.heap.size rfl 51 cs (0, 0) _ (by exact df.DBox.later HD5.out k9) Try.underlying51 rfl (df.info51 cs hcs) ?_) | (go_at_call 22; refine (H22.out _ k9).mono ?_; rintro e w10 ⟨rfl, k10, b10⟩))
      · rename_i hl0
        go_ret
        refine ⟨?_, nf.chain HB5.out k10⟩
        have hl1 : L = [] := List.length_eq_zero_iff.1 (by have := eq_of_beq hl0; omega)
        rw [hl1]
        rfl
      · rename_i hl0 _ _
        have hl1 : 1 ≤ L.length := by have := ne_of_beq_false hl0; omega
        obtain ⟨lb, loff, hlo, hlb, hlc⟩ := df.ints_last HV7.out hl1
        have hll := HV7.out.fit
        have hlt := HV7.out.top
        have hwr : IntKind.i64.wrap ((L.length : Int) - 1) = ((L.length - 1 : Nat) : Int) := by
          rw [show ((L.length : Int) - 1) = ((L.length - 1 : Nat) : Int) by omega]
          rw [IntKind.wrap_i64]
          omega
        subst hlo
        refine wp_region_held (S := Kept w9) (by kernel_rfl) ?_
        have k0 : Kept w9 w9 := Below.refl _ _
        refine df.take_op (i := 0) 54 rfl rfl (df.yields_load rfl (.tmp 9) rfl w4.heap.size rfl cs hcs (fun W h => df.DBox.later HD5.out (df.chain k9 h))) (by kernel_rfl) (by kernel_rfl) (by kernel_rfl) (fun _ _ _ h => h) k0.drew ?_
        simp only [Act.put, List.setIfInBounds_toArray, List.set_cons_zero, List.set_cons_succ]
        refine df.take_op (i := 1) 55 rfl rfl (df.yields_move rfl (.tmp 1) rfl) (by kernel_rfl) (by kernel_rfl) (by kernel_rfl) (fun _ _ _ h => h) k0.drew ?_
        simp only [Act.put, List.setIfInBounds_toArray, List.set_cons_zero, List.set_cons_succ]
        refine df.take_op (i := 2) 56 rfl rfl (df.yields_move rfl (.tmp 2) rfl) (by kernel_rfl) (by kernel_rfl) (by kernel_rfl) (fun _ _ _ h => h) k0.drew ?_
        simp only [Act.put, List.setIfInBounds_toArray, List.set_cons_zero, List.set_cons_succ]
        refine df.take_op (i := 4) 58 rfl rfl (df.yields_move rfl (.tmp 11) rfl) (by kernel_rfl) (by kernel_rfl) (by kernel_rfl) (fun _ _ _ h => h) k0.drew ?_
        simp only [Act.put, List.setIfInBounds_toArray, List.set_cons_zero, List.set_cons_succ]
        refine df.take_op (i := 5) 59 rfl rfl (df.yields_move rfl (.tmp 11) rfl) (by kernel_rfl) (by kernel_rfl) (by kernel_rfl) (fun _ _ _ h => h) k0.drew ?_
        simp only [Act.put, List.setIfInBounds_toArray, List.set_cons_zero, List.set_cons_succ]
        refine df.take_op (i := 6) 60 rfl rfl (yields_run rfl (v := .int .i64 (L.length : Int)) (fun W h => by kernel_rfl)) (by kernel_rfl) (by kernel_rfl) (by kernel_rfl) (fun _ _ _ h => h) k0.drew ?_
        simp only [Act.put, List.setIfInBounds_toArray, List.set_cons_zero, List.set_cons_succ]
        refine df.take_op (i := 7) 61 rfl rfl (yields_run rfl (v := .int .i64 (IntKind.i64.wrap ((L.length : Int) - 1))) (fun W h => by kernel_rfl)) (by kernel_rfl) (by kernel_rfl) (by kernel_rfl) (fun _ _ _ h => h) k0.drew ?_
        rw [hwr]
        simp only [Act.put, List.setIfInBounds_toArray, List.set_cons_zero, List.set_cons_succ]
        refine df.take_op (i := 8) 62 rfl rfl (yields_run rfl (fun W h => x_index39 (x := .tmp 58) (y := .tmp 61) rfl rfl rfl (by omega))) (by kernel_rfl) (by kernel_rfl) (by kernel_rfl) (fun _ _ _ h => h) k0.drew ?_
        simp only [Act.put, List.setIfInBounds_toArray, List.set_cons_zero, List.set_cons_succ]
        refine df.take_op (i := 9) 63 rfl rfl (yields_run rfl (fun W h => x_load3 (x := .tmp 62) rfl rfl (by rw [Below.cell (nf.chain HB9.out h) hlb]; exact hlc))) (by kernel_rfl) (by kernel_rfl) (by kernel_rfl) (fun _ _ _ h => h) k0.drew ?_
        simp only [Act.put, List.setIfInBounds_toArray, List.set_cons_zero, List.set_cons_succ]
        refine df.call_op 3 57 (f := 22) (args := #[.agg cs, .string u, .int .i64 at']) (by kernel_rfl) rfl rfl rfl (by kernel_rfl) ((H22.out _ (df.chain k9 k0.drew)).mono ?_)
        rintro e w10 ⟨rfl, k10, b10⟩
        refine ⟨_, rfl, df.chain k0.drew b10, ?_⟩
        simp only [Act.put, List.setIfInBounds_toArray, List.set_cons_zero, List.set_cons_succ]
        have k11 : Kept w9 w10 := df.chain k0.drew b10
        refine df.take_op (i := 10) 64 rfl rfl (yields_run rfl (v := .bool (L.getLast?.getD (-1) == L.getLast?.getD (-1))) (fun W h => by kernel_rfl)) (by kernel_rfl) (by kernel_rfl) (by kernel_rfl) (fun _ _ _ h => h) k11 ?_
        rw [beq_self_eq_true]
        simp only [Act.put, List.setIfInBounds_toArray, List.set_cons_zero, List.set_cons_succ]
        refine df.take_op (i := 11) 6 rfl rfl (df.yields_assign rfl (.tmp 64) rfl) (by kernel_rfl) (by kernel_rfl) (by kernel_rfl) (fun _ _ _ h => h) k11 ?_
        simp only [Act.put, List.setIfInBounds_toArray, List.set_cons_zero, List.set_cons_succ]
        refine df.done_op (by kernel_rfl) ?_
        go_wp2_with (fail)
        go_ret
        exact ⟨rfl, nf.chain HB5.out k10⟩
theorem walk {t : Tr} {tv : Value} {w : World} (hsane : t.sane) (ht : Is w (fun _ => True) t tv) {s : ByteArray} (hs : s.size ≤ 140737488351232) {at' : Int} (wa : (Lit.int .i64 at').wf = true) (w0 : World) (hw0 : w0 = w := by rfl) :
    Calls Try.prog 5 #[trV t tv, .string s, .int .i64 at'] w0 fun e w' => e = .returned (.bool true) ∧ Below w0.heap.size w0 w' := by
  subst hw0
  by_cases hr : rightN t = 0
  · cases hf : (built t).full with
    | true =>
      refine walk_err ht 80 (by decide) fun W hW => (nb.build_yes t hr tv W hW).mono ?_
      rintro e w' ⟨h | h, b⟩
      · exact ⟨h.2, b⟩
      · rw [hf] at h; exact absurd h.1 (by simp)
    | false => exact walk_ok ht hsane hs hr hf
  · exact walk_err ht (rightN t : Int) (by omega) fun W hW => nb.build_no t hr tv W hW

set_option maxRecDepth 100000 in
theorem lifted (os : Os) (started : os.Started) (H : Type) (enc : TypeId × Value → H) :
    ReturnsInHanded {} Try.checked os 5 .any (Rows.dfaAgreesSpec.pre6 enc Try.prog Try.f5 Rows.dfaAgreesRow.domain false) (Rows.dfaAgreesSpec.post enc Try.prog Try.f5 false true false false) := by
  refine returnsInHanded_of_change_sized (C := Try.checked) own started (by kernel_rfl) Try.func5
    (ChangeSpec.witness6 (enc := enc) (C := Try.checked) false ⟨#[], #[.agg #[.int .i64 0, .int .u64 0, .int .u64 0, .int .u64 0, .int .u64 0, .int .i64 0, .int .i64 0, .slice none 0 0], .string ByteArray.empty, .int .i64 0], []⟩ 8 (by kernel_rfl) (by kernel_rfl) (by kernel_rfl) (by kernel_rfl)) ?_
  intro W base args ds gs before hval0 hW hcnd hsz0 _
  have hsz : (DataW.weightsEach Try.prog (Try.f5.params.toList ++ Rows.dfaAgreesSpec.plain.varTypes Try.prog) (ds ++ gs)).all (· ≤ reachBytes) = true := hsz0
  have hval : ∀ (j : Nat) t v, Try.f5.params[j]? = some t → args[j]? = some v → Value.okWide Try.prog W .any base t v := hval0
  have hW' := hW
  obtain ⟨p, q, hA0, hV, rfl, hfz, hnd⟩ := hW
  have hA : DataW.TrodAll enc Try.prog W 0 (fun _ => true) true Try.f5.params.toList args.toList ds p := hA0
  rw [Try.params5] at hA hval hsz
  obtain ⟨v0, vs0, d0, ds0, p0, q0, hargs, rfl, rfl, h0, r0⟩ := trodAll_cons hA
  obtain ⟨v1, vs1, d1, ds1, p1, q1, rfl, rfl, rfl, h1, r1⟩ := trodAll_cons r0
  obtain ⟨v2, vs2, d2, ds2, p2, q2, rfl, rfl, rfl, h2, r2⟩ := trodAll_cons r1
  obtain ⟨rfl, rfl, rfl⟩ := trodAll_nil r2
  obtain rfl : args = #[v0, v1, v2] := by cases args; simp_all
  obtain ⟨rfl, rfl⟩ := trodVars_none hV
  have k0 := h0
  have lt0 : ∀ x ∈ p0, x.block < W.heap.size := by obtain ⟨m, hm⟩ := k0; exact DataW.trod_lt m _ _ _ hm
  obtain ⟨t0, s0, hs0, F0, rfl⟩ := st.open28 (hval 0 28 v0 rfl rfl) h0
  obtain ⟨a1, rfl, rfl, rfl, w1⟩ := open_string Try.underlying9 (hval 1 9 v1 rfl rfl) h1
  have F1 : a1.size ≤ 140737488351232 := by
    have := sized_string hsz (j := 1) (t := 9) rfl rfl
    simpa [reachBytes] using this
  obtain ⟨a2, rfl, rfl, rfl, w2⟩ := open_int Try.underlying3 (hval 2 3 v2 rfl rfl) h2
  clear hA0 hval0
  refine (walk hs0 F0 F1 w2 W).mono fun e W' ⟨he, bel⟩ => ?_
  subst he
  exact ⟨_, rfl, _, _, _, [], _, [], hW', trodAll_mk1 (shut_bool Try.underlying4 _), (trodAll_cons_mk (Below.trod laidOut (by kernel_rfl) (of_decide_eq_true (by kernel_rfl)) k0 bel lt0) (trodAll_cons_mk (shut_string Try.underlying9 w1) (trodAll_cons_mk (shut_int Try.underlying3 w2) trodAll_mk0))), rfl, bel.frame _, fun h => by cases h⟩

theorem over : Rows.dfaAgreesRow.holds Try.pinned (OpenSpec.ofChange Rows.dfaAgreesSpec) :=
  OpenClaim.holds_of_wide 5 Try.f5 rfl rfl rfl rfl rfl rfl rfl ⟨rfl, rfl, rfl, rfl, rfl⟩ rfl rfl rfl rfl rfl (by kernel_rfl) Try.func5 (by kernel_rfl)
    (of_decide_eq_true (by kernel_rfl)) (by unfold Func.isWrapper; first | (rw [if_pos (by decide +kernel)]; kernel_rfl) | (rw [if_neg (by decide +kernel)]; exact ⟨rfl, rfl⟩))
    (fun os started H enc _ => lifted os started H enc)

theorem proved : Rows.DfaAgreesSaid :=
  over
#print axioms proved
end Go.Proofs.Ytfilndgbgdnpiaa.dfaAgrees
