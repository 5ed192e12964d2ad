/-
  For every expression, every text and every place the law NfaTakes of package fretsawlaw07 returns true (what is built of the expression takes just what the expression takes, by its tree; it is built, if it is not too large), and the arguments read as before. No condition.
-/
import Derived.Test.YtfilndgbgdnpiaaKXk
import Derived.Test.YtfilndgbgdnpiaaM12
import Derived.Test.YtfilndgbgdnpiaaKVl
import Derived.Test.YtfilndgbgdnpiaaM13
import Derived.Test.YtfilndgbgdnpiaaKXe
import Derived.Test.YtfilndgbgdnpiaaKNu
import Derived.Test.YtfilndgbgdnpiaaKNv
import Derived.Test.YtfilndgbgdnpiaaKRg
import Derived.WalkKit
import Derived.ProofKit
import Derived.OpenShut
import Derived.ChangeOld
import Derived.SizedLaws
import Derived.ShutString
import Derived.Deep.RegionHeld3
import Derived.Below
namespace Go.Proofs.Ytfilndgbgdnpiaa.nfaTakes
open Go.ChangeShapes Go.WideShapes Go.ChangeAt Go.RowKit
open Go.ChangeMaps (open_string shut_string)
open nf (Nfa Ed Eds nfaV Box Rt)
open df (Row iv In IntsV Owns)
open st (Tr Is rightN)
open nb (trV built nfaOf Ans txOf)
set_option linter.unusedVariables false

theorem own : ownKnob Try.prog.godebug = none := by kernel_rfl
theorem laidOut : laidOutB Try.prog = true := by kernel_rfl

def Kept (w1 : World) (W : World) : Prop := Below w1.heap.size w1 W
theorem Kept.drew {w1 W : World} (h : Kept w1 W) : Kept w1 W.drew := Below.drew h
/-- an nfa is put into a cell of its own -/
theorem put31 (w : World) (n s e : Int) (o : Option Addr) (m cap : Nat) : ∃ w', Hid (w' = (w.alloc (.cells #[.int .i64 0, .int .i64 0, .int .i64 0, .slice none 0 0] 31)).setRow w.heap.size #[.int .i64 n, .int .i64 s, .int .i64 e, .slice o m cap]) ∧ Below w.heap.size w w' ∧ Box w' w.heap.size n s e o m cap :=
  ⟨_, rfl, nb.below_setRow (nf.below_alloc _ _) (Nat.le_refl _) (Nat.le_refl _) _, setRow_heap _ _ _ _ _ _ (heap_alloc_new w _)⟩
/-- the tree is put into a cell of its own -/
theorem box1 {t : Tr} {tv : Value} {w : World} (ht : Is w (fun _ => True) t tv) : ∃ w1, Hid (w1 = w.alloc (.cells #[.int .i64 t.kind, .int .u64 t.set.a, .int .u64 t.set.b, .int .u64 t.set.c, .int .u64 t.set.d, .int .i64 t.min, .int .i64 t.max, tv] 28)) ∧ Below w.heap.size w w1 ∧ st.Box w1 w.heap.size t tv ∧ Is w1 (fun _ => True) t tv := by
  have bl := nf.below_alloc w (.cells #[.int .i64 t.kind, .int .u64 t.set.a, .int .u64 t.set.b, .int .u64 t.set.c, .int .u64 t.set.d, .int .i64 t.min, .int .i64 t.max, tv] 28)
  exact ⟨_, rfl, bl, st.box_new w t tv, ht.carry bl.size (fun _ _ _ => trivial) (fun b _ hlt => bl.block b hlt)⟩
theorem is_later {t : Tr} {tv : Value} {w w1 : World} (ht : Is w (fun _ => True) t tv) (bl : Below w.heap.size w w1) : Is w1 (fun _ => True) t tv := ht.carry bl.size (fun _ _ _ => trivial) (fun b _ hlt => bl.block b hlt)

set_option maxHeartbeats 1000000 in
theorem short_any (s : ByteArray) (n : Nat) (hs : s.size ≤ 9223372036854775807) (hn : n ≤ 100000) (w : World) : Calls Try.prog 11 #[.string s, .int .i64 (n : Int)] w fun e w' => e = .returned (.string (df.cut s n)) ∧ w' = w := by
  by_cases h : s.size ≤ n
  · have e : df.cut s n = s := by unfold df.cut; rw [if_pos h]
    rw [e]
    go_enter Try.func11, Try.ntmps11
    go_wp2
    go_ret
    exact ⟨rfl, rfl⟩
  · have HE : Hid (df.cut s n = s.extract 0 n) := by show _ = _; unfold df.cut; rw [if_neg h]
    have hn2 : n < s.size := by omega
    clear h
    go_enter Try.func11, Try.ntmps11
    go_wp2
    go_ret
    exact ⟨by rw [HE.out]; rfl, rfl⟩

set_option maxHeartbeats 4000000 in
set_option maxRecDepth 100000 in
/-- the expression may not be -/
theorem walk_err {t : Tr} {tv : Value} {w : World} (ht : Is w (fun _ => True) t tv) {s : ByteArray} {at' : Int} (hr : rightN t ≠ 0) :
    Calls Try.prog 3 #[trV t tv, .string s, .int .i64 at'] w fun e w' => e = .returned (.bool true) ∧ Below w.heap.size w w' := by
  obtain ⟨w1, HW1, b1, bx, ht1⟩ := box1 ht
  have c7 := nb.build_no t hr tv w1 ht1
  have c8 := st.rright_is t _ rfl
  obtain ⟨r, HR⟩ : ∃ r, Hid (r = rightN t) := ⟨_, rfl⟩
  rw [← HR.out] at c7 c8 hr
  unfold st.RightIs at c8
  have H8 := (show Hid _ from c8)
  have HT1 := (show Hid (∀ W, Below w1.heap.size w1 W → Is W (fun _ => True) t tv) from fun W h => is_later ht1 h)
  have HX1 := (show Hid (∀ W, Below w1.heap.size w1 W → st.Box W w.heap.size t tv) from fun W h => bx.below h)
  have hq : ((r : Int) == 0) = false := beq_eq_false_iff_ne.2 (by omega)
  have hq2 : ((r : Int) != 0) = true := bne_iff_ne.2 (by omega)
  have HB1 := (show Hid _ from b1)
  rw [HW1.out] at bx
  clear ht ht1 hr b1 c8 HR
  go_enter Try.func3, Try.ntmps3
  go_wp2_with (refine wpList_load_row rfl 28 (.tmp 3) rfl w.heap.size rfl 28 _ (0, 0) _ bx Try.underlying28 rfl nb.info28 ?_)
  go_at_call 7
  rw [← HW1.out]
  refine c7.mono ?_
  rintro e w2 ⟨rfl, b2⟩
  obtain ⟨w3, HW3, b3, bx3⟩ := put31 w2 0 0 0 none 0 0
  have HB3 := (show Hid (Below w1.heap.size w1 w3) from nf.chain b2 b3)
  have hx3 := HX1.out w3 HB3.out
  have h8 := H8.out tv w3 (HT1.out w3 HB3.out)
  have HN3 := (show Hid (Box w3 w2.heap.size 0 0 0 none 0 0) from bx3)
  clear b2 b3 bx bx3 c7 HW1
  go_wp2_with (first | (refine wpList_store_row (by rfl) 31 (.tmp 7) (.tmp 13) (by rfl) w2.heap.size #[.int .i64 0, .int .i64 0, .int .i64 0, .slice none 0 0] (by rfl) (by rfl) 31 _ (heap_alloc_new w2 _) nb.info31 rfl (by simp [Value.oneCell']) ?_; rw [← HW3.out]) | (refine wpList_load_row rfl 28 (.tmp 3) rfl w.heap.size rfl 28 _ (0, 0) _ hx3 Try.underlying28 rfl nb.info28 ?_) | (go_at_call 8; refine h8.mono ?_; rintro e w4 ⟨rfl, b4⟩; have q0 := (HN3.out.later b4).c0; have HB4 := (show Hid (Below w.heap.size w w4) from nf.chain (nf.chain HB1.out HB3.out) b4); clear b4))
  go_ret
  exact ⟨rfl, HB4.out⟩

set_option maxHeartbeats 4000000 in
set_option maxRecDepth 100000 in
/-- it is too large -/
theorem walk_full {t : Tr} {tv : Value} {w : World} (ht : Is w (fun _ => True) t tv) {s : ByteArray} {at' : Int} (hr0 : rightN t = 0) (hfull : (built t).full = true) :
    Calls Try.prog 3 #[trV t tv, .string s, .int .i64 at'] w fun e w' => e = .returned (.bool true) ∧ Below w.heap.size w w' := by
  obtain ⟨w1, HW1, b1, bx, ht1⟩ := box1 ht
  have c7 : Calls Try.prog 7 #[trV t tv] w1 fun e w' => e = .returned (.tuple #[nfaV 0 0 0 none 0 0, .int .i64 80]) ∧ Below w1.heap.size w1 w' := by
    refine (nb.build_yes t hr0 tv w1 ht1).mono ?_
    rintro e w' ⟨h | h, b⟩
    · exact ⟨h.2, b⟩
    · rw [hfull] at h; exact absurd h.1 (by simp)
  have c8 := st.rright_is t 0 hr0.symm
  obtain ⟨hd, _, hg⟩ := nb.right_of t hr0
  have hsz := nb.built_small t hg hfull
  have c9 := nb.size_any 30 t 1001 1001 hd hg (by decide) (by decide) (by omega)
  unfold st.RightIs at c8
  unfold st.UpIs at c9
  have H8 := (show Hid _ from c8)
  have H9 := (show Hid _ from c9)
  have HT1 := (show Hid (∀ W, Below w1.heap.size w1 W → Is W (fun _ => True) t tv) from fun W h => is_later ht1 h)
  have HX1 := (show Hid (∀ W, Below w1.heap.size w1 W → st.Box W w.heap.size t tv) from fun W h => bx.below h)
  have HB1 := (show Hid _ from b1)
  rw [HW1.out] at bx
  clear ht ht1 hr0 b1 c8 c9 hfull hd hg hsz
  go_enter Try.func3, Try.ntmps3
  go_wp2_with (refine wpList_load_row rfl 28 (.tmp 3) rfl w.heap.size rfl 28 _ (0, 0) _ bx Try.underlying28 rfl nb.info28 ?_)
  go_at_call 7
  rw [← HW1.out]
  refine c7.mono ?_
  rintro e w2 ⟨rfl, b2⟩
  obtain ⟨w3, HW3, b3, bx3⟩ := put31 w2 0 0 0 none 0 0
  have HB3 := (show Hid (Below w1.heap.size w1 w3) from nf.chain b2 b3)
  have hx3 := HX1.out w3 HB3.out
  have h8 := H8.out tv w3 (HT1.out w3 HB3.out)
  have HN3 := (show Hid (Box w3 w2.heap.size 0 0 0 none 0 0) from bx3)
  clear b2 b3 bx bx3 c7 HW1
  go_wp2_with (first | (refine wpList_store_row (by rfl) 31 (.tmp 7) (.tmp 13) (by rfl) w2.heap.size #[.int .i64 0, .int .i64 0, .int .i64 0, .slice none 0 0] (by rfl) (by rfl) 31 _ (heap_alloc_new w2 _) nb.info31 rfl (by simp [Value.oneCell']) ?_; rw [← HW3.out]) | (refine wpList_load_row rfl 28 (.tmp 3) rfl w.heap.size rfl 28 _ (0, 0) _ hx3 Try.underlying28 rfl nb.info28 ?_) | (go_at_call 8; refine h8.mono ?_; rintro e w4 ⟨rfl, b4⟩; have q0 := (HN3.out.later b4).c0; have HB4 := (show Hid (Below w1.heap.size w1 w4) from nf.chain HB3.out b4); obtain ⟨k0, k1, k2, k3, k4, k5, k6, k7⟩ := (HX1.out w4 HB4.out).cells; have h9 := H9.out tv w4 _ (HT1.out w4 HB4.out); clear b4) | (go_at_call 9; refine h9.mono ?_; rintro e w5 ⟨rfl, b5⟩; have HB5 := (show Hid (Below w.heap.size w w5) from nf.chain (nf.chain HB1.out HB4.out) b5); clear b5))
  go_ret
  exact ⟨rfl, HB5.out⟩

section
variable {ops : Array Oper} {S : World → Prop} {op : Oper} {a : Act}
theorem x_load3 {x : Operand} {p : Addr} {v : Value} {w : World} (h : op.op = .load 3 x) (hx : a.eval x = .pointer (some p)) (hc : w.cell? p = some v) : (execOp a.eval op).run Try.prog w = .ok (.value v) w := by
  unfold execOp; rw [h]; simp only [hx]; go_simp
theorem yields_run (hw : Region.wanted op (yielded ops a.tmps) = true) {v : Value} (h : ∀ W, S W → (execOp a.eval op).run Try.prog W = .ok (.value v) W) : YieldsIf Try.prog ops S op v a := .inl ⟨hw, h⟩
theorem yields_not (hw : Region.wanted op (yielded ops a.tmps) = false) : YieldsIf Try.prog ops S op undef a := .inr ⟨hw, rfl⟩
theorem yields_28 {t : Tr} {tv : Value} (hw : Region.wanted op (yielded ops a.tmps) = true) (x : Operand) (ho : op.op = .load 28 x) (g : Nat) (hx : a.eval x = .pointer (some ⟨g, 0, none⟩)) (hS : ∀ W, S W → st.Box W g t tv) : YieldsIf Try.prog ops S op (trV t tv) a :=
  .inl ⟨hw, fun w h => by
    unfold execOp
    simp only [ho, hx, Instr.loadAt, Instr.sureAddr, Sem.run_bind, Sem.run_pure, Result.andThen_ok, run_loadVar_row w g 28 28 _ (0, 0) _ (hS w h) Try.underlying28 rfl nb.info28]⟩
theorem yields_31 {n s e : Int} {o : Option Addr} {m cap : Nat} (hw : Region.wanted op (yielded ops a.tmps) = true) (x : Operand) (ho : op.op = .load 31 x) (g : Nat) (hx : a.eval x = .pointer (some ⟨g, 0, none⟩)) (hS : ∀ W, S W → Box W g n s e o m cap) : YieldsIf Try.prog ops S op (nfaV n s e o m cap) a :=
  .inl ⟨hw, fun w h => by
    unfold execOp
    simp only [ho, hx, Instr.loadAt, Instr.sureAddr, Sem.run_bind, Sem.run_pure, Result.andThen_ok, run_loadVar_row w g 31 31 _ (0, 0) _ (hS w h) Try.underlying31 rfl nb.info31]⟩
end
set_option maxHeartbeats 8000000 in
set_option maxRecDepth 100000 in
/-- it is built -/
theorem walk_ok {t : Tr} {tv : Value} {w : World} (ht : Is w (fun _ => True) t tv) (hsane : t.sane) {s : ByteArray} (hs : s.size ≤ 140737488351232) {at' : Int} (hr0 : rightN t = 0) (hfull : (built t).full = false) :
    Calls Try.prog 3 #[trV t tv, .string s, .int .i64 at'] w fun e w' => e = .returned (.bool true) ∧ Below w.heap.size w w' := by
  obtain ⟨w1, HW1, b1, bx, ht1⟩ := box1 ht
  have c7 : Calls Try.prog 7 #[trV t tv] w1 fun e w' => (∃ o cap, e = .returned (.tuple #[nfaV (nfaOf t).n (nfaOf t).s (nfaOf t).e o (nfaOf t).edges.length cap, .int .i64 0]) ∧ Eds w' o cap (nfaOf t).edges) ∧ Below w1.heap.size w1 w' := by
    refine (nb.build_yes t hr0 tv w1 ht1).mono ?_
    rintro e w' ⟨h | h, b⟩
    · rw [hfull] at h; exact absurd h.1 (by simp)
    · exact ⟨h.2, b⟩
  have c8 := st.rright_is t 0 hr0.symm
  obtain ⟨hd, _, hg⟩ := nb.right_of t hr0
  have hr := nb.built_right t hfull
  have hfit := nb.built_fits t hsane
  obtain ⟨n, R1⟩ := nf.rt_of _ hr
  have hcut := df.cut_size s 60
  have h11 := short_any s 60 (by omega) (by omega)
  have HF := (show Hid (∀ (d : Nat → Nat) (a len : Nat) (L : List Int), nf.IsRuns (nfaOf t) d a len L → ∀ (j : Nat), j ≤ len → ((j : Int) ∈ L ↔ nb.Tk ⟨d, len⟩ t a j)) from fun d a len L h j hj => nb.runs_tk t hg hfull d a len L h j hj)
  obtain ⟨dd, hdd⟩ : ∃ dd, dd = Min.min t.depth 12 := ⟨_, rfl⟩
  have c13 := st.deep_any t.depth t 12 dd (Nat.le_refl _) (by decide) (by decide) hdd
  have hdm : dd ≤ 12 := by omega
  unfold st.RightIs at c8
  unfold st.UpIs at c13
  have H13 := (show Hid _ from c13)
  generalize hx : nfaOf t = x at *
  generalize df.cut s 60 = u at *
  have HFR := (show Hid (nb.FromIs u t) from nb.from_any u (by omega) 30 t hd hg hsane)
  have h10 := fun o cap W => nf.rright_any x true hr.symm o cap W
  have HT1 := (show Hid (∀ W, Below w1.heap.size w1 W → Is W (fun _ => True) t tv) from fun W h => is_later ht1 h)
  have HX1 := (show Hid (∀ W, Below w1.heap.size w1 W → st.Box W w.heap.size t tv) from fun W h => bx.below h)
  have HB1 := (show Hid _ from b1)
  have HR1 := (show Hid (Rt x n) from R1)
  have HFIT := (show Hid (∀ e ∈ x.edges, nf.Fits e) from hfit)
  have HRT := (show Hid (nf.right x = true) from hr)
  rw [HW1.out] at bx
  clear ht ht1 hr hfit R1 b1 hr0 hfull hx hd hg hdd c13
  go_enter Try.func3, Try.ntmps3
  go_wp2_with (refine wpList_load_row rfl 28 (.tmp 3) rfl w.heap.size rfl 28 _ (0, 0) _ bx Try.underlying28 rfl nb.info28 ?_)
  go_at_call 7
  rw [← HW1.out]
  refine c7.mono ?_
  rintro ev w2 ⟨⟨o, cap, rfl, hE2⟩, b2⟩
  obtain ⟨w3, HW3, b3, bx3⟩ := put31 w2 x.n x.s x.e o x.edges.length cap
  have HB3 := (show Hid (Below w1.heap.size w1 w3) from nf.chain b2 b3)
  have hx3 := HX1.out w3 HB3.out
  have h8 := c8 tv w3 (HT1.out w3 HB3.out)
  have HN3 := (show Hid (Box w3 w2.heap.size x.n x.s x.e o x.edges.length cap) from bx3)
  have HE3 := (show Hid (Eds w3 o cap x.edges) from hE2.later b3)
  have h10b := h10 o cap
  unfold nf.RtIs at h10b
  have hci : (u.size : Int) ≤ 60 := by omega
  have hxx := (show Hid (∀ W, Below w3.heap.size w3 W → Eds W o cap x.edges) from fun W h => HE3.out.later h)
  clear b2 b3 bx bx3 c7 HW1 c8 h10
  by_cases hin : 0 ≤ at' ∧ at' ≤ (u.size : Int)
  · obtain ⟨a, rfl⟩ : ∃ a : Nat, at' = (a : Int) := ⟨at'.toNat, by omega⟩
    have hau : a ≤ u.size := by omega
    have g1 : ¬ ((a : Int) < 0) := by omega
    have g2 : ¬ ((u.size : Int) < (a : Int)) := by omega
    clear hin
    go_wp2_with (first | (refine wpList_store_row (by rfl) 31 (.tmp 7) (.tmp 13) (by rfl) w2.heap.size #[.int .i64 x.n, .int .i64 x.s, .int .i64 x.e, .slice o x.edges.length cap] (by rfl) (by rfl) 31 _ (heap_alloc_new w2 _) nb.info31 rfl (by simp [Value.oneCell']) ?_; rw [← HW3.out]) | (refine wpList_load_row rfl 28 (.tmp 3) rfl w.heap.size rfl 28 _ (0, 0) _ hx3 Try.underlying28 rfl nb.info28 ?_) | (go_at_call 8; refine h8.mono ?_; rintro e w4 ⟨rfl, b4⟩; have hn4 := HN3.out.later b4; have HE4 := (show Hid (Eds w4 o cap x.edges) from HE3.out.later b4); have HB4 := (show Hid (Below w1.heap.size w1 w4) from nf.chain HB3.out b4); clear b4) | (refine wpList_load_row rfl 31 (.tmp 7) rfl w2.heap.size rfl 31 _ (0, 0) _ hn4 Try.underlying31 rfl nb.info31 ?_) | (go_at_call 10; refine (h10b _ HE4.out).mono ?_; rintro e w5 ⟨rfl, b5⟩; have hn5 := hn4.later b5; have HE5 := (show Hid (Eds w5 o cap x.edges) from HE4.out.later b5); have HB5 := (show Hid (Below w1.heap.size w1 w5) from nf.chain HB4.out b5); clear b5) | (go_at_call 11; (refine (h11 _).mono ?_); rintro e w6 ⟨rfl, hw⟩; obtain rfl := hw.symm) | (refine wpList_load_row rfl 31 (.tmp 7) rfl w2.heap.size rfl 31 _ (0, 0) _ hn5 Try.underlying31 rfl nb.info31 ?_) | (go_at_call 12; refine (h12 _ HE5.out).mono ?_; rintro e w7 ⟨v7, rfl, ⟨vo, vc, rfl, hv7⟩, b7⟩; have HB7 := (show Hid (Below w.heap.size w w7) from nf.chain (nf.chain HB1.out HB5.out) b7); clear b7 hv7))
    obtain ⟨L, hL, hLl⟩ := nf.runs_ex x (nf.dOf u) a u.size hau
    have h12 := nf.ends_yes x n HR1.out HFIT.out u a (by omega) hau HRT.out L hL o cap
    have hLst : nb.Lst (fun j => nb.Tk (txOf u) t a j) (u.size + 1) L := by
      refine ⟨hL.up, fun v => ⟨fun hv => ?_, fun ⟨j, h1, h2, h3⟩ => ?_⟩, by omega⟩
      · obtain ⟨j, h1, h2, _⟩ := (hL.mem v).1 hv
        subst h2
        exact ⟨a + j, by omega, rfl, (HF.out _ _ _ _ hL (a + j) h1).1 hv⟩
      · subst h2
        exact (HF.out _ _ _ _ hL j (by omega)).2 h3
    have h15 := nb.rends_any u hcut t HFR.out a hau L hLst
    have h14 := df.ints_any L L true (by simp)
    unfold df.IntsIs at h14
    unfold nb.REndsIs at h15
    clear hL hLl hLst HF HFR
    have HN5 := (show Hid (Box w5 w2.heap.size x.n x.s x.e o x.edges.length cap) from hn5)
    have hT5 : ∀ W, Kept w5 W → Is W (fun _ => True) t tv := fun W h => HT1.out W (nf.chain HB5.out h)
    have hX5 : ∀ W, Kept w5 W → st.Box W w.heap.size t tv := fun W h => HX1.out W (nf.chain HB5.out h)
    have hN5 : ∀ W, Kept w5 W → Box W w2.heap.size x.n x.s x.e o x.edges.length cap := fun W h => HN5.out.later h
    have hE5 : ∀ W, Kept w5 W → Eds W o cap x.edges := fun W h => HE5.out.later h
    refine wp_region_held (S := Kept w5) (by kernel_rfl) ?_
    have k0 : Kept w5 w5 := Below.refl _ _
    refine df.take_op (i := 0) 60 rfl rfl (yields_run (by kernel_rfl) (v := .pointer (some ⟨w2.heap.size, 0, none⟩)) (fun W h => by kernel_rfl)) (by kernel_rfl) (by kernel_rfl) (by kernel_rfl) (fun _ _ _ h => h) k0.drew ?_
    simp only [Act.put, List.setIfInBounds_toArray, List.set_cons_zero, List.set_cons_succ]
    refine df.take_op (i := 1) 61 rfl rfl (yields_run (by kernel_rfl) (fun W h => x_load3 (x := .tmp 60) rfl rfl (hN5 W h).c0)) (by kernel_rfl) (by kernel_rfl) (by kernel_rfl) (fun _ _ _ h => h) k0.drew ?_
    simp only [Act.put, List.setIfInBounds_toArray, List.set_cons_zero, List.set_cons_succ]
    refine df.take_op (i := 2) 62 rfl rfl (yields_run (by kernel_rfl) (v := .bool (decide (600 < x.n))) (fun W h => by kernel_rfl)) (by kernel_rfl) (by kernel_rfl) (by kernel_rfl) (fun _ _ _ h => h) k0.drew ?_
    simp only [Act.put, List.setIfInBounds_toArray, List.set_cons_zero, List.set_cons_succ]
    refine df.take_op (i := 3) 63 rfl rfl (df.yields_move (by kernel_rfl) (.tmp 62) rfl) (by kernel_rfl) (by kernel_rfl) (by kernel_rfl) (fun _ _ _ h => h) k0.drew ?_
    simp only [Act.put, List.setIfInBounds_toArray, List.set_cons_zero, List.set_cons_succ]
    by_cases hbig : 600 < x.n
    · rw [decide_eq_true hbig]
      refine df.take_op (i := 4) 64 rfl rfl (yields_not (by kernel_rfl)) (by kernel_rfl) (by kernel_rfl) (by kernel_rfl) (fun _ _ _ h => h) k0.drew ?_
      simp only [Act.put, List.setIfInBounds_toArray, List.set_cons_zero, List.set_cons_succ]
      refine df.take_op (i := 5) 65 rfl rfl (yields_not (by kernel_rfl)) (by kernel_rfl) (by kernel_rfl) (by kernel_rfl) (fun _ _ _ h => h) k0.drew ?_
      simp only [Act.put, List.setIfInBounds_toArray, List.set_cons_zero, List.set_cons_succ]
      refine df.take_op (i := 6) 66 rfl rfl (yields_not (by kernel_rfl)) (by kernel_rfl) (by kernel_rfl) (by kernel_rfl) (fun _ _ _ h => h) k0.drew ?_
      simp only [Act.put, List.setIfInBounds_toArray, List.set_cons_zero, List.set_cons_succ]
      refine df.take_op (i := 7) 67 rfl rfl (yields_run (by kernel_rfl) (v := .bool true) (fun W h => by kernel_rfl)) (by kernel_rfl) (by kernel_rfl) (by kernel_rfl) (fun _ _ _ h => h) k0.drew ?_
      simp only [Act.put, List.setIfInBounds_toArray, List.set_cons_zero, List.set_cons_succ]
      refine df.take_op (i := 8) 68 rfl rfl (df.yields_move (by kernel_rfl) (.tmp 67) rfl) (by kernel_rfl) (by kernel_rfl) (by kernel_rfl) (fun _ _ _ h => h) k0.drew ?_
      simp only [Act.put, List.setIfInBounds_toArray, List.set_cons_zero, List.set_cons_succ]
      refine df.take_op (i := 9) 69 rfl rfl (yields_not (by kernel_rfl)) (by kernel_rfl) (by kernel_rfl) (by kernel_rfl) (fun _ _ _ h => h) k0.drew ?_
      simp only [Act.put, List.setIfInBounds_toArray, List.set_cons_zero, List.set_cons_succ]
      refine df.take_op (i := 10) 70 rfl rfl (yields_not (by kernel_rfl)) (by kernel_rfl) (by kernel_rfl) (by kernel_rfl) (fun _ _ _ h => h) k0.drew ?_
      simp only [Act.put, List.setIfInBounds_toArray, List.set_cons_zero, List.set_cons_succ]
      refine df.take_op (i := 11) 71 rfl rfl (yields_not (by kernel_rfl)) (by kernel_rfl) (by kernel_rfl) (by kernel_rfl) (fun _ _ _ h => h) k0.drew ?_
      simp only [Act.put, List.setIfInBounds_toArray, List.set_cons_zero, List.set_cons_succ]
      refine df.take_op (i := 12) 72 rfl rfl (yields_not (by kernel_rfl)) (by kernel_rfl) (by kernel_rfl) (by kernel_rfl) (fun _ _ _ h => h) k0.drew ?_
      simp only [Act.put, List.setIfInBounds_toArray, List.set_cons_zero, List.set_cons_succ]
      refine df.take_op (i := 13) 73 rfl rfl (yields_not (by kernel_rfl)) (by kernel_rfl) (by kernel_rfl) (by kernel_rfl) (fun _ _ _ h => h) k0.drew ?_
      simp only [Act.put, List.setIfInBounds_toArray, List.set_cons_zero, List.set_cons_succ]
      refine df.take_op (i := 14) 74 rfl rfl (yields_not (by kernel_rfl)) (by kernel_rfl) (by kernel_rfl) (by kernel_rfl) (fun _ _ _ h => h) k0.drew ?_
      simp only [Act.put, List.setIfInBounds_toArray, List.set_cons_zero, List.set_cons_succ]
      refine df.take_op (i := 15) 75 rfl rfl (yields_not (by kernel_rfl)) (by kernel_rfl) (by kernel_rfl) (by kernel_rfl) (fun _ _ _ h => h) k0.drew ?_
      simp only [Act.put, List.setIfInBounds_toArray, List.set_cons_zero, List.set_cons_succ]
      refine df.take_op (i := 16) 76 rfl rfl (yields_not (by kernel_rfl)) (by kernel_rfl) (by kernel_rfl) (by kernel_rfl) (fun _ _ _ h => h) k0.drew ?_
      simp only [Act.put, List.setIfInBounds_toArray, List.set_cons_zero, List.set_cons_succ]
      refine df.take_op (i := 17) 77 rfl rfl (yields_not (by kernel_rfl)) (by kernel_rfl) (by kernel_rfl) (by kernel_rfl) (fun _ _ _ h => h) k0.drew ?_
      simp only [Act.put, List.setIfInBounds_toArray, List.set_cons_zero, List.set_cons_succ]
      refine df.take_op (i := 18) 78 rfl rfl (yields_run (by kernel_rfl) (v := .bool true) (fun W h => by kernel_rfl)) (by kernel_rfl) (by kernel_rfl) (by kernel_rfl) (fun _ _ _ h => h) k0.drew ?_
      simp only [Act.put, List.setIfInBounds_toArray, List.set_cons_zero, List.set_cons_succ]
      refine df.take_op (i := 19) 6 rfl rfl (df.yields_assign (by kernel_rfl) (.tmp 78) rfl) (by kernel_rfl) (by kernel_rfl) (by kernel_rfl) (fun _ _ _ h => h) k0.drew ?_
      simp only [Act.put, List.setIfInBounds_toArray, List.set_cons_zero, List.set_cons_succ]
      refine df.done_op (by kernel_rfl) ?_
      go_wp2_with (fail)
      go_ret
      exact ⟨rfl, nf.chain (nf.chain HB1.out HB5.out) k0.drew⟩
    · rw [decide_eq_false hbig]
      refine df.take_op (i := 4) 64 rfl rfl (yields_28 (by kernel_rfl) (.tmp 3) rfl w.heap.size rfl hX5) (by kernel_rfl) (by kernel_rfl) (by kernel_rfl) (fun _ _ _ h => h) k0.drew ?_
      simp only [Act.put, List.setIfInBounds_toArray, List.set_cons_zero, List.set_cons_succ]
      refine df.call_op 5 65 (f := 13) (args := #[trV t tv, .int .i64 12]) (by kernel_rfl) rfl rfl (by kernel_rfl) (by kernel_rfl) ((H13.out tv _ _ (hT5 _ k0.drew)).mono ?_)
      rintro e w6 ⟨rfl, b6⟩
      have k6 : Kept w5 w6 := df.chain k0.drew b6
      refine ⟨_, rfl, k6, ?_⟩
      simp only [Act.put, List.setIfInBounds_toArray, List.set_cons_zero, List.set_cons_succ]
      refine df.take_op (i := 6) 66 rfl rfl (yields_run (by kernel_rfl) (v := .bool (decide ((dd : Int) ≥ 12))) (fun W h => by kernel_rfl)) (by kernel_rfl) (by kernel_rfl) (by kernel_rfl) (fun _ _ _ h => h) k6 ?_
      simp only [Act.put, List.setIfInBounds_toArray, List.set_cons_zero, List.set_cons_succ]
      by_cases hdeep : (dd : Int) ≥ 12
      · rw [decide_eq_true hdeep]
        refine df.take_op (i := 7) 67 rfl rfl (yields_run (by kernel_rfl) (v := .bool true) (fun W h => by kernel_rfl)) (by kernel_rfl) (by kernel_rfl) (by kernel_rfl) (fun _ _ _ h => h) k6 ?_
        simp only [Act.put, List.setIfInBounds_toArray, List.set_cons_zero, List.set_cons_succ]
        refine df.take_op (i := 8) 68 rfl rfl (df.yields_move (by kernel_rfl) (.tmp 67) rfl) (by kernel_rfl) (by kernel_rfl) (by kernel_rfl) (fun _ _ _ h => h) k6 ?_
        simp only [Act.put, List.setIfInBounds_toArray, List.set_cons_zero, List.set_cons_succ]
        refine df.take_op (i := 9) 69 rfl rfl (yields_not (by kernel_rfl)) (by kernel_rfl) (by kernel_rfl) (by kernel_rfl) (fun _ _ _ h => h) k6 ?_
        simp only [Act.put, List.setIfInBounds_toArray, List.set_cons_zero, List.set_cons_succ]
        refine df.take_op (i := 10) 70 rfl rfl (yields_not (by kernel_rfl)) (by kernel_rfl) (by kernel_rfl) (by kernel_rfl) (fun _ _ _ h => h) k6 ?_
        simp only [Act.put, List.setIfInBounds_toArray, List.set_cons_zero, List.set_cons_succ]
        refine df.take_op (i := 11) 71 rfl rfl (yields_not (by kernel_rfl)) (by kernel_rfl) (by kernel_rfl) (by kernel_rfl) (fun _ _ _ h => h) k6 ?_
        simp only [Act.put, List.setIfInBounds_toArray, List.set_cons_zero, List.set_cons_succ]
        refine df.take_op (i := 12) 72 rfl rfl (yields_not (by kernel_rfl)) (by kernel_rfl) (by kernel_rfl) (by kernel_rfl) (fun _ _ _ h => h) k6 ?_
        simp only [Act.put, List.setIfInBounds_toArray, List.set_cons_zero, List.set_cons_succ]
        refine df.take_op (i := 13) 73 rfl rfl (yields_not (by kernel_rfl)) (by kernel_rfl) (by kernel_rfl) (by kernel_rfl) (fun _ _ _ h => h) k6 ?_
        simp only [Act.put, List.setIfInBounds_toArray, List.set_cons_zero, List.set_cons_succ]
        refine df.take_op (i := 14) 74 rfl rfl (yields_not (by kernel_rfl)) (by kernel_rfl) (by kernel_rfl) (by kernel_rfl) (fun _ _ _ h => h) k6 ?_
        simp only [Act.put, List.setIfInBounds_toArray, List.set_cons_zero, List.set_cons_succ]
        refine df.take_op (i := 15) 75 rfl rfl (yields_not (by kernel_rfl)) (by kernel_rfl) (by kernel_rfl) (by kernel_rfl) (fun _ _ _ h => h) k6 ?_
        simp only [Act.put, List.setIfInBounds_toArray, List.set_cons_zero, List.set_cons_succ]
        refine df.take_op (i := 16) 76 rfl rfl (yields_not (by kernel_rfl)) (by kernel_rfl) (by kernel_rfl) (by kernel_rfl) (fun _ _ _ h => h) k6 ?_
        simp only [Act.put, List.setIfInBounds_toArray, List.set_cons_zero, List.set_cons_succ]
        refine df.take_op (i := 17) 77 rfl rfl (yields_not (by kernel_rfl)) (by kernel_rfl) (by kernel_rfl) (by kernel_rfl) (fun _ _ _ h => h) k6 ?_
        simp only [Act.put, List.setIfInBounds_toArray, List.set_cons_zero, List.set_cons_succ]
        refine df.take_op (i := 18) 78 rfl rfl (yields_run (by kernel_rfl) (v := .bool true) (fun W h => by kernel_rfl)) (by kernel_rfl) (by kernel_rfl) (by kernel_rfl) (fun _ _ _ h => h) k6 ?_
        simp only [Act.put, List.setIfInBounds_toArray, List.set_cons_zero, List.set_cons_succ]
        refine df.take_op (i := 19) 6 rfl rfl (df.yields_assign (by kernel_rfl) (.tmp 78) rfl) (by kernel_rfl) (by kernel_rfl) (by kernel_rfl) (fun _ _ _ h => h) k6 ?_
        simp only [Act.put, List.setIfInBounds_toArray, List.set_cons_zero, List.set_cons_succ]
        refine df.done_op (by kernel_rfl) ?_
        go_wp2_with (fail)
        go_ret
        exact ⟨rfl, nf.chain (nf.chain HB1.out HB5.out) k6⟩
      · rw [decide_eq_false hdeep]
        refine df.take_op (i := 7) 67 rfl rfl (yields_run (by kernel_rfl) (v := .bool false) (fun W h => by kernel_rfl)) (by kernel_rfl) (by kernel_rfl) (by kernel_rfl) (fun _ _ _ h => h) k6 ?_
        simp only [Act.put, List.setIfInBounds_toArray, List.set_cons_zero, List.set_cons_succ]
        refine df.take_op (i := 8) 68 rfl rfl (df.yields_move (by kernel_rfl) (.tmp 67) rfl) (by kernel_rfl) (by kernel_rfl) (by kernel_rfl) (fun _ _ _ h => h) k6 ?_
        simp only [Act.put, List.setIfInBounds_toArray, List.set_cons_zero, List.set_cons_succ]
        refine df.take_op (i := 9) 69 rfl rfl (yields_31 (by kernel_rfl) (.tmp 7) rfl w2.heap.size rfl hN5) (by kernel_rfl) (by kernel_rfl) (by kernel_rfl) (fun _ _ _ h => h) k6 ?_
        simp only [Act.put, List.setIfInBounds_toArray, List.set_cons_zero, List.set_cons_succ]
        refine df.take_op (i := 10) 70 rfl rfl (df.yields_move (by kernel_rfl) (.tmp 1) rfl) (by kernel_rfl) (by kernel_rfl) (by kernel_rfl) (fun _ _ _ h => h) k6 ?_
        simp only [Act.put, List.setIfInBounds_toArray, List.set_cons_zero, List.set_cons_succ]
        refine df.take_op (i := 11) 71 rfl rfl (df.yields_move (by kernel_rfl) (.tmp 2) rfl) (by kernel_rfl) (by kernel_rfl) (by kernel_rfl) (fun _ _ _ h => h) k6 ?_
        simp only [Act.put, List.setIfInBounds_toArray, List.set_cons_zero, List.set_cons_succ]
        refine df.take_op (i := 13) 73 rfl rfl (yields_28 (by kernel_rfl) (.tmp 3) rfl w.heap.size rfl hX5) (by kernel_rfl) (by kernel_rfl) (by kernel_rfl) (fun _ _ _ h => h) k6 ?_
        simp only [Act.put, List.setIfInBounds_toArray, List.set_cons_zero, List.set_cons_succ]
        refine df.take_op (i := 14) 74 rfl rfl (df.yields_move (by kernel_rfl) (.tmp 1) rfl) (by kernel_rfl) (by kernel_rfl) (by kernel_rfl) (fun _ _ _ h => h) k6 ?_
        simp only [Act.put, List.setIfInBounds_toArray, List.set_cons_zero, List.set_cons_succ]
        refine df.take_op (i := 15) 75 rfl rfl (df.yields_move (by kernel_rfl) (.tmp 2) rfl) (by kernel_rfl) (by kernel_rfl) (by kernel_rfl) (fun _ _ _ h => h) k6 ?_
        simp only [Act.put, List.setIfInBounds_toArray, List.set_cons_zero, List.set_cons_succ]
        refine df.call_op 12 72 (f := 12) (args := #[nfaV x.n x.s x.e o x.edges.length cap, .string u, .int .i64 (a : Int)]) (by kernel_rfl) rfl rfl (by kernel_rfl) (by kernel_rfl) ((h12 _ (hE5 _ k6)).mono ?_)
        rintro e w7 ⟨v7, rfl, hv7, b7⟩
        have k7 : Kept w5 w7 := df.chain k6 b7
        refine ⟨_, rfl, k7, ?_⟩
        simp only [Act.put, List.setIfInBounds_toArray, List.set_cons_zero, List.set_cons_succ]
        refine df.call_op 16 76 (f := 15) (args := #[trV t tv, .string u, .int .i64 (a : Int)]) (by kernel_rfl) rfl rfl (by kernel_rfl) (by kernel_rfl) ((h15 tv _ _ (hT5 _ k7)).mono ?_)
        rintro e w8 ⟨v8, rfl, hv8, b8⟩
        have k8 : Kept w5 w8 := df.chain k7 b8
        refine ⟨_, rfl, k8, ?_⟩
        simp only [Act.put, List.setIfInBounds_toArray, List.set_cons_zero, List.set_cons_succ]
        refine df.call_op 17 77 (f := 14) (args := #[v7, v8]) (by kernel_rfl) rfl rfl (by kernel_rfl) (by kernel_rfl) ((h14 v7 v8 _ (hv7.later b8) hv8).mono ?_)
        rintro e w9 ⟨rfl, b9⟩
        have k9 : Kept w5 w9 := df.chain k8 b9
        refine ⟨_, rfl, k9, ?_⟩
        simp only [Act.put, List.setIfInBounds_toArray, List.set_cons_zero, List.set_cons_succ]
        refine df.take_op (i := 18) 78 rfl rfl (yields_run (by kernel_rfl) (v := .bool true) (fun W h => by kernel_rfl)) (by kernel_rfl) (by kernel_rfl) (by kernel_rfl) (fun _ _ _ h => h) k9 ?_
        simp only [Act.put, List.setIfInBounds_toArray, List.set_cons_zero, List.set_cons_succ]
        refine df.take_op (i := 19) 6 rfl rfl (df.yields_assign (by kernel_rfl) (.tmp 78) rfl) (by kernel_rfl) (by kernel_rfl) (by kernel_rfl) (fun _ _ _ h => h) k9 ?_
        simp only [Act.put, List.setIfInBounds_toArray, List.set_cons_zero, List.set_cons_succ]
        refine df.done_op (by kernel_rfl) ?_
        go_wp2_with (fail)
        go_ret
        exact ⟨rfl, nf.chain (nf.chain HB1.out HB5.out) k9⟩
  · have h12 := nf.ends_no x u at' (by omega) (fun h => hin h.2) o cap
    by_cases hneg : at' < 0
    · clear hin
      go_wp2_with (first | (refine wpList_store_row (by rfl) 31 (.tmp 7) (.tmp 13) (by rfl) w2.heap.size #[.int .i64 x.n, .int .i64 x.s, .int .i64 x.e, .slice o x.edges.length cap] (by rfl) (by rfl) 31 _ (heap_alloc_new w2 _) nb.info31 rfl (by simp [Value.oneCell']) ?_; rw [← HW3.out]) | (refine wpList_load_row rfl 28 (.tmp 3) rfl w.heap.size rfl 28 _ (0, 0) _ hx3 Try.underlying28 rfl nb.info28 ?_) | (go_at_call 8; refine h8.mono ?_; rintro e w4 ⟨rfl, b4⟩; have hn4 := HN3.out.later b4; have HE4 := (show Hid (Eds w4 o cap x.edges) from HE3.out.later b4); have HB4 := (show Hid (Below w1.heap.size w1 w4) from nf.chain HB3.out b4); clear b4) | (refine wpList_load_row rfl 31 (.tmp 7) rfl w2.heap.size rfl 31 _ (0, 0) _ hn4 Try.underlying31 rfl nb.info31 ?_) | (go_at_call 10; refine (h10b _ HE4.out).mono ?_; rintro e w5 ⟨rfl, b5⟩; have hn5 := hn4.later b5; have HE5 := (show Hid (Eds w5 o cap x.edges) from HE4.out.later b5); have HB5 := (show Hid (Below w1.heap.size w1 w5) from nf.chain HB4.out b5); clear b5) | (go_at_call 11; (refine (h11 _).mono ?_); rintro e w6 ⟨rfl, hw⟩; obtain rfl := hw.symm) | (refine wpList_load_row rfl 31 (.tmp 7) rfl w2.heap.size rfl 31 _ (0, 0) _ hn5 Try.underlying31 rfl nb.info31 ?_) | (go_at_call 12; refine (h12 _ HE5.out).mono ?_; rintro e w7 ⟨v7, rfl, ⟨vo, vc, rfl, hv7⟩, b7⟩; have HB7 := (show Hid (Below w.heap.size w w7) from nf.chain (nf.chain HB1.out HB5.out) b7); clear b7 hv7))
      go_ret
      exact ⟨rfl, HB7.out⟩
    · have g2 : (u.size : Int) < at' := by omega
      clear hin
      go_wp2_with (first | (refine wpList_store_row (by rfl) 31 (.tmp 7) (.tmp 13) (by rfl) w2.heap.size #[.int .i64 x.n, .int .i64 x.s, .int .i64 x.e, .slice o x.edges.length cap] (by rfl) (by rfl) 31 _ (heap_alloc_new w2 _) nb.info31 rfl (by simp [Value.oneCell']) ?_; rw [← HW3.out]) | (refine wpList_load_row rfl 28 (.tmp 3) rfl w.heap.size rfl 28 _ (0, 0) _ hx3 Try.underlying28 rfl nb.info28 ?_) | (go_at_call 8; refine h8.mono ?_; rintro e w4 ⟨rfl, b4⟩; have hn4 := HN3.out.later b4; have HE4 := (show Hid (Eds w4 o cap x.edges) from HE3.out.later b4); have HB4 := (show Hid (Below w1.heap.size w1 w4) from nf.chain HB3.out b4); clear b4) | (refine wpList_load_row rfl 31 (.tmp 7) rfl w2.heap.size rfl 31 _ (0, 0) _ hn4 Try.underlying31 rfl nb.info31 ?_) | (go_at_call 10; refine (h10b _ HE4.out).mono ?_; rintro e w5 ⟨rfl, b5⟩; have hn5 := hn4.later b5; have HE5 := (show Hid (Eds w5 o cap x.edges) from HE4.out.later b5); have HB5 := (show Hid (Below w1.heap.size w1 w5) from nf.chain HB4.out b5); clear b5) | (go_at_call 11; (refine (h11 _).mono ?_); rintro e w6 ⟨rfl, hw⟩; obtain rfl := hw.symm) | (refine wpList_load_row rfl 31 (.tmp 7) rfl w2.heap.size rfl 31 _ (0, 0) _ hn5 Try.underlying31 rfl nb.info31 ?_) | (go_at_call 12; refine (h12 _ HE5.out).mono ?_; rintro e w7 ⟨v7, rfl, ⟨vo, vc, rfl, hv7⟩, b7⟩; have HB7 := (show Hid (Below w.heap.size w w7) from nf.chain (nf.chain HB1.out HB5.out) b7); clear b7 hv7))
      go_ret
      exact ⟨rfl, HB7.out⟩
theorem walk {t : Tr} {tv : Value} {w : World} (hsane : t.sane) (ht : Is w (fun _ => True) t tv) {s : ByteArray} (hs : s.size ≤ 140737488351232) {at' : Int} (wa : (Lit.int .i64 at').wf = true) (w0 : World) (hw0 : w0 = w := by rfl) :
    Calls Try.prog 3 #[trV t tv, .string s, .int .i64 at'] w0 fun e w' => e = .returned (.bool true) ∧ Below w0.heap.size w0 w' := by
  subst hw0
  by_cases hr : rightN t = 0
  · cases hf : (built t).full with
    | true => exact walk_full ht hr hf
    | false => exact walk_ok ht hsane hs hr hf
  · exact walk_err ht hr

set_option maxRecDepth 100000 in
theorem lifted (os : Os) (started : os.Started) (H : Type) (enc : TypeId × Value → H) :
    ReturnsInHanded {} Try.checked os 3 .any (Rows.nfaTakesSpec.pre6 enc Try.prog Try.f3 Rows.nfaTakesRow.domain false) (Rows.nfaTakesSpec.post enc Try.prog Try.f3 false true false false) := by
  refine returnsInHanded_of_change_sized (C := Try.checked) own started (by kernel_rfl) Try.func3
    (ChangeSpec.witness6 (enc := enc) (C := Try.checked) false ⟨#[], #[.agg #[.int .i64 0, .int .u64 0, .int .u64 0, .int .u64 0, .int .u64 0, .int .i64 0, .int .i64 0, .slice none 0 0], .string ByteArray.empty, .int .i64 0], []⟩ 8 (by kernel_rfl) (by kernel_rfl) (by kernel_rfl) (by kernel_rfl)) ?_
  intro W base args ds gs before hval0 hW hcnd hsz0 _
  have hsz : (DataW.weightsEach Try.prog (Try.f3.params.toList ++ Rows.nfaTakesSpec.plain.varTypes Try.prog) (ds ++ gs)).all (· ≤ reachBytes) = true := hsz0
  have hval : ∀ (j : Nat) t v, Try.f3.params[j]? = some t → args[j]? = some v → Value.okWide Try.prog W .any base t v := hval0
  have hW' := hW
  obtain ⟨p, q, hA0, hV, rfl, hfz, hnd⟩ := hW
  have hA : DataW.TrodAll enc Try.prog W 0 (fun _ => true) true Try.f3.params.toList args.toList ds p := hA0
  rw [Try.params3] at hA hval hsz
  obtain ⟨v0, vs0, d0, ds0, p0, q0, hargs, rfl, rfl, h0, r0⟩ := trodAll_cons hA
  obtain ⟨v1, vs1, d1, ds1, p1, q1, rfl, rfl, rfl, h1, r1⟩ := trodAll_cons r0
  obtain ⟨v2, vs2, d2, ds2, p2, q2, rfl, rfl, rfl, h2, r2⟩ := trodAll_cons r1
  obtain ⟨rfl, rfl, rfl⟩ := trodAll_nil r2
  obtain rfl : args = #[v0, v1, v2] := by cases args; simp_all
  obtain ⟨rfl, rfl⟩ := trodVars_none hV
  have k0 := h0
  have lt0 : ∀ x ∈ p0, x.block < W.heap.size := by obtain ⟨m, hm⟩ := k0; exact DataW.trod_lt m _ _ _ hm
  obtain ⟨t0, s0, hs0, F0, rfl⟩ := st.open28 (hval 0 28 v0 rfl rfl) h0
  obtain ⟨a1, rfl, rfl, rfl, w1⟩ := open_string Try.underlying9 (hval 1 9 v1 rfl rfl) h1
  have F1 : a1.size ≤ 140737488351232 := by
    have := sized_string hsz (j := 1) (t := 9) rfl rfl
    simpa [reachBytes] using this
  obtain ⟨a2, rfl, rfl, rfl, w2⟩ := open_int Try.underlying3 (hval 2 3 v2 rfl rfl) h2
  clear hA0 hval0
  refine (walk hs0 F0 F1 w2 W).mono fun e W' ⟨he, bel⟩ => ?_
  subst he
  exact ⟨_, rfl, _, _, _, [], _, [], hW', trodAll_mk1 (shut_bool Try.underlying4 _), (trodAll_cons_mk (Below.trod laidOut (by kernel_rfl) (of_decide_eq_true (by kernel_rfl)) k0 bel lt0) (trodAll_cons_mk (shut_string Try.underlying9 w1) (trodAll_cons_mk (shut_int Try.underlying3 w2) trodAll_mk0))), rfl, bel.frame _, fun h => by cases h⟩

theorem over : Rows.nfaTakesRow.holds Try.pinned (OpenSpec.ofChange Rows.nfaTakesSpec) :=
  OpenClaim.holds_of_wide 3 Try.f3 rfl rfl rfl rfl rfl rfl rfl ⟨rfl, rfl, rfl, rfl, rfl⟩ rfl rfl rfl rfl rfl (by kernel_rfl) Try.func3 (by kernel_rfl)
    (of_decide_eq_true (by kernel_rfl)) (by unfold Func.isWrapper; first | (rw [if_pos (by decide +kernel)]; kernel_rfl) | (rw [if_neg (by decide +kernel)]; exact ⟨rfl, rfl⟩))
    (fun os started H enc _ => lifted os started H enc)

theorem proved : Rows.NfaTakesSaid :=
  over
#print axioms proved
end Go.Proofs.Ytfilndgbgdnpiaa.nfaTakes
