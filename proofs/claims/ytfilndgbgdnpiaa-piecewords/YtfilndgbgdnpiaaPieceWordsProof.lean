/-
  For every expression and every text the law PieceWords of package fretsawlaw10 returns true (by an expression a text is taken apart as its tree says), and the arguments read as before. No condition.
-/
import Derived.Test.YtfilndgbgdnpiaaM20
import Derived.Test.YtfilndgbgdnpiaaM21
import Derived.Test.YtfilndgbgdnpiaaM32
import Derived.Test.YtfilndgbgdnpiaaM17
import Derived.Test.YtfilndgbgdnpiaaKXc
import Derived.Test.YtfilndgbgdnpiaaM10
import Derived.Test.YtfilndgbgdnpiaaM01
import Derived.WalkKit
import Derived.ProofKit
import Derived.OpenShut
import Derived.ChangeOld
import Derived.SizedLaws
import Derived.ShutString
import Derived.Below
namespace Go.Proofs.Ytfilndgbgdnpiaa.pieceWords
open Go.ChangeShapes Go.WideShapes Go.ChangeAt Go.RowKit
open Go.ChangeMaps (open_string shut_string)
open nf (Nfa Ed Eds nfaV Box Rt)
open df (Row iv In IntsV Owns DAt DBox)
open bd (z37 z37_size zero37 Built)
open st (Tr Is rightN)
open nb (trV built nfaOf Ans txOf)
set_option linter.unusedVariables false

theorem own : ownKnob Try.prog.godebug = none := by kernel_rfl
theorem laidOut : laidOutB Try.prog = true := by kernel_rfl

theorem byte_same (s : ByteArray) : df.byteAt s = nf.dOf s := by
  funext i
  unfold df.byteAt nf.dOf
  by_cases h : i < s.size
  · rw [dif_pos h, getElem?_pos s i h]; rfl
  · rw [dif_neg h, getElem?_neg s i h]; rfl
/-- what the tree says of every place is where the dfa stops -/
theorem words_of (t : Tr) (hg : t.good = true) (hf : (built t).full = false) (hsane : t.sane) (hd : t.depth ≤ 30) (s : ByteArray) (hs : s.size ≤ 40) (d : df.Dfa) (hruns : ∀ a, a ≤ s.size → nf.IsRuns (nfaOf t) (df.byteAt s) a s.size (df.ends d s (s.size - a) 0 a)) : nb.Words s t d := by
  intro a ha
  have hL := hruns a (by omega)
  rw [byte_same] at hL
  obtain ⟨L', hL', hl'⟩ := nf.runs_ex (nfaOf t) (nf.dOf s) a s.size (by omega)
  have hee : df.ends d s (s.size - a) 0 a = L' := nf.up_eq _ _ hL.up hL'.up fun u => (hL.mem u).trans (hL'.mem u).symm
  rw [hee] at hL
  have hLst : nb.Lst (fun j => nb.Tk (txOf s) t a j) (s.size + 1) L' := by
    refine ⟨hL.up, fun v => ⟨fun hv => ?_, fun ⟨j, h1, h2, h3⟩ => ?_⟩, by omega⟩
    · obtain ⟨j, h1, h2, _⟩ := (hL.mem v).1 hv
      subst h2
      exact ⟨a + j, by omega, rfl, (nb.runs_tk t hg hf _ _ _ _ hL (a + j) h1).1 hv⟩
    · subst h2
      exact (nb.runs_tk t hg hf _ _ _ _ hL j (by omega)).2 h3
  refine ⟨L', nb.rends_any s (by omega) t (nb.from_any s (by omega) 30 t hd hg hsane) a (by omega) L' hLst, by omega, fun x hx => ?_, ?_⟩
  · obtain ⟨j, h1, h2, _⟩ := (hL.mem x).1 hx
    omega
  · rw [pc.stop_eq, nb.top_last L' hL.up _ ((a : Int) - 1) (by omega)]
    show _ = max (pc.lastOr (df.ends d s (s.size - a) 0 a) ((a : Int) - 1)) ((a : Int) + 1)
    rw [hee]
/-- a dfa is put into a cell of its own -/
theorem put51 (w : World) (cs : Array Value) (hs : cs.size = 258) : Below w.heap.size w ((w.alloc (.cells z37 51)).setRow w.heap.size cs) ∧ DBox ((w.alloc (.cells z37 51)).setRow w.heap.size cs) w.heap.size cs :=
  ⟨nb.below_setRow (nf.below_alloc _ _) (Nat.le_refl _) (Nat.le_refl _) _, setRow_heap _ _ _ _ _ _ (heap_alloc_new w _)⟩
theorem one_of {P : Nat → Prop} {w : World} {d : df.Dfa} {cs : Array Value} {o ao : Option Addr} {cap acap : Nat} (h : DAt P w d cs o cap ao acap) : cs.all (·.oneCell') = true := by
  rw [Array.all_eq_true]
  intro i hi
  have hs := h.size
  have hv : cs[i]? = some cs[i] := Array.getElem?_eq_getElem hi
  by_cases h1 : i < 256
  · have := h.cl i h1
    rw [hv] at this
    rw [Option.some.inj this]; rfl
  · by_cases h2 : i = 256
    · subst h2
      have := h.nx
      rw [hv] at this
      rw [Option.some.inj this]; rfl
    · have h3 : i = 257 := by omega
      subst h3
      have := h.ac
      rw [hv] at this
      rw [Option.some.inj this]; rfl
/-- an nfa is put into a cell of its own -/
theorem put31 (w : World) (n s e : Int) (o : Option Addr) (m cap : Nat) : ∃ w', Hid (w' = (w.alloc (.cells #[.int .i64 0, .int .i64 0, .int .i64 0, .slice none 0 0] 31)).setRow w.heap.size #[.int .i64 n, .int .i64 s, .int .i64 e, .slice o m cap]) ∧ Below w.heap.size w w' ∧ Box w' w.heap.size n s e o m cap :=
  ⟨_, rfl, nb.below_setRow (nf.below_alloc _ _) (Nat.le_refl _) (Nat.le_refl _) _, setRow_heap _ _ _ _ _ _ (heap_alloc_new w _)⟩
/-- the tree is put into a cell of its own -/
theorem box1 {t : Tr} {tv : Value} {w : World} (ht : Is w (fun _ => True) t tv) : ∃ w1, Hid (w1 = w.alloc (.cells #[.int .i64 t.kind, .int .u64 t.set.a, .int .u64 t.set.b, .int .u64 t.set.c, .int .u64 t.set.d, .int .i64 t.min, .int .i64 t.max, tv] 28)) ∧ Below w.heap.size w w1 ∧ st.Box w1 w.heap.size t tv ∧ Is w1 (fun _ => True) t tv := by
  have bl := nf.below_alloc w (.cells #[.int .i64 t.kind, .int .u64 t.set.a, .int .u64 t.set.b, .int .u64 t.set.c, .int .u64 t.set.d, .int .i64 t.min, .int .i64 t.max, tv] 28)
  exact ⟨_, rfl, bl, st.box_new w t tv, ht.carry bl.size (fun _ _ _ => trivial) (fun b _ hlt => bl.block b hlt)⟩
theorem is_later {t : Tr} {tv : Value} {w w1 : World} (ht : Is w (fun _ => True) t tv) (bl : Below w.heap.size w w1) : Is w1 (fun _ => True) t tv := ht.carry bl.size (fun _ _ _ => trivial) (fun b _ hlt => bl.block b hlt)

set_option maxHeartbeats 4000000 in
set_option maxRecDepth 100000 in
/-- the expression may not be -/
theorem walk_err {t : Tr} {tv : Value} {w : World} (ht : Is w (fun _ => True) t tv) {s : ByteArray} (hr : rightN t ≠ 0) :
    Calls Try.prog 6 #[trV t tv, .string s] w fun e w' => e = .returned (.bool true) ∧ Below w.heap.size w w' := by
  obtain ⟨w1, HW1, b1, bx, ht1⟩ := box1 ht
  have c8 := st.rright_is t _ rfl
  obtain ⟨r, HR⟩ : ∃ r, Hid (r = rightN t) := ⟨_, rfl⟩
  rw [← HR.out] at c8 hr
  have h8 := c8 tv w1 ht1
  have hq : ((r : Int) == 0) = false := beq_eq_false_iff_ne.2 (by omega)
  have hq2 : ((r : Int) != 0) = true := bne_iff_ne.2 (by omega)
  have HB1 := (show Hid _ from b1)
  rw [HW1.out] at bx
  clear ht ht1 hr b1 c8 HR
  go_enter Try.func6, Try.ntmps6
  go_wp2_with (first | (refine wpList_load_row rfl 28 (.tmp 2) rfl w.heap.size rfl 28 _ (0, 0) _ bx Try.underlying28 rfl nb.info28 ?_) | (go_at_call 8; rw [← HW1.out]; refine h8.mono ?_; rintro e w2 ⟨rfl, b2⟩; have HB2 := (show Hid (Below w.heap.size w w2) from nf.chain HB1.out b2); clear b2))
  go_ret
  exact ⟨rfl, HB2.out⟩
set_option maxHeartbeats 4000000 in
set_option maxRecDepth 100000 in
/-- it is too deep, or the text too long -/
theorem walk_big {t : Tr} {tv : Value} {w : World} (ht : Is w (fun _ => True) t tv) {s : ByteArray} (hs : s.size ≤ 140737488351232) (hr0 : rightN t = 0) (hbig : 9 ≤ t.depth ∨ 40 < s.size) :
    Calls Try.prog 6 #[trV t tv, .string s] w fun e w' => e = .returned (.bool true) ∧ Below w.heap.size w w' := by
  obtain ⟨w1, HW1, b1, bx, ht1⟩ := box1 ht
  have h8 := st.rright_is t 0 hr0.symm tv w1 ht1
  obtain ⟨dd, hdd⟩ : ∃ dd, dd = Min.min t.depth 9 := ⟨_, rfl⟩
  have c13 := st.deep_any t.depth t 9 dd (Nat.le_refl _) (by decide) (by decide) hdd
  have hdm : dd ≤ 9 := by omega
  unfold st.UpIs at c13
  have H13 := (show Hid _ from c13)
  have HT1 := (show Hid (∀ W, Below w1.heap.size w1 W → Is W (fun _ => True) t tv) from fun W h => is_later ht1 h)
  have HX1 := (show Hid (∀ W, Below w1.heap.size w1 W → st.Box W w.heap.size t tv) from fun W h => bx.below h)
  have HB1 := (show Hid _ from b1)
  rw [HW1.out] at bx
  by_cases hdeep : 9 ≤ dd
  · have hdi : (9 : Int) ≤ (dd : Int) := by omega
    clear ht ht1 b1 c13 hr0 hbig hdd
    go_enter Try.func6, Try.ntmps6
    go_wp2_with (first | (refine wpList_load_row rfl 28 (.tmp 2) rfl w.heap.size rfl 28 _ (0, 0) _ bx Try.underlying28 rfl nb.info28 ?_) | (go_at_call 8; rw [← HW1.out]; refine h8.mono ?_; rintro e w2 ⟨rfl, b2⟩; have HB2 := (show Hid (Below w1.heap.size w1 w2) from b2); clear b2; obtain ⟨k0, k1, k2, k3, k4, k5, k6, k7⟩ := (HX1.out w2 HB2.out).cells; have h13 := H13.out tv w2 _ (HT1.out w2 HB2.out)) | (go_at_call 13; refine h13.mono ?_; rintro e w3 ⟨rfl, b3⟩; have HB3 := (show Hid (Below w.heap.size w w3) from nf.chain (nf.chain HB1.out HB2.out) b3); clear b3))
    go_ret
    exact ⟨rfl, HB3.out⟩
  · have hdi : ¬ (9 : Int) ≤ (dd : Int) := by omega
    have hsi : (40 : Int) < (s.size : Int) := by omega
    clear ht ht1 b1 c13 hr0 hbig hdd
    go_enter Try.func6, Try.ntmps6
    go_wp2_with (first | (refine wpList_load_row rfl 28 (.tmp 2) rfl w.heap.size rfl 28 _ (0, 0) _ bx Try.underlying28 rfl nb.info28 ?_) | (go_at_call 8; rw [← HW1.out]; refine h8.mono ?_; rintro e w2 ⟨rfl, b2⟩; have HB2 := (show Hid (Below w1.heap.size w1 w2) from b2); clear b2; obtain ⟨k0, k1, k2, k3, k4, k5, k6, k7⟩ := (HX1.out w2 HB2.out).cells; have h13 := H13.out tv w2 _ (HT1.out w2 HB2.out)) | (go_at_call 13; refine h13.mono ?_; rintro e w3 ⟨rfl, b3⟩; have HB3 := (show Hid (Below w.heap.size w w3) from nf.chain (nf.chain HB1.out HB2.out) b3); clear b3))
    go_ret
    exact ⟨rfl, HB3.out⟩
set_option maxHeartbeats 4000000 in
set_option maxRecDepth 100000 in
/-- what is built is too large -/
theorem walk_full {t : Tr} {tv : Value} {w : World} (ht : Is w (fun _ => True) t tv) {s : ByteArray} (hs : s.size ≤ 40) (hr0 : rightN t = 0) (hd9 : t.depth < 9) (hfull : (built t).full = true) :
    Calls Try.prog 6 #[trV t tv, .string s] w fun e w' => e = .returned (.bool true) ∧ Below w.heap.size w w' := by
  obtain ⟨w1, HW1, b1, bx, ht1⟩ := box1 ht
  have h8 := st.rright_is t 0 hr0.symm tv w1 ht1
  obtain ⟨dd, hdd⟩ : ∃ dd, dd = Min.min t.depth 9 := ⟨_, rfl⟩
  have c13 := st.deep_any t.depth t 9 dd (Nat.le_refl _) (by decide) (by decide) hdd
  have hdi : ¬ (9 : Int) ≤ (dd : Int) := by omega
  have hdm : dd ≤ 9 := by omega
  have hsi : ¬ (40 : Int) < (s.size : Int) := by omega
  unfold st.UpIs at c13
  have H13 := (show Hid _ from c13)
  have HT1 := (show Hid (∀ W, Below w1.heap.size w1 W → Is W (fun _ => True) t tv) from fun W h => is_later ht1 h)
  have HX1 := (show Hid (∀ W, Below w1.heap.size w1 W → st.Box W w.heap.size t tv) from fun W h => bx.below h)
  have HB1 := (show Hid _ from b1)
  have H7 := (show Hid (∀ W, Below w1.heap.size w1 W → Calls Try.prog 7 #[trV t tv] W fun e w' => e = .returned (.tuple #[nfaV 0 0 0 none 0 0, .int .i64 80]) ∧ Below W.heap.size W w') from fun W hW => by
    refine (nb.build_yes t hr0 tv W (HT1.out W hW)).mono ?_
    rintro e w' ⟨h | h, b⟩
    · exact ⟨h.2, b⟩
    · rw [hfull] at h; exact absurd h.1 (by simp))
  rw [HW1.out] at bx
  clear ht ht1 b1 c13 hr0 hdd hd9 hfull
  go_enter Try.func6, Try.ntmps6
  go_wp2_with (first | (refine wpList_load_row rfl 28 (.tmp 2) rfl w.heap.size rfl 28 _ (0, 0) _ bx Try.underlying28 rfl nb.info28 ?_) | (go_at_call 8; rw [← HW1.out]; refine h8.mono ?_; rintro e w2 ⟨rfl, b2⟩; have HB2 := (show Hid (Below w1.heap.size w1 w2) from b2); clear b2; obtain ⟨k0, k1, k2, k3, k4, k5, k6, k7⟩ := (HX1.out w2 HB2.out).cells; have h13 := H13.out tv w2 _ (HT1.out w2 HB2.out)) | (go_at_call 13; refine h13.mono ?_; rintro e w3 ⟨rfl, b3⟩; have HB3 := (show Hid (Below w1.heap.size w1 w3) from nf.chain HB2.out b3); have hx3 := HX1.out w3 HB3.out; clear b3) | (refine wpList_load_row rfl 28 (.tmp 2) rfl w.heap.size rfl 28 _ (0, 0) _ hx3 Try.underlying28 rfl nb.info28 ?_))
  go_at_call 7
  refine (H7.out w3 HB3.out).mono ?_
  rintro e w4 ⟨rfl, b4⟩
  obtain ⟨w5, HW5, b5, bx5⟩ := put31 w4 0 0 0 none 0 0
  have HB5 := (show Hid (Below w.heap.size w w5) from nf.chain (nf.chain HB1.out HB3.out) (nf.chain b4 b5))
  clear b4 b5 bx hx3 bx5
  go_wp2_with (refine wpList_store_row (by rfl) 31 (.tmp 5) (.tmp 27) (by rfl) w4.heap.size #[.int .i64 0, .int .i64 0, .int .i64 0, .slice none 0 0] (by rfl) (by rfl) 31 _ (heap_alloc_new w4 _) nb.info31 rfl (by simp [Value.oneCell']) ?_; rw [← HW5.out])
  go_ret
  exact ⟨rfl, HB5.out⟩
set_option maxHeartbeats 8000000 in
set_option maxRecDepth 100000 in
/-- it is built -/
theorem walk_ok {t : Tr} {tv : Value} {w : World} (ht : Is w (fun _ => True) t tv) (hsane : t.sane) {s : ByteArray} (hs : s.size ≤ 40) (hr0 : rightN t = 0) (hd9 : t.depth < 9) (hfull : (built t).full = false) :
    Calls Try.prog 6 #[trV t tv, .string s] w fun e w' => e = .returned (.bool true) ∧ Below w.heap.size w w' := by
  obtain ⟨w1, HW1, b1, bx, ht1⟩ := box1 ht
  have h8 := st.rright_is t 0 hr0.symm tv w1 ht1
  obtain ⟨dd, hdd⟩ : ∃ dd, dd = Min.min t.depth 9 := ⟨_, rfl⟩
  have c13 := st.deep_any t.depth t 9 dd (Nat.le_refl _) (by decide) (by decide) hdd
  have hdi : ¬ (9 : Int) ≤ (dd : Int) := by omega
  have hdm : dd ≤ 9 := by omega
  have hsi : ¬ (40 : Int) < (s.size : Int) := by omega
  unfold st.UpIs at c13
  have H13 := (show Hid _ from c13)
  have HT1 := (show Hid (∀ W, Below w1.heap.size w1 W → Is W (fun _ => True) t tv) from fun W h => is_later ht1 h)
  have HX1 := (show Hid (∀ W, Below w1.heap.size w1 W → st.Box W w.heap.size t tv) from fun W h => bx.below h)
  have HB1 := (show Hid _ from b1)
  have H7 := (show Hid (∀ W, Below w1.heap.size w1 W → Calls Try.prog 7 #[trV t tv] W fun e w' => (∃ o cap, e = .returned (.tuple #[nfaV (nfaOf t).n (nfaOf t).s (nfaOf t).e o (nfaOf t).edges.length cap, .int .i64 0]) ∧ Eds w' o cap (nfaOf t).edges) ∧ Below W.heap.size W w') from fun W hW => by
    refine (nb.build_yes t hr0 tv W (HT1.out W hW)).mono ?_
    rintro e w' ⟨h | h, b⟩
    · rw [hfull] at h; exact absurd h.1 (by simp)
    · exact ⟨h.2, b⟩)
  obtain ⟨_, _, hg⟩ := nb.right_of t hr0
  have hr := nb.built_right t hfull
  have hfit := nb.built_fits t hsane
  obtain ⟨n, R1⟩ := nf.rt_of _ hr
  have hxe : (nfaOf t).e = ((1 : Nat) : Int) := rfl
  have HWD := (show Hid (∀ d : df.Dfa, (∀ a, a ≤ s.size → nf.IsRuns (nfaOf t) (df.byteAt s) a s.size (df.ends d s (s.size - a) 0 a)) → nb.Words s t d) from fun d h => words_of t hg hfull hsane (by omega) s hs d h)
  generalize nfaOf t = x at *
  have HR1 := (show Hid (Rt x n) from R1)
  have HFIT := (show Hid (∀ e ∈ x.edges, nf.Fits e) from hfit)
  have HRT := (show Hid (nf.right x = true) from hr)
  have HXE := (show Hid (x.e = ((1 : Nat) : Int)) from hxe)
  have hz := zero37
  rw [HW1.out] at bx
  clear ht ht1 hr hfit R1 hxe b1 hr0 hfull hg c13 hdd hd9
  go_enter Try.func6, Try.ntmps6
  go_wp2_with (first | (refine wpList_load_row rfl 28 (.tmp 2) rfl w.heap.size rfl 28 _ (0, 0) _ bx Try.underlying28 rfl nb.info28 ?_) | (go_at_call 8; rw [← HW1.out]; refine h8.mono ?_; rintro e w2 ⟨rfl, b2⟩; have HB2 := (show Hid (Below w1.heap.size w1 w2) from b2); clear b2; obtain ⟨k0, k1, k2, k3, k4, k5, k6, k7⟩ := (HX1.out w2 HB2.out).cells; have h13 := H13.out tv w2 _ (HT1.out w2 HB2.out)) | (go_at_call 13; refine h13.mono ?_; rintro e w3 ⟨rfl, b3⟩; have HB3 := (show Hid (Below w1.heap.size w1 w3) from nf.chain HB2.out b3); have hx3 := HX1.out w3 HB3.out; clear b3) | (refine wpList_load_row rfl 28 (.tmp 2) rfl w.heap.size rfl 28 _ (0, 0) _ hx3 Try.underlying28 rfl nb.info28 ?_))
  go_at_call 7
  refine (H7.out w3 HB3.out).mono ?_
  rintro ev w4 ⟨⟨o, cap, rfl, hE4⟩, b4⟩
  obtain ⟨w5, HW5, b5, bx5⟩ := put31 w4 x.n x.s x.e o x.edges.length cap
  have HE5 := (show Hid (Eds w5 o cap x.edges) from hE4.later b5)
  have HB5 := (show Hid (Below w1.heap.size w1 w5) from nf.chain HB3.out (nf.chain b4 b5))
  have HN5 := (show Hid (Box w5 w4.heap.size x.n x.s x.e o x.edges.length cap) from bx5)
  have q0 := bx5.c0
  have h19 := bd.build_yes x n 1 HR1.out HRT.out HFIT.out HXE.out o cap w5 HE5.out
  unfold bd.YesIs at h19
  clear bx hx3 bx5 b4 b5 hE4 H7 k0 k1 k2 k3 k4 k5 k6 k7 h13
  by_cases hbig : 300 < x.n
  · have f1 : decide (300 < x.n) = true := decide_eq_true hbig
    clear h19 hbig
    go_wp2_with (refine wpList_store_row (by rfl) 31 (.tmp 5) (.tmp 27) (by rfl) w4.heap.size #[.int .i64 x.n, .int .i64 x.s, .int .i64 x.e, .slice o x.edges.length cap] (by rfl) (by rfl) 31 _ (heap_alloc_new w4 _) nb.info31 rfl (by simp [Value.oneCell']) ?_; rw [← HW5.out])
    go_ret
    exact ⟨rfl, nf.chain HB1.out HB5.out⟩
  · have f1 : decide (300 < x.n) = false := decide_eq_false hbig
    clear hbig
    have HX := HN5.out
    go_wp2_with (first | (refine wpList_store_row (by rfl) 31 (.tmp 5) (.tmp 27) (by rfl) w4.heap.size #[.int .i64 x.n, .int .i64 x.s, .int .i64 x.e, .slice o x.edges.length cap] (by rfl) (by rfl) 31 _ (heap_alloc_new w4 _) nb.info31 rfl (by simp [Value.oneCell']) ?_; rw [← HW5.out]) | (refine wpList_load_row rfl 31 (.tmp 5) rfl w4.heap.size rfl 31 _ (0, 0) _ HX Try.underlying31 rfl nb.info31 ?_))
    go_at_call 19
    refine h19.mono ?_
    rintro ev w6 ⟨b6, ⟨rfl, hL⟩ | ⟨L0, d, cs, od, dcap, ao, acap, rfl, hB, hL, hD⟩⟩
    · obtain ⟨w7, hw7⟩ : ∃ w7, w7 = (w6.alloc (.cells z37 51)).setRow w6.heap.size z37 := ⟨_, rfl⟩
      have HB7 := (show Hid (Below w.heap.size w w7) from by show Below _ _ _; rw [hw7]; exact nf.chain (nf.chain (nf.chain HB1.out HB5.out) b6) (put51 w6 z37 z37_size).1)
      have HW7 := (show Hid _ from hw7)
      clear hw7 b6 hL
      go_wp2_with (refine wpList_store_row (by rfl) 51 (.tmp 7) (.tmp 39) (by rfl) w6.heap.size z37 (by rfl) (by rfl) 51 z37 (heap_alloc_new w6 _) (df.info51 _ z37_size) rfl bd.one37 ?_; rw [← HW7.out])
      go_ret
      exact ⟨rfl, HB7.out⟩
    · have hcs := hD.size
      have hone := one_of hD
      obtain ⟨w7, hw7⟩ : ∃ w7, w7 = (w6.alloc (.cells z37 51)).setRow w6.heap.size cs := ⟨_, rfl⟩
      have p7 := put51 w6 cs hcs
      rw [← hw7] at p7
      have HW7 := (show Hid _ from hw7)
      have HB7 := (show Hid (Below w1.heap.size w1 w7) from nf.chain (nf.chain HB5.out b6) p7.1)
      have hD7 := hD.later p7.1
      have hright := hB.right hL
      have hbx7 := p7.2
      have h23 := pc.texts_any d s hright (by omega) cs od dcap ao acap w7 hD7
      have hwd := HWD.out d (fun a ha => bd.takes_all HR1.out hB hL s a ha)
      have H25 := (show Hid (∀ W, Below w1.heap.size w1 W → Calls Try.prog 25 #[trV t tv, .string s] W fun e w' => ∃ v, e = .returned v ∧ pc.StrsV w' v (pc.textsL d s) ∧ Below W.heap.size W w') from fun W hW => nb.pieces_any s hs t d hwd tv W (HT1.out W hW))
      have H24 := (show Hid (∀ v1 v2 W, pc.StrsV W v1 (pc.textsL d s) → pc.StrsV W v2 (pc.textsL d s) → Calls Try.prog 24 #[v1, v2] W fun e w' => e = .returned (.bool true) ∧ Below W.heap.size W w') from fun v1 v2 W h1 h2 => pc.like_same _ v1 v2 W h1 h2)
      clear hw7 p7 hD hD7 hB hL hright b6 h19 HRT HFIT HR1 HXE hwd HWD HX
      go_wp2_with (first | (refine wpList_store_row (by rfl) 51 (.tmp 7) (.tmp 39) (by rfl) w6.heap.size cs (by rfl) (by rfl) 51 z37 (heap_alloc_new w6 _) (df.info51 _ hcs) (by rw [z37_size, hcs]) hone ?_; rw [← HW7.out]) | (refine wpList_load_row rfl 51 (.tmp 7) rfl w6.heap.size rfl 51 cs (0, 0) _ hbx7 Try.underlying51 rfl (df.info51 cs hcs) ?_) | (go_at_call 23; refine h23.mono ?_; rintro e w8 ⟨v8, rfl, hv8, b8⟩; have HV8 := (show Hid (pc.StrsV w8 v8 (pc.textsL d s)) from hv8); have HB8 := (show Hid (Below w1.heap.size w1 w8) from nf.chain HB7.out b8); obtain ⟨m0, m1, m2, m3, m4, m5, m6, m7⟩ := (HX1.out w8 HB8.out).cells; clear hv8 b8) | (go_at_call 25; refine (H25.out w8 HB8.out).mono ?_; rintro e w9 ⟨v9, rfl, hv9, b9⟩; have HB9 := (show Hid (Below w1.heap.size w1 w9) from nf.chain HB8.out b9); have HV9 := (show Hid (pc.StrsV w9 v9 (pc.textsL d s)) from hv9); have HV8b := (show Hid (pc.StrsV w9 v8 (pc.textsL d s)) from pc.StrsV.later HV8.out b9); clear hv9 b9) | (go_at_call 24; refine (H24.out _ _ _ HV8b.out HV9.out).mono ?_; rintro e w10 ⟨rfl, b10⟩; have HB10 := (show Hid (Below w.heap.size w w10) from nf.chain (nf.chain HB1.out HB9.out) b10); clear b10))
      go_ret
      exact ⟨rfl, HB10.out⟩
theorem walk {t : Tr} {tv : Value} {w : World} (hsane : t.sane) (ht : Is w (fun _ => True) t tv) {s : ByteArray} (hs : s.size ≤ 140737488351232) (w0 : World) (hw0 : w0 = w := by rfl) :
    Calls Try.prog 6 #[trV t tv, .string s] w0 fun e w' => e = .returned (.bool true) ∧ Below w0.heap.size w0 w' := by
  subst hw0
  by_cases hr : rightN t = 0
  · by_cases hb : 9 ≤ t.depth ∨ 40 < s.size
    · exact walk_big ht hs hr hb
    · cases hf : (built t).full with
      | true => exact walk_full ht (by omega) hr (by omega) hf
      | false => exact walk_ok ht hsane (by omega) hr (by omega) hf
  · exact walk_err ht hr

set_option maxRecDepth 100000 in
theorem lifted (os : Os) (started : os.Started) (H : Type) (enc : TypeId × Value → H) :
    ReturnsInHanded {} Try.checked os 6 .any (Rows.pieceWordsSpec.pre6 enc Try.prog Try.f6 Rows.pieceWordsRow.domain false) (Rows.pieceWordsSpec.post enc Try.prog Try.f6 false true false false) := by
  refine returnsInHanded_of_change_sized (C := Try.checked) own started (by kernel_rfl) Try.func6
    (ChangeSpec.witness6 (enc := enc) (C := Try.checked) false ⟨#[], #[.agg #[.int .i64 0, .int .u64 0, .int .u64 0, .int .u64 0, .int .u64 0, .int .i64 0, .int .i64 0, .slice none 0 0], .string ByteArray.empty], []⟩ 8 (by kernel_rfl) (by kernel_rfl) (by kernel_rfl) (by kernel_rfl)) ?_
  intro W base args ds gs before hval0 hW hcnd hsz0 _
  have hsz : (DataW.weightsEach Try.prog (Try.f6.params.toList ++ Rows.pieceWordsSpec.plain.varTypes Try.prog) (ds ++ gs)).all (· ≤ reachBytes) = true := hsz0
  have hval : ∀ (j : Nat) t v, Try.f6.params[j]? = some t → args[j]? = some v → Value.okWide Try.prog W .any base t v := hval0
  have hW' := hW
  obtain ⟨p, q, hA0, hV, rfl, hfz, hnd⟩ := hW
  have hA : DataW.TrodAll enc Try.prog W 0 (fun _ => true) true Try.f6.params.toList args.toList ds p := hA0
  rw [Try.params6] at hA hval hsz
  obtain ⟨v0, vs0, d0, ds0, p0, q0, hargs, rfl, rfl, h0, r0⟩ := trodAll_cons hA
  obtain ⟨v1, vs1, d1, ds1, p1, q1, rfl, rfl, rfl, h1, r1⟩ := trodAll_cons r0
  obtain ⟨rfl, rfl, rfl⟩ := trodAll_nil r1
  obtain rfl : args = #[v0, v1] := by cases args; simp_all
  obtain ⟨rfl, rfl⟩ := trodVars_none hV
  have k0 := h0
  have lt0 : ∀ x ∈ p0, x.block < W.heap.size := by obtain ⟨m, hm⟩ := k0; exact DataW.trod_lt m _ _ _ hm
  obtain ⟨t0, s0, hs0, F0, rfl⟩ := st.open28 (hval 0 28 v0 rfl rfl) h0
  obtain ⟨a1, rfl, rfl, rfl, w1⟩ := open_string Try.underlying9 (hval 1 9 v1 rfl rfl) h1
  have F1 : a1.size ≤ 140737488351232 := by
    have := sized_string hsz (j := 1) (t := 9) rfl rfl
    simpa [reachBytes] using this
  clear hA0 hval0
  refine (walk hs0 F0 F1 W).mono fun e W' ⟨he, bel⟩ => ?_
  subst he
  exact ⟨_, rfl, _, _, _, [], _, [], hW', trodAll_mk1 (shut_bool Try.underlying4 _), (trodAll_cons_mk (Below.trod laidOut (by kernel_rfl) (of_decide_eq_true (by kernel_rfl)) k0 bel lt0) (trodAll_cons_mk (shut_string Try.underlying9 w1) trodAll_mk0)), rfl, bel.frame _, fun h => by cases h⟩

theorem over : Rows.pieceWordsRow.holds Try.pinned (OpenSpec.ofChange Rows.pieceWordsSpec) :=
  OpenClaim.holds_of_wide 6 Try.f6 rfl rfl rfl rfl rfl rfl rfl ⟨rfl, rfl, rfl, rfl, rfl⟩ rfl rfl rfl rfl rfl (by kernel_rfl) Try.func6 (by kernel_rfl)
    (of_decide_eq_true (by kernel_rfl)) (by unfold Func.isWrapper; first | (rw [if_pos (by decide +kernel)]; kernel_rfl) | (rw [if_neg (by decide +kernel)]; exact ⟨rfl, rfl⟩))
    (fun os started H enc _ => lifted os started H enc)

theorem proved : Rows.PieceWordsSaid :=
  over
#print axioms proved
end Go.Proofs.Ytfilndgbgdnpiaa.pieceWords
