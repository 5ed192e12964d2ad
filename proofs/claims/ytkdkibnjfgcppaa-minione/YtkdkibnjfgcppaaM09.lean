/-
  Texts put together: Plain: the language of a dfa that is built of an expression is told by its tree; trees that take the same. Contracts over this program: the law's own build (an expression's nfa, dfa and least), and its own same. Memory: the trees that the law makes; the law's own same. The law MiniOne, walked.
-/
import Derived.Test.YtkdkibnjfgcppaaM05
import Derived.Test.YtkdkibnjfgcppaaKNb
import Derived.Test.YtkdkibnjfgcppaaM07
import Derived.Test.YtkdkibnjfgcppaaM08
import Derived.Test.YtkdkibnjfgcppaaKMy
import Derived.Test.YtkdkibnjfgcppaaKNd
import Derived.Test.YtkdkibnjfgcppaaKNe
import Derived.Test.YtkdkibnjfgcppaaKNi
import Derived.Test.YtkdkibnjfgcppaaKNh
namespace Go.Proofs.Ytkdkibnjfgcppaa.mo
open st (Tr Q4)
open nb (Tk TkC TkA TkH Pow Tx nfaOf built runs_tk)
open mi (Lg endsL hereL dv by8 dm)
set_option linter.unusedVariables false

def seg (s : ByteArray) (t : Nat) : Nat → List UInt8
  | 0 => []
  | f + 1 => by8 (df.byteAt s t) :: seg s (t + 1) f
theorem here_mem (L : Lg) (t k : Nat) : ((k : Nat) : Int) ∈ hereL L t ↔ k = t ∧ L [] = true := by
  unfold hereL
  cases h : L []
  · simp
  · simp
    omega
theorem endsL_last (s : ByteArray) : ∀ (f : Nat) (L : Lg) (t : Nat), (((t + f : Nat)) : Int) ∈ endsL s f L t ↔ L (seg s t f) = true := by
  intro f
  induction f with
  | zero =>
    intro L t
    show ((t : Nat) : Int) ∈ hereL L t ↔ _
    rw [here_mem]
    exact ⟨fun h => h.2, fun h => ⟨rfl, h⟩⟩
  | succ f ih =>
    intro L t
    have e : endsL s (f + 1) L t = hereL L t ++ endsL s f (dv L (by8 (df.byteAt s t))) (t + 1) := rfl
    rw [e, List.mem_append, here_mem]
    have h2 := ih (dv L (by8 (df.byteAt s t))) (t + 1)
    rw [show t + 1 + f = t + (f + 1) by omega] at h2
    rw [h2]
    constructor
    · rintro (⟨h, _⟩ | h)
      · omega
      · exact h
    · exact fun h => .inr h
theorem seg_all (u : List UInt8) : ∀ (t f : Nat), t + f = u.length → seg ⟨u.toArray⟩ t f = u.drop t := by
  intro t f
  induction f generalizing t with
  | zero => intro h; rw [List.drop_of_length_le (by omega)]; rfl
  | succ f ih =>
    intro h
    have ht : t < u.length := by omega
    have hb : by8 (df.byteAt ⟨u.toArray⟩ t) = u[t] := by
      have h1 : (⟨u.toArray⟩ : ByteArray)[t]? = some u[t] := by
        rw [getElem?_pos (⟨u.toArray⟩ : ByteArray) t (show t < u.toArray.size by simpa using ht)]
        rfl
      unfold df.byteAt
      rw [h1]
      show by8 (u[t].toNat) = u[t]
      unfold by8
      simp
    show by8 (df.byteAt ⟨u.toArray⟩ t) :: seg ⟨u.toArray⟩ (t + 1) f = _
    rw [hb, ih (t + 1) (by omega), List.drop_eq_getElem_cons ht]
/-- a language is what a tree takes -/
def IsL (t : Tr) (L : Lg) : Prop := ∀ u : List UInt8, L u = true ↔ Tk ⟨df.byteAt ⟨u.toArray⟩, u.length⟩ t 0 u.length
theorem IsL.one {t s : Tr} {L M : Lg} (h : IsL t L) (k : IsL s M) (e : ∀ x i j, Tk x t i j ↔ Tk x s i j) : L = M := by
  funext u
  have := (h u).trans ((e _ _ _).trans (k u).symm)
  exact Bool.eq_iff_iff.2 this
theorem built_is (t : Tr) (hg : t.good = true) (hf : (built t).full = false) {n : Nat} {ls : List Nat} {L : List (List Bool)} {d : df.Dfa} (R : nf.Rt (nfaOf t) n) (h : bd.Built (nfaOf t) n ls L d) (hL : L.length ≤ 400) : IsL t ((dm d).lang (some 0)) := by
  intro u
  have hs : (⟨u.toArray⟩ : ByteArray).size = u.length := by simp [ByteArray.size]
  have h1 := bd.takes_all R h hL ⟨u.toArray⟩ 0 (Nat.zero_le _)
  rw [hs, Nat.sub_zero] at h1
  have h2 := runs_tk t hg hf _ 0 u.length _ h1 u.length (Nat.le_refl _)
  rw [← h2]
  have h3 := mi.ends_lang d ⟨u.toArray⟩ u.length (some 0) 0
  have h4 : df.ends d ⟨u.toArray⟩ u.length 0 0 = endsL ⟨u.toArray⟩ u.length ((dm d).lang (some 0)) 0 := h3
  rw [h4]
  have h5 := endsL_last ⟨u.toArray⟩ u.length ((dm d).lang (some 0)) 0
  rw [Nat.zero_add, seg_all u 0 u.length (by omega), List.drop_zero] at h5
  exact h5.symm
def q0 : Q4 := ⟨0, 0, 0, 0⟩
theorem alt_tk (x : Tx) (a b : Tr) (i j : Nat) : Tk x (.node 3 q0 0 0 [a, b]) i j ↔ Tk x (.node 3 q0 0 0 [b, a, b]) i j := by
  simp only [Tk, TkA]
  simp
  exact fun h => .inr h
theorem rep_tk (x : Tx) (mn : Nat) (a : Tr) (i j : Nat) : Tk x (.node 4 q0 (mn : Int) (-1) [a]) i j ↔ ∃ n, mn ≤ n ∧ Pow (Tk x a) n i j := by
  have e : (TkH x [a]) = Tk x a := by funext p q; simp [TkH]
  simp only [Tk]
  simp [e]
theorem pow_any {T : Nat → Nat → Prop} (n i j : Nat) (h : Pow (fun p q => ∃ m, Pow T m p q) n i j) : ∃ m, Pow T m i j := by
  induction n generalizing i with
  | zero => exact ⟨0, h⟩
  | succ n ih =>
    obtain ⟨k, ⟨m, h1⟩, h2⟩ := h
    obtain ⟨m2, h3⟩ := ih k h2
    exact ⟨m + m2, (nb.pow_add m m2 i j).2 ⟨k, h1, h3⟩⟩
theorem rep_rep (x : Tx) (a : Tr) (i j : Nat) : Tk x (.node 4 q0 0 (-1) [a]) i j ↔ Tk x (.node 4 q0 0 (-1) [.node 4 q0 0 (-1) [a]]) i j := by
  have e1 := rep_tk x 0 a
  have e2 := rep_tk x 0 (.node 4 q0 0 (-1) [a])
  rw [show ((0 : Nat) : Int) = 0 from rfl] at e1 e2
  rw [e1, e2]
  have e3 : Tk x (.node 4 q0 0 (-1) [a]) = fun p q => ∃ m, Pow (Tk x a) m p q := by
    funext p q
    apply propext
    rw [e1]
    simp
  rw [e3]
  constructor
  · rintro ⟨n, _, h⟩
    exact ⟨1, Nat.zero_le _, j, ⟨n, h⟩, rfl⟩
  · rintro ⟨n, _, h⟩
    obtain ⟨m, h2⟩ := pow_any n i j h
    exact ⟨m, Nat.zero_le _, h2⟩
theorem rep_more (x : Tx) (a : Tr) (i j : Nat) : Tk x (.node 4 q0 1 (-1) [a]) i j ↔ Tk x (.node 3 q0 0 0 [.node 4 q0 2 (-1) [a], a]) i j := by
  have e1 := rep_tk x 1 a
  have e2 := rep_tk x 2 a
  rw [show ((1 : Nat) : Int) = 1 from rfl] at e1
  rw [show ((2 : Nat) : Int) = 2 from rfl] at e2
  rw [e1]
  have e3 : Tk x (.node 3 q0 0 0 [.node 4 q0 2 (-1) [a], a]) i j ↔ Tk x (.node 4 q0 2 (-1) [a]) i j ∨ Tk x a i j := by
    conv => lhs; unfold Tk
    simp [TkA]
  rw [e3, e2]
  constructor
  · rintro ⟨n, h1, h⟩
    by_cases hn : 2 ≤ n
    · exact .inl ⟨n, hn, h⟩
    · obtain rfl : n = 1 := by omega
      obtain ⟨k, h2, h3⟩ := h
      have h3' : k = j := h3
      subst h3'
      exact .inr h2
  · rintro (⟨n, h1, h⟩ | h)
    · exact ⟨n, by omega, h⟩
    · exact ⟨1, Nat.le_refl _, j, h, rfl⟩
end Go.Proofs.Ytkdkibnjfgcppaa.mo

namespace Go.Proofs.Ytkdkibnjfgcppaa.mo
open Go.ChangeShapes Go.WideShapes Go.ChangeAt Go.RowKit
open nf (Nfa Ed Eds nfaV Box Rt)
open df (DAt DBox In)
open st (Tr Q4 Is rightN)
open nb (trV built nfaOf Ans)
open mi (Lg dm Least z26 z26_size z26_one run26_0 zero26 store26 dat_one Least8 least8_any)
set_option linter.unusedVariables false

/-- what the law's build tells -/
def BOut (t : Tr) (w : World) (e : Ending) (w' : World) : Prop := ∃ (cs : Array Value) (b : Bool), e = .returned (.tuple #[.agg cs, .bool b]) ∧ cs.size = 258 ∧ cs.all (·.oneCell') = true ∧ Below w.heap.size w w' ∧ (b = true → ∃ (d : df.Dfa) (o ao : Option Addr) (cap acap : Nat) (M : Lg), DAt (In w') w' d cs o cap ao acap ∧ Least M ((List.range 256).map d.cls) d.next d.acc ∧ IsL t M)
theorem BOut.no (t : Tr) {w w' : World} (b : Below w.heap.size w w') : BOut t w (.returned (.tuple #[.agg z26, .bool false])) w' := ⟨z26, false, rfl, z26_size, z26_one, b, fun h => by cases h⟩
/-- nfa.Build, its three ways in one -/
theorem nfa_any (t : Tr) (tv : Value) (w : World) (ht : Is w (fun _ => True) t tv) : Calls Try.prog 20 #[trV t tv] w fun e w' => (∃ (n s en : Int) (o : Option Addr) (m cap : Nat) (r : Int), e = .returned (.tuple #[nfaV n s en o m cap, .int .i64 r]) ∧ (r = 0 → rightN t = 0 ∧ (built t).full = false ∧ n = (nfaOf t).n ∧ s = (nfaOf t).s ∧ en = (nfaOf t).e ∧ m = (nfaOf t).edges.length ∧ Eds w' o cap (nfaOf t).edges)) ∧ Below w.heap.size w w' := by
  by_cases hr : rightN t = 0
  · refine (nb.build_yes t hr tv w ht).mono ?_
    rintro e w' ⟨⟨hf, rfl⟩ | ⟨hf, o, cap, rfl, hE⟩, b⟩
    · exact ⟨⟨0, 0, 0, none, 0, 0, 80, rfl, fun h => by cases h⟩, b⟩
    · exact ⟨⟨_, _, _, o, _, cap, 0, rfl, fun _ => ⟨hr, hf, rfl, rfl, rfl, rfl, hE⟩⟩, b⟩
  · refine (nb.build_no t hr tv w ht).mono ?_
    rintro e w' ⟨rfl, b⟩
    exact ⟨⟨0, 0, 0, none, 0, 0, _, rfl, fun h => by omega⟩, b⟩
theorem good_of {t : Tr} (h : rightN t = 0) : t.good = true := (nb.right_of t h).2.2
theorem built48 (k lo hi : Int) (o : Option Addr) (n cap : Nat) (W : World) : (Instr.build 48 #[(0, .int .i64 k), (2, .int .i64 lo), (3, .int .i64 hi), (4, .slice o n cap)]).run Try.prog W = .ok (.agg #[.int .i64 k, .int .u64 0, .int .u64 0, .int .u64 0, .int .u64 0, .int .i64 lo, .int .i64 hi, .slice o n cap]) W := run_build (P := Try.prog) W 48 _ _ (by kernel_rfl)
theorem put52 (w : World) (n s e : Int) (o : Option Addr) (m cap : Nat) : ∃ w', Hid (w' = (w.alloc (.cells #[.int .i64 0, .int .i64 0, .int .i64 0, .slice none 0 0] 52)).setRow w.heap.size #[.int .i64 n, .int .i64 s, .int .i64 e, .slice o m cap]) ∧ Below w.heap.size w w' ∧ Box w' w.heap.size n s e o m cap :=
  ⟨_, rfl, nb.below_setRow (nf.below_alloc _ _) (Nat.le_refl _) (Nat.le_refl _) _, setRow_heap _ _ _ _ _ _ (heap_alloc_new w _)⟩
theorem put26 (w : World) (cs : Array Value) (hs : cs.size = 258) : ∃ w', Hid (w' = (w.alloc (.cells z26 26)).setRow w.heap.size cs) ∧ Below w.heap.size w w' ∧ DBox w' w.heap.size cs :=
  ⟨_, rfl, nb.below_setRow (nf.below_alloc _ _) (Nat.le_refl _) (Nat.le_refl _) _, setRow_heap _ _ _ _ _ _ (heap_alloc_new w _)⟩
set_option maxHeartbeats 4000000 in
set_option maxRecDepth 100000 in
theorem one_any (k lo hi : Int) (l : List Tr) (kv : Value) (w : World) (ht : Is w (fun _ => True) (.node k q0 lo hi l) kv) (hsane : (Tr.node k q0 lo hi l).sane) :
    Calls Try.prog 19 #[.int .i64 k, .int .i64 lo, .int .i64 hi, kv] w (BOut (.node k q0 lo hi l) w) := by
  obtain ⟨ko, kn, kc, rfl⟩ := ht.shape
  obtain ⟨w1, hw1⟩ : ∃ w1, w1 = w.alloc (.cells z26 26) := ⟨_, rfl⟩
  have b1 : Below w.heap.size w w1 := by rw [hw1]; exact mi.below_alloc w _
  have xR : DBox w1 w.heap.size z26 := by rw [hw1]; exact df.dbox_new w z26
  have hbd := built48 k lo hi ko kn kc
  have hz := zero26
  have c20 := nfa_any (.node k q0 lo hi l) (.slice ko kn kc) w1 (ht.later b1)
  obtain ⟨t, htt⟩ : ∃ t, t = Tr.node k q0 lo hi l := ⟨_, rfl⟩
  have hargs : trV t (.slice ko kn kc) = .agg #[.int .i64 k, .int .u64 0, .int .u64 0, .int .u64 0, .int .u64 0, .int .i64 lo, .int .i64 hi, .slice ko kn kc] := by rw [htt]; rfl
  rw [← htt] at c20 hsane ⊢
  rw [hargs] at c20
  have HS := (show Hid (t.sane) from hsane)
  have HB1 := (show Hid _ from b1)
  clear ht htt hargs hsane b1
  go_enter Try.func19, Try.ntmps19
  go_wp2_with (fail)
  rw [← hw1]
  clear hw1 hbd
  go_at_call 20
  refine c20.mono ?_
  rintro e w2 ⟨⟨n, s, en, o, m, cap, r, rfl, hok⟩, b2⟩
  obtain ⟨w3, HW3, b3, bx3⟩ := put52 w2 n s en o m cap
  have HX3 := (show Hid (Box w3 w2.heap.size n s en o m cap) from bx3)
  have b13 := nf.chain b2 b3
  have xR3 : DBox w3 w.heap.size z26 := xR.later b13
  have q0' := bx3.c0
  have hbz := run26_0
  have hi26 := df.info26 z26 z26_size
  have HNO := (show Hid (∀ W, Below w3.heap.size w3 W → BOut t w (.returned (.tuple #[.agg z26, .bool false])) (W.setRow w.heap.size z26)) from fun W b => BOut.no t (nb.below_setRow (nf.chain (nf.chain HB1.out b13) b) (Nat.le_refl _) (Nat.le_refl _) _))
  clear c20 bx3
  by_cases hr : r = 0
  · subst hr
    obtain ⟨hr0, hfull, hn, hs, he, hm, hE2⟩ := hok rfl
    have hrt := nb.built_right t hfull
    have hfit := nb.built_fits t HS.out
    obtain ⟨nn, R1⟩ := nf.rt_of _ hrt
    have hE3 := hE2.later b3
    have h21 := bd.build_yes (nfaOf t) nn 1 R1 hrt hfit rfl o cap w3 hE3
    unfold bd.YesIs at h21
    rw [← hn, ← hs, ← he, ← hm] at h21
    have HR1 := (show Hid (Rt (nfaOf t) nn) from R1)
    have HG := (show Hid (t.good = true) from good_of hr0)
    have HF := (show Hid ((built t).full = false) from hfull)
    clear hok hr0 hfull hn hs he hm hE2 hrt hfit R1 hE3
    by_cases hbig : 300 < n
    · have f1 : decide (300 < n) = true := decide_eq_true hbig
      clear h21 hbig
      go_wp2_with (first | (refine wpList_store_row (by rfl) 52 (.tmp 10) (.tmp 23) (by rfl) w2.heap.size #[.int .i64 n, .int .i64 s, .int .i64 en, .slice o m cap] (by rfl) (by rfl) 52 _ (heap_alloc_new w2 _) nb.info52 rfl (by simp [Value.oneCell']) ?_; rw [← HW3.out]) | (refine wpList_store_row rfl 26 (.tmp 8) (.tmp 32) rfl w.heap.size z26 rfl rfl 26 _ xR3 hi26 rfl z26_one ?_))
      refine bodyPost_ret (by rw [results_cell_tmp Try.results19]; simp [asAddr, Result.andThen, run_loadVar_row (P := Try.prog) (w3.setRow w.heap.size z26) w.heap.size 26 26 z26 (0, 0) _ (setRow_heap w3 _ _ z26 _ _ xR3) Try.underlying26 rfl hi26]; rfl) rfl ?_
      exact HNO.out w3 (Below.refl _ _)
    · have f1 : decide (300 < n) = false := decide_eq_false hbig
      have HX := HX3.out
      clear hbig
      go_wp2_with (first | (refine wpList_store_row (by rfl) 52 (.tmp 10) (.tmp 23) (by rfl) w2.heap.size #[.int .i64 n, .int .i64 s, .int .i64 en, .slice o m cap] (by rfl) (by rfl) 52 _ (heap_alloc_new w2 _) nb.info52 rfl (by simp [Value.oneCell']) ?_; rw [← HW3.out]) | (refine wpList_load_row rfl 52 (.tmp 10) rfl w2.heap.size rfl 52 _ (0, 0) _ HX Try.underlying52 rfl nb.info52 ?_))
      go_at_call 21
      refine h21.mono ?_
      rintro ev w4 ⟨b4, ⟨rfl, hL⟩ | ⟨L0, d, cs, od, dcap, ao, acap, rfl, hB, hL, hD⟩⟩
      · obtain ⟨w5, HW5, b5, x5⟩ := put26 w4 bd.z37 bd.z37_size
        have xR5 : DBox w5 w.heap.size z26 := xR3.later (nf.chain b4 b5)
        have HO := (show Hid _ from HNO.out w5 (nf.chain b4 b5))
        clear hL h21 x5
        go_wp2_with (first | (refine wpList_store_row (by rfl) 26 (.tmp 12) (.tmp 36) (by rfl) w4.heap.size bd.z37 (by rfl) (by rfl) 26 z26 (heap_alloc_new w4 _) (df.info26 _ bd.z37_size) (by rw [z26_size, bd.z37_size]) bd.one37 ?_; rw [← HW5.out]) | (refine wpList_store_row rfl 26 (.tmp 8) (.tmp 40) rfl w.heap.size z26 rfl rfl 26 _ xR5 hi26 rfl z26_one ?_))
        refine bodyPost_ret (by rw [results_cell_tmp Try.results19]; simp [asAddr, Result.andThen, run_loadVar_row (P := Try.prog) (w5.setRow w.heap.size z26) w.heap.size 26 26 z26 (0, 0) _ (setRow_heap w5 _ _ z26 _ _ xR5) Try.underlying26 rfl hi26]; rfl) rfl ?_
        exact HO.out
      · have hcs := hD.size
        have hone := dat_one hD
        obtain ⟨w5, HW5, b5, x5⟩ := put26 w4 cs hcs
        have xR5 : DBox w5 w.heap.size z26 := xR3.later (nf.chain b4 b5)
        have hright := hB.right hL
        have hIL := built_is t HG.out HF.out HR1.out hB hL
        have c8 := least8_any d cs od ao dcap acap w5 (hD.later b5)
        have HIL := (show Hid (IsL t ((dm d).lang (some 0))) from hIL)
        have hb35 := nf.chain b4 b5
        clear h21 hD hB hL hIL
        go_wp2_with (first | (refine wpList_store_row (by rfl) 26 (.tmp 12) (.tmp 36) (by rfl) w4.heap.size cs (by rfl) (by rfl) 26 z26 (heap_alloc_new w4 _) (df.info26 _ hcs) (by rw [z26_size, hcs]) hone ?_; rw [← HW5.out]) | (refine wpList_load_row rfl 26 (.tmp 12) rfl w4.heap.size rfl 26 cs (0, 0) _ x5 Try.underlying26 rfl (df.info26 _ hcs) ?_))
        go_at_call 8
        refine c8.mono ?_
        intro ev w6 hout
        clear c8
        rcases hout with ⟨hrr, _, _⟩ | ⟨_, d', cs', o', ao', cap', acap', rfl, hD', hL', b6, hle⟩
        · rw [hright] at hrr; cases hrr
        · have hcs' := hD'.size
          have hone' := dat_one hD'
          obtain ⟨w7, HW7, b7, x7⟩ := put26 w6 cs' hcs'
          have xR7 : DBox w7 w.heap.size z26 := xR5.later (nf.chain b6 b7)
          have hb37 := nf.chain hb35 (nf.chain b6 b7)
          have hD7 := mi.dat_in hD' b7
          have HO := (show Hid (BOut t w (.returned (.tuple #[.agg cs', .bool true])) (w7.setRow w.heap.size cs')) from ⟨cs', true, rfl, hcs', hone', nb.below_setRow (nf.chain (nf.chain HB1.out b13) hb37) (Nat.le_refl _) (Nat.le_refl _) _, fun _ => ⟨d', o', ao', cap', acap', _, (hD'.carry (fun k hk => (setRow_other _ _ _ _ (by
            have h1 := (Array.getElem?_eq_some_iff.1 xR5).1
            omega)).trans (b7.block k hk.2)) (fun k hk => by
            have h1 := b7.size
            have h2 := hk.2
            show k < (w7.setRow w.heap.size cs').heap.size
            rw [setRow_size]; omega)), hL', HIL.out⟩⟩)
          have hi26' := df.info26 cs' hcs'
          clear hD7 hD' hL' hle
          go_wp2_with (first | (refine wpList_store_row (by rfl) 26 (.tmp 14) (.tmp 44) (by rfl) w6.heap.size cs' (by rfl) (by rfl) 26 z26 (heap_alloc_new w6 _) hi26' (by rw [z26_size, hcs']) hone' ?_; rw [← HW7.out]) | (refine wpList_load_row rfl 26 (.tmp 14) rfl w6.heap.size rfl 26 cs' (0, 0) _ x7 Try.underlying26 rfl hi26' ?_) | (refine wpList_store_row rfl 26 (.tmp 8) (.tmp 46) rfl w.heap.size cs' rfl rfl 26 _ xR7 hi26' (by rw [z26_size, hcs']) hone' ?_))
          refine bodyPost_ret (by rw [results_cell_tmp Try.results19]; simp [asAddr, Result.andThen, run_loadVar_row (P := Try.prog) (w7.setRow w.heap.size cs') w.heap.size 26 26 cs' (0, 0) _ (setRow_heap w7 _ _ cs' _ _ xR7) Try.underlying26 rfl hi26']; rfl) rfl ?_
          exact HO.out
  · have f1 : (r == 0) = false := beq_eq_false_iff_ne.2 hr
    have f2 : (r != 0) = true := bne_iff_ne.2 hr
    clear hok hr
    go_wp2_with (first | (refine wpList_store_row (by rfl) 52 (.tmp 10) (.tmp 23) (by rfl) w2.heap.size #[.int .i64 n, .int .i64 s, .int .i64 en, .slice o m cap] (by rfl) (by rfl) 52 _ (heap_alloc_new w2 _) nb.info52 rfl (by simp [Value.oneCell']) ?_; rw [← HW3.out]) | (refine wpList_store_row rfl 26 (.tmp 8) (.tmp 32) rfl w.heap.size z26 rfl rfl 26 _ xR3 hi26 rfl z26_one ?_))
    refine bodyPost_ret (by rw [results_cell_tmp Try.results19]; simp [asAddr, Result.andThen, run_loadVar_row (P := Try.prog) (w3.setRow w.heap.size z26) w.heap.size 26 26 z26 (0, 0) _ (setRow_heap w3 _ _ z26 _ _ xR3) Try.underlying26 rfl hi26]; rfl) rfl ?_
    exact HNO.out w3 (Below.refl _ _)
end Go.Proofs.Ytkdkibnjfgcppaa.mo

namespace Go.Proofs.Ytkdkibnjfgcppaa.mo
open Go.ChangeShapes Go.WideShapes Go.ChangeAt Go.RowKit
open df (DAt DBox In)
open st (Tr Q4 Is Cells nthT)
open mi (z26 z26_size like_any)
set_option linter.unusedVariables false

theorem load_if {P : Program} {ops : Array Oper} {rest : List Oper} {o : Oper} {a : Act} {w : World} {Q : Exit → Act → World → Prop} (hw : Region.wanted o (yielded ops a.tmps) = true) (ty : TypeId) (x : Operand) (ho : o.op = .load ty x)
    (g : Nat) (hx : a.eval x = .pointer (some ⟨g, 0, none⟩)) (t : TypeId) (cs : Array Value) (fr : Nat × Nat) (d : TypeDesc) (hg : w.heap[g]? = some (.cells cs t fr))
    (hu : P.underlying ty = some d) (hd : (match d with | .struct _ | .array _ _ => true | _ => false) = true) (hi : (P.info? ty).map (·.size) = some cs.size)
    (h : wpList P ops Q rest (a.put o.dst (.agg cs)) w) : wpList P ops Q (o :: rest) a w :=
  wpList_step fun K hK => by rw [if_pos hw]; exact wp_load_row ty x ho g hx t cs fr d hg hu hd hi (hK _ _ h)
theorem q0_fits : st.Fits q0 := ⟨by decide, by decide, by decide, by decide⟩
theorem sane1 {k lo hi : Int} (hk : -100 ≤ k ∧ k ≤ 100) (hl : -100 ≤ lo ∧ lo ≤ 100) (hh : -100 ≤ hi ∧ hi ≤ 100) {l : List Tr} (h : ∀ t ∈ l, t.sane) : (Tr.node k q0 lo hi l).sane := by
  unfold Tr.sane
  exact ⟨q0_fits, by omega, by omega, by omega, st.sanes_of l h⟩
abbrev cT (t : Tr) (v : Value) : List Value := [.int .i64 t.kind, .int .u64 t.set.a, .int .u64 t.set.b, .int .u64 t.set.c, .int .u64 t.set.d, .int .i64 t.min, .int .i64 t.max, v]
theorem cells_at {w : World} {g o : Nat} {cs : Array Value} {T : TypeId} {fr : Nat × Nat} (h : w.heap[g]? = some (.cells cs T fr)) {t : Tr} {v : Value} (hc : ∀ j, j < 8 → cs[o + j]? = (cT t v)[j]?) : Cells w g o t v := by
  unfold Cells
  have e : ∀ j, w.cell? ⟨g, j, none⟩ = cs[j]? := fun j => Lib.cell_of_heap h j
  simp only [e]
  have h0 := hc 0 (by omega); have h1 := hc 1 (by omega); have h2 := hc 2 (by omega); have h3 := hc 3 (by omega)
  have h4 := hc 4 (by omega); have h5 := hc 5 (by omega); have h6 := hc 6 (by omega); have h7 := hc 7 (by omega)
  exact ⟨h0, h1, h2, h3, h4, h5, h6, h7⟩
theorem kids1 {w : World} {a : Tr} {va : Value} (ha : Is w (fun _ => True) a va) (k : Int) (q : Q4) (lo hi : Int) : Is (w.alloc (.cells #[.int .i64 a.kind, .int .u64 a.set.a, .int .u64 a.set.b, .int .u64 a.set.c, .int .u64 a.set.d, .int .i64 a.min, .int .i64 a.max, va] 48)) (fun _ => True) (.node k q lo hi [a]) (.slice (some ⟨w.heap.size, 0, none⟩) 1 1) := by
  have hn := heap_alloc_new w (.cells #[.int .i64 a.kind, .int .u64 a.set.a, .int .u64 a.set.b, .int .u64 a.set.c, .int .u64 a.set.d, .int .i64 a.min, .int .i64 a.max, va] 48)
  have hb := mi.below_alloc w (.cells #[.int .i64 a.kind, .int .u64 a.set.a, .int .u64 a.set.b, .int .u64 a.set.c, .int .u64 a.set.d, .int .i64 a.min, .int .i64 a.max, va] 48)
  refine Is.node k q lo hi [a] w.heap.size 0 1 (fun _ => va) (Nat.le_refl _) (by omega) (by simp) trivial (fun i h => ?_) (fun i h => ?_)
  · obtain rfl : i = 0 := by simp at h; omega
    exact cells_at hn (fun j hj => by rw [show 0 + 0 * 8 + j = j by omega]; simp [nthT])
  · obtain rfl : i = 0 := by simp at h; omega
    exact ha.later hb
theorem kids2 {w : World} {a b : Tr} {va vb : Value} (ha : Is w (fun _ => True) a va) (hb0 : Is w (fun _ => True) b vb) (k : Int) (q : Q4) (lo hi : Int) : Is (w.alloc (.cells #[.int .i64 a.kind, .int .u64 a.set.a, .int .u64 a.set.b, .int .u64 a.set.c, .int .u64 a.set.d, .int .i64 a.min, .int .i64 a.max, va, .int .i64 b.kind, .int .u64 b.set.a, .int .u64 b.set.b, .int .u64 b.set.c, .int .u64 b.set.d, .int .i64 b.min, .int .i64 b.max, vb] 48)) (fun _ => True) (.node k q lo hi [a, b]) (.slice (some ⟨w.heap.size, 0, none⟩) 2 2) := by
  have hn := heap_alloc_new w (.cells #[.int .i64 a.kind, .int .u64 a.set.a, .int .u64 a.set.b, .int .u64 a.set.c, .int .u64 a.set.d, .int .i64 a.min, .int .i64 a.max, va, .int .i64 b.kind, .int .u64 b.set.a, .int .u64 b.set.b, .int .u64 b.set.c, .int .u64 b.set.d, .int .i64 b.min, .int .i64 b.max, vb] 48)
  have hb := mi.below_alloc w (.cells #[.int .i64 a.kind, .int .u64 a.set.a, .int .u64 a.set.b, .int .u64 a.set.c, .int .u64 a.set.d, .int .i64 a.min, .int .i64 a.max, va, .int .i64 b.kind, .int .u64 b.set.a, .int .u64 b.set.b, .int .u64 b.set.c, .int .u64 b.set.d, .int .i64 b.min, .int .i64 b.max, vb] 48)
  refine Is.node k q lo hi [a, b] w.heap.size 0 2 (fun i => if i = 0 then va else vb) (Nat.le_refl _) (by omega) (by simp) trivial (fun i h => ?_) (fun i h => ?_)
  · have h2 : i < 2 := h
    match i, h2 with
    | 0, _ => exact cells_at hn (fun j hj => by match j, hj with | 0, _ | 1, _ | 2, _ | 3, _ | 4, _ | 5, _ | 6, _ | 7, _ => rfl)
    | 1, _ => exact cells_at hn (fun j hj => by match j, hj with | 0, _ | 1, _ | 2, _ | 3, _ | 4, _ | 5, _ | 6, _ | 7, _ => rfl)
  · have h2 : i < 2 := h
    match i, h2 with
    | 0, _ => exact ha.later hb
    | 1, _ => exact hb0.later hb
theorem kids3 {w : World} {a b c : Tr} {va vb vc : Value} (ha : Is w (fun _ => True) a va) (hb0 : Is w (fun _ => True) b vb) (hc0 : Is w (fun _ => True) c vc) (k : Int) (q : Q4) (lo hi : Int) : Is (w.alloc (.cells #[.int .i64 a.kind, .int .u64 a.set.a, .int .u64 a.set.b, .int .u64 a.set.c, .int .u64 a.set.d, .int .i64 a.min, .int .i64 a.max, va, .int .i64 b.kind, .int .u64 b.set.a, .int .u64 b.set.b, .int .u64 b.set.c, .int .u64 b.set.d, .int .i64 b.min, .int .i64 b.max, vb, .int .i64 c.kind, .int .u64 c.set.a, .int .u64 c.set.b, .int .u64 c.set.c, .int .u64 c.set.d, .int .i64 c.min, .int .i64 c.max, vc] 48)) (fun _ => True) (.node k q lo hi [a, b, c]) (.slice (some ⟨w.heap.size, 0, none⟩) 3 3) := by
  have hn := heap_alloc_new w (.cells #[.int .i64 a.kind, .int .u64 a.set.a, .int .u64 a.set.b, .int .u64 a.set.c, .int .u64 a.set.d, .int .i64 a.min, .int .i64 a.max, va, .int .i64 b.kind, .int .u64 b.set.a, .int .u64 b.set.b, .int .u64 b.set.c, .int .u64 b.set.d, .int .i64 b.min, .int .i64 b.max, vb, .int .i64 c.kind, .int .u64 c.set.a, .int .u64 c.set.b, .int .u64 c.set.c, .int .u64 c.set.d, .int .i64 c.min, .int .i64 c.max, vc] 48)
  have hb := mi.below_alloc w (.cells #[.int .i64 a.kind, .int .u64 a.set.a, .int .u64 a.set.b, .int .u64 a.set.c, .int .u64 a.set.d, .int .i64 a.min, .int .i64 a.max, va, .int .i64 b.kind, .int .u64 b.set.a, .int .u64 b.set.b, .int .u64 b.set.c, .int .u64 b.set.d, .int .i64 b.min, .int .i64 b.max, vb, .int .i64 c.kind, .int .u64 c.set.a, .int .u64 c.set.b, .int .u64 c.set.c, .int .u64 c.set.d, .int .i64 c.min, .int .i64 c.max, vc] 48)
  refine Is.node k q lo hi [a, b, c] w.heap.size 0 3 (fun i => if i = 0 then va else if i = 1 then vb else vc) (Nat.le_refl _) (by omega) (by simp) trivial (fun i h => ?_) (fun i h => ?_)
  · have h2 : i < 3 := h
    match i, h2 with
    | 0, _ => exact cells_at hn (fun j hj => by match j, hj with | 0, _ | 1, _ | 2, _ | 3, _ | 4, _ | 5, _ | 6, _ | 7, _ => rfl)
    | 1, _ => exact cells_at hn (fun j hj => by match j, hj with | 0, _ | 1, _ | 2, _ | 3, _ | 4, _ | 5, _ | 6, _ | 7, _ => rfl)
    | 2, _ => exact cells_at hn (fun j hj => by match j, hj with | 0, _ | 1, _ | 2, _ | 3, _ | 4, _ | 5, _ | 6, _ | 7, _ => rfl)
  · have h2 : i < 3 := h
    match i, h2 with
    | 0, _ => exact ha.later hb
    | 1, _ => exact hb0.later hb
    | 2, _ => exact hc0.later hb
/-- two are alike, if both were built -/
def Both (w : World) (b b' : Bool) (cs cs' : Array Value) : Prop := b = true → b' = true → ∃ (d : df.Dfa) (o ao : Option Addr) (cap acap : Nat) (o' ao' : Option Addr) (cap' acap' : Nat), DAt (In w) w d cs o cap ao acap ∧ DAt (In w) w d cs' o' cap' ao' acap'
theorem Both.later {w w' : World} {b b' : Bool} {cs cs' : Array Value} (h : Both w b b' cs cs') (hb : Below w.heap.size w w') : Both w' b b' cs cs' := fun h1 h2 => by
  obtain ⟨d, o, ao, cap, acap, o', ao', cap', acap', k1, k2⟩ := h h1 h2
  exact ⟨d, o, ao, cap, acap, o', ao', cap', acap', k1.later hb, k2.later hb⟩
set_option maxHeartbeats 2000000 in
set_option maxRecDepth 100000 in
theorem same_any (b b' : Bool) (cs cs' : Array Value) (hs : cs.size = 258) (hs' : cs'.size = 258) (w : World) (h : Both w b b' cs cs') : Calls Try.prog 22 #[.agg cs, .bool b, .agg cs', .bool b'] w fun e w' => e = .returned (.bool true) ∧ Below w.heap.size w w' := by
  obtain ⟨wA, hwA⟩ : ∃ wA, wA = (w.alloc (.cells cs 26)).alloc (.cells cs' 26) := ⟨_, rfl⟩
  have B0 : Below w.heap.size w wA := by rw [hwA]; exact ((Below.refl _ _).alloc (Nat.le_refl _) _).alloc (by simp) _
  have x1 : DBox wA w.heap.size cs := by rw [hwA]; exact (Below.heap_alloc _ _ _ (by simp)).trans (df.dbox_new w cs)
  have x2 : DBox wA (w.heap.size + 1) cs' := by rw [hwA]; have := heap_alloc_new (w.alloc (.cells cs 26)) (.cells cs' 26); rw [World.size_alloc] at this; exact this
  have HB := (show Hid (Both wA b b' cs cs') from h.later B0)
  have hi1 := df.info26 cs hs
  have hi2 := df.info26 cs' hs'
  clear h
  cases b with
  | false =>
    go_enter Try.func22, Try.ntmps22
    go_wp2_with (fail)
    go_ret
    exact ⟨rfl, by rw [← hwA]; exact B0⟩
  | true =>
    cases b' with
    | false =>
      go_enter Try.func22, Try.ntmps22
      go_wp2_with (fail)
      go_ret
      exact ⟨rfl, by rw [← hwA]; exact B0⟩
    | true =>
      obtain ⟨d, o, ao, cap, acap, o', ao', cap', acap', k1, k2⟩ := HB.out rfl rfl
      have c10 := like_any d cs o ao cap acap cs' o' ao' cap' acap' wA k1 k2
      rw [hwA] at x1 x2
      clear HB k1 k2
      go_enter Try.func22, Try.ntmps22
      go_wp2_with (first | (refine load_if (by kernel_rfl) 26 (.tmp 4) rfl w.heap.size rfl 26 cs (0, 0) _ x1 Try.underlying26 rfl hi1 ?_) | (refine load_if (by kernel_rfl) 26 (.tmp 6) rfl (w.heap.size + 1) rfl 26 cs' (0, 0) _ x2 Try.underlying26 rfl hi2 ?_))
      rw [← hwA]
      clear hwA
      go_at_call 10
      refine c10.mono ?_
      rintro e w1 ⟨rfl, b1⟩
      go_wp2_with (fail)
      go_ret
      exact ⟨rfl, df.chain B0 b1⟩
end Go.Proofs.Ytkdkibnjfgcppaa.mo

namespace Go.Proofs.Ytkdkibnjfgcppaa.mo
open Go.ChangeShapes Go.WideShapes Go.ChangeAt Go.RowKit
open df (DAt DBox In)
open st (Tr Q4 Is Box)
open mi (z26 z26_size zero26 Least dat_as)
set_option linter.unusedVariables false

/-- what one build gave, in a later world -/
def Got (t : Tr) (b : Bool) (cs : Array Value) (w : World) : Prop := b = true → ∃ (d : df.Dfa) (o ao : Option Addr) (cap acap : Nat) (M : mi.Lg), DAt (In w) w d cs o cap ao acap ∧ Least M ((List.range 256).map d.cls) d.next d.acc ∧ IsL t M
theorem Got.later {t : Tr} {b : Bool} {cs : Array Value} {w w' : World} (h : Got t b cs w) (k : Below w.heap.size w w') : Got t b cs w' := fun hb => by
  obtain ⟨d, o, ao, cap, acap, M, h1, h2, h3⟩ := h hb
  exact ⟨d, o, ao, cap, acap, M, h1.later k, h2, h3⟩
theorem Got.both {t s : Tr} {b b' : Bool} {cs cs' : Array Value} {w : World} (h : Got t b cs w) (k : Got s b' cs' w) (e : ∀ x i j, nb.Tk x t i j ↔ nb.Tk x s i j) : Both w b b' cs cs' := fun hb hb' => by
  obtain ⟨d, o, ao, cap, acap, M, h1, h2, h3⟩ := h hb
  obtain ⟨d', o', ao', cap', acap', M', k1, k2, k3⟩ := k hb'
  obtain rfl := h3.one k3 e
  exact ⟨d, o, ao, cap, acap, o', ao', cap', acap', h1, dat_as h2 k2 h1.c8 k1⟩
theorem slice1 (W : World) (x0 x1 x2 x3 x4 x5 x6 : Int) (o : Option Addr) (n c : Nat) : (Instr.buildSlice 46 1 #[(0, .agg #[.int .i64 x0, .int .u64 x1, .int .u64 x2, .int .u64 x3, .int .u64 x4, .int .i64 x5, .int .i64 x6, .slice o n c])]).run Try.prog W = .ok (.slice (some ⟨W.heap.size, 0, none⟩) 1 1) (W.alloc (.cells #[.int .i64 x0, .int .u64 x1, .int .u64 x2, .int .u64 x3, .int .u64 x4, .int .i64 x5, .int .i64 x6, .slice o n c] 48)) := by kernel_rfl
theorem slice2 (W : World) (x0 x1 x2 x3 x4 x5 x6 : Int) (o : Option Addr) (n c : Nat) (y0 y1 y2 y3 y4 y5 y6 : Int) (o' : Option Addr) (n' c' : Nat) : (Instr.buildSlice 46 2 #[(0, .agg #[.int .i64 x0, .int .u64 x1, .int .u64 x2, .int .u64 x3, .int .u64 x4, .int .i64 x5, .int .i64 x6, .slice o n c]), (1, .agg #[.int .i64 y0, .int .u64 y1, .int .u64 y2, .int .u64 y3, .int .u64 y4, .int .i64 y5, .int .i64 y6, .slice o' n' c'])]).run Try.prog W = .ok (.slice (some ⟨W.heap.size, 0, none⟩) 2 2) (W.alloc (.cells #[.int .i64 x0, .int .u64 x1, .int .u64 x2, .int .u64 x3, .int .u64 x4, .int .i64 x5, .int .i64 x6, .slice o n c, .int .i64 y0, .int .u64 y1, .int .u64 y2, .int .u64 y3, .int .u64 y4, .int .i64 y5, .int .i64 y6, .slice o' n' c'] 48)) := by kernel_rfl
theorem slice3 (W : World) (x0 x1 x2 x3 x4 x5 x6 : Int) (o : Option Addr) (n c : Nat) (y0 y1 y2 y3 y4 y5 y6 : Int) (o' : Option Addr) (n' c' : Nat) (z0 z1 z2 z3 z4 z5 z6 : Int) (o2 : Option Addr) (n2 c2 : Nat) : (Instr.buildSlice 46 3 #[(0, .agg #[.int .i64 x0, .int .u64 x1, .int .u64 x2, .int .u64 x3, .int .u64 x4, .int .i64 x5, .int .i64 x6, .slice o n c]), (1, .agg #[.int .i64 y0, .int .u64 y1, .int .u64 y2, .int .u64 y3, .int .u64 y4, .int .i64 y5, .int .i64 y6, .slice o' n' c']), (2, .agg #[.int .i64 z0, .int .u64 z1, .int .u64 z2, .int .u64 z3, .int .u64 z4, .int .i64 z5, .int .i64 z6, .slice o2 n2 c2])]).run Try.prog W = .ok (.slice (some ⟨W.heap.size, 0, none⟩) 3 3) (W.alloc (.cells #[.int .i64 x0, .int .u64 x1, .int .u64 x2, .int .u64 x3, .int .u64 x4, .int .i64 x5, .int .i64 x6, .slice o n c, .int .i64 y0, .int .u64 y1, .int .u64 y2, .int .u64 y3, .int .u64 y4, .int .i64 y5, .int .i64 y6, .slice o' n' c', .int .i64 z0, .int .u64 z1, .int .u64 z2, .int .u64 z3, .int .u64 z4, .int .i64 z5, .int .i64 z6, .slice o2 n2 c2] 48)) := by kernel_rfl
theorem tree0 (o : Option Addr) (n c : Nat) (W : World) : (Instr.build 48 #[(0, .int .i64 4), (3, .int .i64 (-1)), (4, .slice o n c)]).run Try.prog W = .ok (.agg #[.int .i64 4, .int .u64 0, .int .u64 0, .int .u64 0, .int .u64 0, .int .i64 0, .int .i64 (-1), .slice o n c]) W := run_build (P := Try.prog) W 48 _ _ (by kernel_rfl)
theorem tree2 (o : Option Addr) (n c : Nat) (W : World) : (Instr.build 48 #[(0, .int .i64 4), (2, .int .i64 2), (3, .int .i64 (-1)), (4, .slice o n c)]).run Try.prog W = .ok (.agg #[.int .i64 4, .int .u64 0, .int .u64 0, .int .u64 0, .int .u64 0, .int .i64 2, .int .i64 (-1), .slice o n c]) W := run_build (P := Try.prog) W 48 _ _ (by kernel_rfl)
set_option maxHeartbeats 8000000 in
set_option maxRecDepth 100000 in
theorem one_walk {w : World} (a b : Tr) (va vb : Value) (ha : Is w (fun _ => True) a va) (hb : Is w (fun _ => True) b vb) (hsa : a.sane) (hsb : b.sane) :
    Calls Try.prog 6 #[.agg #[.int .i64 a.kind, .int .u64 a.set.a, .int .u64 a.set.b, .int .u64 a.set.c, .int .u64 a.set.d, .int .i64 a.min, .int .i64 a.max, va], .agg #[.int .i64 b.kind, .int .u64 b.set.a, .int .u64 b.set.b, .int .u64 b.set.c, .int .u64 b.set.d, .int .i64 b.min, .int .i64 b.max, vb]] w fun e w' => e = .returned (.bool true) ∧ Below w.heap.size w w' := by
  obtain ⟨oa, na, ka, rfl⟩ := ha.shape
  obtain ⟨ob, nb', kb, rfl⟩ := hb.shape
  obtain ⟨w0, hw0⟩ : ∃ w0, w0 = (w.alloc (.cells #[.int .i64 a.kind, .int .u64 a.set.a, .int .u64 a.set.b, .int .u64 a.set.c, .int .u64 a.set.d, .int .i64 a.min, .int .i64 a.max, .slice oa na ka] 48)).alloc (.cells #[.int .i64 b.kind, .int .u64 b.set.a, .int .u64 b.set.b, .int .u64 b.set.c, .int .u64 b.set.d, .int .i64 b.min, .int .i64 b.max, .slice ob nb' kb] 48) := ⟨_, rfl⟩
  have B0 : Below w.heap.size w w0 := by rw [hw0]; exact ((Below.refl _ _).alloc (Nat.le_refl _) _).alloc (by simp) _
  have bA0 : Box w0 w.heap.size a (.slice oa na ka) := by rw [hw0]; exact (Below.heap_alloc _ _ _ (by simp)).trans (st.box_new w a _)
  have bB0 : Box w0 (w.heap.size + 1) b (.slice ob nb' kb) := by rw [hw0]; have := heap_alloc_new (w.alloc (.cells #[.int .i64 a.kind, .int .u64 a.set.a, .int .u64 a.set.b, .int .u64 a.set.c, .int .u64 a.set.d, .int .i64 a.min, .int .i64 a.max, .slice oa na ka] 48)) (.cells #[.int .i64 b.kind, .int .u64 b.set.a, .int .u64 b.set.b, .int .u64 b.set.c, .int .u64 b.set.d, .int .i64 b.min, .int .i64 b.max, .slice ob nb' kb] 48); rw [World.size_alloc] at this; exact this
  have c18 := mi.alive_any w0
  have HA := (show Hid (Is w0 (fun _ => True) a (.slice oa na ka)) from ha.later B0)
  have HB := (show Hid (Is w0 (fun _ => True) b (.slice ob nb' kb)) from hb.later B0)
  have HSA := (show Hid (a.sane) from hsa)
  have HSB := (show Hid (b.sane) from hsb)
  have hz := zero26
  clear ha hb hsa hsb
  go_enter Try.func6, Try.ntmps6
  go_wp2_with (fail)
  rw [← hw0]
  clear hw0
  go_at_call 18
  refine c18.mono ?_
  rintro e w1 ⟨rfl, b1⟩
  have bA1 : Box w1 w.heap.size a (.slice oa na ka) := bA0.below b1
  have bB1 : Box w1 (w.heap.size + 1) b (.slice ob nb' kb) := bB0.below b1
  have kA := bA1.cells.1
  have kB := bB1.cells.1
  have HB01 := (show Hid (Below w.heap.size w w1) from df.chain B0 b1)
  have HA1 := (show Hid _ from HA.out.later b1)
  have HB1 := (show Hid _ from HB.out.later b1)
  clear c18 HA HB bA0 bB0
  by_cases h3 : a.kind = 3
  · have f1 : (a.kind == 3) = true := by rw [h3]; rfl
    clear h3
    go_wp2_with (fail)
    go_ret
    exact ⟨rfl, HB01.out⟩
  · have f1 : (a.kind == 3) = false := beq_eq_false_iff_ne.2 h3
    clear h3
    by_cases h4 : b.kind = 3
    · have f2 : (b.kind == 3) = true := by rw [h4]; rfl
      clear h4
      go_wp2_with (fail)
      go_ret
      exact ⟨rfl, HB01.out⟩
    · have f2 : (b.kind == 3) = false := beq_eq_false_iff_ne.2 h4
      clear h4
      have hiA := nb.info48
      have sl1 := slice1
      have sl2 := slice2
      have sl3 := slice3
      have tr0 := tree0
      have tr2 := tree2
      have hI1 : Is (w1.alloc (.cells #[.int .i64 a.kind, .int .u64 a.set.a, .int .u64 a.set.b, .int .u64 a.set.c, .int .u64 a.set.d, .int .i64 a.min, .int .i64 a.max, .slice oa na ka, .int .i64 b.kind, .int .u64 b.set.a, .int .u64 b.set.b, .int .u64 b.set.c, .int .u64 b.set.d, .int .i64 b.min, .int .i64 b.max, .slice ob nb' kb] 48)) (fun _ => True) (.node 3 q0 0 0 [a, b]) (.slice (some ⟨w1.heap.size, 0, none⟩) 2 2) := kids2 HA1.out HB1.out 3 q0 0 0
      have c19 := one_any 3 0 0 [a, b] _ (w1.alloc (.cells #[.int .i64 a.kind, .int .u64 a.set.a, .int .u64 a.set.b, .int .u64 a.set.c, .int .u64 a.set.d, .int .i64 a.min, .int .i64 a.max, .slice oa na ka, .int .i64 b.kind, .int .u64 b.set.a, .int .u64 b.set.b, .int .u64 b.set.c, .int .u64 b.set.d, .int .i64 b.min, .int .i64 b.max, .slice ob nb' kb] 48)) hI1 (sane1 (by omega) (by omega) (by omega) (fun t ht => by simp at ht; rcases ht with rfl | rfl; all_goals first | exact HSA.out | exact HSB.out))
      go_wp2_with (first | (refine wpList_load_row rfl 48 (.tmp 2) rfl w.heap.size rfl 48 _ (0, 0) _ bA1 Try.underlying48 rfl nb.info48 ?_) | (refine wpList_load_row rfl 48 (.tmp 3) rfl (w.heap.size + 1) rfl 48 _ (0, 0) _ bB1 Try.underlying48 rfl nb.info48 ?_))
      go_at_call 19
      refine c19.mono ?_
      rintro e v1 ⟨cs1, t1, rfl, hs1, ho1, bb1, hg1⟩
      obtain ⟨w2, HV1, bv1, xv1⟩ := put26 v1 cs1 hs1
      have bw1 : Below w1.heap.size w1 w2 := df.chain (mi.below_alloc w1 _) (df.chain bb1 bv1)
      have G1 := (show Hid (Got (.node 3 q0 0 0 [a, b]) t1 cs1 w2) from Got.later (w := v1) hg1 bv1)
      have bA2 := bA1.below bw1
      have bB2 := bB1.below bw1
      have HA2 := (show Hid _ from HA1.out.later bw1)
      have HB2 := (show Hid _ from HB1.out.later bw1)
      have HB02 := (show Hid (Below w.heap.size w w2) from df.chain HB01.out bw1)
      clear c19 hI1 hg1
      have hI2 : Is (w2.alloc (.cells #[.int .i64 b.kind, .int .u64 b.set.a, .int .u64 b.set.b, .int .u64 b.set.c, .int .u64 b.set.d, .int .i64 b.min, .int .i64 b.max, .slice ob nb' kb, .int .i64 a.kind, .int .u64 a.set.a, .int .u64 a.set.b, .int .u64 a.set.c, .int .u64 a.set.d, .int .i64 a.min, .int .i64 a.max, .slice oa na ka, .int .i64 b.kind, .int .u64 b.set.a, .int .u64 b.set.b, .int .u64 b.set.c, .int .u64 b.set.d, .int .i64 b.min, .int .i64 b.max, .slice ob nb' kb] 48)) (fun _ => True) (.node 3 q0 0 0 [b, a, b]) (.slice (some ⟨w2.heap.size, 0, none⟩) 3 3) := kids3 HB2.out HA2.out HB2.out 3 q0 0 0
      have c19 := one_any 3 0 0 [b, a, b] _ (w2.alloc (.cells #[.int .i64 b.kind, .int .u64 b.set.a, .int .u64 b.set.b, .int .u64 b.set.c, .int .u64 b.set.d, .int .i64 b.min, .int .i64 b.max, .slice ob nb' kb, .int .i64 a.kind, .int .u64 a.set.a, .int .u64 a.set.b, .int .u64 a.set.c, .int .u64 a.set.d, .int .i64 a.min, .int .i64 a.max, .slice oa na ka, .int .i64 b.kind, .int .u64 b.set.a, .int .u64 b.set.b, .int .u64 b.set.c, .int .u64 b.set.d, .int .i64 b.min, .int .i64 b.max, .slice ob nb' kb] 48)) hI2 (sane1 (by omega) (by omega) (by omega) (fun t ht => by simp at ht; rcases ht with rfl | rfl | rfl; all_goals first | exact HSA.out | exact HSB.out))
      go_wp2_with (first | (refine wpList_store_row (by rfl) 26 (.tmp 7) (.tmp 35) (by rfl) v1.heap.size cs1 (by rfl) (by rfl) 26 z26 (heap_alloc_new v1 _) (df.info26 _ hs1) (by rw [z26_size, hs1]) ho1 ?_; rw [← HV1.out]) | (refine wpList_load_row rfl 48 (.tmp 2) rfl w.heap.size rfl 48 _ (0, 0) _ bA2 Try.underlying48 rfl nb.info48 ?_) | (refine wpList_load_row rfl 48 (.tmp 3) rfl (w.heap.size + 1) rfl 48 _ (0, 0) _ bB2 Try.underlying48 rfl nb.info48 ?_))
      go_at_call 19
      refine c19.mono ?_
      rintro e v2 ⟨cs2, t2, rfl, hs2, ho2, bb2, hg2⟩
      obtain ⟨w3, HV2, bv2, xv2⟩ := put26 v2 cs2 hs2
      have bw2 : Below w2.heap.size w2 w3 := df.chain (mi.below_alloc w2 _) (df.chain bb2 bv2)
      have G2 := (show Hid (Got (.node 3 q0 0 0 [b, a, b]) t2 cs2 w3) from Got.later (w := v2) hg2 bv2)
      have G1_2 := (show Hid (Got (.node 3 q0 0 0 [a, b]) t1 cs1 w3) from Got.later G1.out bw2)
      have xv1_2 := xv1.later bw2
      have bA3 := bA2.below bw2
      have bB3 := bB2.below bw2
      have HA3 := (show Hid _ from HA2.out.later bw2)
      have HB3 := (show Hid _ from HB2.out.later bw2)
      have HB03 := (show Hid (Below w.heap.size w w3) from df.chain HB02.out bw2)
      clear c19 hI2 hg2
      have hI3 : Is (w3.alloc (.cells #[.int .i64 a.kind, .int .u64 a.set.a, .int .u64 a.set.b, .int .u64 a.set.c, .int .u64 a.set.d, .int .i64 a.min, .int .i64 a.max, .slice oa na ka] 48)) (fun _ => True) (.node 4 q0 0 (-1) [a]) (.slice (some ⟨w3.heap.size, 0, none⟩) 1 1) := kids1 HA3.out 4 q0 0 (-1)
      have c19 := one_any 4 0 (-1) [a] _ (w3.alloc (.cells #[.int .i64 a.kind, .int .u64 a.set.a, .int .u64 a.set.b, .int .u64 a.set.c, .int .u64 a.set.d, .int .i64 a.min, .int .i64 a.max, .slice oa na ka] 48)) hI3 (sane1 (by omega) (by omega) (by omega) (fun t ht => by simp at ht; rcases ht with rfl; all_goals first | exact HSA.out | exact HSB.out))
      go_wp2_with (first | (refine wpList_store_row (by rfl) 26 (.tmp 9) (.tmp 44) (by rfl) v2.heap.size cs2 (by rfl) (by rfl) 26 z26 (heap_alloc_new v2 _) (df.info26 _ hs2) (by rw [z26_size, hs2]) ho2 ?_; rw [← HV2.out]) | (refine wpList_load_row rfl 48 (.tmp 2) rfl w.heap.size rfl 48 _ (0, 0) _ bA3 Try.underlying48 rfl nb.info48 ?_) | (refine wpList_load_row rfl 48 (.tmp 3) rfl (w.heap.size + 1) rfl 48 _ (0, 0) _ bB3 Try.underlying48 rfl nb.info48 ?_))
      go_at_call 19
      refine c19.mono ?_
      rintro e v3 ⟨cs3, t3, rfl, hs3, ho3, bb3, hg3⟩
      obtain ⟨w4, HV3, bv3, xv3⟩ := put26 v3 cs3 hs3
      have bw3 : Below w3.heap.size w3 w4 := df.chain (mi.below_alloc w3 _) (df.chain bb3 bv3)
      have G3 := (show Hid (Got (.node 4 q0 0 (-1) [a]) t3 cs3 w4) from Got.later (w := v3) hg3 bv3)
      have G1_3 := (show Hid (Got (.node 3 q0 0 0 [a, b]) t1 cs1 w4) from Got.later G1_2.out bw3)
      have G2_3 := (show Hid (Got (.node 3 q0 0 0 [b, a, b]) t2 cs2 w4) from Got.later G2.out bw3)
      have xv1_3 := xv1_2.later bw3
      have xv2_3 := xv2.later bw3
      have bA4 := bA3.below bw3
      have bB4 := bB3.below bw3
      have HA4 := (show Hid _ from HA3.out.later bw3)
      have HB4 := (show Hid _ from HB3.out.later bw3)
      have HB04 := (show Hid (Below w.heap.size w w4) from df.chain HB03.out bw3)
      clear c19 hI3 hg3
      have hI4 : Is ((w4.alloc (.cells #[.int .i64 a.kind, .int .u64 a.set.a, .int .u64 a.set.b, .int .u64 a.set.c, .int .u64 a.set.d, .int .i64 a.min, .int .i64 a.max, .slice oa na ka] 48)).alloc (.cells #[.int .i64 4, .int .u64 0, .int .u64 0, .int .u64 0, .int .u64 0, .int .i64 0, .int .i64 (-1), .slice (some ⟨w4.heap.size, 0, none⟩) 1 1] 48)) (fun _ => True) (.node 4 q0 0 (-1) [.node 4 q0 0 (-1) [a]]) (.slice (some ⟨w4.heap.size + 1, 0, none⟩) 1 1) := (by have h := kids1 (kids1 HA4.out 4 q0 0 (-1)) 4 q0 0 (-1); rw [World.size_alloc] at h; exact h)
      have c19 := one_any 4 0 (-1) [.node 4 q0 0 (-1) [a]] _ ((w4.alloc (.cells #[.int .i64 a.kind, .int .u64 a.set.a, .int .u64 a.set.b, .int .u64 a.set.c, .int .u64 a.set.d, .int .i64 a.min, .int .i64 a.max, .slice oa na ka] 48)).alloc (.cells #[.int .i64 4, .int .u64 0, .int .u64 0, .int .u64 0, .int .u64 0, .int .i64 0, .int .i64 (-1), .slice (some ⟨w4.heap.size, 0, none⟩) 1 1] 48)) hI4 (sane1 (by omega) (by omega) (by omega) (fun t ht => by simp at ht; subst ht; exact sane1 (by omega) (by omega) (by omega) (fun t ht => by simp at ht; subst ht; exact HSA.out)))
      go_wp2_with (first | (refine wpList_store_row (by rfl) 26 (.tmp 11) (.tmp 51) (by rfl) v3.heap.size cs3 (by rfl) (by rfl) 26 z26 (heap_alloc_new v3 _) (df.info26 _ hs3) (by rw [z26_size, hs3]) ho3 ?_; rw [← HV3.out]) | (refine wpList_load_row rfl 48 (.tmp 2) rfl w.heap.size rfl 48 _ (0, 0) _ bA4 Try.underlying48 rfl nb.info48 ?_) | (refine wpList_load_row rfl 48 (.tmp 3) rfl (w.heap.size + 1) rfl 48 _ (0, 0) _ bB4 Try.underlying48 rfl nb.info48 ?_))
      go_at_call 19
      refine c19.mono ?_
      rintro e v4 ⟨cs4, t4, rfl, hs4, ho4, bb4, hg4⟩
      obtain ⟨w5, HV4, bv4, xv4⟩ := put26 v4 cs4 hs4
      have bw4 : Below w4.heap.size w4 w5 := df.chain (df.chain (mi.below_alloc w4 _) (mi.below_alloc _ _)) (df.chain bb4 bv4)
      have G4 := (show Hid (Got (.node 4 q0 0 (-1) [.node 4 q0 0 (-1) [a]]) t4 cs4 w5) from Got.later (w := v4) hg4 bv4)
      have G1_4 := (show Hid (Got (.node 3 q0 0 0 [a, b]) t1 cs1 w5) from Got.later G1_3.out bw4)
      have G2_4 := (show Hid (Got (.node 3 q0 0 0 [b, a, b]) t2 cs2 w5) from Got.later G2_3.out bw4)
      have G3_4 := (show Hid (Got (.node 4 q0 0 (-1) [a]) t3 cs3 w5) from Got.later G3.out bw4)
      have xv1_4 := xv1_3.later bw4
      have xv2_4 := xv2_3.later bw4
      have xv3_4 := xv3.later bw4
      have bA5 := bA4.below bw4
      have bB5 := bB4.below bw4
      have HA5 := (show Hid _ from HA4.out.later bw4)
      have HB5 := (show Hid _ from HB4.out.later bw4)
      have HB05 := (show Hid (Below w.heap.size w w5) from df.chain HB04.out bw4)
      clear c19 hI4 hg4
      have hI5 : Is (w5.alloc (.cells #[.int .i64 a.kind, .int .u64 a.set.a, .int .u64 a.set.b, .int .u64 a.set.c, .int .u64 a.set.d, .int .i64 a.min, .int .i64 a.max, .slice oa na ka] 48)) (fun _ => True) (.node 4 q0 1 (-1) [a]) (.slice (some ⟨w5.heap.size, 0, none⟩) 1 1) := kids1 HA5.out 4 q0 1 (-1)
      have c19 := one_any 4 1 (-1) [a] _ (w5.alloc (.cells #[.int .i64 a.kind, .int .u64 a.set.a, .int .u64 a.set.b, .int .u64 a.set.c, .int .u64 a.set.d, .int .i64 a.min, .int .i64 a.max, .slice oa na ka] 48)) hI5 (sane1 (by omega) (by omega) (by omega) (fun t ht => by simp at ht; rcases ht with rfl; all_goals first | exact HSA.out | exact HSB.out))
      go_wp2_with (first | (refine wpList_store_row (by rfl) 26 (.tmp 13) (.tmp 60) (by rfl) v4.heap.size cs4 (by rfl) (by rfl) 26 z26 (heap_alloc_new v4 _) (df.info26 _ hs4) (by rw [z26_size, hs4]) ho4 ?_; rw [← HV4.out]) | (refine wpList_load_row rfl 48 (.tmp 2) rfl w.heap.size rfl 48 _ (0, 0) _ bA5 Try.underlying48 rfl nb.info48 ?_) | (refine wpList_load_row rfl 48 (.tmp 3) rfl (w.heap.size + 1) rfl 48 _ (0, 0) _ bB5 Try.underlying48 rfl nb.info48 ?_))
      go_at_call 19
      refine c19.mono ?_
      rintro e v5 ⟨cs5, t5, rfl, hs5, ho5, bb5, hg5⟩
      obtain ⟨w6, HV5, bv5, xv5⟩ := put26 v5 cs5 hs5
      have bw5 : Below w5.heap.size w5 w6 := df.chain (mi.below_alloc w5 _) (df.chain bb5 bv5)
      have G5 := (show Hid (Got (.node 4 q0 1 (-1) [a]) t5 cs5 w6) from Got.later (w := v5) hg5 bv5)
      have G1_5 := (show Hid (Got (.node 3 q0 0 0 [a, b]) t1 cs1 w6) from Got.later G1_4.out bw5)
      have G2_5 := (show Hid (Got (.node 3 q0 0 0 [b, a, b]) t2 cs2 w6) from Got.later G2_4.out bw5)
      have G3_5 := (show Hid (Got (.node 4 q0 0 (-1) [a]) t3 cs3 w6) from Got.later G3_4.out bw5)
      have G4_5 := (show Hid (Got (.node 4 q0 0 (-1) [.node 4 q0 0 (-1) [a]]) t4 cs4 w6) from Got.later G4.out bw5)
      have xv1_5 := xv1_4.later bw5
      have xv2_5 := xv2_4.later bw5
      have xv3_5 := xv3_4.later bw5
      have xv4_5 := xv4.later bw5
      have bA6 := bA5.below bw5
      have bB6 := bB5.below bw5
      have HA6 := (show Hid _ from HA5.out.later bw5)
      have HB6 := (show Hid _ from HB5.out.later bw5)
      have HB06 := (show Hid (Below w.heap.size w w6) from df.chain HB05.out bw5)
      clear c19 hI5 hg5
      have hI6 : Is ((w6.alloc (.cells #[.int .i64 a.kind, .int .u64 a.set.a, .int .u64 a.set.b, .int .u64 a.set.c, .int .u64 a.set.d, .int .i64 a.min, .int .i64 a.max, .slice oa na ka] 48)).alloc (.cells #[.int .i64 4, .int .u64 0, .int .u64 0, .int .u64 0, .int .u64 0, .int .i64 2, .int .i64 (-1), .slice (some ⟨w6.heap.size, 0, none⟩) 1 1, .int .i64 a.kind, .int .u64 a.set.a, .int .u64 a.set.b, .int .u64 a.set.c, .int .u64 a.set.d, .int .i64 a.min, .int .i64 a.max, .slice oa na ka] 48)) (fun _ => True) (.node 3 q0 0 0 [.node 4 q0 2 (-1) [a], a]) (.slice (some ⟨w6.heap.size + 1, 0, none⟩) 2 2) := (by have h := kids2 (kids1 HA6.out 4 q0 2 (-1)) (HA6.out.later (mi.below_alloc w6 _)) 3 q0 0 0; rw [World.size_alloc] at h; exact h)
      have c19 := one_any 3 0 0 [.node 4 q0 2 (-1) [a], a] _ ((w6.alloc (.cells #[.int .i64 a.kind, .int .u64 a.set.a, .int .u64 a.set.b, .int .u64 a.set.c, .int .u64 a.set.d, .int .i64 a.min, .int .i64 a.max, .slice oa na ka] 48)).alloc (.cells #[.int .i64 4, .int .u64 0, .int .u64 0, .int .u64 0, .int .u64 0, .int .i64 2, .int .i64 (-1), .slice (some ⟨w6.heap.size, 0, none⟩) 1 1, .int .i64 a.kind, .int .u64 a.set.a, .int .u64 a.set.b, .int .u64 a.set.c, .int .u64 a.set.d, .int .i64 a.min, .int .i64 a.max, .slice oa na ka] 48)) hI6 (sane1 (by omega) (by omega) (by omega) (fun t ht => by simp at ht; rcases ht with rfl | rfl; exact sane1 (by omega) (by omega) (by omega) (fun t ht => by simp at ht; subst ht; exact HSA.out); exact HSA.out))
      have bA6x : Box (w6.alloc (.cells #[.int .i64 a.kind, .int .u64 a.set.a, .int .u64 a.set.b, .int .u64 a.set.c, .int .u64 a.set.d, .int .i64 a.min, .int .i64 a.max, .slice oa na ka] 48)) w.heap.size a (.slice oa na ka) := bA6.below (mi.below_alloc w6 _)
      go_wp2_with (first | (refine wpList_store_row (by rfl) 26 (.tmp 15) (.tmp 67) (by rfl) v5.heap.size cs5 (by rfl) (by rfl) 26 z26 (heap_alloc_new v5 _) (df.info26 _ hs5) (by rw [z26_size, hs5]) ho5 ?_; rw [← HV5.out]) | (refine wpList_load_row rfl 48 (.tmp 2) rfl w.heap.size rfl 48 _ (0, 0) _ bA6 Try.underlying48 rfl nb.info48 ?_) | (refine wpList_load_row rfl 48 (.tmp 3) rfl (w.heap.size + 1) rfl 48 _ (0, 0) _ bB6 Try.underlying48 rfl nb.info48 ?_) | (refine wpList_load_row rfl 48 (.tmp 2) rfl w.heap.size rfl 48 _ (0, 0) _ bA6x Try.underlying48 rfl nb.info48 ?_))
      go_at_call 19
      refine c19.mono ?_
      rintro e v6 ⟨cs6, t6, rfl, hs6, ho6, bb6, hg6⟩
      obtain ⟨w7, HV6, bv6, xv6⟩ := put26 v6 cs6 hs6
      have bw6 : Below w6.heap.size w6 w7 := df.chain (df.chain (mi.below_alloc w6 _) (mi.below_alloc _ _)) (df.chain bb6 bv6)
      have G6 := (show Hid (Got (.node 3 q0 0 0 [.node 4 q0 2 (-1) [a], a]) t6 cs6 w7) from Got.later (w := v6) hg6 bv6)
      have G1_6 := (show Hid (Got (.node 3 q0 0 0 [a, b]) t1 cs1 w7) from Got.later G1_5.out bw6)
      have G2_6 := (show Hid (Got (.node 3 q0 0 0 [b, a, b]) t2 cs2 w7) from Got.later G2_5.out bw6)
      have G3_6 := (show Hid (Got (.node 4 q0 0 (-1) [a]) t3 cs3 w7) from Got.later G3_5.out bw6)
      have G4_6 := (show Hid (Got (.node 4 q0 0 (-1) [.node 4 q0 0 (-1) [a]]) t4 cs4 w7) from Got.later G4_5.out bw6)
      have G5_6 := (show Hid (Got (.node 4 q0 1 (-1) [a]) t5 cs5 w7) from Got.later G5.out bw6)
      have xv1_6 := xv1_5.later bw6
      have xv2_6 := xv2_5.later bw6
      have xv3_6 := xv3_5.later bw6
      have xv4_6 := xv4_5.later bw6
      have xv5_6 := xv5.later bw6
      have bA7 := bA6.below bw6
      have bB7 := bB6.below bw6
      have HA7 := (show Hid _ from HA6.out.later bw6)
      have HB7 := (show Hid _ from HB6.out.later bw6)
      have HB07 := (show Hid (Below w.heap.size w w7) from df.chain HB06.out bw6)
      clear c19 hI6 hg6
      have P1 := (show Hid (Both w7 t1 t2 cs1 cs2) from Got.both G1_6.out G2_6.out (fun x i j => alt_tk x a b i j))
      have P2 := (show Hid (Both w7 t3 t4 cs3 cs4) from Got.both G3_6.out G4_6.out (fun x i j => rep_rep x a i j))
      have P3 := (show Hid (Both w7 t5 t6 cs5 cs6) from Got.both G5_6.out G6.out (fun x i j => rep_more x a i j))
      have c22 := same_any t1 t2 cs1 cs2 hs1 hs2 w7 P1.out
      clear sl1 sl2 sl3 tr0 tr2
      go_wp2_with (first | (refine wpList_store_row (by rfl) 26 (.tmp 17) (.tmp 77) (by rfl) v6.heap.size cs6 (by rfl) (by rfl) 26 z26 (heap_alloc_new v6 _) (df.info26 _ hs6) (by rw [z26_size, hs6]) ho6 ?_; rw [← HV6.out]) | (refine wpList_load_row rfl 26 (.tmp 7) rfl v1.heap.size rfl 26 cs1 (0, 0) _ xv1_6 Try.underlying26 rfl (df.info26 _ hs1) ?_) | (refine wpList_load_row rfl 26 (.tmp 9) rfl v2.heap.size rfl 26 cs2 (0, 0) _ xv2_6 Try.underlying26 rfl (df.info26 _ hs2) ?_))
      go_at_call 22
      refine c22.mono ?_
      rintro e w8 ⟨rfl, b8⟩
      have c22b := same_any t3 t4 cs3 cs4 hs3 hs4 w8 (Both.later P2.out b8)
      have y3 := xv3_6.later b8
      have y4 := xv4_6.later b8
      have y5 := xv5_6.later b8
      have y6 := xv6.later b8
      clear c22
      go_wp2_with (first | (refine load_if (by kernel_rfl) 26 (.tmp 11) rfl v3.heap.size rfl 26 cs3 (0, 0) _ y3 Try.underlying26 rfl (df.info26 _ hs3) ?_) | (refine load_if (by kernel_rfl) 26 (.tmp 13) rfl v4.heap.size rfl 26 cs4 (0, 0) _ y4 Try.underlying26 rfl (df.info26 _ hs4) ?_))
      go_at_call 22
      refine c22b.mono ?_
      rintro e w9 ⟨rfl, b9⟩
      have c22c := same_any t5 t6 cs5 cs6 hs5 hs6 w9 (Both.later (Both.later P3.out b8) b9)
      have z5 := y5.later b9
      have z6 := y6.later b9
      clear c22b
      go_wp2_with (first | (refine load_if (by kernel_rfl) 26 (.tmp 15) rfl v5.heap.size rfl 26 cs5 (0, 0) _ z5 Try.underlying26 rfl (df.info26 _ hs5) ?_) | (refine load_if (by kernel_rfl) 26 (.tmp 17) rfl v6.heap.size rfl 26 cs6 (0, 0) _ z6 Try.underlying26 rfl (df.info26 _ hs6) ?_))
      go_at_call 22
      refine c22c.mono ?_
      rintro e w10 ⟨rfl, b10⟩
      go_wp2_with (fail)
      go_ret
      exact ⟨rfl, df.chain (df.chain (df.chain HB07.out b8) b9) b10⟩
end Go.Proofs.Ytkdkibnjfgcppaa.mo
