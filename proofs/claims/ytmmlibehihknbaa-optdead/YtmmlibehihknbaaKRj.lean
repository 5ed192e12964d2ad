/-
  Contracts over this program: ir.Eval at three stages.
-/
import Derived.Test.YtmmlibehihknbaaM21
namespace Go.Proofs.Ytmmlibehihknbaa.ir
open Go.ChangeShapes Go.WideShapes Go.ChangeAt Go.RowKit
open mg (Row In iv IntsV chain below_alloc Mg Mgs app idsOf)
set_option linter.unusedVariables false
set_option maxRecDepth 100000

theorem meths68 (v : Value) (W : World) : Sem.run Try.prog (method 288 76 v "fretsaw/ir.do") W = .ok (67, v) W := by kernel_rfl
theorem meths70 (v : Value) (W : World) : Sem.run Try.prog (method 288 78 v "fretsaw/ir.do") W = .ok (83, v) W := by kernel_rfl
theorem meths72 (v : Value) (W : World) : Sem.run Try.prog (method 288 80 v "fretsaw/ir.do") W = .ok (124, v) W := by kernel_rfl
theorem call53 (a : Array Value) (W : World) : Sem.run Try.prog (callFunc 67 a) W = .ok (.enter 67 a) W := by kernel_rfl
theorem call69 (a : Array Value) (W : World) : Sem.run Try.prog (callFunc 83 a) W = .ok (.enter 83 a) W := by kernel_rfl
theorem call110 (a : Array Value) (W : World) : Sem.run Try.prog (callFunc 124 a) W = .ok (.enter 124 a) W := by kernel_rfl
/-- what the stages behind the machines tell -/
def pieces (g0 : Sg) (s : ByteArray) : List ByteArray := pc.textsL g0.d (tT g0.mp s)
def toks (g0 g1 : Sg) (s : ByteArray) : List Int := toksL (hp.keptL g1.ms g1.dr) (pieces g0 s)
def evalL (g0 g1 g2 : Sg) (s : ByteArray) : List Int := g2.bf ++ toks g0 g1 s ++ g2.af
theorem sizes_le (n : Nat) : ∀ l : List ByteArray, (∀ t ∈ l, t.size ≤ n) → sizes l ≤ n * l.length
  | [], _ => by simp [sizes]
  | t :: l, h => by
    have h1 := sizes_le n l fun u hu => h u (by simp [hu])
    have h2 := h t (by simp)
    have e2 : sizes (t :: l) = t.size + sizes l := by simp [sizes]
    rw [e2, List.length_cons, Nat.mul_succ]
    omega
/-- between the stages -/
structure St (w1 : World) (fb : Nat) (s : ByteArray) (g0 g1 g2 : Sg) (i : Nat) (wr : World) (vp vi : Value) : Prop where
  box : FBox wr fb s vp vi
  be : Below w1.heap.size w1 wr
  z0 : i = 0 → vp = .slice none 0 0 ∧ vi = .slice none 0 0
  z1 : i = 1 → wr.ownsRow w1.heap.size 9 1 vp (pieces g0 s).length ((pieces g0 s).map Value.string) ∧ vi = .slice none 0 0
  z2 : i = 2 → Ids wr w1.heap.size vi (toks g0 g1 s)
  z3 : i = 3 → Ids wr w1.heap.size vi (evalL g0 g1 g2 s)
def DoIs (f : FuncId) (g : Sg) (p : Sp) (T : TypeId) (v : Value) (w1 : World) (fb : Nat) (s : ByteArray) (g0 g1 g2 : Sg) (i : Nat) (w : World) : Prop :=
  ∀ W, Below w.heap.size w W → Calls Try.prog 17 #[.agg (svL g p).toArray] W (fun e w' => e = .returned (.iface T v) ∧ Below W.heap.size W w') ∧ Calls Try.prog f #[v, .pointer (some ⟨fb, 0, none⟩)] W (fun e w' => e = .returned (.int .i64 0) ∧ ∃ vp vi, St w1 fb s g0 g1 g2 (i + 1) w' vp vi)
theorem st_later {w1 : World} {fb : Nat} {s : ByteArray} {g0 g1 g2 : Sg} {i : Nat} {w W : World} {vp vi : Value} (h : St w1 fb s g0 g1 g2 i w vp vi) (b : Below w.heap.size w W) : St w1 fb s g0 g1 g2 i W vp vi :=
  ⟨h.box.later b, h.be.trans (b.mono h.be.size), h.z0, fun e => ⟨ow.later (h.z1 e).1 b, (h.z1 e).2⟩, fun e => ow.later (h.z2 e) b, fun e => ow.later (h.z3 e) b⟩
theorem ch_below {w1 w w' : World} {fb : Nat} (h : Below w1.heap.size w1 w) (c : Ch fb w w') (hf : w1.heap.size ≤ fb) : Below w1.heap.size w1 w' := h.trans (c.base h.size hf)
theorem few (g0 : Sg) (s : ByteArray) (hs : s.size ≤ 300) : sizes (pieces g0 s) ≤ 90000 := by
  have h1 : (pieces g0 s).length ≤ 300 := by
    unfold pieces pc.textsL
    rw [List.length_map]
    have := pc.all_len g0.d (tT g0.mp s) s.size 0 (by rw [tT_size]; omega)
    omega
  refine Nat.le_trans (sizes_le 300 _ fun t ht => ?_) (Nat.le_trans (Nat.mul_le_mul_left 300 h1) (by decide))
  unfold pieces pc.textsL at ht
  obtain ⟨q, _, rfl⟩ := List.mem_map.1 ht
  have := tT_size g0.mp s
  simp
  omega
theorem do_at {w w1 : World} {b off : Nat} {g0 g1 g2 : Sg} {p0 p1 p2 : Sp} (h : Sgs w b off g0 g1 g2 p0 p1 p2) (hr : rightS g0 g1 g2 = true) (s : ByteArray) (hs : s.size ≤ 300) (fb : Nat) (hfb : w1.heap.size ≤ fb) (i : Nat) (hi : i < 3) (vp vi : Value) (st : St w1 fb s g0 g1 g2 i w vp vi) : ∃ g p T f v, SgAt w g p ∧ w.rangeAt b (off + i * 523) (svL g p) ∧ DoIs f g p T v w1 fb s g0 g1 g2 i w ∧ (∀ W, Sem.run Try.prog (method 288 T v "fretsaw/ir.do") W = .ok (f, v) W) ∧ (∀ a W, Sem.run Try.prog (callFunc f a) W = .ok (.enter f a) W) := by
  unfold rightS at hr
  rw [Bool.and_eq_true] at hr
  obtain ⟨ho, hm⟩ := hr
  obtain ⟨k0, k1, k2⟩ := ordered_kinds ho
  unfold mays at hm
  rw [Bool.and_eq_true, Bool.and_eq_true, Bool.and_eq_true] at hm
  obtain ⟨⟨m0, m1⟩, m2, m3⟩ := hm
  match i, hi, st with
  | 0, _, st =>
    obtain ⟨rfl, rfl⟩ := st.z0 rfl
    refine ⟨g0, p0, 76, 67, _, h.s0, by simpa using h.r0, fun W k => ⟨step2 g0 p0 k0 W (h.s0.later k), ?_⟩, fun W => meths68 _ W, fun a W => call53 a W⟩
    have st2 := st_later st k
    refine (do2 g0 p0 W (h.s0.later k) m0 s (by omega) fb _ _ st2.box).mono ?_
    rintro e w' ⟨rfl, v, hf, hv, hc⟩
    exact ⟨rfl, v, _, hf, ch_below st2.be hc hfb, fun e => by simp at e, fun _ => ⟨pc.base_down hv st2.be.size, rfl⟩, fun e => by simp at e, fun e => by simp at e⟩
  | 1, _, st =>
    obtain ⟨z1, rfl⟩ := st.z1 rfl
    refine ⟨g1, p1, 78, 83, _, h.s1, by simpa using h.r1, fun W k => ⟨step3 g1 p1 k1 W (h.s1.later k), ?_⟩, fun W => meths70 _ W, fun a W => call69 a W⟩
    have st2 := st_later st k
    refine (do3 g1 p1 W (h.s1.later k) (of_decide_eq_true m1) s (pieces g0 s) (Nat.le_trans (few g0 s hs) (by decide)) fb _ _ (st2.z1 rfl).1 st2.box).mono ?_
    rintro e w' ⟨rfl, v, hf, hv, hc⟩
    exact ⟨rfl, _, v, hf, ch_below st2.be hc hfb, fun e => by simp at e, fun e => by simp at e, fun _ => pc.base_down hv st2.be.size, fun e => by simp at e⟩
  | 2, _, st =>
    refine ⟨g2, p2, 80, 124, _, h.s2, by simpa using h.r2, fun W k => ⟨step4 g2 p2 k2 W (h.s2.later k), ?_⟩, fun W => meths72 _ W, fun a W => call110 a W⟩
    have st2 := st_later st k
    have hl : (toks g0 g1 s).length ≤ 300000 := Nat.le_trans (toks_len _ _) (Nat.le_trans (few g0 s hs) (by decide))
    have a1 : g2.bf.length ≤ 32 := by unfold areIds at m2; simp at m2; exact m2.1
    have a2 : g2.af.length ≤ 32 := by unfold areIds at m3; simp at m3; exact m3.1
    refine (do4 g2 p2 W (h.s2.later k) a1 a2 s (toks g0 g1 s) hl fb _ _ (ids_ints (st2.z2 rfl)) st2.box).mono ?_
    rintro e w' ⟨rfl, v, hf, hv, hc⟩
    exact ⟨rfl, _, v, hf, ch_below st2.be hc hfb, fun e => by simp at e, fun e => by simp at e, fun e => by simp at e, fun _ => pc.base_down hv st2.be.size⟩
set_option maxHeartbeats 4000000 in
theorem eval_no (b off cap : Nat) (hc1 : 3 ≤ cap) (hc2 : cap ≤ 9223372036854775807) (g0 g1 g2 : Sg) (p0 p1 p2 : Sp) (w : World) (h : Sgs w b off g0 g1 g2 p0 p1 p2) (hr : rightS g0 g1 g2 = false) (s : ByteArray) : Calls Try.prog 9 #[.slice (some ⟨b, off, none⟩) 3 cap, .string s] w fun e w' => e = .returned (.tuple #[.slice none 0 0, .int .i64 190]) ∧ Below w.heap.size w w' := by
  have c5 := right_any b off cap hc1 hc2 g0 g1 g2 p0 p1 p2 w h
  rw [hr] at c5
  clear h hr
  go_enter Try.func9, Try.ntmps9
  go_wp2_with (fail)
  go_at_call 6
  refine c5.mono ?_
  rintro e w1 ⟨rfl, b1⟩
  clear c5
  go_wp2_with (fail)
  go_ret2
  exact ⟨rfl, b1⟩
set_option maxHeartbeats 4000000 in
theorem eval_yes (b off cap : Nat) (hc1 : 3 ≤ cap) (hc2 : cap ≤ 9223372036854775807) (g0 g1 g2 : Sg) (p0 p1 p2 : Sp) (w : World) (h : Sgs w b off g0 g1 g2 p0 p1 p2) (hr : rightS g0 g1 g2 = true) (s : ByteArray) (hs : s.size ≤ 300) : Calls Try.prog 9 #[.slice (some ⟨b, off, none⟩) 3 cap, .string s] w fun e w' => ∃ v, e = .returned (.tuple #[v, .int .i64 0]) ∧ Ids w' w.heap.size v (evalL g0 g1 g2 s) ∧ Below w.heap.size w w' := by
  have c5 := right_any b off cap hc1 hc2 g0 g1 g2 p0 p1 p2 w h
  have HS := (show Hid (∀ W, Below w.heap.size w W → Sgs W b off g0 g1 g2 p0 p1 p2) from fun W k => h.later k)
  have HR := (show Hid (rightS g0 g1 g2 = true) from hr)
  rw [hr] at c5
  obtain ⟨Z, hZ⟩ : ∃ Z, Z = z39.toArray := ⟨_, rfl⟩
  have hzero : ∀ w, (zeroValue 39).run Try.prog w = .ok (.agg Z) w := by rw [hZ]; exact zero39
  have hzs : Z.size = 523 := by rw [hZ, List.size_toArray]; exact z39_len
  clear h hr hZ
  go_enter Try.func9, Try.ntmps9
  go_wp2_with (fail)
  go_at_call 6
  refine c5.mono ?_
  rintro e w1 ⟨rfl, b1⟩
  have HB1 := (show Hid (Below w.heap.size w w1) from b1)
  have bF := below_alloc w1 (.cells #[.string s, .slice none 0 0, .slice none 0 0] 58)
  have HST := (show Hid (St w1 w1.heap.size s g0 g1 g2 0 (w1.alloc (.cells #[.string s, .slice none 0 0, .slice none 0 0] 58)) (.slice none 0 0) (.slice none 0 0)) from
    ⟨World.alloc_heap_new w1 _, bF, fun _ => ⟨rfl, rfl⟩, fun e => by simp at e, fun e => by simp at e, fun e => by simp at e⟩)
  clear c5 b1 bF
  go_wp2_with (fail)
  generalize w1.alloc (.cells #[.string s, .slice none 0 0, .slice none 0 0] 58) = w2 at *
  go_loopw [20] (fun y wr => ∃ (i : Nat) (vp vi : Value), y = .int .i64 (i : Int) ∧ i ≤ 3 ∧ Hid (St w1 w1.heap.size s g0 g1 g2 i wr vp vi)) (fun y _ => 3 - (intOf y).toNat)
  case atStart => exact ⟨0, _, _, rfl, by omega, HST⟩
  case round =>
    clear HST
    obtain ⟨i, vp, vi, rfl, hi, HT⟩ := hrel
    have hBw : Below w.heap.size w wr := chain HB1.out HT.out.be
    have HBw := (show Hid (Below w.heap.size w wr) from hBw)
    by_cases hend : i < 3
    · obtain ⟨g, p, T, f, v, hs', hrg, hm, hme, hcf⟩ := do_at (HS.out wr hBw) HR.out s hs w1.heap.size (Nat.le_refl _) i hend vp vi HT.out
      obtain ⟨W3, hW3, hbx, b3⟩ := stage_new wr Z hs'
      have hl1 := info39c hs'
      have hl2 := info39a hs'
      have hone := hs'.all
      have hold : Z.size = (svL g p).toArray.size := by rw [hzs, List.size_toArray, hs'.len]
      have HX := (show Hid (DoIs f g p T v w1 w1.heap.size s g0 g1 g2 i wr) from hm)
      have c13 := (hm W3 b3).1
      have HB3 := (show Hid (Below wr.heap.size wr W3) from b3)
      unfold SBox at hbx
      have hnew := World.alloc_heap_new wr (.cells Z 39)
      generalize hCL : svL g p = CL at *
      clear hs' hm b3 hCL hBw HT
      go_wp2_with (first | (refine wpList_load_mid rfl 39 (.tmp 22) rfl b (off + i * 523) rfl CL _ hrg Try.underlying39 rfl hl1 ?_) | (refine wpList_store_row rfl 39 (.tmp 8) (.tmp 23) rfl wr.heap.size CL.toArray rfl rfl 39 Z hnew hl2 hold hone ?_; rw [hW3]) | (refine wpList_load_row rfl 39 (.tmp 8) rfl wr.heap.size rfl 39 CL.toArray (0, 0) _ hbx Try.underlying39 rfl hl2 ?_))
      go_at_call 17
      refine c13.mono ?_
      rintro e w4 ⟨rfl, b4⟩
      have c := (HX.out w4 (chain HB3.out b4)).2
      clear c13 hrg hbx hl1 hl2 hone hold hW3 b4 hnew
      go_wp2_with (fail)
      refine c.mono ?_
      rintro e w5 ⟨rfl, vp5, vi5, st5⟩
      have HT5 := (show Hid (St w1 w1.heap.size s g0 g1 g2 (i + 1) w5 vp5 vi5) from st5)
      clear c hme hcf st5
      go_wp2_with (fail)
      go_roundw
      case rel => exact ⟨i + 1, vp5, vi5, by go_num, by omega, HT5⟩
      case measure => simp [intOf]; omega
    · obtain rfl : i = 3 := by omega
      have q2 := HT.out.box.cells.2.2
      have hz3 := HT.out.z3 rfl
      obtain ⟨vo, vc, rfl, _, _⟩ := ow.form hz3
      have HZ := (show Hid (Ids wr w.heap.size (.slice vo (evalL g0 g1 g2 s).length vc) (evalL g0 g1 g2 s)) from pc.base_down hz3 HB1.out.size)
      clear hz3 hBw
      go_wp2_with (fail)
      go_ret2
      exact ⟨_, rfl, HZ.out, HBw.out⟩
end Go.Proofs.Ytmmlibehihknbaa.ir
