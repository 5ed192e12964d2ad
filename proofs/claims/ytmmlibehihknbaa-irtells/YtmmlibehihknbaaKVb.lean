/-
  Contracts over this program: ir.Eval at any number of stages.
-/
import Derived.Test.YtmmlibehihknbaaKVa
import Derived.Test.YtmmlibehihknbaaKUa
namespace Go.Proofs.Ytmmlibehihknbaa.ir
open Go.ChangeShapes Go.WideShapes Go.ChangeAt Go.RowKit
open mg (Row In iv IntsV chain below_alloc Mg Mgs app idsOf)
open tr (Mc Mp mv MAt)
set_option linter.unusedVariables false
set_option maxRecDepth 100000

theorem kinds_good {l : List Sm} (h : rightL l = true) : ∃ k x0 x1 x2, k ≤ 4 ∧ Kinds l k x0 x1 x2 := by
  have h0 := h
  unfold rightL at h0
  rw [Bool.and_eq_true] at h0
  have ho := h0.1
  unfold orderedL at ho
  simp only [Bool.and_eq_true, decide_eq_true_eq] at ho
  obtain ⟨⟨a, b⟩, _⟩ := ho
  obtain ⟨k, hk⟩ : ∃ k, l.length = k + 3 := ⟨l.length - 3, by omega⟩
  have e0 : l[k]? = some l[k] := List.getElem?_eq_getElem (by omega)
  have e1 : l[k + 1]? = some l[k + 1] := List.getElem?_eq_getElem (by omega)
  have e2 : l[k + 2]? = some l[k + 2] := List.getElem?_eq_getElem (by omega)
  obtain ⟨h1, k0, r0, k1, k2, c1, c2, c3, c4⟩ := (good_of (by omega) hk e0 e1 e2).1 h
  exact ⟨k, l[k], l[k + 1], l[k + 2], by omega, ⟨hk, e0, e1, e2, h1, k0, r0, k1, (newE_0 _ _).2 ⟨c1, c2⟩, k2, c3, c4⟩⟩
set_option maxHeartbeats 4000000 in
theorem eval_not (o : Option Addr) (cap : Nat) (l : List Sm) (w : World) (h : Gs w o cap l) (hr : rightL l = false) (s : ByteArray) : Calls Try.prog 9 #[.slice o l.length cap, .string s] w fun e w' => e = .returned (.tuple #[.slice none 0 0, .int .i64 190]) ∧ Below w.heap.size w w' := by
  have c5 := right_all o cap l w h
  rw [hr] at c5
  clear h hr
  generalize l.length = n at *
  go_enter Try.func9, Try.ntmps9
  go_wp2_with (fail)
  go_at_call 6
  refine c5.mono ?_
  rintro e w1 ⟨rfl, b1⟩
  clear c5
  go_wp2_with (fail)
  go_ret2
  exact ⟨rfl, b1⟩
set_option maxHeartbeats 4000000 in
theorem eval_long (o : Option Addr) (cap : Nat) (l : List Sm) (w : World) (h : Gs w o cap l) (hr : rightL l = true) (s : ByteArray) (hs : 4096 < s.size) : Calls Try.prog 9 #[.slice o l.length cap, .string s] w fun e w' => e = .returned (.tuple #[.slice none 0 0, .int .i64 2]) ∧ Below w.heap.size w w' := by
  have c5 := right_all o cap l w h
  rw [hr] at c5
  have f1 : decide ((4096 : Int) < (s.size : Int)) = true := decide_eq_true (by omega)
  clear h hr
  generalize l.length = n at *
  go_enter Try.func9, Try.ntmps9
  go_wp2_with (fail)
  go_at_call 6
  refine c5.mono ?_
  rintro e w1 ⟨rfl, b1⟩
  clear c5
  go_wp2_with (fail)
  go_ret2
  exact ⟨rfl, b1⟩
/-- what ir.Eval answers at stages that fit -/
def EvalOut (l : List Sm) (k : Nat) (x0 x1 x2 : Sm) (s : ByteArray) (w : World) (e : Ending) (w' : World) : Prop :=
  (chainT (mcs l k) s = none ∧ e = .returned (.tuple #[.slice none 0 0, .int .i64 2]) ∧ Below w.heap.size w w') ∨ (∃ t v, chainT (mcs l k) s = some t ∧ t.size ≤ 262144 ∧ e = .returned (.tuple #[v, .int .i64 0]) ∧ Ids w' w.heap.size v (evalL x0.g x1.g x2.g t) ∧ Below w.heap.size w w')
set_option maxHeartbeats 4000000 in
theorem eval_all (b off cap k n : Nat) (hn : n = k + 3) (l : List Sm) (x0 x1 x2 : Sm) (K : Kinds l k x0 x1 x2) (w : World) (h : Gs w (some ⟨b, off, none⟩) cap l) (hr : rightL l = true) (s : ByteArray) (hs : s.size ≤ 4096) : Calls Try.prog 9 #[.slice (some ⟨b, off, none⟩) n cap, .string s] w (EvalOut l k x0 x1 x2 s w) := by
  have hlen := K.len
  have c5 := right_all _ cap l w h
  rw [hlen, ← hn] at c5
  have hc1 := h.fit
  have hc2 := h.top
  rw [hlen, ← hn] at hc1
  have HS := (show Hid (∀ W, Below w.heap.size w W → Gs W (some ⟨b, off, none⟩) cap l) from fun W k => h.later k)
  have HK := (show Hid (Kinds l k x0 x1 x2) from K)
  have HL := (show Hid (l.length = n ∧ n = k + 3) from ⟨by omega, hn⟩)
  have f1 : decide ((4096 : Int) < (s.size : Int)) = false := decide_eq_false (by omega)
  rw [hr] at c5
  obtain ⟨Z, hZ⟩ : ∃ Z, Z = z39.toArray := ⟨_, rfl⟩
  have hzero : ∀ w, (zeroValue 39).run Try.prog w = .ok (.agg Z) w := by rw [hZ]; exact zero39
  have hzs : Z.size = 523 := by rw [hZ, List.size_toArray]; exact z39_len
  clear h hr hZ K hlen hn
  go_enter Try.func9, Try.ntmps9
  go_wp2_with (fail)
  go_at_call 6
  refine c5.mono ?_
  rintro e w1 ⟨rfl, b1⟩
  have HB1 := (show Hid (Below w.heap.size w w1) from b1)
  have bF := below_alloc w1 (.cells #[.string s, .slice none 0 0, .slice none 0 0] 58)
  have HST := (show Hid (Sq w1 w1.heap.size l k s x0.g x1.g x2.g 0 (w1.alloc (.cells #[.string s, .slice none 0 0, .slice none 0 0] 58)) s (.slice none 0 0) (.slice none 0 0)) from
    ⟨World.alloc_heap_new w1 _, bF, by simp [mcs, chainT], by omega, fun _ => ⟨rfl, rfl⟩, fun e => by omega, fun e => by omega, fun e => by omega⟩)
  clear c5 b1 bF
  go_wp2_with (fail)
  generalize w1.alloc (.cells #[.string s, .slice none 0 0, .slice none 0 0] 58) = w2 at *
  go_loopw [20] (fun y wr => ∃ (i : Nat) (t : ByteArray) (vp vi : Value), y = .int .i64 (i : Int) ∧ i ≤ n ∧ Hid (Sq w1 w1.heap.size l k s x0.g x1.g x2.g i wr t vp vi)) (fun y _ => n - (intOf y).toNat)
  case atStart => exact ⟨0, s, _, _, rfl, by omega, HST⟩
  case round =>
    clear HST
    obtain ⟨i, t, vp, vi, rfl, hi, HT⟩ := hrel
    have hBw : Below w.heap.size w wr := chain HB1.out HT.out.be
    have HBw := (show Hid (Below w.heap.size w wr) from hBw)
    by_cases hend : i < n
    · have hil : i < l.length := by rw [HL.out.1]; exact hend
      have hgs := HS.out wr hBw
      obtain ⟨T, f, v, hm, hme, hcf⟩ := do_all hgs HK.out s w1.heap.size (Nat.le_refl _) i hil t vp vi HT.out
      obtain ⟨b', off', hbe, _, hrg, hsm⟩ := hgs.lie i hil
      simp at hbe
      obtain ⟨rfl, rfl⟩ := hbe
      have hs' := hsm.s
      obtain ⟨W3, hW3, hbx, b3⟩ := stage_new wr Z hs'
      have hl1 := info39c hs'
      have hl2 := info39a hs'
      have hone := hs'.all
      have hold : Z.size = (svL l[i].g l[i].p).toArray.size := by rw [hzs, List.size_toArray, hs'.len]
      have HX := (show Hid (DoAt f l[i].g l[i].p T v w1 w1.heap.size l k s x0.g x1.g x2.g i wr) from hm)
      have c13 := (hm W3 b3).1
      have HB3 := (show Hid (Below wr.heap.size wr W3) from b3)
      unfold SBox at hbx
      have hnew := World.alloc_heap_new wr (.cells Z 39)
      generalize hCL : svL l[i].g l[i].p = CL at *
      clear hs' hm b3 hCL hBw HT hgs hsm
      go_wp2_with (first | (refine wpList_load_mid rfl 39 (.tmp 22) rfl b (off + i * 523) rfl CL _ hrg Try.underlying39 rfl hl1 ?_) | (refine wpList_store_row rfl 39 (.tmp 8) (.tmp 23) rfl wr.heap.size CL.toArray rfl rfl 39 Z hnew hl2 hold hone ?_; rw [hW3]) | (refine wpList_load_row rfl 39 (.tmp 8) rfl wr.heap.size rfl 39 CL.toArray (0, 0) _ hbx Try.underlying39 rfl hl2 ?_))
      go_at_call 17
      refine c13.mono ?_
      rintro e w4 ⟨rfl, b4⟩
      have c := (HX.out w4 (chain HB3.out b4)).2
      clear c13 hrg hbx hl1 hl2 hone hold hW3 b4 hnew
      go_wp2_with (fail)
      refine c.mono ?_
      rintro e w5 hq
      rcases hq with ⟨rfl, t5, vp5, vi5, st5⟩ | ⟨rfl, hno, b5⟩
      · have HT5 := (show Hid (Sq w1 w1.heap.size l k s x0.g x1.g x2.g (i + 1) w5 t5 vp5 vi5) from st5)
        clear c hme hcf st5
        go_wp2_with (fail)
        go_roundw
        case rel => exact ⟨i + 1, t5, vp5, vi5, by go_num, by omega, HT5⟩
        case measure => simp [intOf]; omega
      · have HNO := (show Hid (chainT (mcs l k) s = none) from hno)
        have HB5 := (show Hid (Below w.heap.size w w5) from chain HB1.out b5)
        clear c hme hcf hno b5
        go_wp2_with (fail)
        go_ret2
        exact .inl ⟨HNO.out, rfl, HB5.out⟩
    · have hie : i = n := by omega
      have q2 := HT.out.box.cells.2.2
      have hz3 := HT.out.z3 (by rw [hie]; exact HL.out.2)
      have HTX := (show Hid (chainT (mcs l k) s = some t) from by
        have := HT.out.tx
        rw [Nat.min_eq_right (by have := HL.out.2; omega)] at this
        exact this)
      have HSZ := (show Hid (t.size ≤ 262144) from HT.out.sz)
      obtain ⟨vo, vc, rfl, _, _⟩ := ow.form hz3
      have HZ := (show Hid (Ids wr w.heap.size (.slice vo (evalL x0.g x1.g x2.g t).length vc) (evalL x0.g x1.g x2.g t)) from pc.base_down hz3 HB1.out.size)
      clear hz3 hBw HT
      go_wp2_with (fail)
      go_ret2
      exact .inr ⟨t, _, HTX.out, HSZ.out, rfl, HZ.out, HBw.out⟩
end Go.Proofs.Ytmmlibehihknbaa.ir
