/-
  Texts put together: Contracts over this program: what a mapper does. Contracts over this program: ir.stepOf at a mapper; whether a mapper may be.
-/
import Derived.Test.YtmmlibehihknbaaKSa
import Derived.Test.YtmmlibehihknbaaKRe
import Derived.Deep.RegionLaw
import Derived.Deep.RegionWith
namespace Go.Proofs.Ytmmlibehihknbaa.tr
open Go.ChangeShapes Go.WideShapes Go.ChangeAt Go.RowKit Go.Shelf
open ir (FBox Ch set_heap)
set_option linter.unusedVariables false
set_option maxRecDepth 100000

theorem info74 : (Try.prog.info? 74).map (·.size) = some 4 := by kernel_rfl
def Do1 (m : Mc) (s : ByteArray) (fb : Nat) (vp vi : Value) (w : World) (e : Ending) (w' : World) : Prop :=
  (((total m 0 s.data.toList).length ≤ 262144 ∧ e = .returned (.int .i64 0) ∧ FBox w' fb (bs (total m 0 s.data.toList)) vp vi) ∨ (262144 < (total m 0 s.data.toList).length ∧ e = .returned (.int .i64 2) ∧ FBox w' fb s vp vi)) ∧ Ch fb w w'
theorem xbox_load {W : World} {g : Nat} {m : Mc} {p : Mp} (h : XBox W g m p) : (Instr.loadAt 74 (.pointer (some ⟨g, 0, none⟩))).run Try.prog W = .ok (.agg (mv m p)) W :=
  run_loadAt_mid W g 0 74 (mv m p).toList _ (fun j v hj => by rw [Nat.zero_add, Lib.cell_of_heap h]; simpa using hj) Try.underlying74 rfl info74
theorem xbox_loadv {W : World} {g : Nat} {m : Mc} {p : Mp} (h : XBox W g m p) : (loadVar 74 ⟨g, 0, none⟩).run Try.prog W = .ok (.agg (mv m p)) W :=
  run_loadVar_mid W g 0 74 (mv m p).toList _ (fun j v hj => by rw [Nat.zero_add, Lib.cell_of_heap h]; simpa using hj) Try.underlying74 rfl info74
set_option maxHeartbeats 4000000 in
theorem do1 (m : Mc) (hR : Right m) (p : Mp) (w : World) (hM0 : MAt (In w) w m p) (s : ByteArray) (hs : s.size ≤ 1000000) (fb : Nat) (vp vi : Value) (hf : FBox w fb s vp vi) : Calls Try.prog 58 #[.agg (mv m p), .pointer (some ⟨fb, 0, none⟩)] w (Do1 m s fb vp vi w) := by
  obtain ⟨w1, HW1⟩ : ∃ w1, Hid (w1 = w.alloc (.cells (mv m p) 74)) := ⟨_, rfl⟩
  obtain ⟨g, HG⟩ : ∃ g, Hid (g = w.heap.size) := ⟨_, rfl⟩
  have b1 : Below w.heap.size w w1 := by rw [HW1.out]; exact below_alloc w _
  have hg : g < w1.heap.size := by rw [HW1.out, HG.out]; simp
  have hX : XBox w1 g m p := by rw [HW1.out, HG.out]; exact xbox_new w m p
  have hM := hM0.later b1
  have hfl : fb < w1.heap.size := Nat.lt_of_lt_of_le hf.lt b1.size
  have HX : Hid (∀ W, Below w1.heap.size w1 W → XBox W g m p ∧ MAt (Lo w1.heap.size) W m p ∧ FBox W fb s vp vi) := fun W b => ⟨hX.low hg b, hM.low b, (hf.later b1).later b⟩
  have HB1 := (show Hid (Below w.heap.size w w1) from b1)
  have q0 := (hf.later b1).cells.1
  have hB0 := buf_nil w1
  obtain ⟨C, hC⟩ : ∃ C, C = mv m p := ⟨_, rfl⟩
  have HW2 : Hid (w.alloc (.cells C 74) = w1) := by show _ = _; rw [hC, HW1.out]
  have HC := (show Hid (C = mv m p) from hC)
  rw [← hC]
  have ew := HW2.out
  have eg := HG.out
  obtain ⟨B, HBB⟩ : ∃ B, Hid (B = w1.heap.size) := ⟨_, rfl⟩
  rw [← HBB.out] at hg hfl HX hB0
  clear hX hM hM0 hf b1 hC HW1 HW2 HG
  subst ew eg
  go_enter Try.func58, Try.ntmps58
  go_wp2_with (fail)
  go_loopw [5, 6, 7] (fun y z x wr => ∃ (i : Nat) (o1 : List UInt8) (q : Nat), x = .int .i64 i ∧ z = .int .i64 q ∧ i ≤ s.size ∧ Buf B y o1 wr ∧ Below B (w.alloc (.cells C 74)) wr ∧ q < m.next.length ∧ o1.length ≤ 262144 + 4097 ∧ Hid (o1 = (go m 0 (s.data.toList.take i)).1 ∧ q = (go m 0 (s.data.toList.take i)).2)) (fun _ _ x _ => s.size - (intOf x).toNat)
  case atStart => exact ⟨0, [], 0, rfl, rfl, by omega, hB0, Below.refl _ _, hR.one, by simp, by simp [go], by simp [go]⟩
  case round =>
    obtain ⟨i, o1, q, rfl, rfl, hi, hB1, bl1, hq, hl1, HI⟩ := hrel
    clear hB0 q0
    obtain ⟨yg, yc, rfl, y1, y2⟩ := hB1.form
    obtain ⟨hXr, hMr, hFr⟩ := HX.out wr bl1
    have q1 := hFr.cells.1
    by_cases hend : i < s.size
    · have f1 : decide ((i : Int) < (s.size : Int)) = true := decide_eq_true (by omega)
      by_cases hrm : o1.length ≤ 262144
      · have f2 : decide ((o1.length : Int) ≤ (262144 : Int)) = true := decide_eq_true (by omega)
        have HMr := (show Hid (MAt (Lo B) wr m p) from hMr)
        have HBr := (show Hid (Buf B (.slice yg o1.length yc) o1 wr) from hB1)
        have HOV := (show Hid (∀ W, Below wr.heap.size wr W → Calls Try.prog 60 #[.agg (mv m p), .slice yg o1.length yc, .int .i64 (q : Int), .int .u8 (s[i].toNat : Int)] W fun e w' => ∃ v', e = .returned (.tuple #[v', .int .i64 (nx m q s[i].toNat : Int)]) ∧ Buf B v' (o1 ++ outp m q s[i]) w' ∧ Below B W w') from fun W b => by
          exact over_any m hR q hq s[i] B p _ o1 W (HMr.out.low (b.mono HBr.out.2)) (HBr.out.later b) (by omega))
        have k0 := hXr.c0
        have k1 := hXr.c1
        have k2 := hXr.c2
        have k3 := hXr.c3
        have hi2 : i < s.data.toList.length := by rw [list_len]; exact hend
        have HT := (show Hid _ from take_succ_go m 0 s.data.toList i hi2)
        have hol := outp_len hR q s[i]
        have hnl := hR.nx_lt hq s[i].toNat_lt
        have HGI : Hid (s.data.toList[i] = s[i]) := rfl
        rw [HGI.out] at HT
        rw [← HI.out.2] at HT
        generalize hk : nx m q s[i].toNat = k at *
        clear hXr hMr hB1 hFr
        have hii : (i : Int) < (s.size : Int) := by omega
        go_wp2_with (fail)
        go_region_with (go_at_call 60; refine (HOV.out _ (Below.drew (Below.refl _ _))).mono ?_; rintro e w2 ⟨v', rfl, hb', bl'⟩; obtain ⟨vg', vc', hv', v1', v2'⟩ := hb'.form; subst hv')
        all_goals
          go_wp2_with (fail)
          go_roundw
          case rel =>
            rw [List.length_append] at hb'
            refine ⟨i + 1, o1 ++ outp m q s[i], k, by go_num, rfl, by omega, hb', bl1.trans (undrew bl'), hnl, by rw [List.length_append]; omega, ?_, ?_⟩
            · rw [HT.out, ← HI.out.1]
            · rw [HT.out]
          case measure => simp [intOf]; omega
      · have f2 : decide ((o1.length : Int) ≤ (262144 : Int)) = false := decide_eq_false (by omega)
        have hr2 : 262144 < o1.length := by omega
        have HE := (show Hid (Alo m 0 s.data.toList [] 262144 o1 q) from ⟨i, by rw [list_len]; exact hi, by rw [List.nil_append]; exact HI.out.1, HI.out.2, .inr hr2⟩)
        have k2 := hXr.c2
        have k3 := hXr.c3
        obtain ⟨pb, poff, e1, h1, h2⟩ := hMr.fin_at hR hq
        have hqn := hR.en_lt hq
        obtain ⟨xb, xoff, e7, h7, h8⟩ := hMr.tx_at hqn
        have t4 := hMr.ren.fit
        have t5 := hMr.ren.top
        have t6 := hMr.rtx.fit
        have t7 := hMr.rtx.top
        have hpl : q < m.fin.length := by rw [hR.fins]; exact hq
        have htl := hR.tx_le (en m q)
        rw [e1] at k2
        rw [e7] at k3
        have HL := (show Hid (_ ∨ _) from HE.out.last)
        generalize en m q = n at *
        generalize tx m n = tt at *
        clear hXr hMr hFr HE e1 e7
        go_wp2_with (fail)
        go_region_law (refine Buf.step_text (by rfl) (.tmp 35) (.tmp 46) (by rfl) B _ o1 (by rfl) hB1.drew tt (by rfl) (by omega) ?_; intro v' w' hb' bl'; have HF' := (show Hid (FBox w' fb s vp vi) from (HX.out w' (bl1.trans (undrew bl'))).2.2); have HB' := (show Hid (Below B (w.alloc (.cells C 74)) w') from bl1.trans (undrew bl')); have hcv := hb'.conv; have q5 := HF'.out.cells.1; have f5 := Lib.frozen_of_heap (show w'.heap[fb]? = some (.cells #[.string s, vp, vi] 58 (0, 0)) from HF'.out) 0; obtain ⟨vg', vc', hv', v1', v2'⟩ := hb'.form; subst hv'; rw [List.length_append, list_len] at hb' hcv v1' ⊢)
        all_goals
          have hle : w.heap.size ≤ B := by rw [HBB.out]; simp
          have HBW := (show Hid (Below w.heap.size w w') from HB1.out.trans (HB'.out.mono hle))
          have hlen : (o1 ++ tt.data.toList).length = o1.length + tt.size := by rw [List.length_append, list_len]
          have f3 : (262144 : Int) < ((o1.length + tt.size : Nat) : Int) := by omega
          go_wp2_with (fail)
          go_ret
          refine ⟨.inr ⟨?_, rfl, HF'.out⟩, Ch.below HBW.out⟩
          rcases HL.out with e | ⟨_, h⟩
          · rw [← e]; omega
          · exact h
    · have f1 : decide ((i : Int) < (s.size : Int)) = false := decide_eq_false (by omega)
      have he : i = s.size := by omega
      have HE := (show Hid (Alo m 0 s.data.toList [] 262144 o1 q) from ⟨i, by rw [list_len]; exact hi, by rw [List.nil_append]; exact HI.out.1, HI.out.2, .inl (by rw [list_len]; exact he)⟩)
      clear he
      have k2 := hXr.c2
      have k3 := hXr.c3
      obtain ⟨pb, poff, e1, h1, h2⟩ := hMr.fin_at hR hq
      have hqn := hR.en_lt hq
      obtain ⟨xb, xoff, e7, h7, h8⟩ := hMr.tx_at hqn
      have t4 := hMr.ren.fit
      have t5 := hMr.ren.top
      have t6 := hMr.rtx.fit
      have t7 := hMr.rtx.top
      have hpl : q < m.fin.length := by rw [hR.fins]; exact hq
      have htl := hR.tx_le (en m q)
      rw [e1] at k2
      rw [e7] at k3
      have HL := (show Hid (_ ∨ _) from HE.out.last)
      generalize en m q = n at *
      generalize tx m n = tt at *
      clear hXr hMr hFr HE e1 e7
      go_wp2_with (fail)
      go_region_law (refine Buf.step_text (by rfl) (.tmp 35) (.tmp 46) (by rfl) B _ o1 (by rfl) hB1.drew tt (by rfl) (by omega) ?_; intro v' w' hb' bl'; have HF' := (show Hid (FBox w' fb s vp vi) from (HX.out w' (bl1.trans (undrew bl'))).2.2); have HB' := (show Hid (Below B (w.alloc (.cells C 74)) w') from bl1.trans (undrew bl')); have hcv := hb'.conv; have q5 := HF'.out.cells.1; have f5 := Lib.frozen_of_heap (show w'.heap[fb]? = some (.cells #[.string s, vp, vi] 58 (0, 0)) from HF'.out) 0; obtain ⟨vg', vc', hv', v1', v2'⟩ := hb'.form; subst hv'; rw [List.length_append, list_len] at hb' hcv v1' ⊢)
      all_goals
        have hle : w.heap.size ≤ B := by rw [HBB.out]; simp
        have HBW := (show Hid (Below w.heap.size w w') from HB1.out.trans (HB'.out.mono hle))
        have hlen : (o1 ++ tt.data.toList).length = o1.length + tt.size := by rw [List.length_append, list_len]
        by_cases h6 : o1.length + tt.size ≤ 262144
        · have f3 : ¬ (262144 : Int) < ((o1.length + tt.size : Nat) : Int) := by omega
          go_wp2_with (fail)
          go_ret
          have htot : o1 ++ tt.data.toList = total m 0 s.data.toList := by
            rcases HL.out with e | ⟨h, _⟩
            · exact e
            · omega
          refine ⟨.inl ⟨by rw [← htot]; omega, rfl, ?_⟩, (Ch.below HBW.out).trans (Ch.set 0 _)⟩
          rw [← htot]
          show _ = _
          rw [set_heap w' fb _ _ 0 _ HF'.out]
          try rfl
        · have f3 : (262144 : Int) < ((o1.length + tt.size : Nat) : Int) := by omega
          go_wp2_with (fail)
          go_ret
          refine ⟨.inr ⟨?_, rfl, HF'.out⟩, Ch.below HBW.out⟩
          rcases HL.out with e | ⟨_, h⟩
          · rw [← e]; omega
          · exact h
end Go.Proofs.Ytmmlibehihknbaa.tr

namespace Go.Proofs.Ytmmlibehihknbaa.ir
open Go.ChangeShapes Go.WideShapes Go.ChangeAt Go.RowKit
open mg (Row iv IntsV chain below_alloc Mg Mgs)
open tr (Mc Mp mv MAt)
set_option linter.unusedVariables false
set_option maxRecDepth 100000

theorem built74 (a b c d : Value) : Try.prog.built 74 [(0, .agg #[a, b, c, d])] = some #[a, b, c, d] := by kernel_rfl
theorem wp_build66 {oo : Oper} {a : Act} {w : World} {K : Act → World → Prop} {Q : Exit → Act → World → Prop} (x : Operand) (ho : oo.op = .build 74 #[(0, x)]) (v : Value) (hx : a.eval x = v) (cells : Array Value) (hb : Try.prog.built 74 [(0, v)] = some cells)
    (h : K (a.put oo.dst (.agg cells)) w) : oo.wp Try.prog a w K Q := by
  have e := run_build (P := Try.prog) w 74 #[(0, v)] cells hb
  unfold Oper.wp execOp
  rw [ho]
  simp only [List.map_toArray, List.map_cons, List.map_nil, hx, Sem.run_bind, e, Result.andThen_ok]
  exact h
theorem wpList_build66 {ops : Array Oper} {rest : List Oper} {oo : Oper} {a : Act} {w : World} {Q : Exit → Act → World → Prop} (hgd : oo.guard = none) (x : Operand) (ho : oo.op = .build 74 #[(0, x)]) (v : Value) (hx : a.eval x = v) (cells : Array Value) (hb : Try.prog.built 74 [(0, v)] = some cells)
    (h : wpList Try.prog ops Q rest (a.put oo.dst (.agg cells)) w) : wpList Try.prog ops Q (oo :: rest) a w :=
  wpList_plain hgd fun _ hK => wp_build66 x ho v hx cells hb (hK _ _ h)
set_option maxHeartbeats 1000000 in
theorem step1 (g : Sg) (p : Sp) (hk : g.kind = 1) (w : World) (h : SgAt w g p) : Calls Try.prog 17 #[.agg (svL g p).toArray] w fun e w' => e = .returned (.iface 74 (.agg g.mc.toArray)) ∧ Below w.heap.size w w' := by
  have hx : SBox (w.alloc (.cells (svL g p).toArray 39)) w.heap.size g p := World.alloc_heap_new w _
  have hl : SgAt (w.alloc (.cells (svL g p).toArray 39)) g p := h.later (below_alloc w _)
  have r1 := hx.rmc hl
  have h0 := sv0 g p
  rw [hk] at h0
  have i1 : (Try.prog.info? 32).map (·.size) = some g.mc.length := by rw [h.mc]; exact info32
  have hb : Try.prog.built 74 [(0, .agg g.mc.toArray)] = some g.mc.toArray := by
    have hm := h.mc
    match hg : g.mc, hm with
    | [a, b, c, d], _ => exact built74 a b c d
  have hB := below_alloc w (.cells (svL g p).toArray 39)
  clear hx hl
  generalize (svL g p).toArray = C at *
  generalize g.mc = M at *
  clear h
  go_enter Try.func17, Try.ntmps17
  go_wp2_with (first | (refine wpList_load_mid rfl 32 (.tmp 7) rfl w.heap.size 1 rfl M _ r1 Try.underlying32 rfl i1 ?_) | (refine wpList_build66 rfl (.tmp 8) rfl (.agg M.toArray) rfl M.toArray hb ?_))
  go_ret
  exact ⟨rfl, hB⟩
set_option maxHeartbeats 1000000 in
theorem may1 (m : Mc) (q : Mp) (r : Bool) (hr : r = tr.right m) (w : World) (h : MAt (tr.In w) w m q) : Calls Try.prog 59 #[.agg (mv m q)] w fun e w' => e = .returned (.bool r) ∧ Below w.heap.size w w' := by
  obtain ⟨C, hC⟩ : ∃ C, C = mv m q := ⟨_, rfl⟩
  have hB := below_alloc w (.cells (mv m q) 74)
  have hx : tr.XBox (w.alloc (.cells (mv m q) 74)) w.heap.size m q := tr.xbox_new w m q
  have hl : MAt (tr.In (w.alloc (.cells (mv m q) 74))) (w.alloc (.cells (mv m q) 74)) m q := h.later hB
  have c := tr.right_any m r hr q _ hl
  have k0 := hx.c0
  have k1 := hx.c1
  have k2 := hx.c2
  have k3 := hx.c3
  rw [← hC] at k0 k1 k2 k3 hB c ⊢
  have HB := (show Hid _ from hB)
  have HC := (show Hid (C = mv m q) from hC)
  clear hx hl hC hr h hB
  go_enter Try.func59, Try.ntmps59
  go_wp2_with (fail)
  go_at_call 61
  rw [show (Value.agg C) = .agg (mv m q) by rw [HC.out]] at c
  refine c.mono ?_
  rintro e w1 ⟨rfl, b1⟩
  clear c
  go_wp2_with (fail)
  go_ret
  exact ⟨rfl, chain HB.out b1⟩
end Go.Proofs.Ytmmlibehihknbaa.ir
