/-
  Contracts over this program: the least of a dfa (least).
-/
import Derived.Test.YtkdkibnjfgcppaaM03
namespace Go.Proofs.Ytkdkibnjfgcppaa.mi
open Go.ChangeShapes Go.WideShapes Go.ChangeAt Go.RowKit Go.Shelf Go.Maps
set_option linter.unusedVariables false

theorem wp_build26 {oo : Oper} {a : Act} {w : World} {K : Act → World → Prop} {Q : Exit → Act → World → Prop} (x : Operand) (ho : oo.op = .build 26 #[(0, x)]) (v : Value) (hx : a.eval x = v) (cells : Array Value) (hb : Try.prog.built 26 [(0, v)] = some cells)
    (h : K (a.put oo.dst (.agg cells)) w) : oo.wp Try.prog a w K Q := by
  have e := run_build (P := Try.prog) w 26 #[(0, v)] cells hb
  unfold Oper.wp execOp
  rw [ho]
  simp only [List.map_toArray, List.map_cons, List.map_nil, hx, Sem.run_bind, e, Result.andThen_ok]
  exact h
theorem wpList_build26 {ops : Array Oper} {rest : List Oper} {oo : Oper} {a : Act} {w : World} {Q : Exit → Act → World → Prop} (hgd : oo.guard = none) (x : Operand) (ho : oo.op = .build 26 #[(0, x)]) (v : Value) (hx : a.eval x = v) (cells : Array Value) (hb : Try.prog.built 26 [(0, v)] = some cells)
    (h : wpList Try.prog ops Q rest (a.put oo.dst (.agg cells)) w) : wpList Try.prog ops Q (oo :: rest) a w :=
  wpList_plain hgd fun _ hK => wp_build26 x ho v hx cells hb (hK _ _ h)
def LeastOut (d : df.Dfa) (w : World) (e : Ending) (w' : World) : Prop := ∃ (d' : df.Dfa) (cs' : Array Value) (o' ao' : Option Addr) (cap' acap' : Nat), e = .returned (.agg cs') ∧ df.DAt (fun b => w.heap.size ≤ b ∧ b < w'.heap.size) w' d' cs' o' cap' ao' acap' ∧ Least ((dm d).lang (some 0)) ((List.range 256).map d'.cls) d'.next d'.acc ∧ Below w.heap.size w w' ∧ d'.next.length ≤ d.next.length
set_option maxHeartbeats 2000000 in
set_option maxRecDepth 100000 in
theorem least_any (d : df.Dfa) (hr : df.right d = true) (cs : Array Value) (o ao : Option Addr) (cap acap : Nat) (w : World) (hD : df.DAt (df.In w) w d cs o cap ao acap) :
    Calls Try.prog 24 #[.agg cs] w (LeastOut d w) := by
  have hok := df.ok_of d hr
  have hz := zero26
  have hmost := hok.most
  have hone := hok.one
  have hw8 := hD.size
  obtain ⟨wA, hwA⟩ : ∃ wA, wA = (w.alloc (.cells cs 26)).alloc (.cells z26 26) := ⟨_, rfl⟩
  have B0 : Below w.heap.size w wA := by rw [hwA]; exact ((Below.refl _ _).alloc (Nat.le_refl _) _).alloc (by simp) _
  have hsA : wA.heap.size = w.heap.size + 1 + 1 := by rw [hwA]; simp
  have xA : df.DBox wA w.heap.size cs := by rw [hwA]; exact (Below.heap_alloc _ _ _ (by simp)).trans (df.dbox_new w cs)
  have xR : df.DBox wA (w.heap.size + 1) z26 := by rw [hwA]; have := heap_alloc_new (w.alloc (.cells cs 26)) (.cells z26 26); rw [World.size_alloc] at this; exact this
  have c38 := newWalk_any d hr cs o ao cap acap wA (hD.later B0)
  have HSA : Hid (wA.heap.size = w.heap.size + 1 + 1) := hsA
  have HD := (show Hid _ from hD)
  clear hok hD
  go_enter Try.func24, Try.ntmps24
  go_wp2_with (fail)
  rw [← hwA]
  refine wp_load_row 26 (.tmp 1) rfl w.heap.size rfl 26 cs (0, 0) _ xA Try.underlying26 rfl (df.info26 cs hw8) ?_
  clear hwA hz
  go_wp2_with (fail)
  go_at_call 38
  refine c38.mono ?_
  rintro e w1 ⟨gw, gp, gn, F, nums0, sv0, rfl, hnew, b1⟩
  have HK0 : Hid (Wst d cs (wA.heap.size + 1) w1 w1 gw gp gn F nums0 sv0 (.slice none 0 0) [0] []) := new_wst hnew (by have := hnew.box.lt; have := hnew.ap.2.2.2.1; omega)
  have HG0 : Hid (Go_ d F 0 nums0 [0] []) := new_go hnew hone
  have HLAB : Hid (Lab (dm d) (pa F)) := hnew.lab
  have HLEN : Hid (F.length = d.next.length + 1) := hnew.len
  have HDW : Hid (df.DAt (fun b => b < wA.heap.size + 1) w1 d cs o cap ao acap) := HD.out.carry (fun k hk => (b1.block k (by unfold df.In at hk; have := HSA.out; omega)).trans (B0.block k hk)) (fun k hk => by unfold df.In at hk; have := HSA.out; omega)
  have HB1 := (show Hid _ from b1)
  have HXA := (show Hid _ from xA)
  have HXR := (show Hid _ from xR)
  clear c38 hnew b1 xA xR
  go_wp2_with (fail)
  go_loopw [4] (fun y wr => ∃ (i : Nat) (nums : List Int) (S : List Int) (rows : List (List Int)) (sv rv : Value), y = .int .i64 (i : Int) ∧ Hid (Wst d cs (wA.heap.size + 1) w1 wr gw gp gn F nums sv rv S rows) ∧ Hid (Go_ d F i nums S rows)) (fun y _ => d.next.length - (intOf y).toNat)
  case atStart => exact ⟨0, nums0, [0], [], sv0, _, rfl, HK0, HG0⟩
  case round =>
    obtain ⟨i, nums, S, rows, sv, rv, rfl, HW, HG⟩ := hrel
    have hfew := HG.out.few
    have hile := HG.out.le
    have hrl := (go_row HG.out (by omega)).1
    have kS := HW.out.box.cst
    by_cases hlt : i < S.length
    · obtain ⟨g, c, hsv, hc1, hc2, hcell⟩ := owns_at HW.out.st hlt
      have hins := HG.out.ins S[i] (List.getElem_mem hlt)
      obtain ⟨s, hs⟩ : ∃ s : Nat, S[i] = (s : Int) := ⟨S[i].toNat, by omega⟩
      have c39 := leave_any d hr cs o ao cap acap (wA.heap.size + 1) w1 wr gw gp gn F nums sv rv S rows s HDW.out HW.out HLAB.out HLEN.out (by omega) (HG.out.lv s) (by omega) (by omega)
      have HST : Hid (∀ nums' S', Lv d F S s 256 nums' S' → Go_ d F (i + 1) nums' S' (rows ++ [(rowN (lgs d S) ((dm d).lang (some s)) 256).2])) := fun nums' S' hv => HG.out.step (by rw [List.getElem?_eq_getElem hlt, hs]) hv
      rw [hs] at hcell
      rw [hsv] at kS
      clear hs hins
      go_wp2_with (go_at_call 39; (refine c39.mono ?_); rintro e w2 ⟨nums', sv', rv', S', rfl, hW2, hL2⟩)
      go_roundw
      case rel => exact ⟨i + 1, nums', S', _, sv', rv', by go_num, hW2, HST.out _ _ hL2⟩
      case measure => simp [intOf]; omega
    · obtain rfl : i = S.length := by omega
      have hpos : 0 < S.length := by
        rcases Nat.eq_zero_or_pos S.length with h0 | h0
        · have := congrArg (fun p : List Lg × List (List Int) => p.1.length) HG.out.eq
          have h1 := (it_wk ((dm d).lang (some 0)) _ HG.out.wk).first
          have h2 := (List.getElem?_eq_some_iff.1 h1).1
          simp only [lgs, List.length_map] at this
          omega
        · exact h0
      obtain ⟨hg1, hg2, hg3⟩ := go_row HG.out (by omega)
      obtain ⟨q, qc, hrv, hRR⟩ := rows_of HW.out.rw hg2 (by omega) (by omega)
      obtain ⟨g, c, hsv, hc1, hc2, _⟩ := owns_at HW.out.st hpos
      have HSC : Hid (∀ j (hj : j < S.length), wr.cell? ⟨g, j, none⟩ = some (.int .i64 S[j])) := fun j hj => by
        obtain ⟨g', c', e', _, _, h'⟩ := owns_at HW.out.st hj
        rw [hsv] at e'
        simp at e'
        rw [e'.1]
        exact h'
      have kR := HW.out.box.cr
      have c40 := classes_any rows hg3 (by omega) q qc wr hRR
      have HRR := (show Hid _ from hRR)
      have HH256 := (show Hid _ from hg2)
      have HRL := (show Hid _ from hrl)
      rw [hsv] at kS
      rw [hrv] at kR
      clear hRR hg2 hg3 hg1 hrl hrv hsv
      go_wp2_with (fail)
      go_at_call 40
      refine c40.mono ?_
      rintro e w2 ⟨rfl, b2⟩
      have hXL := clsL_len rows
      have HX : Hid (∃ X, X = clsL rows) := ⟨_, rfl⟩
      obtain ⟨X, hX⟩ : ∃ X, X = clsL rows := ⟨_, rfl⟩
      obtain ⟨nf, hnf⟩ : ∃ nf, nf = (firsts (colOf rows) 256).length := ⟨_, rfl⟩
      rw [← hX, ← hnf]
      rw [← hX] at hXL
      have HXE := (show Hid _ from hX)
      have HNF := (show Hid _ from hnf)
      clear hX hnf c40
      have hst := storeC w2 zc X rfl hXL
      have hz22 := zero22
      have hccz := ccs_size zc
      rw [show zc.length = 256 from rfl] at hccz
      have hcX := ccs_size X
      rw [hXL] at hcX
      obtain ⟨w4, hw4⟩ : ∃ w4, w4 = w2.alloc (.cells (ccs X) 22) := ⟨_, rfl⟩
      have b4 : Below w2.heap.size w2 w4 := by rw [hw4]; exact below_alloc w2 _
      have hs4 : w4.heap.size = w2.heap.size + 1 := by rw [hw4]; simp
      have hC4 : CBox w4 w2.heap.size X := by rw [hw4]; exact heap_alloc_new w2 _
      obtain ⟨cells, hbt, hDC⟩ := built26 X hXL
      have hbld : ∀ W, (Instr.build 26 #[(0, .agg (ccs X))]).run Try.prog W = .ok (.agg cells) W := fun W => run_build (P := Try.prog) W 26 #[(0, .agg (ccs X))] cells hbt
      have hz26 := zero26
      have hst26 := store26 w4 cells hDC.size hDC.one
      have hcc := hDC.size
      have hzz := z26_size
      obtain ⟨w5, hw5⟩ : ∃ w5, w5 = w4.alloc (.cells cells 26) := ⟨_, rfl⟩
      have b5 : Below w4.heap.size w4 w5 := by rw [hw5]; exact below_alloc w4 _
      have hL5 : DL w5 w4.heap.size X (.slice none 0 0) (.slice none 0 0) := by rw [hw5]; exact ⟨cells, heap_alloc_new w4 _, hDC⟩
      rw [hs4] at hst26 hL5
      have HM5 : Hid (Mst (w2.heap.size + 1) w5 w5 X nf [] [] [] (.slice none 0 0) (.slice none 0 0)) := ⟨hL5, World.ownsRow_nil _ _ _ _, ⟨rfl, fun i h => by simp at h⟩, (fun g h => by simp at h), World.ownsRow_nil _ _ _ _, (fun g h => by cases h), Below.refl _ _, by have := hL5.lt; omega⟩
      go_wp2_with (fail)
      rw [← hw4]
      refine wp_load_row 22 (.tmp 5) rfl w2.heap.size rfl 22 (ccs X) (0, 0) _ hC4 Try.underlying22 rfl (sizeC X hXL) ?_
      clear hst hz22 hw4
      have kS5 : w5.cell? ⟨gw, 260, none⟩ = some (.slice (some ⟨g, 0, none⟩) S.length c) := by
        have hgl : gw < wr.heap.size := HW.out.box.lt
        rw [b5.cell (p := ⟨gw, 260, none⟩) (by have := b4.size; have := b2.size; show gw < _; omega), b4.cell (p := ⟨gw, 260, none⟩) (by have := b2.size; show gw < _; omega), b2.cell (p := ⟨gw, 260, none⟩) hgl]
        exact kS
      rw [hw5] at kS5
      clear hbld
      go_wp2_with (first | (refine wpList_build26 rfl (.tmp 41) rfl (.agg (ccs X)) rfl cells hbt ?_) | (refine wp_build26 (.tmp 41) rfl (.agg (ccs X)) rfl cells hbt ?_))
      rw [← hw5]
      have hs5 : w5.heap.size = w2.heap.size + 1 + 1 := by rw [hw5, World.size_alloc, hs4]
      have hbw : Below wA.heap.size wA wr := by
        refine HB1.out.trans ⟨HW.out.bel.os, HW.out.bel.tape, HW.out.bel.output, HW.out.bel.size, fun k hk => HW.out.bel.block k (by omega)⟩
      have HNF2 : Hid (nf ≤ 256) := by show nf ≤ 256; rw [HNF.out]; exact firsts_len _ _
      have h25 : ∀ k, k < wr.heap.size → w5.heap[k]? = wr.heap[k]? := fun k hk => by
        have h1 := b2.size
        have h2 := b4.size
        rw [b5.block k (by omega), b4.block k (by omega), b2.block k hk]
      have HBL : Hid (∀ W, Below (w2.heap.size + 1) w5 W → (∀ k, k < wr.heap.size → W.heap[k]? = wr.heap[k]?) ∧ CBox W w2.heap.size X ∧ df.DBox W w.heap.size cs ∧ df.DBox W (w.heap.size + 1) z26 ∧ df.DAt (df.In w) W d cs o cap ao acap ∧ Below w.heap.size w W ∧ w2.heap.size + 1 < W.heap.size) := fun W b => by
        have hk : ∀ k, k < wr.heap.size → W.heap[k]? = wr.heap[k]? := fun k hk => (b.block k (by have := b2.size; omega)).trans (h25 k hk)
        have hAr := hbw.size
        have hk2 : ∀ k, k < wA.heap.size → W.heap[k]? = wA.heap[k]? := fun k hk' => (hk k (by omega)).trans (hbw.block k hk')
        have hsA := HSA.out
        refine ⟨hk, (b.block _ (by omega)).trans ((b5.block _ (by omega)).trans hC4), (hk2 _ (by omega)).trans HXA.out, (hk2 _ (by omega)).trans HXR.out, HD.out.carry (fun k hk' => (hk2 k (by unfold df.In at hk'; omega)).trans (B0.block k hk')) (fun _ => id), ⟨b.os.trans (b5.os.trans (b4.os.trans (b2.os.trans (hbw.os.trans B0.os)))), b.tape.trans (b5.tape.trans (b4.tape.trans (b2.tape.trans (hbw.tape.trans B0.tape)))), b.output.trans (b5.output.trans (b4.output.trans (b2.output.trans (hbw.output.trans B0.output)))), by have := b.size; have := b2.size; omega, fun k hk' => (hk2 k (by omega)).trans (B0.block k hk')⟩, by have := b.size; omega⟩
      obtain ⟨wq, rfl⟩ : ∃ wq : World, wq = wr := ⟨_, rfl⟩
      have HCLS : Hid (∀ b, b < 256 → ∃ x, X[b]? = some x ∧ x < nf ∧ x < 256) := fun b hb => by
        rw [HXE.out, HNF.out]
        exact ⟨_, clsL_get rows b hb, cls_lt _ hb, clsL_lt rows b hb⟩
      have HKR : Hid (wq.cell? ⟨gw, 261, none⟩ = some (.slice q rows.length qc)) := kR
      have HGW : Hid (gw < wq.heap.size) := HW.out.box.lt
      have HB2 := (show Hid _ from b2)
      have HAQ : Hid (w.heap.size + 1 + 1 ≤ wq.heap.size) := by show _ ≤ _; have := hbw.size; omega
      have HRC : Hid (rows.length ≤ qc ∧ qc ≤ 9223372036854775807) := ⟨HRR.out.1, HRR.out.2.1⟩
      have HI39 : Hid ((Try.prog.info? 39).map (fun i => (i.zero, i.size, i.bytes)) = some (some (.slice none 0 0), 1, 24)) := by show _ = _; kernel_rfl
      have HI4 : Hid ((Try.prog.info? 4).map (fun i => (i.zero, i.size, i.bytes)) = some (some (.bool false), 1, 1)) := by show _ = _; kernel_rfl
      have HDC := (show Hid _ from hDC)
      clear hst26 kS5 hw5 b4 b5 hbw h25 hbt hz26 hcc hzz hccz hcX hDC hC4 hL5 kR kS b2
      go_wp2_with (fail)
      go_loopw [48] (fun y W => ∃ (i : Nat) (gs : List Nat) (nv av : Value), y = .int .i64 (i : Int) ∧ i ≤ S.length ∧ gs.length = i ∧ Hid (Mst (w2.heap.size + 1) w5 W X nf gs ((rows.take i).map fun r => (firsts (colOf rows) 256).map fun c => r.getD c 0) ((S.take i).map fun s => df.acpt d s.toNat) nv av)) (fun y _ => S.length - (intOf y).toNat)
      case atStart => exact ⟨0, [], _, _, rfl, by omega, rfl, HM5⟩
      case round =>
        obtain ⟨i, gs, nv, av, rfl, hi, hgl, HM⟩ := hrel
        subst hgl
        obtain ⟨hk, hC, hX1, hX2, hDA, hBw, hgw⟩ := HBL.out wr HM.out.bel
        by_cases hlt : gs.length < S.length
        · have hlr : gs.length < rows.length := by have := HRL.out; omega
          have kst : wr.cell? ⟨g, gs.length, none⟩ = some (.int .i64 S[gs.length]) := by
            have h1 := HSC.out gs.length hlt
            have hg' : g < wq.heap.size := block_lt_of_cell h1
            simp only [World.cell?, hk g hg'] at h1 ⊢
            exact h1
          have hmk := makeZ nf (by have := HNF2.out; omega)
          obtain ⟨gq, hgq, hgl2, hra0⟩ := HRR.out.2.2.2 gs.length hlr
          subst hgq
          obtain ⟨r, hr⟩ : ∃ r, r = rows[gs.length] := ⟨_, rfl⟩
          rw [← hr] at hra0
          have hrl : r.length = 256 := by rw [hr]; exact HRR.out.2.2.1 _ (List.getElem_mem hlr)
          obtain ⟨w6, hw6⟩ : ∃ w6, w6 = wr.alloc (.cells (ics (List.replicate nf 0)) 3) := ⟨_, rfl⟩
          have b6 : Below wr.heap.size wr w6 := by rw [hw6]; exact below_alloc wr _
          have hwqr : wq.heap.size ≤ wr.heap.size := by have := HB2.out.size; omega
          have hk6 : ∀ k, k < wq.heap.size → w6.heap[k]? = wq.heap[k]? := fun k h => (b6.block k (by omega)).trans (hk k h)
          have hra : w6.rangeAt gq (gs.length * 256) (r.map fun n : Int => Value.int .i64 n) := fun j v hv => by
            have h1 := hra0 j v hv
            simp only [World.cell?, hk6 gq hgl2] at h1 ⊢
            exact h1
          have kR6 : w6.cell? ⟨gw, 261, none⟩ = some (.slice (some ⟨gq, 0, none⟩) rows.length qc) := by
            have h1 := HKR.out
            simp only [World.cell?, hk6 gw HGW.out] at h1 ⊢
            exact h1
          have hZ6 : ZRow w6 wr.heap.size (byC r X nf 0) := by rw [hw6]; exact heap_alloc_new wr _
          rw [hw6] at kR6 hra
          have hrc : (r.map fun n : Int => Value.int .i64 n).length = 256 := by simp [hrl]
          have hi89 : (Try.prog.info? 89).map (·.size) = some (r.map fun n : Int => Value.int .i64 n).length := by rw [hrc]; kernel_rfl
          have HRO : Hid ((r.map fun n : Int => Value.int .i64 n).toArray = ics r) := rfl
          have HRI := (show Hid _ from hr)
          have hq1 := HRC.out.1
          have hq2 := HRC.out.2
          have hin := HG.out.ins S[gs.length] (List.getElem_mem hlt)
          obtain ⟨s, hs⟩ : ∃ s : Nat, S[gs.length] = (s : Int) := ⟨S[gs.length].toNat, by omega⟩
          rw [hs] at kst hin
          clear hr hra0
          go_wp2_with (first | (refine wpList_load_mid rfl 89 (.tmp 60) rfl gq (gs.length * 256) rfl _ _ hra Try.underlying89 rfl hi89 ?_; rw [HRO.out]) | (refine wp_load_mid 89 (.tmp 60) rfl gq (gs.length * 256) rfl _ _ hra Try.underlying89 rfl hi89 ?_; rw [HRO.out]))
          rw [← hw6]
          obtain ⟨wo, rfl⟩ : ∃ wo : World, wo = wr := ⟨_, rfl⟩
          clear kR6 hra hi89 hrc hmk hw6 kst
          go_loopw [62] (fun y W => ∃ k : Nat, y = .int .i64 (k : Int) ∧ k ≤ 256 ∧ Below wo.heap.size wo W ∧ ZRow W wo.heap.size (byC r X nf k)) (fun y _ => 256 - (intOf y).toNat)
          case atStart => exact ⟨0, rfl, by omega, b6, hZ6⟩
          case round =>
            obtain ⟨k, rfl, hk2, hBk, hZk⟩ := hrel
            by_cases hlb : k < 256
            · obtain ⟨x, hx⟩ : ∃ x, r[k]? = some x := ⟨r[k], List.getElem?_eq_getElem (by omega)⟩
              have hidx := index89 r k hlb x hx
              obtain ⟨xc, hxc, hxn, hx8⟩ := HCLS.out k hlb
              have hCk : CBox wr w2.heap.size X := (hBk.block _ hC.lt).trans hC
              have kc := hCk.cell hxc
              obtain ⟨u, ku⟩ : ∃ u, wr.cell? ⟨wo.heap.size, xc, none⟩ = some u := ⟨_, hZk.cell (List.getElem?_eq_getElem (by rw [byC_len]; exact hxn))⟩
              have fk := Lib.frozen_of_heap hZk xc
              have HZ2 : Hid (ZRow (wr.setCell ⟨wo.heap.size, xc, none⟩ (.int .i64 x)) wo.heap.size (byC r X nf (k + 1))) := by
                have h1 := hZk.put xc x
                show ZRow _ _ _
                rw [byC, List.getD_eq_getElem?_getD, hxc, List.getD_eq_getElem?_getD, hx]
                exact h1
              have HB3 : Hid (Below wo.heap.size wo (wr.setCell ⟨wo.heap.size, xc, none⟩ (.int .i64 x))) := hBk.setCell (p := ⟨wo.heap.size, xc, none⟩) (by simp) _
              have HN2 := HNF2.out
              clear hZk hCk
              go_wp2_with (fail)
              go_roundw
              case rel => exact ⟨k + 1, by go_num, by omega, HB3.out, HZ2.out⟩
              case measure => simp [intOf]; omega
            · obtain rfl : k = 256 := by omega
              have HMk := (show Hid _ from HM.out.later hBk)
              have hr256 : byC r X nf 256 = (firsts (colOf rows) 256).map fun c => r.getD c 0 := by
                rw [HXE.out, HNF.out]
                exact byC_all rows r (by rw [HRI.out]; exact List.getElem_mem hlr)
              rw [hr256] at hZk
              obtain ⟨og, oc, hnv⟩ := own_sl HMk.out.nx
              have kn := HMk.out.box.cn
              have fn := HMk.out.box.fz 256
              rw [hnv] at kn
              obtain ⟨wE, hwE⟩ : ∃ wE, wE = wr.alloc (.cells #[.slice (some ⟨wo.heap.size, 0, none⟩) nf nf] 39) := ⟨_, rfl⟩
              have bE : Below wr.heap.size wr wE := by rw [hwE]; exact below_alloc wr _
              have HME := (show Hid _ from HMk.out.later bE)
              have hownE := HME.out.nx
              rw [hnv] at hownE
              have hKE : w2.heap.size + 1 + 1 ≤ wE.heap.size := by have := HME.out.box.lt; omega
              have hnews : ∀ j u, ([Value.slice (some ⟨wo.heap.size, 0, none⟩) nf nf] : List Value)[j]? = some u → wE.cell? ((⟨wr.heap.size, 0, none⟩ : Addr).add j) = some u := fun j u hu => by
                rcases j with _ | j
                · simp at hu
                  subst hu
                  have h0 : wE.heap[wr.heap.size]? = some (.cells #[.slice (some ⟨wo.heap.size, 0, none⟩) nf nf] 39 (0, 0)) := by rw [hwE]; exact heap_alloc_new wr _
                  rw [show (⟨wr.heap.size, 0, none⟩ : Addr).add 0 = ⟨wr.heap.size, 0, none⟩ from rfl, Lib.cell_of_heap h0]; rfl
                · simp at hu
              have hZE : ZRow wE wo.heap.size ((firsts (colOf rows) 256).map fun c => r.getD c 0) := (bE.block _ hZk.lt).trans hZk
              have hon := fun g (e : nv.ownBlock = some g) => (own_lt HM.out.nx e).2
              have hoa := fun g (e : av.ownBlock = some g) => (own_lt HM.out.ac e).2
              have HFIN : Hid (∀ (nv2 : Value) (w7 : World), w7.ownsRow (w2.heap.size + 1 + 1) 39 1 nv2 (gs.length + 1) ((gs.map fun g => Value.slice (some ⟨g, 0, none⟩) nf nf) ++ [Value.slice (some ⟨wo.heap.size, 0, none⟩) nf nf]) → wE.grownBy w7 nv.ownBlock → (nv2.ownBlock = nv.ownBlock ∨ nv2.ownBlock = some wE.heap.size) →
                  w7.frozen? ⟨w2.heap.size + 1, 256, none⟩ = false ∧ (∃ u, w7.cell? ⟨w2.heap.size + 1, 256, none⟩ = some u) ∧ Hid (Mst (w2.heap.size + 1) w5 (w7.setCell ⟨w2.heap.size + 1, 256, none⟩ nv2) X nf (gs ++ [wo.heap.size]) (((rows.take gs.length).map fun r => (firsts (colOf rows) 256).map fun c => r.getD c 0) ++ [(firsts (colOf rows) 256).map fun c => r.getD c 0]) ((S.take gs.length).map fun s => df.acpt d s.toNat) nv2 av)) := fun nv2 w7 ho hg hob => by
                obtain ⟨h1, h2⟩ := HME.out.row hZE (by rw [List.length_map, HNF.out]) ⟨hgw, fun e => by have := hon _ e; omega, fun e => by have := hoa _ e; omega⟩ ho hg hob
                exact ⟨h2.fz 256, ⟨_, h2.cn⟩, h1⟩
              obtain ⟨i0, hi0, hz0, hz1, hz2⟩ := info_parts HI39.out
              have hSVo : (Value.slice og gs.length oc).ownBlock = nv.ownBlock := by rw [hnv]
              clear hZk hZ6 fn hnv hon hoa hr256
              go_wp2_with (at_builtin; rw [← hwE]; refine wpList_append_own_at wE rfl (.tmp 74) (.tmp 76) 23 rfl (w2.heap.size + 1 + 1) 39 i0 (.slice none 0 0) 1 24 Try.underlying23 hi0 hz0 hz1 hz2 rfl (by decide) (.slice og gs.length oc) gs.length (gs.map fun g => Value.slice (some ⟨g, 0, none⟩) nf nf) rfl hownE ⟨wr.heap.size, 0, none⟩ 1 1 [Value.slice (some ⟨wo.heap.size, 0, none⟩) nf nf] rfl rfl hnews (by simp [Value.oneCell']) (by unfold maxLen; omega) (by omega) hKE ?_; intro nv2 w7 hown7 hgr7 _ hob7; obtain ⟨g', cap', rfl⟩ := ownsRow_succ hown7; obtain ⟨t1, ⟨u1, t2⟩, T3⟩ := HFIN.out _ w7 hown7 (by rw [← hSVo]; exact hgr7) (by rw [← hSVo]; exact hob7); clear hown7 hgr7 hob7)
              obtain ⟨wC, hwC⟩ : ∃ wC, wC = w7.setCell ⟨w2.heap.size + 1, 256, none⟩ (.slice (some ⟨g', 0, none⟩) (gs.length + 1) cap') := ⟨_, rfl⟩
              rw [← hwC] at T3 ⊢
              clear hwC
              obtain ⟨wD, hwD⟩ : ∃ wD, wD = wC.drew := ⟨_, rfl⟩
              obtain ⟨rs2, hrs2⟩ : ∃ rs2, rs2 = (((rows.take gs.length).map fun r => (firsts (colOf rows) 256).map fun c => r.getD c 0) ++ [(firsts (colOf rows) 256).map fun c => r.getD c 0]) := ⟨_, rfl⟩
              obtain ⟨ac0, hac0⟩ : ∃ ac0, ac0 = (S.take gs.length).map fun s => df.acpt d s.toNat := ⟨_, rfl⟩
              have hal : ac0.length = gs.length := by rw [hac0, List.length_map, List.length_take]; omega
              rw [← hrs2, ← hac0] at T3
              have HMD : Hid (Mst (w2.heap.size + 1) w5 wD X nf (gs ++ [wo.heap.size]) rs2 ac0 (.slice (some ⟨g', 0, none⟩) (gs.length + 1) cap') av) := by
                show Mst _ _ _ _ _ _ _ _ _ _
                rw [hwD]
                exact T3.out.later (Below.refl _ _).drew
              have HRS : Hid (rs2 = (rows.take (gs.length + 1)).map fun r => (firsts (colOf rows) 256).map fun c => r.getD c 0) := by
                show _ = _
                rw [hrs2, List.take_succ_eq_append_getElem hlr, List.map_append, HRI.out]; rfl
              have HAS : Hid (ac0 ++ [df.acpt d s] = (S.take (gs.length + 1)).map fun s => df.acpt d s.toNat) := by
                show _ = _
                rw [hac0, List.take_succ_eq_append_getElem hlt, List.map_append, hs]; rfl
              have hWC := HBL.out wC T3.out.bel
              have xD := hWC.2.2.1
              have dD := hWC.2.2.2.2.1
              have kAD := xD.ac dD
              have hsl : s < d.acc.length := by have := (df.ok_of d hr).accs; omega
              obtain ⟨ba, oa, rfl, hba, kcc⟩ := df.acc_at dD s hsl
              have hf1 := dD.accs.fit
              have hf2 := dD.accs.top
              have kvD := T3.out.box.ca
              obtain ⟨og2, oc2, hav⟩ := own_sl HMD.out.ac
              obtain ⟨wE2, hwE2⟩ : ∃ wE2, wE2 = wD.alloc (.cells #[.bool (df.acpt d s)] 4) := ⟨_, rfl⟩
              have bE2 : Below wD.heap.size wD wE2 := by rw [hwE2]; exact below_alloc wD _
              have HME2 := (show Hid _ from HMD.out.later bE2)
              have hownE2 := HME2.out.ac
              have kvE := HME2.out.box.ca
              rw [hal] at hav
              rw [hav] at kvD kvE hownE2
              rw [hal] at hownE2
              have hKE2 : w2.heap.size + 1 + 1 ≤ wE2.heap.size := by have := HME2.out.box.lt; omega
              have hbE2 : wE2.heap[wC.heap.size]? = some (.cells #[.bool (df.acpt d s)] 4 (0, 0)) := by rw [hwE2, hwD]; exact heap_alloc_new wC.drew _
              have HFIN2 : Hid (∀ (av2 : Value) (w8 : World), w8.ownsRow (w2.heap.size + 1 + 1) 4 1 av2 (gs.length + 1) (ac0.map Value.bool ++ [Value.bool (df.acpt d s)]) → wE2.grownBy w8 av.ownBlock → (av2.ownBlock = av.ownBlock ∨ av2.ownBlock = some wE2.heap.size) →
                  w8.frozen? ⟨w2.heap.size + 1, 257, none⟩ = false ∧ (∃ u, w8.cell? ⟨w2.heap.size + 1, 257, none⟩ = some u) ∧ Hid (Mst (w2.heap.size + 1) w5 (w8.setCell ⟨w2.heap.size + 1, 257, none⟩ av2) X nf (gs ++ [wo.heap.size]) ((rows.take (gs.length + 1)).map fun r => (firsts (colOf rows) 256).map fun c => r.getD c 0) ((S.take (gs.length + 1)).map fun s => df.acpt d s.toNat) (.slice (some ⟨g', 0, none⟩) (gs.length + 1) cap') av2)) := fun av2 w8 ho hg hob => by
                obtain ⟨h1, h2⟩ := HME2.out.acc (by rw [hal]; exact ho) hg hob
                refine ⟨h2.fz 257, ⟨_, h2.ca⟩, ?_⟩
                show Mst _ _ _ _ _ _ _ _ _ _
                rw [← HRS.out, ← HAS.out]
                exact h1
              have hSVo2 : (Value.slice og2 gs.length oc2).ownBlock = av.ownBlock := by rw [hav]
              obtain ⟨q3, cq3, wG, eG, ho3, hg3, hob3⟩ := app24 (w := wE2) (g0 := wC.heap.size) (b := df.acpt d s) hal hownE2 hbE2 (by omega) hKE2
              rw [hSVo2] at hg3 hob3
              obtain ⟨t1, ⟨u1, t2⟩, T4⟩ := HFIN2.out _ wG ho3 hg3 hob3
              have hSW := HBL.out _ T4.out.bel
              have hqS : ∀ W : World, (∀ k, k < w.heap.size + 1 → W.heap[k]? = wC.heap[k]?) → (W.cell? ⟨w.heap.size, 257, none⟩ = some (.slice (some ⟨ba, oa, none⟩) d.acc.length acap) ∧ W.cell? ⟨ba, oa + s, none⟩ = some (.bool (df.acpt d s))) := fun W hW => by
                constructor
                · have h1 := kAD; simp only [World.cell?, hW w.heap.size (by omega)] at h1 ⊢; exact h1
                · have h1 := kcc; simp only [World.cell?, hW ba (by unfold df.In at hba; omega)] at h1 ⊢; exact h1
              have haq := HAQ.out
              have hb2s := HB2.out.size
              have hSz : w.heap.size + 1 < wC.heap.size := by have := hWC.2.2.2.2.2.2; omega
              have kS := hqS wC.drew (fun k hk => rfl)
              have kE := hqS wE2 (fun k hk => bE2.block k (by rw [hwD]; show k < wC.heap.size; omega) |>.trans (by rw [hwD]; rfl))
              have kH := hqS _ (fun k hk => (hSW.1 k (by omega)).trans (hWC.1 k (by omega)).symm)
              have kG := hqS wG (fun k hk => (Below.heap_setCell wG ⟨w2.heap.size + 1, 257, none⟩ _ k (by show k ≠ w2.heap.size + 1; omega)).symm.trans ((hSW.1 k (by omega)).trans (hWC.1 k (by omega)).symm))
              have hdl : d.acc.length ≤ 1000 := by have := (df.ok_of d hr).accs; omega
              clear hSW hWC hrs2 hac0 dD xD T3 kn hownE hnews hi0 hz0 hz1 hz2 hDA hX1 hX2 bE
              generalize df.acpt d s = bb at *
              refine wp_region_held (S := fun W => W.cell? ⟨w.heap.size, 257, none⟩ = some (.slice (some ⟨ba, oa, none⟩) d.acc.length acap) ∧ W.cell? ⟨ba, oa + s, none⟩ = some (.bool bb)) (by kernel_rfl) ?_
              refine rg.take_op (i := 0) 79 rfl rfl (rg.yields_run rfl (v := .pointer (some ⟨w2.heap.size + 1, 257, none⟩)) (fun W h => by kernel_rfl)) (by kernel_rfl) (by kernel_rfl) (by kernel_rfl) (fun _ _ _ h => h) kS ?_
              refine rg.take_op (i := 2) 81 rfl rfl (rg.yields_run rfl (v := .pointer (some ⟨w.heap.size, 257, none⟩)) (fun W h => by kernel_rfl)) (by kernel_rfl) (by kernel_rfl) (by kernel_rfl) (fun _ _ _ h => h) kS ?_
              refine rg.take_op (i := 3) 82 rfl rfl (rg.yields_run rfl (v := .slice (some ⟨ba, oa, none⟩) d.acc.length acap) (fun W h => x_load24 rfl rfl h.1)) (by kernel_rfl) (by kernel_rfl) (by kernel_rfl) (fun _ _ _ h => h) kS ?_
              refine rg.take_op (i := 4) 83 rfl rfl (rg.yields_run rfl (v := .int .i64 (s : Int)) (fun W h => by kernel_rfl)) (by kernel_rfl) (by kernel_rfl) (by kernel_rfl) (fun _ _ _ h => h) kS ?_
              refine rg.take_op (i := 5) 84 rfl rfl (rg.yields_run rfl (v := .pointer (some ⟨ba, oa + s, none⟩)) (fun W h => x_idx24 rfl rfl rfl hsl hdl)) (by kernel_rfl) (by kernel_rfl) (by kernel_rfl) (fun _ _ _ h => h) kS ?_
              refine rg.take_op (i := 6) 85 rfl rfl (rg.yields_run rfl (v := .bool bb) (fun W h => x_load4 rfl rfl h.2)) (by kernel_rfl) (by kernel_rfl) (by kernel_rfl) (fun _ _ _ h => h) kS ?_
              simp only [Act.put, List.setIfInBounds_toArray, List.set_cons_zero, List.set_cons_succ]
              refine rg.two (i := 1) (j := 7) (by kernel_rfl) ?_ ?_
              · refine rg.op_val 1 80 (v := .slice og2 gs.length oc2) (w' := wC.drew) rfl rfl rfl (x_load24 rfl rfl kvD) ⟨kS, ?_⟩
                simp only [Act.put, List.setIfInBounds_toArray, List.set_cons_zero, List.set_cons_succ]
                refine rg.one (i := 7) (by kernel_rfl) (rg.op_val 7 86 (v := .slice (some ⟨wC.heap.size, 0, none⟩) 1 1) (w' := wE2) rfl rfl rfl (by rw [hwE2, hwD]; exact x_build24 (w := wC.drew) rfl rfl) ⟨kE, ?_⟩)
                simp only [Act.put, List.setIfInBounds_toArray, List.set_cons_zero, List.set_cons_succ]
                refine rg.one (i := 8) (by kernel_rfl) (rg.op_val 8 87 (v := .slice (some ⟨q3, 0, none⟩) (gs.length + 1) cq3) (w' := wG) rfl rfl rfl (x_app24 rfl rfl rfl rfl eG) ⟨kG, ?_⟩)
                simp only [Act.put, List.setIfInBounds_toArray, List.set_cons_zero, List.set_cons_succ]
                refine rg.take_op (i := 9) 88 rfl rfl (rg.yields_run rfl (v := .pointer (some ⟨w2.heap.size + 1, 257, none⟩)) (fun W h => by kernel_rfl)) (by kernel_rfl) (by kernel_rfl) (by kernel_rfl) (fun _ _ _ h => h) kG ?_
                simp only [Act.put, List.setIfInBounds_toArray, List.set_cons_zero, List.set_cons_succ]
                refine rg.one (i := 10) (by kernel_rfl) (rg.op_skip 10 rfl rfl rfl (x_store24 rfl rfl rfl t2 t1) ⟨kH, ?_⟩)
                refine rg.done_op (by kernel_rfl) ?_
                go_wp2_with (fail)
                go_roundw
                case rel => exact ⟨gs.length + 1, _, _, _, by go_num, by omega, by simp, T4⟩
                case measure => simp [intOf]; omega
              · refine rg.op_val 7 86 (v := .slice (some ⟨wC.heap.size, 0, none⟩) 1 1) (w' := wE2) rfl rfl rfl (by rw [hwE2, hwD]; exact x_build24 (w := wC.drew) rfl rfl) ⟨kE, ?_⟩
                simp only [Act.put, List.setIfInBounds_toArray, List.set_cons_zero, List.set_cons_succ]
                refine rg.one (i := 1) (by kernel_rfl) (rg.op_val 1 80 (v := .slice og2 gs.length oc2) (w' := wE2) rfl rfl rfl (x_load24 rfl rfl kvE) ⟨kE, ?_⟩)
                simp only [Act.put, List.setIfInBounds_toArray, List.set_cons_zero, List.set_cons_succ]
                refine rg.one (i := 8) (by kernel_rfl) (rg.op_val 8 87 (v := .slice (some ⟨q3, 0, none⟩) (gs.length + 1) cq3) (w' := wG) rfl rfl rfl (x_app24 rfl rfl rfl rfl eG) ⟨kG, ?_⟩)
                simp only [Act.put, List.setIfInBounds_toArray, List.set_cons_zero, List.set_cons_succ]
                refine rg.take_op (i := 9) 88 rfl rfl (rg.yields_run rfl (v := .pointer (some ⟨w2.heap.size + 1, 257, none⟩)) (fun W h => by kernel_rfl)) (by kernel_rfl) (by kernel_rfl) (by kernel_rfl) (fun _ _ _ h => h) kG ?_
                simp only [Act.put, List.setIfInBounds_toArray, List.set_cons_zero, List.set_cons_succ]
                refine rg.one (i := 10) (by kernel_rfl) (rg.op_skip 10 rfl rfl rfl (x_store24 rfl rfl rfl t2 t1) ⟨kH, ?_⟩)
                refine rg.done_op (by kernel_rfl) ?_
                go_wp2_with (fail)
                go_roundw
                case rel => exact ⟨gs.length + 1, _, _, _, by go_num, by omega, by simp, T4⟩
                case measure => simp [intOf]; omega
        · have hM := HM.out
          have hrT : rows.take gs.length = rows := List.take_of_length_le (by have := HRL.out; omega)
          have hsT : S.take gs.length = S := List.take_of_length_le (by omega)
          rw [hrT, hsT] at hM
          obtain ⟨cl2, hb2, hd2⟩ := hM.box
          have hcs := hd2.size
          have hone2 : cl2.all (·.oneCell') = true := by
            obtain ⟨o1, c1, e1⟩ := own_sl hM.nx
            obtain ⟨o2, c2, e2⟩ := own_sl hM.ac
            rw [e1, e2] at hd2
            exact hd2.one
          have hi26 := df.info26 cl2 hcs
          have HMM := (show Hid _ from hM)
          have HD2 := (show Hid _ from hd2)
          have HBW := (show Hid _ from hBw)
          have haq := HAQ.out
          have hb2s := HB2.out.size
          clear hM hd2 hDA hX1 hBw hC hk
          go_wp2_with (first | (refine wpList_load_row rfl 26 (.tmp 7) rfl (w2.heap.size + 1) rfl 26 cl2 (0, 0) _ hb2 Try.underlying26 rfl hi26 ?_) | (refine wpList_store_row rfl 26 (.tmp 2) (.tmp 90) rfl (w.heap.size + 1) cl2 rfl rfl 26 _ hX2 hi26 (by rw [z26_size, hcs]) hone2 ?_))
          refine bodyPost_ret (results_cell_row Try.results24 _ _ (w.heap.size + 1) 26 _ (0, 0) _ rfl (setRow_heap wr _ _ cl2 _ _ hX2) Try.underlying26 rfl hi26) rfl ?_
          have hX8 : ∀ x ∈ X, x < 256 := fun x hx => by
            obtain ⟨b, hb, e⟩ := List.mem_iff_getElem.1 hx
            obtain ⟨y, e1, _, e2⟩ := HCLS.out b (by omega)
            rw [List.getElem?_eq_getElem hb, e] at e1
            rw [Option.some.inj e1]; exact e2
          obtain ⟨o', c', ao', ac', hDAT⟩ := HMM.out.dat (w' := wr.setRow (w.heap.size + 1) cl2) HD2.out hXL hX8 HNF2.out (fun k hk => setRow_other _ _ _ _ (by omega))
          refine ⟨_, cl2, o', ao', c', ac', rfl, hDAT.carry (fun _ _ => rfl) (fun b hb => ⟨by omega, hb.2⟩), ?_, below_setRow HBW.out (by omega) _, (by have h1 := HG.out.few; have h2 := HRL.out; show (rows.map _).length ≤ _; rw [List.length_map]; omega)⟩
          have hL := HG.out.least
          have hcl : (List.range 256).map (fun i => X.getD i 0) = X := by
            apply List.ext_getElem (by simp [hXL])
            intro j h1 h2
            rw [List.getElem_map, List.getElem_range, List.getD_eq_getElem?_getD, List.getElem?_eq_getElem h2]; rfl
          show Least _ ((List.range 256).map fun i => X.getD i 0) _ _
          rw [hcl, HXE.out]
          exact hL
end Go.Proofs.Ytkdkibnjfgcppaa.mi
