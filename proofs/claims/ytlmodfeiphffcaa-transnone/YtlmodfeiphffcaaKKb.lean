/-
  Contracts over this program: a step and the end of two machines, one behind the other (chain.step, chain.end).
-/
import Derived.Test.YtlmodfeiphffcaaKKa
import Derived.Laws.ResultCell
namespace Go.Proofs.Ytlmodfeiphffcaa.tr
open Go.ChangeShapes Go.WideShapes Go.ChangeAt Go.RowKit Go.Shelf
set_option linter.unusedVariables false

/-- two machines in a cell of their own -/
def CBox (w : World) (g : Nat) (a : Mc) (pa : Mp) (b : Mc) (pb : Mp) : Prop := w.heap[g]? = some (.cells (mv a pa ++ mv b pb) 73 (0, 0))
section
variable {w w' : World} {g : Nat} {a b : Mc} {pa pb : Mp}
theorem CBox.lt (h : CBox w g a pa b pb) : g < w.heap.size := (Array.getElem?_eq_some_iff.1 h).1
theorem CBox.low {B : Nat} (h : CBox w g a pa b pb) (hg : g < B) (c : Below B w w') : CBox w' g a pa b pb := by unfold CBox; rw [c.block g hg]; exact h
theorem CBox.a4 (h : CBox w g a pa b pb) : At4 w g 0 a pa := ⟨by rw [Lib.cell_of_heap h]; rfl, by rw [Lib.cell_of_heap h]; rfl, by rw [Lib.cell_of_heap h]; rfl, by rw [Lib.cell_of_heap h]; rfl⟩
theorem CBox.b4 (h : CBox w g a pa b pb) : At4 w g 4 b pb := ⟨by rw [Lib.cell_of_heap h]; rfl, by rw [Lib.cell_of_heap h]; rfl, by rw [Lib.cell_of_heap h]; rfl, by rw [Lib.cell_of_heap h]; rfl⟩
theorem CBox.c0 (h : CBox w g a pa b pb) : w.cell? ⟨g, 0, none⟩ = some (.slice pa.no a.next.length pa.nc) := h.a4.c0
theorem CBox.c1 (h : CBox w g a pa b pb) : w.cell? ⟨g, 1, none⟩ = some (.slice pa.po a.put.length pa.pc) := h.a4.c1
theorem CBox.c2 (h : CBox w g a pa b pb) : w.cell? ⟨g, 2, none⟩ = some (.slice pa.eo a.fin.length pa.ec) := h.a4.c2
theorem CBox.c3 (h : CBox w g a pa b pb) : w.cell? ⟨g, 3, none⟩ = some (.slice pa.xo a.txt.length pa.xc) := h.a4.c3
end
/-- what lies below B: the two machines -/
structure Cn (B : Nat) (w : World) (g : Nat) (a : Mc) (pa : Mp) (b : Mc) (pb : Mp) : Prop where
  bx : CBox w g a pa b pb
  ma : MAt (Lo B) w a pa
  mb : MAt (Lo B) w b pb
  gl : g < B
theorem Cn.low {B : Nat} {w w' : World} {g : Nat} {a b : Mc} {pa pb : Mp} (h : Cn B w g a pa b pb) (c : Below B w w') : Cn B w' g a pa b pb := ⟨h.bx.low h.gl c, h.ma.low c, h.mb.low c, h.gl⟩
theorem At4.drew {w : World} {g off : Nat} {m : Mc} {p : Mp} (h : At4 w g off m p) : At4 w.drew g off m p := ⟨h.c0, h.c1, h.c2, h.c3⟩
theorem MAt.drew {P : Nat → Prop} {w : World} {m : Mc} {p : Mp} (h : MAt P w m p) : MAt P w.drew m p := h.carry (fun _ _ => rfl) (fun _ h => h)
theorem Cn.drewN {B : Nat} {w : World} {g : Nat} {a b : Mc} {pa pb : Mp} (h : Cn B w g a pa b pb) (n : Nat) : Cn B (w.drewN n) g a pa b pb := h.low (below_drewN (Below.refl _ _) n)
/-- what was cut off was too long, and so is the whole -/
def Cut (o full : List UInt8) : Prop := 4097 < o.length ∧ 4097 < full.length
theorem alo_even {b : Mc} {y y1 : Nat} {t o1 : List UInt8} (h : Alo b y t [] 4097 o1 y1) : go b y t = (o1, y1) ∨ Cut o1 (go b y t).1 := by
  obtain ⟨i, hi, h1, h2, h3⟩ := h
  rcases h3 with rfl | h3
  · left
    rw [List.take_length, List.nil_append] at h1
    rw [List.take_length] at h2
    rw [h1, h2]
  · refine .inr ⟨h3, ?_⟩
    have := go_take_le b y t i
    rw [List.nil_append] at h1
    rw [← h1] at this
    omega
theorem alo_odd {b : Mc} {y y1 : Nat} {t o1 : List UInt8} (h : Alo b y t [] 4097 o1 y1) (c : UInt8) : go b y (t ++ [c]) = (o1 ++ outp b y1 c, nx b y1 c.toNat) ∨ Cut (o1 ++ outp b y1 c) (go b y (t ++ [c])).1 := by
  rcases alo_even h with e | e
  · left
    rw [go_snoc, e]
  · right
    obtain ⟨e1, e2⟩ := e
    rw [go_snoc]
    refine ⟨?_, ?_⟩
    · rw [List.length_append]; omega
    · simp only [List.length_append]; omega
theorem results_tmp_cell {fn : Func} {u p : Tmp} {ty : TypeId} (h : fn.results = #[.tmp u, .cell p ty]) (tmps : Array Value) (P : Program) (w : World) :
    (results fn tmps).run P w = ((asAddr (tmps.getD p undef)).run P w).andThen fun a w1 => ((loadVar ty a).run P w1).andThen fun v w2 => .ok (.tuple #[tmps.getD u undef, v]) w2 := by
  simp only [results, h]
  simp [Sem.run_bind, Result.andThen]
theorem two_set {W : World} {g : Nat} {a b u v : Value} (h : W.heap[g]? = some (.cells #[a, b] 76 (0, 0))) : ((W.setCell ⟨g, 0, none⟩ u).setCell ⟨g, 1, none⟩ v).heap[g]? = some (.cells #[u, v] 76 (0, 0)) := by
  rw [set_heap _ g _ _ 1 _ (set_heap W g _ _ 0 u h)]
  rfl
theorem Gr.set {w W : World} {v v' : Value} (h : Gr w v W v') {g : Nat} (hg : w.heap.size ≤ g) (i : Nat) (u : Value) : Gr w v (W.setCell ⟨g, i, none⟩ u) v' :=
  ⟨⟨h.gr.os, h.gr.tape, h.gr.output, by have := h.gr.size; simpa [World.setCell] using this, fun k hk hne => (Below.heap_setCell _ _ _ _ (show k ≠ g by omega)).trans (h.gr.block k hk hne)⟩, h.wh⟩
theorem Buf.set {B : Nat} {v : Value} {xs : List UInt8} {W : World} (h : Buf B v xs W) {g : Nat} {cs : Array Value} {T : TypeId} {fr : Nat × Nat} (hg : W.heap[g]? = some (.cells cs T fr)) (hT : T ≠ 5) (i : Nat) (u : Value) : Buf B v xs (W.setCell ⟨g, i, none⟩ u) :=
  ⟨own_keep h.1 fun k ek => Below.heap_setCell _ _ _ _ (fun e => by subst e; exact ow.type h.1 hg hT ek.symm), by have := h.2; simpa [World.setCell] using this⟩
theorem Gr.drew {w w' : World} {v v' : Value} (h : Gr w v w' v') : Gr w v w'.drew v' := ⟨⟨h.gr.os, h.gr.tape, h.gr.output, h.gr.size, h.gr.block⟩, h.wh⟩
/-- what a step hands back: a slot and a cell of two numbers -/
theorem ret76 {fn : Func} {u p : Tmp} (h : fn.results = #[.tmp u, .cell p 76]) {a : Act} {W : World} {R : Ending → World → Prop} (g : Nat) (i j : Int) (v : Value) (hp : a.tmps.getD p undef = .pointer (some ⟨g, 0, none⟩)) (hA : W.heap[g]? = some (.cells #[.int .i64 i, .int .i64 j] 76 (0, 0))) (hu : a.tmps.getD u undef = v) (hd : a.defers = [])
    (hR : R (.returned (.tuple #[v, .agg #[.int .i64 i, .int .i64 j]])) W) : bodyPost Try.prog fn R .ret a W :=
  bodyPost_ret (by rw [results_tmp_cell h, hp, hu]; simp [asAddr, Result.andThen, run_loadVar_row W g 76 76 _ (0, 0) _ hA Try.underlying76 rfl (by kernel_rfl)]) hd hR
def StepOut (B : Nat) (a b : Mc) (x y : Nat) (c : UInt8) (v : Value) (w : World) (e : Ending) (w' : World) : Prop := ∃ v' o y', e = .returned (.tuple #[v', .agg #[.int .i64 ((nx a x c.toNat : Nat) : Int), .int .i64 ((y' : Nat) : Int)]]) ∧ Buf B v' o w' ∧ Gr w v w' v' ∧ y' < b.next.length ∧ o.length ≤ 3000000 ∧ (go b y (outp a x c) = (o, y') ∨ Cut o (go b y (outp a x c)).1)
set_option maxHeartbeats 4000000 in
set_option maxRecDepth 100000 in
theorem cstep_any (a b : Mc) (hA : Right a) (hB : Right b) (x y : Nat) (hx : x < a.next.length) (hy : y < b.next.length) (c : UInt8) (B g : Nat) (pa pb : Mp) (v : Value) (w : World) (hC : Cn B w g a pa b pb) (hb : Buf B v [] w) :
    Calls Try.prog 40 #[.pointer (some ⟨g, 0, none⟩), v, .agg #[.int .i64 (x : Int), .int .i64 (y : Int)], .int .u8 (c.toNat : Int)] w (StepOut B a b x y c v w) := by
  have hc8 := c.toNat_lt
  obtain ⟨wA, HWA⟩ : ∃ wA, Hid (wA = (w.alloc (.cells #[.int .i64 (x : Int), .int .i64 (y : Int)] 76)).alloc (.cells #[.int .i64 0, .int .i64 0] 76)) := ⟨_, rfl⟩
  have B0 : Below w.heap.size w wA := by rw [HWA.out]; exact chain (below_alloc w _) (below_alloc _ _)
  have hA6 : wA.heap[w.heap.size]? = some (.cells #[.int .i64 (x : Int), .int .i64 (y : Int)] 76 (0, 0)) := by
    rw [HWA.out, Below.heap_alloc _ _ _ (by rw [World.size_alloc]; omega)]
    exact heap_alloc_new w _
  have hA9 : wA.heap[w.heap.size + 1]? = some (.cells #[.int .i64 0, .int .i64 0] 76 (0, 0)) := by
    rw [HWA.out]
    have := heap_alloc_new (w.alloc (.cells #[.int .i64 (x : Int), .int .i64 (y : Int)] 76)) (.cells #[.int .i64 0, .int .i64 0] 76)
    rw [World.size_alloc] at this
    exact this
  have hbA := hb.later B0
  have hBw := hb.2
  have hCA := hC.low (B0.mono hBw)
  have hvA : ∀ k, v.ownBlock = some k → k < w.heap.size := fun k hk => (hb.1.lt k hk).2
  go_enter Try.func40, Try.ntmps40
  go_wp2_with (fail)
  rw [← HWA.out]
  clear HWA
  obtain ⟨pb', poff, rb, roff, rc, e1, h1, h2, h3, h4, h5, h6⟩ := hCA.ma.put_at hA hx hc8
  have hq := hA.pt_lt hx hc8
  have HQ : Hid (outp a x c = (tx a (pt a x c.toNat / 2)).data.toList ++ (if pt a x c.toNat % 2 = 1 then [c] else [])) := rfl
  obtain ⟨xb, xoff, e7, h7, h8⟩ := hCA.ma.tx_at (k := pt a x c.toNat / 2) (by omega)
  have k1 := hCA.bx.c1
  have k3 := hCA.bx.c3
  have t0 := hC.ma.rnx.fit
  have t1 := hC.ma.rnx.top
  have t2 := hC.ma.rpt.fit
  have t3 := hC.ma.rpt.top
  have t6 := hC.ma.rtx.fit
  have t7 := hC.ma.rtx.top
  have hpl : x < a.put.length := by rw [hA.puts]; exact hx
  have htl := hA.tx_le (pt a x c.toNat / 2)
  have m60 : wA.cell? ⟨w.heap.size, 0, none⟩ = some (.int .i64 (x : Int)) := by rw [Lib.cell_of_heap hA6]; rfl
  have m61 : wA.cell? ⟨w.heap.size, 1, none⟩ = some (.int .i64 (y : Int)) := by rw [Lib.cell_of_heap hA6]; rfl
  have HNX : Hid (∀ W, Cn B W g a pa b pb → ∃ nb noff sb soff sc, pa.no = some ⟨nb, noff, none⟩ ∧ W.cell? ⟨g, 0, none⟩ = some (.slice pa.no a.next.length pa.nc) ∧ W.cell? ⟨nb, noff + x, none⟩ = some (.slice (some ⟨sb, soff, none⟩) 256 sc) ∧ W.cell? ⟨sb, soff + c.toNat, none⟩ = some (.int .i64 (nx a x c.toNat : Int)) ∧ 256 ≤ sc ∧ sc ≤ 9223372036854775807) := fun W h => by
    obtain ⟨nb, noff, sb, soff, sc, e, q1, q2, q3, q4, q5, q6⟩ := h.ma.next_at hA hx hc8
    exact ⟨nb, noff, sb, soff, sc, e, h.bx.c0, q2, q4, q5, q6⟩
  have HAL := (show Hid _ from along2 b hB y hy (tx a (pt a x c.toNat / 2)) (by omega) 4097 (by omega))
  have HOV : Hid (∀ y', y' < b.next.length → Over2 b y' c) := fun y' h => over2 b hB y' h c
  have gl := hC.gl
  have HCA := (show Hid _ from hCA)
  have HBA := (show Hid _ from hbA)
  have HBN := (show Hid (∀ k, v.ownBlock = some k → k < w.heap.size) from hvA)
  obtain ⟨no, nc, po, pc, eo, ec, xo, xc⟩ := pa
  simp only at e1 e7
  subst e1 e7
  generalize pt a x c.toNat = q at *
  generalize tx a (q / 2) = t at *
  have hd := div2 q
  have hmd := mod2 q
  obtain ⟨vg, vc, rfl, v1, v2⟩ := hb.form
  have hq2 : q / 2 < a.txt.length := by omega
  clear hC hCA hb hbA hvA
  go_quiet (fail)
  go_wp2_with (fail)
  have B1 := below_drewN B0 nq
  have HC1 := (show Hid _ from HCA.out.drewN nq)
  have HB1 : Hid (Buf B (.slice vg [].length vc) [] (wA.drewN nq)) := HBA.out
  have g6 : (wA.drewN nq).heap[w.heap.size]? = some (.cells #[.int .i64 (x : Int), .int .i64 (y : Int)] 76 (0, 0)) := hA6
  have g9 : (wA.drewN nq).heap[w.heap.size + 1]? = some (.cells #[.int .i64 0, .int .i64 0] 76 (0, 0)) := hA9
  have m61' : (wA.drewN nq).cell? ⟨w.heap.size, 1, none⟩ = some (.int .i64 (y : Int)) := m61
  have k3' := HC1.out.bx.c3
  have h8' : (wA.drewN nq).cell? ⟨xb, xoff + q / 2, none⟩ = some (.string t) := h8
  clear B0 HCA HBA hA6 hA9 m60 m61 k1 k3 h2 h4 h8
  generalize wA.drewN nq = w1 at *
  have c30 := HAL.out B g 4 pb (.slice vg 0 vc) [] w1.drew HC1.out.bx.b4.drew gl HC1.out.mb.drew HB1.out.drew (by simp)
  have l6 := (Array.getElem?_eq_some_iff.1 g6).1
  have l9 := (Array.getElem?_eq_some_iff.1 g9).1
  have HKEEP : Hid (∀ W v', Gr w1 (.slice vg 0 vc) W v' → Cn B W g a ⟨no, nc, some ⟨pb', poff, none⟩, pc, eo, ec, some ⟨xb, xoff, none⟩, xc⟩ b pb ∧ W.heap[w.heap.size]? = some (.cells #[.int .i64 (x : Int), .int .i64 (y : Int)] 76 (0, 0)) ∧ W.heap[w.heap.size + 1]? = some (.cells #[.int .i64 0, .int .i64 0] 76 (0, 0))) := fun W v' hG => by
    refine ⟨HC1.out.low (hG.below HB1.out), ?_, ?_⟩
    · rw [hG.gr.block _ l6 (fun e => by have := HBN.out _ e.symm; omega)]; exact g6
    · rw [hG.gr.block _ l9 (fun e => by have := HBN.out _ e.symm; omega)]; exact g9
  have hfw := hA.few
  have hwq : IntKind.i64.wrap ((q : Int) / 2) = ((q / 2 : Nat) : Int) := by
    rw [show (q : Int) / 2 = ((q / 2 : Nat) : Int) by omega]
    exact IntWalk.i64_in _ (by omega)
  have hqn : ((q : Int) / 2).toNat = q / 2 := by omega
  have hql : (q : Int) / 2 < (a.txt.length : Int) := by omega
  have hq0 : 0 ≤ (q : Int) / 2 := by omega
  clear l6 l9 HAL
  go_region_law (go_wp2_with (go_at_call 28; refine c30.mono ?_; rintro e w2 ⟨v2', o1, y1, rfl, hb2, hG2, hy1, hl1, HA1⟩))
  all_goals
    obtain ⟨vg2, vc2, hv2, v12, v22⟩ := hb2.form
    subst hv2
    have hG2 := hG2.undrew
    clear hqn hql hq0 hwq c30 hfw
    by_cases hodd : q % 2 = 1
    · rw [hodd] at hmd
      have HR : Hid (go b y (outp a x c) = (o1 ++ outp b y1 c, nx b y1 c.toNat) ∨ Cut (o1 ++ outp b y1 c) (go b y (outp a x c)).1) := by
        show _ ∨ _
        rw [HQ.out, if_pos hodd]
        exact alo_odd HA1 c
      have hnl := hB.nx_lt hy1 hc8
      have hol := outp_len hB y1 c
      have c51 := HOV.out y1 hy1 B g 4 pb _ o1 w2 (HKEEP.out w2 _ hG2).1.bx.b4 gl (HKEEP.out w2 _ hG2).1.mb hb2 (by omega)
      clear hodd HQ HA1
      go_wp2_with (go_at_call 49; refine c51.mono ?_; rintro e w3 ⟨v3, rfl, hb3, hG3⟩; have hG3 := hG2.trans hG3; obtain ⟨vg3, vc3, hv3, v13, v23⟩ := hb3.form; subst hv3; rw [List.length_append] at hb3 hG3 v13 ⊢; obtain ⟨HCn, r6, r9⟩ := HKEEP.out w3 _ hG3; obtain ⟨nb, noff, sb, soff, sc, en, n1, n2, n3, n4, n5⟩ := HNX.out w3 HCn; subst en)
      have s0 : w3.cell? ⟨w.heap.size, 0, none⟩ = some (.int .i64 (x : Int)) := by rw [Lib.cell_of_heap r6]; rfl
      have s1 : w3.cell? ⟨w.heap.size + 1, 0, none⟩ = some (.int .i64 0) := by rw [Lib.cell_of_heap r9]; rfl
      have s2 : w3.cell? ⟨w.heap.size + 1, 1, none⟩ = some (.int .i64 0) := by rw [Lib.cell_of_heap r9]; rfl
      have s3 : w3.frozen? ⟨w.heap.size + 1, 0, none⟩ = false := Lib.frozen_of_heap r9 0
      have s4 : w3.frozen? ⟨w.heap.size + 1, 1, none⟩ = false := Lib.frozen_of_heap r9 1
      have hci : (c.toNat : Int) < 256 := by omega
      go_region_law (fail)
      all_goals
        clear hci
        go_wp2_with (fail)
        refine ret76 Try.results40 (w.heap.size + 1) ((nx a x c.toNat : Nat) : Int) ((nx b y1 c.toNat : Nat) : Int) (.slice vg3 (o1.length + (outp b y1 c).length) vc3) rfl (two_set (W := w3) r9) rfl rfl ?_
        exact ⟨.slice vg3 (o1.length + (outp b y1 c).length) vc3, o1 ++ outp b y1 c, nx b y1 c.toNat, rfl, ((hb3.set r9 (by decide) 0 _).set (set_heap _ _ _ _ 0 _ r9) (by decide) 1 _).drew, (((Gr.ahead B1 hG3).set (by omega) 0 _).set (by omega) 1 _).drew, hnl, by rw [List.length_append]; omega, HR.out⟩
    · have HR : Hid (go b y (outp a x c) = (o1, y1) ∨ Cut o1 (go b y (outp a x c)).1) := by
        show _ ∨ _
        rw [HQ.out, if_neg hodd, List.append_nil]
        exact alo_even HA1
      have hz : q % 2 = 0 := by omega
      rw [hz] at hmd
      obtain ⟨HCn, r6, r9⟩ := HKEEP.out w2 _ hG2
      obtain ⟨nb, noff, sb, soff, sc, en, n1, n2, n3, n4, n5⟩ := HNX.out w2 HCn
      subst en
      clear hodd HQ HA1 hz
      go_wp2_with (fail)
      have s0 : w2.cell? ⟨w.heap.size, 0, none⟩ = some (.int .i64 (x : Int)) := by rw [Lib.cell_of_heap r6]; rfl
      have s1 : w2.cell? ⟨w.heap.size + 1, 0, none⟩ = some (.int .i64 0) := by rw [Lib.cell_of_heap r9]; rfl
      have s2 : w2.cell? ⟨w.heap.size + 1, 1, none⟩ = some (.int .i64 0) := by rw [Lib.cell_of_heap r9]; rfl
      have s3 : w2.frozen? ⟨w.heap.size + 1, 0, none⟩ = false := Lib.frozen_of_heap r9 0
      have s4 : w2.frozen? ⟨w.heap.size + 1, 1, none⟩ = false := Lib.frozen_of_heap r9 1
      have hci : (c.toNat : Int) < 256 := by omega
      go_region_law (fail)
      all_goals
        clear hci
        go_wp2_with (fail)
        refine ret76 Try.results40 (w.heap.size + 1) ((nx a x c.toNat : Nat) : Int) ((y1 : Nat) : Int) (.slice vg2 o1.length vc2) rfl (two_set (W := w2) r9) rfl rfl ?_
        exact ⟨.slice vg2 o1.length vc2, o1, y1, rfl, ((hb2.set r9 (by decide) 0 _).set (set_heap _ _ _ _ 0 _ r9) (by decide) 1 _).drew, (((Gr.ahead B1 hG2).set (by omega) 0 _).set (by omega) 1 _).drew, hy1, by omega, HR.out⟩
end Go.Proofs.Ytlmodfeiphffcaa.tr
