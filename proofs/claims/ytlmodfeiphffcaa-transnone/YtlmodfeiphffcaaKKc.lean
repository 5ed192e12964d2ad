/-
  Contracts over this program: the end of two machines, one behind the other (chain.end).
-/
import Derived.Test.YtlmodfeiphffcaaKKb
namespace Go.Proofs.Ytlmodfeiphffcaa.tr
open Go.ChangeShapes Go.WideShapes Go.ChangeAt Go.RowKit Go.Shelf
set_option linter.unusedVariables false

def EndOut (B : Nat) (a b : Mc) (x y : Nat) (v : Value) (w : World) (e : Ending) (w' : World) : Prop := ∃ v' o, e = .returned v' ∧ Buf B v' o w' ∧ Gr w v w' v' ∧ o.length ≤ 3000000 ∧ (total b y (tx a (en a x)).data.toList = o ∨ Cut o (total b y (tx a (en a x)).data.toList))
set_option maxHeartbeats 4000000 in
set_option maxRecDepth 100000 in
theorem cend_any (a b : Mc) (hA : Right a) (hB : Right b) (x y : Nat) (hx : x < a.next.length) (hy : y < b.next.length) (B g : Nat) (pa pb : Mp) (v : Value) (w : World) (hC : Cn B w g a pa b pb) (hb : Buf B v [] w) :
    Calls Try.prog 41 #[.pointer (some ⟨g, 0, none⟩), v, .agg #[.int .i64 (x : Int), .int .i64 (y : Int)]] w (EndOut B a b x y v w) := by
  obtain ⟨wA, HWA⟩ : ∃ wA, Hid (wA = w.alloc (.cells #[.int .i64 (x : Int), .int .i64 (y : Int)] 76)) := ⟨_, rfl⟩
  have B0 : Below w.heap.size w wA := by rw [HWA.out]; exact below_alloc w _
  have hA6 : wA.heap[w.heap.size]? = some (.cells #[.int .i64 (x : Int), .int .i64 (y : Int)] 76 (0, 0)) := by rw [HWA.out]; exact heap_alloc_new w _
  have hbA := hb.later B0
  have hBw := hb.2
  have hCA := hC.low (B0.mono hBw)
  obtain ⟨eb, eoff, e1, h1, h2⟩ := hCA.ma.fin_at hA hx
  have hq := hA.en_lt hx
  obtain ⟨xb, xoff, e7, h7, h8⟩ := hCA.ma.tx_at hq
  have k2 := hCA.bx.c2
  have k3 := hCA.bx.c3
  have t4 := hC.ma.ren.fit
  have t5 := hC.ma.ren.top
  have t6 := hC.ma.rtx.fit
  have t7 := hC.ma.rtx.top
  have hfl : x < a.fin.length := by rw [hA.fins]; exact hx
  have htl := hA.tx_le (en a x)
  have m60 : wA.cell? ⟨w.heap.size, 0, none⟩ = some (.int .i64 (x : Int)) := by rw [Lib.cell_of_heap hA6]; rfl
  have m61 : wA.cell? ⟨w.heap.size, 1, none⟩ = some (.int .i64 (y : Int)) := by rw [Lib.cell_of_heap hA6]; rfl
  have c30 := along2 b hB y hy (tx a (en a x)) (by omega) 4097 (by omega) B g 4 pb v [] wA.drew hCA.bx.b4.drew hC.gl hCA.mb.drew hbA.drew (by simp)
  have HFI : Hid (∀ y', y' < b.next.length → Fin2 b y') := fun y' h => fin2 b hB y' h
  have gl := hC.gl
  have HCA := (show Hid _ from hCA)
  have HBA := (show Hid _ from hbA)
  have HTT : Hid (∀ o1 y1, Alo b y (tx a (en a x)).data.toList [] 4097 o1 y1 → total b y (tx a (en a x)).data.toList = o1 ++ (tx b (en b y1)).data.toList ∨ Cut (o1 ++ (tx b (en b y1)).data.toList) (total b y (tx a (en a x)).data.toList)) := fun o1 y1 h => by
    rcases alo_even h with e | e
    · left
      unfold total
      rw [e]
    · right
      obtain ⟨e1, e2⟩ := e
      unfold total
      refine ⟨?_, ?_⟩
      · rw [List.length_append]; omega
      · rw [List.length_append]; omega
  obtain ⟨no, nc, po, pc, eo, ec, xo, xc⟩ := pa
  simp only at e1 e7
  subst e1 e7
  have HEQ : Hid (EndOut B a b x y v w = EndOut B a b x y v w) := rfl
  generalize hqe : en a x = q at *
  have HQE : Hid (en a x = q) := hqe
  generalize htx : tx a q = t at *
  have HTX : Hid (tx a q = t) := htx
  obtain ⟨vg, vc, rfl, v1, v2⟩ := hb.form
  clear hC hCA hb hbA htx hqe
  go_enter Try.func41, Try.ntmps41
  go_wp2_with (fail)
  rw [← HWA.out]
  clear HWA
  go_region_law (go_wp2_with (go_at_call 28; refine c30.mono ?_; rintro e w2 ⟨v2', o1, y1, rfl, hb2, hG2, hy1, hl1, HA1⟩))
  all_goals
    obtain ⟨vg2, vc2, hv2, v12, v22⟩ := hb2.form
    subst hv2
    have hG2 := hG2.undrew
    have HC2 := HCA.out.low (hG2.below HBA.out)
    have c31 := HFI.out y1 hy1 B g 4 pb _ o1 w2 HC2.bx.b4 gl HC2.mb hb2 (by omega)
    have hR := HTT.out o1 y1 HA1
    have htb := hB.tx_le (en b y1)
    go_wp2_with (go_at_call 29; refine c31.mono ?_; rintro e w3 ⟨v3, rfl, hb3, hG3⟩; have hG3 := hG2.trans hG3; obtain ⟨vg3, vc3, hv3, v13, v23⟩ := hb3.form; subst hv3)
    go_ret
    rw [List.length_append, list_len] at hb3 hG3
    exact ⟨.slice vg3 (o1.length + (tx b (en b y1)).size) vc3, o1 ++ (tx b (en b y1)).data.toList, rfl, hb3, Gr.ahead B0 hG3, by rw [List.length_append, list_len]; omega, by rw [HQE.out, HTX.out]; exact hR⟩
end Go.Proofs.Ytlmodfeiphffcaa.tr
