/-
  Contracts over this program: the document's Coming (fretsawref20).
-/
import Derived.Test.YtmmlibehihknbaaM24
import Derived.Test.YtmmlibehihknbaaM30
namespace Go.Proofs.Ytmmlibehihknbaa.op
open Go.ChangeShapes Go.WideShapes Go.ChangeAt Go.RowKit
open tr (Mc Mp mv MAt Right pt en tx Lo)
open ir (Sm SmAt Gs svL)
open mg (chain below_alloc)
set_option linter.unusedVariables false
set_option maxRecDepth 100000

def fi (p : Nat → Bool) : Nat → Value := fun i => .int .i64 (if p i then 1 else 0)
theorem info3n : (Try.prog.info? 3).map (fun i => (i.zero, i.size, i.bytes)) = some (some (.int .i64 0), 1, 8) := by kernel_rfl
theorem made_ints (n : Nat) : madeCells #[.int .i64 0] n = fc n (fi fun _ => false) := by
  apply Array.toList_inj.1
  rw [toList_madeCells_one]
  simp only [fc]
  exact (List.eq_replicate_iff.2 ⟨by simp, fun b hb => by simp [fi] at hb; exact hb.2.symm⟩).symm
theorem make25 (n : Nat) (hn : n ≤ 1000000) (W : World) : (Instr.makeSlice 25 (.int .i64 (n : Int)) (.int .i64 (n : Int))).run Try.prog W = .ok (.slice (some ⟨W.heap.size, 0, none⟩) n n) (W.alloc (.cells (fc n (fi fun _ => false)) 3)) := by
  rw [← made_ints]
  exact run_make_row' (P := Try.prog) 25 3 (.int .i64 0) 8 Try.underlying25 info3n rfl .i64 .i64 n (by omega) (by omega) W
theorem fi_true {p : Nat → Bool} {i : Nat} (h : p i = true) : fi p i = .int .i64 1 := by simp [fi, h]
theorem fi_false {p : Nat → Bool} {i : Nat} (h : p i = false) : fi p i = .int .i64 0 := by simp [fi, h]
/-- which texts, where the end's is told first -/
def txEn (m : Mc) (i c t : Nat) : Bool := txAll m i t || (decide (en m i = t) || (List.range c).any fun x => decide (pt m i x / 2 = t))
theorem txEn_0 (m : Mc) (i t : Nat) : txEn m i 0 t = if t = en m i then true else txAll m i t := by
  unfold txEn
  by_cases e : t = en m i
  · rw [if_pos e, e]; simp
  · rw [if_neg e, decide_eq_false (fun h => e h.symm)]; simp
theorem txEn_step (m : Mc) (i c t : Nat) : txEn m i (c + 1) t = if t = pt m i c / 2 then true else txEn m i c t := by
  unfold txEn
  rw [any_succ]
  by_cases e : t = pt m i c / 2
  · rw [if_pos e, e]; simp
  · rw [if_neg e, decide_eq_false (p := pt m i c / 2 = t) (fun h => e h.symm)]; simp
theorem txEn_row (m : Mc) (i t : Nat) : txEn m i 256 t = txAll m (i + 1) t := (any_succ i fun s => decide (en m s = t) || (List.range 256).any fun x => decide (pt m s x / 2 = t)).symm
theorem txAll_eq (m : Mc) (i t : Nat) : txAt m i 0 t = txAll m i t := by simp [txAt]
structure Cw (w : World) (C : Array Value) (gb gm gt nt : Nat) (P T : Nat → Bool) (wr : World) : Prop where
  be : Below w.heap.size w wr
  bx : wr.heap[gb]? = some (.cells C 32 (0, 0))
  my : FRow wr gm 3 256 (fi P)
  txs : FRow wr gt 3 nt (fi T)
  n : gb ≠ gm ∧ gb ≠ gt ∧ gm ≠ gt
  lo : w.heap.size ≤ gm ∧ w.heap.size ≤ gt
section
variable {w : World} {C : Array Value} {gb gm gt nt : Nat} {P T : Nat → Bool} {wr : World}
theorem Cw.putT (h : Cw w C gb gm gt nt P T wr) (k : Nat) : Cw w C gb gm gt nt P (fun t => if t = k then true else T t) (wr.setCell ⟨gt, k, none⟩ (.int .i64 1)) :=
  ⟨h.be.setCell (p := ⟨gt, k, none⟩) h.lo.2 _, (Below.heap_setCell _ _ _ gb h.n.2.1).trans h.bx, h.my.other h.n.2.2 k _, (h.txs.put k _).congr fun i _ => by by_cases e : i = k <;> simp [fi, e], h.n, h.lo⟩
theorem Cw.putM (h : Cw w C gb gm gt nt P T wr) (c : Nat) : Cw w C gb gm gt nt (fun b => if b = c then true else P b) T (wr.setCell ⟨gm, c, none⟩ (.int .i64 1)) :=
  ⟨h.be.setCell (p := ⟨gm, c, none⟩) h.lo.1 _, (Below.heap_setCell _ _ _ gb h.n.1).trans h.bx, (h.my.put c _).congr fun i _ => by by_cases e : i = c <;> simp [fi, e], h.txs.other (Ne.symm h.n.2.2) c _, h.n, h.lo⟩
theorem Cw.congr (h : Cw w C gb gm gt nt P T wr) {P' T' : Nat → Bool} (e1 : ∀ b, b < 256 → P b = P' b) (e2 : ∀ t, T t = T' t) : Cw w C gb gm gt nt P' T' wr :=
  ⟨h.be, h.bx, h.my.congr fun i hi => by unfold fi; rw [e1 i hi], h.txs.congr fun i hi => by unfold fi; rw [e2 i], h.n, h.lo⟩
theorem Cw.c {m : Mc} {q : Mp} (h : Cw w (mv m q) gb gm gt nt P T wr) : wr.cell? ⟨gb, 1, none⟩ = some (.slice q.po m.put.length q.pc) ∧ wr.cell? ⟨gb, 2, none⟩ = some (.slice q.eo m.fin.length q.ec) ∧ wr.cell? ⟨gb, 3, none⟩ = some (.slice q.xo m.txt.length q.xc) := by
  refine ⟨?_, ?_, ?_⟩ <;> (rw [Lib.cell_of_heap h.bx]; rfl)
end
def z32 : Array Value := #[.slice none 0 0, .slice none 0 0, .slice none 0 0, .slice none 0 0]
theorem zero32 : ∀ w, (zeroValue 32).run Try.prog w = .ok (.agg z32) w := (zero_of_info (P := Try.prog) (t := 32) (v := .agg z32) (n := 4) (by kernel_rfl)).1
def CmOut (p : Nat → Bool) (w : World) (e : Ending) (w' : World) : Prop := ∃ g, e = .returned (.slice (some ⟨g, 0, none⟩) 256 256) ∧ FRow w' g 3 256 (fi p) ∧ w.heap.size ≤ g ∧ Below w.heap.size w w'
set_option maxHeartbeats 4000000 in
theorem coming_0 (o : Option Addr) (cap : Nat) (w : World) : Calls Try.prog 28 #[.slice o 3 cap] w (CmOut (fun _ => true) w) := by
  have hmk : ∀ W, (Instr.makeSlice 25 (.int .i64 256) (.int .i64 256)).run Try.prog W = .ok (.slice (some ⟨W.heap.size, 0, none⟩) 256 256) (W.alloc (.cells (fc 256 (fi fun _ => false)) 3)) := fun W => make25 256 (by omega) W
  have hA : FRow (w.alloc (.cells (fc 256 (fi fun _ => false)) 3)) w.heap.size 3 256 (fi fun b => decide (b < 0)) := FRow.congr (heap_alloc_new w _ : FRow _ _ 3 256 (fi fun _ => false)) fun i _ => by simp [fi]
  have HA := (show Hid _ from hA)
  have HB := (show Hid (Below w.heap.size w (w.alloc (.cells (fc 256 (fi fun _ => false)) 3))) from below_alloc w _)
  go_enter Try.func28, Try.ntmps28
  go_wp2_with (fail)
  generalize w.alloc (.cells (fc 256 (fi fun _ => false)) 3) = w1 at *
  clear hA
  go_loopw [21] (fun y wr => ∃ i : Nat, y = .int .i64 (i : Int) ∧ i ≤ 256 ∧ Hid (FRow wr w.heap.size 3 256 (fi fun b => decide (b < i))) ∧ Hid (Below w.heap.size w wr)) (fun y _ => 256 - (intOf y).toNat)
  case atStart => exact ⟨0, rfl, by omega, HA, HB⟩
  case round =>
    clear HA HB
    obtain ⟨i, rfl, hi, HA, HB⟩ := hrel
    by_cases hin : i < 256
    · have q1 := HA.out.cell hin
      have q2 := HA.out.fz i
      have HN := (show Hid (FRow (wr.setCell ⟨w.heap.size, i, none⟩ (.int .i64 1)) w.heap.size 3 256 (fi fun b => decide (b < i + 1))) from (HA.out.put i _).congr fun b _ => by
        by_cases e : b = i
        · subst e; simp [fi]
        · rw [if_neg e]
          have h3 : decide (b < i) = decide (b < i + 1) := by rw [Bool.eq_iff_iff]; simp; omega
          simp only [fi, h3])
      have HB2 := (show Hid (Below w.heap.size w (wr.setCell ⟨w.heap.size, i, none⟩ (.int .i64 1))) from HB.out.setCell (p := ⟨w.heap.size, i, none⟩) (Nat.le_refl _) _)
      unfold fi at q1
      clear HA HB
      go_wp2_with (fail)
      go_roundw
      case rel => exact ⟨i + 1, by go_num, by omega, HN, HB2⟩
      case measure => simp [intOf]; omega
    · have HF := (show Hid (FRow wr w.heap.size 3 256 (fi fun _ => true)) from HA.out.congr fun b hb => by
        have h3 : decide (b < i) = true := decide_eq_true (by omega)
        simp only [fi, h3])
      clear HA
      go_wp2_with (fail)
      go_ret
      exact ⟨_, rfl, HF.out, Nat.le_refl _, HB.out⟩
set_option maxHeartbeats 8000000 in
theorem coming_k (b off cap n k k' : Nat) (hn : n = k + 3) (hk : k = k' + 1) (hc1 : n ≤ cap) (hc2 : cap ≤ 9223372036854775807) (x : Sm) (hR : Right x.m) (w : World) (hrow : ∀ W, Below w.heap.size w W → W.rangeAt b (off + k' * 523) (svL x.g x.p) ∧ SmAt W x) : Calls Try.prog 28 #[.slice (some ⟨b, off, none⟩) n cap] w (CmOut (putsB x.m) w) := by
  have HM := (show Hid (∀ W, Below w.heap.size w W → MAt (Lo w.heap.size) W x.m x.q) from fun W c => (hrow w (Below.refl _ _)).2.m.carry (fun k hk => c.block k hk) (fun k hk => hk))
  have HRG := (show Hid (∀ W, Below w.heap.size w W → W.rangeAt b (off + k' * 523 + 1) (mv x.m x.q).toList) from fun W c => by
    obtain ⟨h1, h2⟩ := hrow W c
    have := ir.range_sub [.int .i64 x.g.kind] x.g.mc _ h1
    rw [h2.e] at this
    exact this)
  have hM0 := (hrow w (Below.refl _ _)).2.m
  generalize x.m = m at *
  generalize x.q = q at *
  have hnt := hR.few
  have hnp := hR.puts
  have hnf := hR.fins
  have HR := (show Hid (Right m) from hR)
  have t0 := hM0.rpt.fit
  have t1 := hM0.rpt.top
  have t2 := hM0.ren.fit
  have t3 := hM0.ren.top
  have t4 := hM0.rtx.fit
  have t5 := hM0.rtx.top
  have f0 : ((n : Nat) : Int) - 3 = (k : Int) := by omega
  have f1 : ((k : Nat) : Int) - 1 = (k' : Int) := by omega
  have hkz : ((k : Int) == 0) = false := beq_eq_false_iff_ne.2 (by omega)
  have hkn : k' < n := by omega
  have w0 : IntKind.i64.wrap (k' : Int) = (k' : Int) := IntWalk.i64_in _ (by omega)
  obtain ⟨C, hC⟩ : ∃ C, C = mv m q := ⟨_, rfl⟩
  have hmk : ∀ W, (Instr.makeSlice 25 (.int .i64 256) (.int .i64 256)).run Try.prog W = .ok (.slice (some ⟨W.heap.size, 0, none⟩) 256 256) (W.alloc (.cells (fc 256 (fi fun _ => false)) 3)) := fun W => make25 256 (by omega) W
  obtain ⟨po, hpo⟩ : ∃ po, po = q.po := ⟨_, rfl⟩
  obtain ⟨eo, heo⟩ : ∃ eo, eo = q.eo := ⟨_, rfl⟩
  obtain ⟨xo, hxo⟩ : ∃ xo, xo = q.xo := ⟨_, rfl⟩
  obtain ⟨nt, hnt'⟩ : ∃ nt, nt = m.txt.length := ⟨_, rfl⟩
  obtain ⟨N, hN⟩ : ∃ N, N = m.next.length := ⟨_, rfl⟩
  have HNN := (show Hid (N = m.next.length) from hN)
  have HO := (show Hid (po = q.po ∧ eo = q.eo ∧ xo = q.xo ∧ nt = m.txt.length) from ⟨hpo, heo, hxo, hnt'⟩)
  have HCE := (show Hid (∀ (P T : Nat → Bool) gb gm gt nt' wr, Cw w C gb gm gt nt' P T wr → wr.cell? ⟨gb, 1, none⟩ = some (.slice po N q.pc) ∧ wr.cell? ⟨gb, 2, none⟩ = some (.slice eo N q.ec) ∧ wr.cell? ⟨gb, 3, none⟩ = some (.slice xo nt q.xc)) from fun P T gb gm gt nt' wr h => by
    rw [hC] at h
    have := h.c
    refine ⟨?_, ?_, ?_⟩
    · rw [hpo, hN, ← hnp]; exact this.1
    · rw [heo, hN, ← hnf]; exact this.2.1
    · rw [hxo, hnt']; exact this.2.2)
  have l3 : C[3]? = some (.slice xo nt q.xc) := by rw [hC, hxo, hnt']; rfl
  have l1 : C[1]? = some (.slice po N q.pc) := by rw [hC, hpo, hN, ← hnp]; rfl
  have hCs : C.size = 4 := by rw [hC]; rfl
  have hone : C.all (·.oneCell') = true := by rw [hC]; simp [tr.mv, Value.oneCell']
  -- the worlds ahead of the loops
  obtain ⟨w1, hw1⟩ : ∃ w1, w.alloc (.cells (fc 256 (fi fun _ => false)) 3) = w1 := ⟨_, rfl⟩
  have s1 : w1.heap.size = w.heap.size + 1 := by rw [← hw1]; simp
  have b1 : Below w.heap.size w w1 := by rw [← hw1]; exact below_alloc w _
  have a1 : w1.heap[w.heap.size]? = some (.cells (fc 256 (fi fun _ => false)) 3 (0, 0)) := by rw [← hw1]; exact heap_alloc_new w _
  have hnew := World.alloc_heap_new w1 (.cells z32 32)
  obtain ⟨w3, hw3⟩ : ∃ w3, (w1.alloc (.cells z32 32)).setRow w1.heap.size C = w3 := ⟨_, rfl⟩
  have b3 : Below w1.heap.size w1 w3 := by rw [← hw3]; exact below_row (below_alloc w1 _) (Nat.le_refl _) (by simp) _
  have a3 : w3.heap[w1.heap.size]? = some (.cells C 32 (0, 0)) := by rw [← hw3]; exact setRow_heap _ _ _ _ _ _ hnew
  have s3 : w3.heap.size = w.heap.size + 2 := by rw [← hw3]; simp [s1]
  have q33 : w3.cell? ⟨w1.heap.size, 3, none⟩ = some (.slice xo nt q.xc) := by rw [Lib.cell_of_heap a3]; exact l3
  obtain ⟨w4, hw4⟩ : ∃ w4, w3.alloc (.cells (fc nt (fi fun _ => false)) 3) = w4 := ⟨_, rfl⟩
  have b4 : Below w3.heap.size w3 w4 := by rw [← hw4]; exact below_alloc w3 _
  have a4 : w4.heap[w3.heap.size]? = some (.cells (fc nt (fi fun _ => false)) 3 (0, 0)) := by rw [← hw4]; exact heap_alloc_new w3 _
  have HP0 := (show Hid (Cw w C w1.heap.size w.heap.size w3.heap.size nt (mayAt m 0 0) (txAll m 0) w4) from by
    have b34 := chain b3 b4
    refine ⟨chain b1 b34, (b4.block _ (by omega)).trans a3, ?_, ?_, by omega, by omega⟩
    · refine FRow.congr ((b34.block _ (by omega)).trans a1 : FRow w4 _ 3 256 (fi fun _ => false)) fun i _ => ?_
      unfold fi
      rw [may_0]
    · refine FRow.congr (a4 : FRow w4 _ 3 nt (fi fun _ => false)) fun i _ => ?_
      simp [fi, txAll])
  have hmk2 : ∀ W, (Instr.makeSlice 25 (.int .i64 (nt : Int)) (.int .i64 (nt : Int))).run Try.prog W = .ok (.slice (some ⟨W.heap.size, 0, none⟩) nt nt) (W.alloc (.cells (fc nt (fi fun _ => false)) 3)) := fun W => make25 nt (by omega) W
  have q41 := (HCE.out _ _ _ _ _ _ _ HP0.out).1
  have hrg := HRG.out w1 b1
  rw [← hC] at hrg
  have i1 : (Try.prog.info? 32).map (·.size) = some C.toList.length := by rw [Array.length_toList, hCs]; exact ir.info32
  have i2 : (Try.prog.info? 32).map (·.size) = some C.size := by rw [hCs]; exact ir.info32
  have hold : z32.size = C.size := by rw [hCs]; rfl
  have hzero := zero32
  have hCe : C.toList.toArray = C := by simp
  generalize z32 = Z at *
  generalize q.pc = pc at *
  generalize q.xc = xc at *
  have tec : N ≤ q.ec := by rw [hN, ← hnf]; exact t2
  generalize q.ec = ec at *
  have tpc : N ≤ pc := by rw [hN, ← hnp]; exact t0
  have txc : nt ≤ xc := by rw [hnt']; exact t4
  have hnt4 : nt ≤ 4096 := by rw [hnt']; exact hnt
  clear hM0 hR hC hnp hnf hN hpo heo hxo hnt' HRG hrow l1 l3 t0 t2 t4 hnt b3 a3 b4 a4 b1 a1 hn hk s1 s3
  go_enter Try.func28, Try.ntmps28
  go_upto_region 2 with (fail)
  go_upto_region 11 with (first | (refine wpList_load_mid rfl 32 (.tmp 33) rfl b (off + k' * 523 + 1) rfl C.toList _ hrg Try.underlying32 rfl i1 ?_; rw [hCe]) | (refine wpList_store_row rfl 32 (.tmp 6) (.tmp 34) rfl w1.heap.size C rfl rfl 32 Z hnew i2 hold hone ?_; rw [hw3]))
  clear hw1 hnew hw3 hrg i1 i2 hold hone hCe hzero
  go_upto_region 12 with (fail)
  clear hw4 q33 hmk hmk2
  generalize w3.heap.size = gt at *
  generalize w1.heap.size = gb at *
  go_wp2_with (fail)
  go_loopw [42] (fun y wr => ∃ i : Nat, y = .int .i64 (i : Int) ∧ i ≤ N ∧ Hid (Cw w C gb w.heap.size gt nt (mayAt m i 0) (txAll m i) wr)) (fun y _ => N - (intOf y).toNat)
  case atStart => exact ⟨0, rfl, by omega, HP0⟩
  case round =>
    clear HP0 q41
    obtain ⟨i, rfl, hi, HP⟩ := hrel
    by_cases hend : i < N
    · have hiN : i < m.next.length := by rw [← HNN.out]; exact hend
      obtain ⟨pb, poff, rb, roff, rc, e1, h1, h2, h5, h6, h3, _⟩ := row_at (HM.out wr HP.out.be) HR.out hiN
      have HRW := (show Hid (∀ W, Below w.heap.size w W → W.cell? ⟨pb, poff + i, none⟩ = some (.slice (some ⟨rb, roff, none⟩) 256 rc) ∧ ∀ b, b < 256 → W.cell? ⟨rb, roff + b, none⟩ = some (.int .i64 (pt m i b : Int))) from fun W c => by
        obtain ⟨pb', poff', rb', roff', rc', e1', h1', h2', h5', h6', h3', hall⟩ := row_at (HM.out W c) HR.out hiN
        rw [e1] at e1'
        simp at e1'
        obtain ⟨rfl, rfl⟩ := e1'
        have e3 : W.cell? ⟨pb, poff + i, none⟩ = wr.cell? ⟨pb, poff + i, none⟩ := by
          simp only [World.cell?, c.block pb h1, HP.out.be.block pb h1]
        rw [e3, h2] at h2'
        simp at h2'
        obtain ⟨⟨rfl, rfl⟩, rfl⟩ := h2'
        exact ⟨e3.trans h2, hall⟩)
      obtain rfl : po = some ⟨pb, poff, none⟩ := by rw [HO.out.1, e1]
      obtain ⟨kb, koff, e4, _, h4⟩ := (HM.out wr HP.out.be).fin_at HR.out hiN
      obtain rfl : eo = some ⟨kb, koff, none⟩ := by rw [HO.out.2.1, e4]
      have hel : en m i < nt := by rw [HO.out.2.2.2]; exact HR.out.en_lt hiN
      have q0 := (HCE.out _ _ _ _ _ _ _ HP.out).2.1
      have q2 := HP.out.txs.cell hel
      have q3 := HP.out.txs.fz (en m i)
      have HPS := (show Hid (Cw w C gb w.heap.size gt nt (mayAt m i 0) (txEn m i 0) (wr.setCell ⟨gt, en m i, none⟩ (.int .i64 1))) from (HP.out.putT (en m i)).congr (fun b hb => rfl) (fun t => by rw [txEn_0]))
      unfold fi at q2
      generalize txAll m i (en m i) = tv at *
      clear h1 h3 e1 e4 HP h2
      generalize en m i = x at *
      go_wp2_with (fail)
      generalize wr.setCell ⟨gt, x, none⟩ (.int .i64 1) = ws at *
      clear q0 q2 q3 h4
      go_loopw [9] (fun y wr => ∃ c : Nat, y = .int .i64 (c : Int) ∧ c ≤ 256 ∧ Hid (Cw w C gb w.heap.size gt nt (mayAt m i c) (txEn m i c) wr)) (fun y _ => 256 - (intOf y).toNat)
      case atStart => exact ⟨0, rfl, by omega, HPS⟩
      case round =>
        clear HPS
        obtain ⟨c, rfl, hc, HP⟩ := hrel
        by_cases hc2 : c < 256
        · obtain ⟨q1, q1b⟩ := HRW.out wr HP.out.be
          have q1c := q1b c hc2
          have hlt := HR.out.pt_lt hiN hc2
          have hq2 : pt m i c / 2 < nt := by rw [HO.out.2.2.2]; omega
          have hd := tr.div2 (pt m i c)
          have hmd := tr.mod2 (pt m i c)
          have q0 := (HCE.out _ _ _ _ _ _ _ HP.out).1
          have q2 := HP.out.txs.cell hq2
          have q3 := HP.out.txs.fz (pt m i c / 2)
          have HPT := HP.out.putT (pt m i c / 2)
          have q0b := (HCE.out _ _ _ _ _ _ _ HPT).1
          have q4 := HPT.my.cell hc2
          have q5 := HPT.my.fz c
          obtain ⟨q6, q6b⟩ := HRW.out _ HPT.be
          have q6c := q6b c hc2
          have HNV := (show Hid (odd m i c = true → Cw w C gb w.heap.size gt nt (mayAt m i (c + 1)) (txEn m i (c + 1)) ((wr.setCell ⟨gt, pt m i c / 2, none⟩ (.int .i64 1)).setCell ⟨w.heap.size, c, none⟩ (.int .i64 1))) from fun ho => (HPT.putM c).congr (fun b _ => by rw [may_step]; by_cases e : b = c <;> simp [e, ho]) (fun t => by rw [txEn_step]))
          have HNU := (show Hid (odd m i c = false → Cw w C gb w.heap.size gt nt (mayAt m i (c + 1)) (txEn m i (c + 1)) (wr.setCell ⟨gt, pt m i c / 2, none⟩ (.int .i64 1))) from fun ho => HPT.congr (fun b _ => by rw [may_step]; by_cases e : b = c <;> simp [e, ho]) (fun t => by rw [txEn_step]))
          have hod : odd m i c = decide (pt m i c % 2 = 1) := rfl
          clear HPT HP hlt q1b q6b
          unfold fi at q2 q4
          generalize txEn m i c (pt m i c / 2) = tv at *
          generalize mayAt m i c c = mv1 at *
          by_cases ho : pt m i c % 2 = 1
          · have HN := (show Hid _ from HNV.out (by rw [hod, decide_eq_true ho]))
            rw [ho] at hmd
            clear HNV HNU hod ho
            generalize pt m i c = x at *
            generalize x / 2 = x2 at *
            go_wp2_with (fail)
            go_roundw
            case rel => exact ⟨c + 1, by go_num, by omega, HN⟩
            case measure => simp [intOf]; omega
          · have HN := (show Hid _ from HNU.out (by rw [hod, decide_eq_false ho]))
            have h0 : pt m i c % 2 = 0 := by omega
            rw [h0] at hmd
            clear HNV HNU hod ho h0
            generalize pt m i c = x at *
            generalize x / 2 = x2 at *
            go_wp2_with (fail)
            go_roundw
            case rel => exact ⟨c + 1, by go_num, by omega, HN⟩
            case measure => simp [intOf]; omega
        · have hce : c = 256 := by omega
          subst hce
          have HN := (show Hid (Cw w C gb w.heap.size gt nt (mayAt m (i + 1) 0) (txAll m (i + 1)) wr) from HP.out.congr (fun b hb => may_row m i b hb) (fun t => txEn_row m i t))
          clear HP
          go_wp2_with (fail)
          go_roundw
          case rel => exact ⟨i + 1, by go_num, by omega, HN⟩
          case measure => simp [intOf]; omega
    · have hie : i = N := by omega
      have HP1 := (show Hid (Cw w C gb w.heap.size gt nt (put2 m 0 0) (txAt m m.next.length 0) wr) from HP.out.congr (fun b _ => by rw [put2_0, hie, HNN.out]) (fun t => by rw [hie, HNN.out, txAll_eq]))
      clear HP
      go_wp2_with (fail)
      go_loopw [83] (fun y wr => ∃ i : Nat, y = .int .i64 (i : Int) ∧ i ≤ nt ∧ Hid (Cw w C gb w.heap.size gt nt (put2 m i 0) (txAt m m.next.length 0) wr)) (fun y _ => nt - (intOf y).toNat)
      case atStart => exact ⟨0, rfl, by omega, HP1⟩
      case round =>
        clear HP1
        obtain ⟨i, rfl, hi, HP⟩ := hrel
        by_cases hin : i < nt
        · obtain ⟨kb, koff, e4, _, _⟩ := (HM.out wr HP.out.be).tx_at (k := i) (by rw [← HO.out.2.2.2]; exact hin)
          obtain rfl : xo = some ⟨kb, koff, none⟩ := by rw [HO.out.2.2.1, e4]
          have H4 := (show Hid (∀ W, Below w.heap.size w W → W.cell? ⟨kb, koff + i, none⟩ = some (.string (tx m i))) from fun W c => by
            obtain ⟨kb', koff', e', _, h4⟩ := (HM.out W c).tx_at (k := i) (by rw [← HO.out.2.2.2]; exact hin)
            rw [e4] at e'
            simp at e'
            obtain ⟨rfl, rfl⟩ := e'
            exact h4)
          have htl := HR.out.tx_le i
          have HSN := (show Hid (∀ b, put2 m i (tx m i).size b = put2 m (i + 1) 0 b) from fun b => put2_next m i b)
          have HSZ := (show Hid (txAt m m.next.length 0 i = false → ∀ b, put2 m i 0 b = put2 m (i + 1) 0 b) from fun h b => put2_none m i b h)
          have HSS := (show Hid (txAt m m.next.length 0 i = true → ∀ j b, put2 m i (j + 1) b = if b = df.byteAt (tx m i) j then true else put2 m i j b) from fun h j b => put2_step m i j b h)
          generalize htx : tx m i = t at *
          clear e4
          have q2 := HP.out.txs.cell hin
          cases htv : txAt m m.next.length 0 i
          · have HPN := (show Hid (Cw w C gb w.heap.size gt nt (put2 m (i + 1) 0) (txAt m m.next.length 0) wr) from HP.out.congr (fun b _ => HSZ.out htv b) fun t => rfl)
            rw [fi_false htv] at q2
            clear HP HSN HSZ HSS htx htv H4
            go_wp2_with (fail)
            go_loopw [12] (fun y wz => y = .int .i64 0 ∧ wz = wr) (fun _ _ => 0)
            case atStart => exact ⟨rfl, rfl⟩
            case round =>
              obtain ⟨rfl, rfl⟩ := hrel
              go_wp2_with (fail)
              go_roundw
              case rel => exact ⟨i + 1, by go_num, by omega, HPN⟩
              case measure => simp [intOf]; omega
          · have HS2 := (show Hid (∀ j b, put2 m i (j + 1) b = if b = df.byteAt t j then true else put2 m i j b) from HSS.out htv)
            rw [fi_true htv] at q2
            clear HSZ HSS htx htv
            go_wp2_with (fail)
            clear q2
            go_loopw [12] (fun y wr => ∃ j : Nat, y = .int .i64 (j : Int) ∧ j ≤ t.size ∧ Hid (Cw w C gb w.heap.size gt nt (put2 m i j) (txAt m m.next.length 0) wr)) (fun y _ => t.size - (intOf y).toNat)
            case atStart => exact ⟨0, rfl, by omega, HP⟩
            case round =>
              clear HP
              obtain ⟨j, rfl, hj, HP⟩ := hrel
              have q0 := (HCE.out _ _ _ _ _ _ _ HP.out).2.2
              have h4 := H4.out wr HP.out.be
              by_cases hjn : j < t.size
              · have f2 : decide ((j : Int) < (t.size : Int)) = true := decide_eq_true (by omega)
                have hjj : (j : Int) < (t.size : Int) := by omega
                have h8 := t[j].toNat_lt
                have h8i : ((t[j].toNat : Nat) : Int) < 256 := by omega
                have q4 := HP.out.my.cell (i := t[j].toNat) h8
                have q5 := HP.out.my.fz t[j].toNat
                unfold fi at q4
                have HN := (show Hid (Cw w C gb w.heap.size gt nt (put2 m i (j + 1)) (txAt m m.next.length 0) (wr.setCell ⟨w.heap.size, t[j].toNat, none⟩ (.int .i64 1))) from (HP.out.putM t[j].toNat).congr (fun b _ => by rw [HS2.out, df.byte_eq t j hjn]) fun t => rfl)
                generalize put2 m i j t[j].toNat = pv at *
                clear HP
                go_wp2_with (fail)
                go_roundw
                case rel => exact ⟨j + 1, by go_num, by omega, HN⟩
                case measure => simp [intOf]; omega
              · have f2 : decide ((j : Int) < (t.size : Int)) = false := decide_eq_false (by omega)
                have HPN := (show Hid (Cw w C gb w.heap.size gt nt (put2 m (i + 1) 0) (txAt m m.next.length 0) wr) from HP.out.congr (fun b _ => by rw [show j = t.size by omega]; exact HSN.out b) fun t => rfl)
                clear HP HSN HS2
                go_wp2_with (fail)
                go_roundw
                case rel => exact ⟨i + 1, by go_num, by omega, HPN⟩
                case measure => simp [intOf]; omega
        · have hie : i = nt := by omega
          have HF := (show Hid (FRow wr w.heap.size 3 256 (fi (putsB m))) from HP.out.my.congr fun b _ => by
            unfold putsB
            rw [hie, HO.out.2.2.2])
          have HBW := (show Hid (Below w.heap.size w wr) from HP.out.be)
          clear HP
          go_wp2_with (fail)
          go_ret
          exact ⟨_, rfl, HF.out, Nat.le_refl _, HBW.out⟩
end Go.Proofs.Ytmmlibehihknbaa.op
