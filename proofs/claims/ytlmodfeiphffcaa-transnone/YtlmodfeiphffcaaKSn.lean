/-
  Contracts over this program: the machine of rules (trans.machine[string]).
-/
import Derived.Test.YtlmodfeiphffcaaKSm
namespace Go.Proofs.Ytlmodfeiphffcaa.ms
open Go.ChangeShapes Go.WideShapes Go.ChangeAt Go.RowKit Go.Shelf Go.Maps
open tr
open mk (Kv kcells svs rcs MapN mapN_nil map_keep own_ne own_cells law9 zero3 OkT kt key9 kt_inj look83 info9)
open wr (Rw)
open ru (Ru)
set_option linter.unusedVariables false

abbrev nil4 : Array Value := #[.slice none 0 0, .slice none 0 0, .slice none 0 0, .slice none 0 0]
theorem make83m (w : World) : (Instr.makeMap 83 none).run Try.prog w = .ok (.map (some w.heap.size)) (w.alloc (.map #[] 0)) := by kernel_rfl
theorem zero26 : ∀ w, (zeroValue 26).run Try.prog w = .ok (.agg nil4) w := fun w => by kernel_rfl
theorem ret26 {fn : Func} {p u : Tmp} (h : fn.results = #[.cell p 26, .tmp u]) {a : Act} {W : World} {R : Ending → World → Prop} (g : Nat) (v0 v1 v2 v3 : Value) (n : Int) (hp : a.tmps.getD p undef = .pointer (some ⟨g, 0, none⟩)) (hA : W.heap[g]? = some (.cells #[v0, v1, v2, v3] 26 (0, 0))) (hu : a.tmps.getD u undef = .int .i64 n) (hd : a.defers = [])
    (hR : R (.returned (.tuple #[.agg #[v0, v1, v2, v3], .int .i64 n])) W) : bodyPost Try.prog fn R .ret a W :=
  bodyPost_ret (by rw [results_cell_tmp h, hp, hu]; simp [asAddr, Result.andThen, run_loadVar_row W g 26 26 _ (0, 0) _ hA Try.underlying26 rfl info26]) hd hR
theorem below_setRow {n g : Nat} {w W : World} (h : Below n w W) (hg : n ≤ g) (cs : Array Value) : Below n w (W.setRow g cs) := ⟨h.os, h.tape, h.output, by simpa using h.size, fun k hk => (setRow_other _ _ _ _ (by omega)).trans (h.block k hk)⟩

def q0 (n : Nat) : Kv := ⟨.slice none 0 0, n, n + 1, 0, .slice none 0 0, .slice none 0 0, .slice none 0 0, .slice none 0 0⟩
def d0 : Kq := ⟨[], [], [], [], []⟩
theorem ki_start (W : World) (B : Nat) (hB : B ≤ W.heap.size) (f0 f1 : Value) : KI B (W.heap.size + 2) f0 f1 (q0 W.heap.size) d0 (((W.alloc (.map #[] 0)).alloc (.map #[] 0)).alloc (.cells (kcells f0 f1 (q0 W.heap.size)) 103)) := by
  have s1 : (W.alloc (.map #[] 0)).heap.size = W.heap.size + 1 := by simp
  have s2 : ((W.alloc (.map #[] 0)).alloc (.map #[] 0)).heap.size = W.heap.size + 2 := by simp
  have m1 : (W.alloc (.map #[] 0)).ownsMap Try.prog 9 (plainElem (H := Unit) Try.prog 3) W.heap.size 0 (.map []) := World.ownsMap_made _ _ _ _
  have m2 : ((W.alloc (.map #[] 0)).alloc (.map #[] 0)).ownsMap Try.prog 9 (plainElem (H := Unit) Try.prog 3) (W.alloc (.map #[] 0)).heap.size 0 (.map []) := World.ownsMap_made _ _ _ _
  rw [s1] at m2
  refine ⟨?_, ow.nil _ _ _ _, ow.nil _ _ _ _, ow.nil _ _ _ _, ow.nil _ _ _ _, ow.nil _ _ _ _, ⟨_, map_keep m1 ?_, mapN_nil _ _⟩, ⟨_, map_keep m2 ?_, mapN_nil _ _⟩, fun x hx => (by cases hx), fun x hx => (by cases hx), ?_, fun g e => (by cases e), fun x hx => (by cases hx), fun g e => (by cases e), by omega, hB, ?_, fun x hx => (by cases hx), fun x hx => (by cases hx), fun x hx => (by cases hx), .inl rfl⟩
  · have := World.alloc_heap_new ((W.alloc (.map #[] 0)).alloc (.map #[] 0)) (.cells (kcells f0 f1 (q0 W.heap.size)) 103)
    rw [s2] at this
    exact this
  · show ((((W.alloc (.map #[] 0)).alloc (.map #[] 0)).alloc _).heap)[W.heap.size]? = _
    rw [Below.heap_alloc _ _ _ (by rw [s2]; omega), Below.heap_alloc _ _ _ (by rw [s1]; omega)]
    rfl
  · show ((((W.alloc (.map #[] 0)).alloc (.map #[] 0)).alloc _).heap)[W.heap.size + 1]? = _
    rw [Below.heap_alloc _ _ _ (by rw [s2]; omega)]
    rfl
  · show W.heap.size ≠ W.heap.size + 1
    omega
  · show B ≤ W.heap.size + 1
    omega
/-- what is made, as a machine in memory -/
theorem ki_mat {B kb : Nat} {f0 f1 : Value} {q : Kv} {d : Kq} {W : World} {l : List Ru} (k : KI B kb f0 f1 q d W) (h : Pl l d d.sts.length) : ∃ p : Mp, q.v0 = .slice p.no (mcOf d).next.length p.nc ∧ q.v1 = .slice p.po (mcOf d).put.length p.pc ∧ q.v2 = .slice p.eo (mcOf d).fin.length p.ec ∧ q.v3 = .slice p.xo (mcOf d).txt.length p.xc ∧ MAt (fun g => B ≤ g ∧ g < W.heap.size) W (mcOf d) p := by
  have rr : ∀ {v : Value} {r : List (Nat × List Int)}, W.ownsRow B 23 1 v r.length (rcs r) → (∀ x ∈ r, IRow W x.1 x.2) → (∀ x ∈ r, x.2.length = 256) → (∀ x ∈ r, B ≤ x.1) → ∃ o c, v = .slice o (r.map (·.2)).length c ∧ RowRow (fun g => B ≤ g ∧ g < W.heap.size) W o c (r.map (·.2)) := fun {v r} ho hi hl hbr => by
    obtain ⟨o, c, e, h1, h2⟩ := ow.form ho
    refine ⟨o, c, by rw [List.length_map]; exact e, by rw [List.length_map]; exact h1, h2, fun i hlt => ?_⟩
    rw [List.length_map] at hlt
    obtain ⟨g, cap, e2, hg, hc⟩ := ow.cell ho i (by rw [rcs, List.length_map]; exact hlt)
    have hx := List.getElem_mem hlt
    rw [e] at e2
    obtain ⟨rfl, rfl⟩ : o = some ⟨g, 0, none⟩ ∧ c = cap := by simpa using e2
    refine ⟨g, 0, some ⟨r[i].1, 0, none⟩, 256, rfl, ⟨(ow.lt ho (by rw [e]; rfl)).1, hg⟩, ?_, ?_⟩
    · rw [Nat.zero_add, hc]
      simp [rcs, hl _ hx]
    · simp only [List.getElem_map]
      refine ⟨by rw [hl _ hx]; exact Nat.le_refl _, by omega, fun c hc => ⟨r[i].1, 0, rfl, ⟨hbr _ hx, (hi _ hx).lt⟩, ?_⟩⟩
      rw [Nat.zero_add]
      exact (hi _ hx).cell c hc
  have l0 : ∀ x ∈ d.r0, x.2.length = 256 := fun x hx => by
    obtain ⟨j, hj, e⟩ := List.mem_iff_getElem.1 hx
    obtain ⟨s, x0, x1, k', t, e1, e2, e3, e4, ⟨r1, r2, r3⟩, e6, e7⟩ := h.rows j (by rw [h.l0] at hj; exact hj)
    rw [List.getElem?_eq_getElem hj, e] at e2
    obtain rfl := Option.some.inj e2
    exact r1
  have l1 : ∀ x ∈ d.r1, x.2.length = 256 := fun x hx => by
    obtain ⟨j, hj, e⟩ := List.mem_iff_getElem.1 hx
    obtain ⟨s, x0, x1, k', t, e1, e2, e3, e4, ⟨r1, r2, r3⟩, e6, e7⟩ := h.rows j (by rw [h.l1] at hj; exact hj)
    rw [List.getElem?_eq_getElem hj, e] at e3
    obtain rfl := Option.some.inj e3
    exact r2
  obtain ⟨no, nc, e0, R0⟩ := rr k.o0 k.i0 l0 (fun x hx => k.br x (List.mem_append_left _ hx))
  obtain ⟨po, pc, e1, R1⟩ := rr k.o1 k.i1 l1 (fun x hx => k.br x (List.mem_append_right _ hx))
  obtain ⟨eo, ec, e2, h21, h22⟩ := ow.form k.o2
  obtain ⟨xo, xc, e3, h31, h32⟩ := ow.form k.o3
  refine ⟨⟨no, nc, po, pc, eo, ec, xo, xc⟩, e0, e1, by rw [e2]; simp [mcOf], e3, R0, R1, ⟨by simpa [mcOf] using h21, h22, fun i hi => ?_⟩, ⟨h31, h32, fun i hi => ?_⟩⟩
  · have hi2 : i < d.fn.length := by simpa [mcOf] using hi
    obtain ⟨g, cap, e, hg, hc⟩ := ow.cell k.o2 i (by simpa [icl] using hi2)
    have hlo := (ow.lt k.o2 (by rw [e]; rfl)).1
    rw [e2] at e
    obtain ⟨rfl, rfl⟩ : eo = some ⟨g, 0, none⟩ ∧ ec = cap := by simpa using e
    refine ⟨g, 0, rfl, ⟨hlo, hg⟩, ?_⟩
    rw [Nat.zero_add, hc]
    simp [icl, mcOf]
  · have hi2 : i < d.txs.length := hi
    obtain ⟨g, cap, e, hg, hc⟩ := ow.cell k.o3 i (by simpa [svs] using hi2)
    have hlo := (ow.lt k.o3 (by rw [e]; rfl)).1
    rw [e3] at e
    obtain ⟨rfl, rfl⟩ : xo = some ⟨g, 0, none⟩ ∧ xc = cap := by simpa using e
    refine ⟨g, 0, rfl, ⟨hlo, hg⟩, ?_⟩
    rw [Nat.zero_add, hc]
    simp [svs, mcOf]
def MOut (l : List Ru) (B : Nat) (w : World) (e : Ending) (w' : World) : Prop :=
  (∃ d p, e = .returned (.tuple #[.agg (mv (mcOf d) p), .int .i64 0]) ∧ MAt (fun g => B ≤ g ∧ g < w'.heap.size) w' (mcOf d) p ∧ Pl l d d.sts.length ∧ d.sts.length ≤ 1200 ∧ d.txs.length ≤ 4096 ∧ (∀ t ∈ d.txs, t.size ≤ 4096) ∧ Below B w w' ∧ K26 w w') ∨
  (∃ d i, e = .returned (.tuple #[.agg nil4, .int .i64 80]) ∧ Pl l d i ∧ i ≤ d.sts.length ∧ (1200 < d.sts.length ∨ 4096 < d.txs.length ∨ ∃ t ∈ d.txs, 4096 < t.size) ∧ Below B w w' ∧ K26 w w')
/-- what stands at each state that is left -/
structure ML (B kb cb rz : Nat) (l : List Ru) (lv : Value) (sm fm : Nat) (q : Kv) (d : Kq) (i : Nat) (w W : World) : Prop where
  ki : KI B kb (F0 cb) (F1 cb) q d W
  pl : Pl l d i
  le : i ≤ d.sts.length
  s1 : d.sts.length ≤ 1200
  s2 : d.txs.length ≤ 4096
  s3 : q.lg ≤ 4096
  be : Below B w W
  rw : Rw B cb l lv sm fm W
  k26 : K26 w W
  ns : (sm ≠ q.nm ∧ sm ≠ q.tm) ∧ fm ≠ q.nm ∧ fm ≠ q.tm
theorem KI.off26 {B kb : Nat} {f0 f1 : Value} {q : Kv} {d : Kq} {W : World} (k : KI B kb f0 f1 q d W) {g : Nat} {cs : Array Value} {fr : Nat × Nat} (hg : W.heap[g]? = some (.cells cs 26 fr)) : ¬ Fp kb q d g := by
  rintro (rfl | rfl | rfl | h | h | h | h | h | ⟨x, hx, rfl⟩)
  · exact (k.cells hg).2.2 (by decide) rfl
  · exact (k.cells hg).1 rfl
  · exact (k.cells hg).2.1 rfl
  · exact ow.type k.os hg (by decide) h.symm
  · exact ow.type k.o0 hg (by decide) h.symm
  · exact ow.type k.o1 hg (by decide) h.symm
  · exact ow.type k.o2 hg (by decide) h.symm
  · exact ow.type k.o3 hg (by decide) h.symm
  · rcases List.mem_append.1 hx with h | h
    · have h2 := k.i0 x h
      unfold IRow at h2
      rw [h2] at hg
      cases hg
    · have h2 := k.i1 x h
      unfold IRow at h2
      rw [h2] at hg
      cases hg
set_option maxHeartbeats 4000000 in
set_option maxRecDepth 100000 in
theorem machine_any {l : List Ru} (hg : ru.Good l) {B cb : Nat} {lv : Value} {sm fm : Nat} {w : World} (hC : Rw B cb l lv sm fm w) (hBw : B ≤ w.heap.size) :
    Calls Try.prog 34 #[.agg #[F0 cb, F1 cb], .string ⟨#[]⟩] w (MOut l B w) := by
  have hm2 := make83m
  obtain ⟨w3, HW3⟩ : ∃ w3, Hid (w3 = (w.alloc (.cells #[F0 cb, F1 cb] 68)).alloc (.cells nil4 26)) := ⟨_, rfl⟩
  have z1 : (w.alloc (.cells #[F0 cb, F1 cb] 68)).heap.size = w.heap.size + 1 := by simp
  have z3 : w3.heap.size = w.heap.size + 2 := by rw [HW3.out]; simp
  have B3 : Below w.heap.size w w3 := by rw [HW3.out]; exact chain (below_alloc w _) (below_alloc _ _)
  have h26 : w3.heap[w.heap.size + 1]? = some (.cells nil4 26 (0, 0)) := by
    have := World.alloc_heap_new (w.alloc (.cells #[F0 cb, F1 cb] 68)) (.cells nil4 26)
    rw [z1] at this
    rw [HW3.out]
    exact this
  have h70 : w3.heap[w.heap.size]? = some (.cells #[F0 cb, F1 cb] 68 (0, 0)) := by
    rw [HW3.out, Below.heap_alloc _ _ _ (by rw [z1]; omega)]
    exact World.alloc_heap_new w _
  have hC3 : Rw B cb l lv sm fm w3 := hC.later B3
  have k0 := ki_start w3 B (by omega) (F0 cb) (F1 cb)
  obtain ⟨kb, HKB⟩ : ∃ kb, Hid (kb = w.heap.size + 4) := ⟨_, rfl⟩
  have hkb : w3.heap.size + 2 = kb := by rw [HKB.out]; omega
  rw [hkb] at k0
  obtain ⟨w6, HW6⟩ : ∃ w6, Hid (w6 = ((w3.alloc (.map #[] 0)).alloc (.map #[] 0)).alloc (.cells (kcells (F0 cb) (F1 cb) (q0 w3.heap.size)) 103)) := ⟨_, rfl⟩
  rw [← HW6.out] at k0
  have B6 : Below w3.heap.size w3 w6 := by rw [HW6.out]; exact chain (chain (below_alloc w3 _) (below_alloc _ _)) (below_alloc _ _)
  have c60 := state_any k0 ⟨#[]⟩ (by unfold OkT; decide) (by decide)
  have HWW : Hid (w6 = ((((w.alloc (.cells #[F0 cb, F1 cb] 68)).alloc (.cells nil4 26)).alloc (.map #[] 0)).alloc (.map #[] 0)).alloc (.cells #[F0 cb, F1 cb, .slice none 0 0, .map (some (w.heap.size + 1 + 1)), .map (some (w.heap.size + 1 + 1 + 1)), .int .i64 0, .slice none 0 0, .slice none 0 0, .slice none 0 0, .slice none 0 0] 103)) := by
    show _ = _
    rw [HW6.out, z3, HW3.out]
    rfl
  have hk5 : w.heap.size + 1 + 1 + 1 + 1 = kb := by rw [HKB.out]
  have HK5 : Hid (w.heap.size + 1 + 1 + 1 + 1 = kb) := hk5
  have hsml : sm < w.heap.size := by obtain ⟨es, c, h⟩ := hC.sobj; exact (Array.getElem?_eq_some_iff.1 h).1
  have hfml : fm < w.heap.size := by obtain ⟨es, c, h⟩ := hC.fobj; exact (Array.getElem?_eq_some_iff.1 h).1
  have HM7 : Hid (∀ e w7, StOut B kb (F0 cb) (F1 cb) (q0 w3.heap.size) d0 ⟨#[]⟩ w6 e w7 → ∃ r q, e = .returned r ∧ ML B kb cb 0 l lv sm fm q { d0 with sts := [⟨#[]⟩] } 0 w3 w7) := by
    rintro e w7 ⟨i0, sv7, sts7, rfl, hst, hor, k7, z7, o7, t7, u7, hh7, hx7⟩
    have hs7 : sts7 = [⟨#[]⟩] := by
      rcases hor with h | ⟨_, h⟩
      · rw [h] at hst
        simp [d0] at hst
      · rw [h]; rfl
    subst hs7
    have hkk : ∀ g, g < w3.heap.size → w7.heap[g]? = w6.heap[g]? := fun g hgl => hh7 g (by have := B6.size; omega) (by have := HK5.out; omega) (by show g ≠ w3.heap.size; omega) (fun e => by cases e)
    have b7 : Below w3.heap.size w6 w7 := ⟨o7, t7, u7, z7, hkk⟩
    have b37 : Below w3.heap.size w3 w7 := B6.trans b7
    exact ⟨_, _, rfl, k7, Pl.start hg rfl rfl rfl rfl rfl, by simp, by simp, by simp [d0], by show (0 : Nat) ≤ _; omega, b37.mono (by omega), hC3.later b37, K26.below b37, ⟨⟨by show sm ≠ w3.heap.size; omega, by show sm ≠ w3.heap.size + 1; omega⟩, by show fm ≠ w3.heap.size; omega, by show fm ≠ w3.heap.size + 1; omega⟩⟩
  have H26 : Hid (w3.heap[w.heap.size + 1]? = some (.cells nil4 26 (0, 0))) := h26
  have HZ3 : Hid (w3.heap.size = w.heap.size + 2) := z3
  have HB3 : Hid (Below w.heap.size w w3) := B3
  have HG := (show Hid (ru.Good l) from hg)
  have HBW : Hid (B ≤ w.heap.size) := hBw
  clear HW6 HW3 HKB hkb z1 z3 h70 hC hC3 h26 k0 B6 hk5 B3 hg hsml hfml
  go_enter Try.func34, Try.ntmps34
  go_wp2_with (fail)
  rw [← HWW.out, HK5.out]
  refine c60.mono ?_
  intro e w7 hs7
  obtain ⟨r7, q7, rfl, M7⟩ := HM7.out e w7 hs7
  clear c60 hs7 HM7 HWW hm2
  go_wp2_with (fail)
  generalize hn : w.heap.size = n at *
  have HN : Hid (w.heap.size = n) := hn
  clear hn
  go_loopw [7] (fun y wr => ∃ (i : Nat) (q : Kv) (d : Kq), y = .int .i64 i ∧ i ≤ 1200 ∧ Hid (ML B kb cb 0 l lv sm fm q d i w3 wr)) (fun y _ => 1201 - (intOf y).toNat)
  case atStart => exact ⟨0, _, _, rfl, by omega, M7⟩
  case round =>
    clear M7
    obtain ⟨i, q, d, rfl, hi, HM⟩ := hrel
    have c2 := HM.out.ki.c2
    obtain ⟨sg, sc, hsv, f1, f2⟩ := ow.form HM.out.ki.os
    rw [hsv] at c2
    have hs12 := HM.out.s1
    by_cases hend : i < d.sts.length
    · obtain ⟨g, cap, e1, hgl, d1⟩ := ow.cell HM.out.ki.os i (by simpa [svs] using hend)
      rw [hsv] at e1
      obtain ⟨rfl, rfl⟩ : sg = some ⟨g, 0, none⟩ ∧ sc = cap := by simpa using e1
      have hsc : (svs d.sts)[i]'(by simpa [svs] using hend) = .string d.sts[i] := by simp [svs]
      rw [hsc] at d1
      have hin := HM.out.pl.ins d.sts[i] (List.getElem_mem hend)
      have HS : Hid (d.sts[i]? = some d.sts[i]) := List.getElem?_eq_getElem hend
      have hq2 := HM.out.s2
      have hl0 := HM.out.pl.l0
      have hl1 := HM.out.pl.l1
      have hlf := HM.out.pl.lf
      have hbs := HM.out.be.size
      have c61 := leave_any HG.out HM.out.rw HM.out.ki HM.out.ns.1 HM.out.ns.2 d.sts[i] hin (by omega) (by omega) ⟨by omega, by omega, by omega⟩ (by have := HZ3.out; have := HBW.out; omega)
      generalize d.sts[i] = s at *
      have HNX : Hid (∀ e w8, LvOut B kb cb l lv sm fm q d s wr e w8 → ∃ r q8 d8, e = .returned r ∧ KI B kb (F0 cb) (F1 cb) q8 d8 w8 ∧ Pl l d8 (i + 1) ∧ i + 1 ≤ d8.sts.length ∧ Below B w3 w8 ∧ Rw B cb l lv sm fm w8 ∧ K26 w3 w8 ∧ (sm ≠ q8.nm ∧ sm ≠ q8.tm) ∧ fm ≠ q8.nm ∧ fm ≠ q8.tm) := by
        rintro e w8 ⟨sv, v0, v1, v2, v3, lg, gn, gp, k, sts, txs, rn, rp, t, rfl, k8, hR8, hV8, hk8, he8, b8, r8, x8⟩
        refine ⟨_, _, _, rfl, k8, HM.out.pl.step HG.out HS.out hR8 hV8 hk8 he8, ?_, HM.out.be.trans b8, r8, HM.out.k26.trans x8, HM.out.ns⟩
        have := hV8.ps.length_le
        show i + 1 ≤ sts.length
        omega
      clear e1 hsc hin hl0 hl1 hlf hbs hsv
      go_wp2_with (fail)
      go_at_call 55
      refine c61.mono ?_
      intro e w8 hs8
      obtain ⟨r8, q8, d8, rfl, k8, p8, le8, b8, rw8, x8, ns8⟩ := HNX.out e w8 hs8
      have c62 := full_any k8 _ rfl
      clear c61 hs8
      go_wp2_with (fail)
      have hF : fullB q8 d8 = (decide (1200 < d8.sts.length) || decide (4096 < d8.txs.length) || decide (4096 < q8.lg)) := rfl
      have HKI : Hid (KI B kb (F0 cb) (F1 cb) q8 d8 w8) := k8
      have HPL : Hid (Pl l d8 (i + 1)) := p8
      have HB8 : Hid (Below B w3 w8) := b8
      have HX8 : Hid (K26 w3 w8) := x8
      by_cases hf : fullB q8 d8 = true
      · rw [hf] at c62 hF
        have h26 := x8 _ _ _ H26.out
        have HFULL : Hid (1200 < d8.sts.length ∨ 4096 < d8.txs.length ∨ ∃ t ∈ d8.txs, 4096 < t.size) := by
          have h := hF.symm
          simp only [Bool.or_eq_true, decide_eq_true_eq] at h
          rcases h with (h | h) | h
          · exact .inl h
          · exact .inr (.inl h)
          · rcases k8.lx with e | ⟨t, ht, e⟩
            · omega
            · exact .inr (.inr ⟨t, ht, by omega⟩)
        have HEND : Hid (MOut l B w (.returned (.tuple #[.agg nil4, .int .i64 80])) (w8.setRow (n + 1) nil4)) := by
          refine .inr ⟨d8, i + 1, rfl, HPL.out, le8, HFULL.out, ?_, ?_⟩
          · exact below_setRow ((HB3.out.mono HBW.out).trans HB8.out) (by have := HBW.out; omega) _
          · exact fun g cs fr hg => (setRow_other _ _ _ _ (fun e => by have := (Array.getElem?_eq_some_iff.1 hg).1; rw [HN.out] at this; omega)).trans (HX8.out g cs fr ((HB3.out.block g (by rw [← HN.out]; exact (Array.getElem?_eq_some_iff.1 hg).1)).trans hg))
        clear hF hf k8 p8 b8 x8 rw8 ns8
        refine c62.mono ?_
        rintro e w9 ⟨rfl, rfl⟩
        go_wp2_with (refine wpList_store_row (by rfl) 26 (.tmp 4) (.tmp 36) (by rfl) (n + 1) nil4 (by rfl) (by rfl) 26 nil4 h26 info26 rfl (by simp [Value.oneCell']) ?_)
        exact ret26 rfl (n + 1) _ _ _ _ 80 rfl (setRow_heap _ _ _ _ _ _ h26) rfl rfl HEND.out
      · have hf2 : fullB q8 d8 = false := Bool.eq_false_iff.2 hf
        rw [hf2] at c62 hF
        have h3 : ¬ 1200 < d8.sts.length ∧ ¬ 4096 < d8.txs.length ∧ ¬ 4096 < q8.lg := by
          have h := hF.symm
          simp only [Bool.or_eq_false_iff, decide_eq_false_iff_not] at h
          exact ⟨h.1.1, h.1.2, h.2⟩
        have M8 : Hid (ML B kb cb 0 l lv sm fm q8 d8 (i + 1) w3 w8) := ⟨k8, p8, le8, by omega, by omega, by omega, b8, rw8, x8, ns8⟩
        clear hF hf hf2 k8 p8 b8 x8 rw8 ns8
        refine c62.mono ?_
        rintro e w9 ⟨rfl, rfl⟩
        go_wp2_with (fail)
        go_roundw
        case rel => exact ⟨i + 1, q8, d8, by go_num, by omega, M8⟩
        case measure => simp [intOf]; omega
    · obtain rfl : i = d.sts.length := by have := HM.out.le; omega
      obtain ⟨p, v0, v1, v2, v3, hMA⟩ := ki_mat HM.out.ki HM.out.pl
      have c6 := HM.out.ki.c6
      have c7 := HM.out.ki.c7
      have c8 := HM.out.ki.c8
      have c9 := HM.out.ki.c9
      rw [v0] at c6
      rw [v1] at c7
      rw [v2] at c8
      rw [v3] at c9
      have h26 := HM.out.k26 _ _ _ H26.out
      have HEND : Hid (MOut l B w (.returned (.tuple #[.agg (mv (mcOf d) p), .int .i64 0])) (wr.setRow (n + 1) (mv (mcOf d) p))) := by
        have hkk : KI B kb (F0 cb) (F1 cb) q d (wr.setRow (n + 1) (mv (mcOf d) p)) := HM.out.ki.keep fun g hg => setRow_other _ _ _ _ (fun e => HM.out.ki.off26 h26 (by rw [← e]; exact hg))
        obtain ⟨p', u0, u1, u2, u3, hMA'⟩ := ki_mat hkk HM.out.pl
        have hpp : p' = p := by
          rw [v0] at u0
          rw [v1] at u1
          rw [v2] at u2
          rw [v3] at u3
          cases p
          cases p'
          simp at u0 u1 u2 u3 ⊢
          obtain ⟨rfl, rfl⟩ := u0
          obtain ⟨rfl, rfl⟩ := u1
          obtain ⟨rfl, rfl⟩ := u2
          obtain ⟨rfl, rfl⟩ := u3
          exact ⟨rfl, rfl, rfl, rfl, rfl, rfl, rfl, rfl⟩
        rw [hpp] at hMA'
        refine .inl ⟨d, p, rfl, hMA', HM.out.pl, HM.out.s1, HM.out.s2, fun t ht => Nat.le_trans (HM.out.ki.lt t ht).2 HM.out.s3, ?_, ?_⟩
        · exact below_setRow ((HB3.out.mono HBW.out).trans HM.out.be) (by have := HBW.out; omega) _
        · exact fun g cs fr hg => (setRow_other _ _ _ _ (fun e => by have := (Array.getElem?_eq_some_iff.1 hg).1; rw [HN.out] at this; omega)).trans (HM.out.k26 g cs fr ((HB3.out.block g (by rw [← HN.out]; exact (Array.getElem?_eq_some_iff.1 hg).1)).trans hg))
      have HMV : Hid (mv (mcOf d) p = #[.slice p.no (mcOf d).next.length p.nc, .slice p.po (mcOf d).put.length p.pc, .slice p.eo (mcOf d).fin.length p.ec, .slice p.xo (mcOf d).txt.length p.xc]) := rfl
      rw [HMV.out] at HEND
      clear hMA v0 v1 v2 v3 HM HMV hsv
      generalize (mcOf d).next.length = n0 at *
      generalize (mcOf d).put.length = n1 at *
      generalize (mcOf d).fin.length = n2 at *
      generalize (mcOf d).txt.length = n3 at *
      go_wp2_with (refine wpList_store_row (by rfl) 26 (.tmp 4) (.tmp 40) (by rfl) (n + 1) #[.slice p.no n0 p.nc, .slice p.po n1 p.pc, .slice p.eo n2 p.ec, .slice p.xo n3 p.xc] (by rfl) (by rfl) 26 nil4 h26 info26 rfl (by simp [Value.oneCell']) ?_)
      exact ret26 rfl (n + 1) _ _ _ _ 0 rfl (setRow_heap _ _ _ _ _ _ h26) rfl rfl HEND.out
end Go.Proofs.Ytlmodfeiphffcaa.ms
