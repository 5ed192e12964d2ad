/-
  Contracts over this program: a state's number (maker.state).
-/
import Derived.Test.YtlmodfeiphffcaaM04
namespace Go.Proofs.Ytlmodfeiphffcaa.mk
open Go.ChangeShapes Go.WideShapes Go.ChangeAt Go.RowKit Go.Shelf Go.Maps
open tr
set_option linter.unusedVariables false

section
variable {B kb : Nat} {f0 f1 : Value} {q : Kv} {d : Kq} {W W' : World}
/-- a state more -/
theorem KI.state (k : KI B kb f0 f1 q d W) {sv : Value} {s : St} (hs : OkS s)
    (hh : ∀ g, g < W.heap.size → g ≠ kb → g ≠ q.nm → q.sv.ownBlock ≠ some g → W'.heap[g]? = W.heap[g]?)
    (hk : W'.heap[kb]? = some (.cells (kcells f0 f1 { q with sv := sv }) 113 (0, 0)))
    (ho : W'.ownsRow B 76 2 sv (d.sts ++ [s]).length (scs (d.sts ++ [s])))
    (hm : ∃ D, W'.ownsMap Try.prog 76 (plainElem (H := Unit) Try.prog 3) q.nm (d.sts ++ [s]).length D ∧ MapN kp OkS (d.sts ++ [s]) D)
    (hw : sv.ownBlock = q.sv.ownBlock ∨ ∀ g, sv.ownBlock = some g → W.heap.size ≤ g) :
    KI B kb f0 f1 { q with sv := sv } { d with sts := d.sts ++ [s] } W' := by
  have row : ∀ {e sz n : Nat} {v : Value} {xs : List Value}, W.ownsRow B e sz v n xs → e ≠ 113 → (∀ g, v.ownBlock = some g → q.sv.ownBlock ≠ some g) → W'.ownsRow B e sz v n xs := fun h h1 h2 => ow.keep h fun g eg => by
    obtain ⟨cs, hc⟩ := own_cells h eg
    have := k.cells hc
    exact hh g (ow.lt h eg).2 (this.2.2 h1) this.1 (h2 g eg)
  have ir : ∀ {g : Nat} {l : List Int}, IRow W g l → IRow W' g l := fun h => h.keep (by
    have := k.cells h
    exact hh _ h.lt (this.2.2 (by decide)) this.1 (fun e => ow.type k.os h (by decide) e.symm))
  obtain ⟨D1, m1, m2⟩ := k.mt
  obtain ⟨es, c, hn⟩ := k.tobj
  have hnk : q.tm ≠ kb := fun e => by rw [e, k.box] at hn; cases hn
  have hn3 : q.sv.ownBlock ≠ some q.tm := fun e => ow.kind k.os hn rfl e.symm
  refine ⟨hk, ho, row k.o0 (by decide) (own_ne k.o0 k.os (by decide)), row k.o1 (by decide) (own_ne k.o1 k.os (by decide)), row k.o2 (by decide) (own_ne k.o2 k.os (by decide)), row k.o3 (by decide) (fun g e1 e2 => k.s3 g e2 e1), hm, ⟨D1, map_keep m1 (hh _ (Array.getElem?_eq_some_iff.1 hn).1 hnk k.nt.symm hn3), m2⟩, fun x hx => ir (k.i0 x hx), fun x hx => ir (k.i1 x hx), k.nt, k.n01, k.n2, fun g eg e3 => ?_, k.bk, k.bn, k.bt, k.br, fun x hx => ?_, k.lt, k.lx⟩
  · rcases hw with e | e
    · exact k.s3 g (e ▸ eg) e3
    · have := e g eg
      have := (ow.lt k.o3 e3).2
      omega
  · rcases List.mem_append.1 hx with h | h
    · exact k.ls x h
    · rw [List.mem_singleton.1 h]; exact hs
end
def StOut (B kb : Nat) (f0 f1 : Value) (q : Kv) (d : Kq) (s : St) (W : World) (e : Ending) (W' : World) : Prop :=
  ∃ (i : Nat) (sv : Value) (sts : List St), e = .returned (.int .i64 (i : Int)) ∧ sts[i]? = some s ∧ (sts = d.sts ∨ (s ∉ d.sts ∧ sts = d.sts ++ [s])) ∧ KI B kb f0 f1 { q with sv := sv } { d with sts := sts } W' ∧ W.heap.size ≤ W'.heap.size ∧ W'.os = W.os ∧ W'.tape = W.tape ∧ W'.output = W.output ∧ (∀ g, g < W.heap.size → g ≠ kb → g ≠ q.nm → q.sv.ownBlock ≠ some g → W'.heap[g]? = W.heap[g]?) ∧ (sv.ownBlock = q.sv.ownBlock ∨ ∀ g, sv.ownBlock = some g → W.heap.size ≤ g)
theorem info76 : (Try.prog.info? 76).map (fun i => (i.zero, i.size, i.bytes)) = some (some (.agg #[.int .i64 0, .int .i64 0]), 2, 16) := by kernel_rfl
theorem look110 {W : World} {m n : Nat} {D : DataW Unit} (hown : W.ownsMap Try.prog 76 (plainElem (H := Unit) Try.prog 3) m n D) (s : St) (hs : OkS s) :
    ∃ c : Int, (Instr.lookup 110 (.map (some m)) (.agg #[.int .i64 (s.1 : Int), .int .i64 (s.2 : Int)]) true).run Try.prog W = .ok (.tuple #[.int .i64 c, .bool (Maps.has D (kp s))]) W ∧ D.atKey (kp s) (.lit (.int .i64 0)) = .lit (.int .i64 c) := by
  obtain ⟨v, ps, hrun, hv⟩ := hown.look_ok law76 Try.underlying110 (zero3 W) (plainElem_int Try.underlying3 (by decide)) (key76 s hs)
  obtain ⟨c, rfl, hc, hwc⟩ := plainElem_int_inv Try.underlying3 hv
  exact ⟨c, hrun, congrArg Prod.fst hc⟩
theorem step_update {ops : Array Oper} {o : Oper} {a : Act} {w : World} {K : Act → World → Prop} {Q : Exit → Act → World → Prop} {E : Prop} (hgd : o.guard = none) (m x v : Operand) (ho : o.op = .mapUpdate 110 m x v) (b n : Nat) (D : DataW Unit)
    (hm : a.eval m = .map (some b)) (hown : w.ownsMap Try.prog 76 (plainElem (H := Unit) Try.prog 3) b n D) (hn : n < maxLen) (key val : Value) (kl : Lit) (hx : a.eval x = key) (hv : a.eval v = val) (hkey : keyOf Try.prog 76 key = some kl)
    (d : DataW Unit) (ps : List MemPlace) (hval : plainElem (H := Unit) Try.prog 3 val = some (d, ps))
    (hK : ∀ w', w'.ownsMap Try.prog 76 (plainElem (H := Unit) Try.prog 3) b (n + 1) (D.put kl d) → w.grownBy w' (some b) → K (a.put o.dst undef) w') : if Region.wanted o (yielded ops a.tmps) = true then Oper.wp Try.prog o a w K Q else E := by
  have hw : Region.wanted o (yielded ops a.tmps) = true := by simp [Region.wanted, hgd]
  rw [if_pos hw]
  obtain ⟨w', hrun, r1, r2⟩ := hown.update law76 Try.underlying110 hn hkey hval
  unfold Oper.wp
  simp [execOp, ho, hm, hx, hv, hrun, Result.andThen]
  exact hK w' r1 r2
theorem new2 (W : World) (s : St) : ∀ j x, (sc s)[j]? = some x → (W.alloc (.cells #[.int .i64 (s.1 : Int), .int .i64 (s.2 : Int)] 76)).cell? ((⟨W.heap.size, 0, none⟩ : Addr).add j) = some x := fun j x hx => by
  have hadd : (⟨W.heap.size, 0, none⟩ : Addr).add j = ⟨W.heap.size, j, none⟩ := by unfold Addr.add; split <;> simp_all
  rw [hadd, Lib.cell_of_heap (World.alloc_heap_new W _)]
  match j, hx with
  | 0, hx => exact hx
  | 1, hx => exact hx
  | (j + 2), hx => simp [sc] at hx
theorem one2 (s : St) : ∀ u ∈ sc s, u.oneCell' = true := fun u hu => by
  simp [sc] at hu
  rcases hu with rfl | rfl <;> rfl
set_option maxHeartbeats 4000000 in
set_option maxRecDepth 100000 in
theorem state_any {B kb : Nat} {f0 f1 : Value} {q : Kv} {d : Kq} {W : World} (k : KI B kb f0 f1 q d W) (s : St) (hs : OkS s) (hn : d.sts.length ≤ 900000) :
    Calls Try.prog 58 #[.pointer (some ⟨kb, 0, none⟩), .agg #[.int .i64 (s.1 : Int), .int .i64 (s.2 : Int)]] W (StOut B kb f0 f1 q d s W) := by
  obtain ⟨wA, HWA⟩ : ∃ wA, Hid (wA = W.alloc (.cells #[.int .i64 (s.1 : Int), .int .i64 (s.2 : Int)] 76)) := ⟨_, rfl⟩
  have B0 : Below W.heap.size W wA := by rw [HWA.out]; exact below_alloc W _
  have hA3 : wA.heap[W.heap.size]? = some (.cells #[.int .i64 (s.1 : Int), .int .i64 (s.2 : Int)] 76 (0, 0)) := by rw [HWA.out]; exact heap_alloc_new W _
  have a0 : wA.cell? ⟨W.heap.size, 0, none⟩ = some (.int .i64 (s.1 : Int)) := by rw [Lib.cell_of_heap hA3]; rfl
  have a1 : wA.cell? ⟨W.heap.size, 1, none⟩ = some (.int .i64 (s.2 : Int)) := by rw [Lib.cell_of_heap hA3]; rfl
  have kA := k.later B0
  have c3 := kA.c3
  obtain ⟨D, hD, hMN⟩ := kA.mn
  have hlk := fun n => look110 (W := wA.drewN n) (map_keep (W := wA) (W' := wA.drewN n) hD rfl) s hs
  obtain ⟨c, _, hc⟩ := hlk 0
  have hlk2 : ∀ n, (Instr.lookup 110 (.map (some q.nm)) (.agg #[.int .i64 (s.1 : Int), .int .i64 (s.2 : Int)]) true).run Try.prog (wA.drewN n) = .ok (.tuple #[.int .i64 c, .bool (Maps.has D (kp s))]) (wA.drewN n) := fun n => by
    obtain ⟨c', h1, h2⟩ := hlk n
    rw [hc] at h2
    simp only [DataW.lit.injEq, Lit.int.injEq, true_and] at h2
    rw [h1, h2]
  by_cases hin : s ∈ d.sts
  · obtain ⟨i, hi⟩ := List.mem_iff_getElem?.1 hin
    have hci := hMN.at' i _ hi
    rw [hc] at hci
    simp only [DataW.lit.injEq, Lit.int.injEq, true_and] at hci
    subst hci
    have HI := (show Hid _ from hi)
    rw [(hMN.has _ hs).2 hin] at hlk2
    have HKA := (show Hid _ from kA)
    clear hlk hc hin hi k kA hD hMN
    go_enter Try.func58, Try.ntmps58
    go_wp2_with (fail)
    rw [← HWA.out]
    clear HWA
    go_quiet (fail)
    go_wp2_with (fail)
    go_ret
    exact ⟨i, q.sv, d.sts, rfl, HI.out, .inl rfl, HKA.out.later (below_drewN (Below.refl _ _) _), B0.size, B0.os, B0.tape, B0.output, (fun g hg _ _ _ => B0.block g hg), .inl rfl⟩
  · rw [show Maps.has D (kp s) = false from Bool.eq_false_iff.2 (fun h => hin ((hMN.has _ hs).1 h))] at hlk2
    have HKA := (show Hid _ from kA)
    have HNI := (show Hid _ from hin)
    have HMN := (show Hid _ from hMN)
    have HD : Hid (wA.ownsMap Try.prog 76 (plainElem (H := Unit) Try.prog 3) q.nm d.sts.length D) := hD
    have HTD : Hid (Tidy D) := hD.tidy law76
    have hkey := key76 s hs
    have HSS := (show Hid _ from hs)
    obtain ⟨g2, c2', hv2, b31, b32⟩ := ow.form kA.os
    have c2 := kA.c2
    rw [hv2] at c2
    clear hlk hc hin k kA hD hMN hs
    go_enter Try.func58, Try.ntmps58
    go_wp2_with (fail)
    rw [← HWA.out]
    clear HWA
    go_quiet (fail)
    go_wp2_with (fail)
    have K1 := (show Hid _ from HKA.out.later (below_drewN (Below.refl _ _) nq))
    have B1 := below_drewN B0 nq
    have D1 : (wA.drewN nq).ownsMap Try.prog 76 (plainElem (H := Unit) Try.prog 3) q.nm d.sts.length D := map_keep (W := wA) (W' := wA.drewN nq) HD.out rfl
    have h3 : (wA.drewN nq).heap[W.heap.size]? = some (.cells #[.int .i64 (s.1 : Int), .int .i64 (s.2 : Int)] 76 (0, 0)) := hA3
    clear HKA B0 HD hA3 a0 a1 c2 c3 hlk2
    generalize wA.drewN nq = w1 at *
    have a0 : w1.cell? ⟨W.heap.size, 0, none⟩ = some (.int .i64 (s.1 : Int)) := by rw [Lib.cell_of_heap h3]; rfl
    have a1 : w1.cell? ⟨W.heap.size, 1, none⟩ = some (.int .i64 (s.2 : Int)) := by rw [Lib.cell_of_heap h3]; rfl
    have c3 := K1.out.c3
    have hkn : kb ≠ q.nm := fun e => by
      obtain ⟨es, c, h⟩ := K1.out.nobj
      rw [← e, K1.out.box] at h
      cases h
    have hsn : q.sv.ownBlock ≠ some q.nm := fun e => by
      obtain ⟨es, c, h⟩ := K1.out.nobj
      exact ow.kind K1.out.os h rfl e.symm
    have hsk : q.sv.ownBlock ≠ some kb := fun e => ow.type K1.out.os K1.out.box (by decide) e.symm
    have hwn : W.heap.size ≠ q.nm := (K1.out.cells h3).1
    have hl3 : W.heap.size < w1.heap.size := (Array.getElem?_eq_some_iff.1 h3).1
    obtain ⟨w2, hrun, hD2, hg2'⟩ := (map_keep (W := w1) (W' := w1.drew) D1 rfl).update law76 Try.underlying110 (by unfold maxLen; omega) hkey (plainElem_int (a := (d.sts.length : Int)) Try.underlying3 (WalkArith.wf_i64 (by omega)))
    have hg2 : w1.grownBy w2 (some q.nm) := ⟨hg2'.os, hg2'.tape, hg2'.output, hg2'.size, hg2'.block⟩
    go_region_law (fail)
    all_goals
      have x2 : w2.heap[kb]? = some (.cells (kcells f0 f1 q) 113 (0, 0)) := (hg2.block kb K1.out.kl (fun e => hkn (Option.some.inj e))).trans K1.out.box
      have p2 : w2.cell? ⟨kb, 2, none⟩ = some (.slice g2 d.sts.length c2') := by rw [Lib.cell_of_heap x2, ← hv2]; rfl
      have h32 : w2.heap[W.heap.size]? = some (.cells #[.int .i64 (s.1 : Int), .int .i64 (s.2 : Int)] 76 (0, 0)) := (hg2.block _ hl3 (fun e => hwn (Option.some.inj e))).trans h3
      have a02 : w2.cell? ⟨W.heap.size, 0, none⟩ = some (.int .i64 (s.1 : Int)) := by rw [Lib.cell_of_heap h32]; rfl
      have a12 : w2.cell? ⟨W.heap.size, 1, none⟩ = some (.int .i64 (s.2 : Int)) := by rw [Lib.cell_of_heap h32]; rfl
      have o2 := ow.keep K1.out.os (W' := w2) (fun g eg => hg2.block g (ow.lt K1.out.os eg).2 (fun e => hsn (by rw [← Option.some.inj e]; exact eg)))
      rw [hv2] at o2
      have HO := (show Hid _ from ow.later o2 (Below.drew (below_alloc w2 (.cells #[.int .i64 (s.1 : Int), .int .i64 (s.2 : Int)] 76))))
      have hBw : B ≤ w2.heap.size := Nat.le_trans (Nat.le_trans K1.out.bk (Nat.le_of_lt K1.out.kl)) hg2.size
      have q2 : (w2.alloc (.cells #[.int .i64 (s.1 : Int), .int .i64 (s.2 : Int)] 76)).cell? ⟨kb, 2, none⟩ = some (.slice g2 d.sts.length c2') := by rw [(below_alloc w2 _).cell (show kb < w2.heap.size from (Array.getElem?_eq_some_iff.1 x2).1)]; exact p2
      have hm2 := HMN.out.put HTD.out kp_inj K1.out.ls HSS.out (law76.key hkey) HNI.out
      clear o2
      go_wp2_with (fail)
      go_region_law (first | (refine ow.step_append (by rfl) (.tmp 33) (.tmp 35) 111 (by rfl) 76 _ 2 16 Try.underlying111 info76 rfl (by decide) (by decide) B (.slice g2 d.sts.length c2') d.sts.length (scs d.sts) w2.heap.size (sc s) (by rfl) (by rfl) (by exact HO.out) rfl (by exact new2 w2 s) (one2 s) (by omega) (by simp; omega) ?_; intro g' cap' w3 ho hgr hw3; have x3 : w3.heap[kb]? = some (.cells (kcells f0 f1 q) 113 (0, 0)) := (hgr.block kb (Nat.lt_of_lt_of_le (Array.getElem?_eq_some_iff.1 x2).1 (below_alloc w2 _).size) (fun e => hsk (by rw [hv2]; exact e.symm))).trans (((below_alloc w2 _).block kb (Array.getElem?_eq_some_iff.1 x2).1).trans x2); have y2 : w3.cell? ⟨kb, 2, none⟩ = some (.slice g2 d.sts.length c2') := by { rw [Lib.cell_of_heap x3, ← hv2]; rfl }; have z2 : w3.frozen? ⟨kb, 2, none⟩ = false := Lib.frozen_of_heap x3 2))
      all_goals
        go_wp2_with (fail)
        go_ret
        have hgr' : (w2.alloc (.cells #[.int .i64 (s.1 : Int), .int .i64 (s.2 : Int)] 76)).grownBy w3 (Value.slice g2 d.sts.length c2').ownBlock := ⟨hgr.os, hgr.tape, hgr.output, hgr.size, hgr.block⟩
        have hh : ∀ g, g < W.heap.size → g ≠ kb → g ≠ q.nm → q.sv.ownBlock ≠ some g → (w3.setCell ⟨kb, 2, none⟩ (.slice (some ⟨g', 0, none⟩) (d.sts.length + 1) cap')).heap[g]? = W.heap[g]? := fun g h1 h2 h3 h4 => by
          have l1 := Nat.lt_of_lt_of_le h1 B1.size
          have l2 := Nat.lt_of_lt_of_le l1 hg2.size
          rw [Below.heap_setCell _ _ _ _ h2, hgr'.block g (Nat.lt_of_lt_of_le l2 (below_alloc w2 _).size) (fun e => h4 (by rw [hv2]; exact e.symm)), (below_alloc w2 _).block g l2, hg2.block g l1 (fun e => h3 (Option.some.inj e)), B1.block g h1]
        have hh1 : ∀ g, g < w1.heap.size → g ≠ kb → g ≠ q.nm → q.sv.ownBlock ≠ some g → (w3.setCell ⟨kb, 2, none⟩ (.slice (some ⟨g', 0, none⟩) (d.sts.length + 1) cap')).heap[g]? = w1.heap[g]? := fun g l1 h2 h3 h4 => by
          have l2 := Nat.lt_of_lt_of_le l1 hg2.size
          rw [Below.heap_setCell _ _ _ _ h2, hgr'.block g (Nat.lt_of_lt_of_le l2 (below_alloc w2 _).size) (fun e => h4 (by rw [hv2]; exact e.symm)), (below_alloc w2 _).block g l2, hg2.block g l1 (fun e => h3 (Option.some.inj e))]
        have hsz3 : W.heap.size ≤ w3.heap.size := Nat.le_trans B1.size (Nat.le_trans hg2.size (Nat.le_trans (below_alloc w2 _).size hgr'.size))
        have hown : (w3.setCell ⟨kb, 2, none⟩ (.slice (some ⟨g', 0, none⟩) (d.sts.length + 1) cap')).ownsRow B 76 2 (.slice (some ⟨g', 0, none⟩) (d.sts.length + 1) cap') (d.sts ++ [s]).length (scs (d.sts ++ [s])) := by
          rw [scs_one, List.length_append]
          exact ow.keep ho fun g eg => by
            have hne : g ≠ kb := fun e => by subst e; exact ow.type ho x3 (by decide) eg.symm
            rw [Below.heap_setCell _ _ _ _ hne]
        have hmap : ∃ D', (w3.setCell ⟨kb, 2, none⟩ (.slice (some ⟨g', 0, none⟩) (d.sts.length + 1) cap')).ownsMap Try.prog 76 (plainElem (H := Unit) Try.prog 3) q.nm (d.sts ++ [s]).length D' ∧ MapN kp OkS (d.sts ++ [s]) D' := by
          refine ⟨_, ?_, hm2⟩
          rw [List.length_append]
          have hD2' := hD2
          obtain ⟨es, c, hb2, _⟩ := hD2'
          have lt2 := (Array.getElem?_eq_some_iff.1 hb2).1
          refine map_keep (W := w2) hD2 ?_
          rw [Below.heap_setCell _ _ _ _ hkn.symm, hgr'.block q.nm (Nat.lt_of_lt_of_le lt2 (below_alloc w2 _).size) (fun e => hsn (by rw [hv2]; exact e.symm)), (below_alloc w2 _).block q.nm lt2]
        have hbox : (w3.setCell ⟨kb, 2, none⟩ (.slice (some ⟨g', 0, none⟩) (d.sts.length + 1) cap')).heap[kb]? = some (.cells (kcells f0 f1 { q with sv := .slice (some ⟨g', 0, none⟩) (d.sts.length + 1) cap' }) 113 (0, 0)) := by
          rw [set_heap _ _ _ _ 2 _ x3]
          rfl
        have hwh : (Value.slice (some ⟨g', 0, none⟩) (d.sts.length + 1) cap').ownBlock = q.sv.ownBlock ∨ ∀ g, (Value.slice (some ⟨g', 0, none⟩) (d.sts.length + 1) cap').ownBlock = some g → w1.heap.size ≤ g := by
          rcases hw3 with e | e
          · exact .inl (by rw [hv2]; exact e)
          · refine .inr fun g eg => ?_
            simp [Value.ownBlock] at eg
            have h1 := (below_alloc w2 (.cells #[.int .i64 (s.1 : Int), .int .i64 (s.2 : Int)] 76)).size
            have h2 := hg2.size
            have h3 : (w2.alloc (.cells #[.int .i64 (s.1 : Int), .int .i64 (s.2 : Int)] 76)).heap.size ≤ g' := e
            omega
        exact ⟨d.sts.length, .slice (some ⟨g', 0, none⟩) (d.sts.length + 1) cap', d.sts ++ [s], rfl, by rw [List.getElem?_append_right (Nat.le_refl _)]; simp, .inr ⟨HNI.out, rfl⟩, K1.out.state HSS.out hh1 hbox hown hmap hwh, by simpa [World.setCell] using hsz3, hgr'.os.trans (hg2.os.trans B1.os), hgr'.tape.trans (hg2.tape.trans B1.tape), hgr'.output.trans (hg2.output.trans B1.output), hh, hwh.imp id (fun h g eg => Nat.le_trans B1.size (h g eg))⟩
end Go.Proofs.Ytlmodfeiphffcaa.mk
