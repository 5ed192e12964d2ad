/-
  Contracts over this program: the document's Apply.
-/
import Derived.Test.YthmecbonjkcnmaaGreatM14
import Derived.Lib.AppendStr
import Derived.Lib.ConvBytes
namespace Go.Proofs.YthmecbonjkcnmaaGreat.ru
open Go.ChangeShapes Go.WideShapes Go.ChangeAt Go.RowKit
set_option linter.unusedVariables false

/-- the best rule so far, or an empty one -/
def rep (o : Option Ru) : Ru := o.getD ⟨⟨#[]⟩, ⟨#[]⟩⟩
def upBest (l : List Ru) (u : List UInt8) (j : Nat) : Option Ru := (l.take j).foldl (step u) none
theorem upBest_zero (l : List Ru) (u : List UInt8) : upBest l u 0 = none := by unfold upBest; rw [List.take_zero]; rfl
theorem upBest_all (l : List Ru) (u : List UInt8) : upBest l u l.length = best l u := by unfold upBest; rw [List.take_length]; rfl
theorem upBest_succ (l : List Ru) (u : List UInt8) (j : Nat) (h : j < l.length) : upBest l u (j + 1) = step u (upBest l u j) (nth l j) := by
  unfold upBest
  rw [take_nth l j h, List.foldl_append]
  rfl
theorem bl_rep (o : Option Ru) : bl o = (rep o).fr.size := by
  cases o with
  | none => rfl
  | some r => exact r.f_len
theorem step_eq (u : List UInt8) (o : Option Ru) (r : Ru) : step u o r = if r.f.isPrefixOf u && decide ((rep o).fr.size < r.fr.size) then some r else o := by
  unfold step
  rw [bl_rep, r.f_len]
theorem owns_bytes {w : World} {B : Nat} {v : Value} {out : List UInt8} (h : w.ownsRow B 5 1 v out.length (Lib.byteCells out)) : Sem.run Tryz.prog (convert 66 9 v) w = .ok (.string ⟨out.toArray⟩) w := by
  rcases h.2 with ⟨rfl, h0⟩ | ⟨g, cap, cur, rfl, hb, hg, hn, hc, hs, ht⟩
  · have e : out = [] := List.length_eq_zero_iff.1 h0
    subst e
    exact run_convert_bytes_nil w 66 5 Tryz.underlying66 Tryz.underlying5 0 0 9 Tryz.underlying9
  · refine run_convert_bytes_back w 66 9 5 ⟨g, 0, none⟩ cap out Tryz.underlying66 Tryz.underlying5 Tryz.underlying9 fun j hj => ?_
    have hplain : (⟨g, 0, none⟩ : Addr).add j = ⟨g, j, none⟩ := by unfold Addr.add; simp; omega
    rw [hplain, World.ownsRow.cellAt h j (by omega)]
    simp [Lib.byteCells, hj]
theorem info80 : (Tryz.prog.info? 80).map (·.size) = some 2 := by kernel_rfl
theorem info5 : (Tryz.prog.info? 5).map (fun i => (i.zero, i.size, i.bytes)) = some (some (.int .u8 0), 1, 1) := by kernel_rfl
/-- how far the text is rewritten -/
def Far (l : List Ru) (s : ByteArray) (out : List UInt8) (k : Nat) : Prop := out ++ ap l (s.data.toList.drop k) = ap l s.data.toList
theorem Far.len {l : List Ru} (hg : Good l) {s : ByteArray} {out : List UInt8} {k : Nat} (h : Far l s out k) (hs : s.size ≤ 3000) : out.length ≤ 100000 := by
  have h1 := congrArg List.length h
  rw [List.length_append] at h1
  have h2 := ap_grow hg s.data.toList
  rw [list_len] at h2
  have h3 := growN_le l hg.2.1 1 (by omega)
  have h4 : growN 1 l * s.size ≤ 32 * 3000 := Nat.mul_le_mul h3 hs
  omega
theorem Far.hit {l : List Ru} (hg : Good l) {s : ByteArray} {out : List UInt8} {k : Nat} (h : Far l s out k) {r : Ru} (hb : best l (s.data.toList.drop k) = some r) : Far l s (out ++ r.to.data.toList) (k + r.fr.size) ∧ k + r.fr.size ≤ s.size ∧ 1 ≤ r.fr.size ∧ r.to.size ≤ 32 := by
  have hp := (best_is l _).1 _ hb
  have hpos := hg.pos hp.1
  have hle := hp.2.length_le
  rw [r.f_len, List.length_drop, list_len] at hle
  rw [r.f_len, r.t_len] at hpos
  refine ⟨?_, by omega, hpos.1, hpos.2.2⟩
  unfold Far
  rw [List.append_assoc, ← h, ap_some hg hb, r.f_len, List.drop_drop]
  rfl
theorem Far.miss {l : List Ru} (hg : Good l) {s : ByteArray} {out : List UInt8} {k : Nat} (h : Far l s out k) (hk : k < s.size) (hb : best l (s.data.toList.drop k) = none) : Far l s (out ++ [s[k]]) (k + 1) := by
  have e : s.data.toList.drop k = s[k] :: s.data.toList.drop (k + 1) := List.drop_eq_getElem_cons (by rw [list_len]; exact hk)
  unfold Far
  rw [← h, e, List.append_assoc]
  rw [e] at hb
  rw [ap_none hg hb]
  rfl

def RApIs (l : List Ru) (s : ByteArray) : Prop := ∀ v w, Rus w v l → Calls Tryz.prog 30 #[v, .string s] w fun e w' => e = .returned (.string (txt (ap l s.data.toList))) ∧ Below w.heap.size w w'
set_option maxHeartbeats 4000000 in
set_option maxRecDepth 100000 in
theorem rap_any (l : List Ru) (hg : Good l) (s : ByteArray) (hs : s.size ≤ 3000) : RApIs l s := by
  intro v w hv
  obtain ⟨i0, hi0, hz0, hz1, hz2⟩ := info_parts info5
  have h64 := hg.1
  obtain ⟨av, cap, rfl, _, _⟩ := hv.form
  go_enter Tryz.func30, Tryz.ntmps30
  go_wp2
  go_loopw [5, 6] (fun u x wr => ∃ (k : Nat) (out : List UInt8), x = .int .i64 k ∧ k ≤ s.size ∧ wr.ownsRow w.heap.size 5 1 u out.length (Lib.byteCells out) ∧ Below w.heap.size w wr ∧ Hid (Far l s out k)) (fun _ x _ => s.size - (intOf x).toNat)
  case atStart =>
    refine ⟨0, [], rfl, by omega, ⟨rfl, .inr ⟨w.heap.size, 0, #[], rfl, Nat.le_refl _, heap_alloc_new w _, Nat.le_refl _, by unfold maxLen; omega, rfl, rfl⟩⟩, (Below.refl _ _).alloc (Nat.le_refl _) _, ?_⟩
    show [] ++ _ = _
    rw [List.drop_zero]
    rfl
  case round =>
    obtain ⟨k, out, rfl, hk, hO, hB, HF⟩ := hrel
    have hol := HF.out.len hg hs
    have hcv := owns_bytes hO
    obtain ⟨og, oc, hu5, hoc1, hoc2⟩ := ow.form hO
    subst hu5
    by_cases hend : k < s.size
    · obtain ⟨wA, HWA⟩ : ∃ wA, Hid (wA = wr.alloc (.cells #[.string ⟨#[]⟩, .string ⟨#[]⟩] 80)) := ⟨_, rfl⟩
      have hab : Below wr.heap.size wr wA := by rw [HWA.out]; exact (Below.refl _ _).alloc (Nat.le_refl _) _
      have hBA : Below w.heap.size w wA := chain hB hab
      have hnA : wA.heap[wr.heap.size]? = some (.cells #[.string ⟨#[]⟩, .string ⟨#[]⟩] 80 (0, 0)) := by rw [HWA.out]; exact heap_alloc_new wr _
      have hOA := ow.later hO hab
      have hbw : w.heap.size ≤ wr.heap.size := hB.size
      clear hcv hO hab
      go_wp2
      rw [← HWA.out]
      obtain ⟨wb, hwb⟩ : ∃ wb, wb = wr.heap.size := ⟨_, rfl⟩
      rw [← hwb] at hnA hbw ⊢
      clear hwb
      go_loopw [18] (fun y wr => ∃ (j : Nat) (q : Ru), y = .int .i64 j ∧ j ≤ l.length ∧ wr.heap[wb]? = some (.cells #[.string q.fr, .string q.to] 80 (0, 0)) ∧ wr.ownsRow w.heap.size 5 1 (.slice og out.length oc) out.length (Lib.byteCells out) ∧ Below w.heap.size w wr ∧ Hid (q = rep (upBest l (s.data.toList.drop k) j))) (fun y _ => l.length - (intOf y).toNat)
      case atStart => exact ⟨0, ⟨⟨#[]⟩, ⟨#[]⟩⟩, rfl, by omega, hnA, hOA, hBA, by show _ = _; rw [upBest_zero]; rfl⟩
      case round =>
        clear hnA hOA hBA HWA
        obtain ⟨j, q, rfl, hj, hn, hO, hB2, HQ⟩ := hrel
        by_cases hje : j < l.length
        · obtain ⟨rb, roff, rcap', hre, hrl, hrm, hrlt, hr1, hr2⟩ := hv.at hje
          obtain ⟨rfl, rfl⟩ : av = some ⟨rb, roff, none⟩ ∧ cap = rcap' := by simpa using hre
          rw [← hB2.cell (p := ⟨rb, roff + j * 2, none⟩) hrlt] at hr1
          rw [← hB2.cell (p := ⟨rb, roff + j * 2 + 1, none⟩) hrlt] at hr2
          have hfr := (bad_no.1 (hg.2.1 _ (nth_mem l j hje))).2.1
          have hst := upBest_succ l (s.data.toList.drop k) j hje
          rw [step_eq, ← HQ.out] at hst
          have HST := (show Hid _ from hst)
          have c21 := beg_any s (nth l j).fr k hs (by omega) (by omega) _ rfl
          have hbe : beg s k (nth l j).fr = (nth l j).f.isPrefixOf (s.data.toList.drop k) := rfl
          rw [← hbe] at HST
          generalize nth l j = r at *
          obtain ⟨wC, HWC⟩ : ∃ wC, Hid (wC = wr.alloc (.cells #[.string r.fr, .string r.to] 80)) := ⟨_, rfl⟩
          have hab : Below wr.heap.size wr wC := by rw [HWC.out]; exact (Below.refl _ _).alloc (Nat.le_refl _) _
          have hwbl : wb < wr.heap.size := (Array.getElem?_eq_some_iff.1 hn).1
          have hnC : wC.heap[wb]? = some (.cells #[.string q.fr, .string q.to] 80 (0, 0)) := (hab.block wb hwbl).trans hn
          have hqC : wC.cell? ⟨wb, 0, none⟩ = some (.string q.fr) := by rw [Lib.cell_of_heap hnC]; rfl
          have hBC : Below w.heap.size w wC := chain hB2 hab
          have hOC := ow.later hO hab
          have hkc : (k : Int) ≤ (s.size : Int) := by omega
          rw [HWC.out] at hqC
          have HNC := (show Hid _ from hnC)
          have HOC := (show Hid _ from hOC)
          have HQS := (show Hid _ from HQ.out)
          clear hst hbe hre hab hn hO hB2 HQ hnC hOC
          cases hbg : beg s k r.fr
          · rw [hbg] at c21 HST
            clear hbg
            go_wp2_with (go_at_call 49; refine (c21 _).mono ?_; rintro e w5 ⟨rfl, rfl⟩)
            rw [← HWC.out]
            refine ⟨⟨j + 1, q, by go_num, by omega, HNC.out, HOC.out, hBC, ?_⟩, by simp [intOf]; omega⟩
            show _ = _
            rw [HST.out, if_neg (by simp)]
            exact HQS.out
          · rw [hbg] at c21 HST
            clear hbg
            by_cases hlt : q.fr.size < r.fr.size
            · have f1 : decide ((q.fr.size : Int) < (r.fr.size : Int)) = true := decide_eq_true (by omega)
              have f2 : (q.fr.size : Int) < (r.fr.size : Int) := by omega
              have hnC2 := HNC.out
              rw [HWC.out] at hnC2
              go_wp2_with (first | (go_at_call 49; refine (c21 _).mono ?_; rintro e w5 ⟨rfl, rfl⟩) | (refine wpList_store_row (by rfl) 80 (.tmp 7) (.tmp 36) (by rfl) wb #[.string r.fr, .string r.to] (by rfl) (by rfl) 80 _ hnC2 info80 rfl (by simp [Value.oneCell']) ?_))
              rw [← HWC.out]
              refine ⟨⟨j + 1, r, by go_num, by omega, setRow_heap _ _ _ _ _ _ HNC.out, ow.keep HOC.out (fun g eg => setRow_other _ _ _ _ (fun e => by subst e; exact ow.type HOC.out HNC.out (by decide) eg.symm)), below_setRow hBC hbw _, ?_⟩, by simp [intOf]; omega⟩
              show _ = _
              rw [HST.out, if_pos (by simpa using hlt)]
              rfl
            · have f1 : decide ((q.fr.size : Int) < (r.fr.size : Int)) = false := decide_eq_false (by omega)
              have f2 : ¬ (q.fr.size : Int) < (r.fr.size : Int) := by omega
              go_wp2_with (go_at_call 49; refine (c21 _).mono ?_; rintro e w5 ⟨rfl, rfl⟩)
              rw [← HWC.out]
              refine ⟨⟨j + 1, q, by go_num, by omega, HNC.out, HOC.out, hBC, ?_⟩, by simp [intOf]; omega⟩
              show _ = _
              rw [HST.out, if_neg (by simpa using hlt)]
              exact HQS.out
        · have he : j = l.length := by omega
          subst he
          have hqq := HQ.out
          rw [upBest_all] at hqq
          have hq0 : wr.cell? ⟨wb, 0, none⟩ = some (.string q.fr) := by rw [Lib.cell_of_heap hn]; rfl
          have hq1 : wr.cell? ⟨wb, 1, none⟩ = some (.string q.to) := by rw [Lib.cell_of_heap hn]; rfl
          cases hbst : best l (s.data.toList.drop k) with
          | none =>
            obtain rfl : q = ⟨⟨#[]⟩, ⟨#[]⟩⟩ := by rw [hqq, hbst]; rfl
            have HF2 := (show Hid _ from HF.out.miss hg hend hbst)
            have hki : (k : Int) < (s.size : Int) := by omega
            have HO1 := (show Hid _ from ow.later hO ((Below.refl _ _).alloc (Nat.le_refl _) (.cells #[.int .u8 (s[k].toNat : Int)] 5)))
            have hB3 : Below w.heap.size w (wr.alloc (.cells #[.int .u8 (s[k].toNat : Int)] 5)) := hB2.alloc hB2.size _
            have hsz3 := hB3.size
            have hOb : ∀ g, (Value.slice og out.length oc).ownBlock = some g → w.heap.size ≤ g := fun g eg => (ow.lt hO eg).1
            clear HF HQ hqq hbst hO
            go_wp2_with (at_builtin; refine ow.wpList_append (by rfl) (.tmp 41) (.tmp 45) 66 (by rfl) 5 (.int .u8 0) 1 1 Tryz.underlying66 info5 (by rfl) (by decide) (by decide) w.heap.size (.slice og out.length oc) out.length (Lib.byteCells out) wr.heap.size [.int .u8 (s[k].toNat : Int)] (by rfl) (by rfl) (by exact HO1.out) (by rfl) (by exact ow.new1 wr (.int .u8 (s[k].toNat : Int)) 5) (by exact ow.one1 _ rfl) (by omega) (by exact hsz3) ?_; intro g' cap' w12 ho hgr _; have b12 := hB3.grown hgr hsz3 hOb)
            refine ⟨⟨k + 1, out ++ [s[k]], by go_num, by omega, ?_, b12, HF2⟩, by simp [intOf]; omega⟩
            rw [byteCells_one, List.length_append]
            exact ho
          | some r =>
            obtain rfl : q = r := by rw [hqq, hbst]; rfl
            obtain ⟨hf2, hk2, hf3, hto⟩ := HF.out.hit hg hbst
            have HF2 := (show Hid _ from hf2)
            have e0 : q.fr.toList.isEmpty = false := by rw [empty_eq]; exact beq_eq_false_iff_ne.2 (by omega)
            have hOb : ∀ g, (Value.slice og out.length oc).ownBlock = some g → w.heap.size ≤ g := fun g eg => (ow.lt hO eg).1
            have hsz3 := hB2.size
            have HNW := (show Hid (∀ W : World, wr.grownBy W (Value.slice og out.length oc).ownBlock → W.cell? ⟨wb, 0, none⟩ = some (.string q.fr)) from fun W hgr => by
              have hlt : wb < wr.heap.size := (Array.getElem?_eq_some_iff.1 hn).1
              have hne : some wb ≠ (Value.slice og out.length oc).ownBlock := ow.type hO hn (by decide)
              rw [World.cell?_of_block (w := wr) (a := ⟨wb, 0, none⟩) (hgr.block wb hlt hne)]
              exact hq0)
            clear HF HQ hqq hbst hf2
            go_wp2_with (at_builtin; refine Lib.wpList_append_own_string _ rfl _ _ 66 9 rfl w.heap.size 5 i0 Tryz.underlying66 Tryz.underlying9 hi0 hz0 hz1 hz2 _ _ _ rfl hO q.to rfl (by unfold maxLen; omega) (by omega) hsz3 ?_; intro v' w12 ho hgr _; obtain ⟨vg, vc, hv', _, _⟩ := ow.form ho; subst hv'; have b12 := hB2.grown hgr hsz3 hOb; have hq2 := HNW.out w12 hgr)
            refine ⟨⟨k + q.fr.size, out ++ q.to.data.toList, by go_num, by omega, ?_, b12, HF2⟩, by simp [intOf]; omega⟩
            rw [Lib.byteCells_append, ← bld.strCells_list, List.length_append, list_len]
            exact ho
    · have he : k = s.size := by omega
      have HE := (show Hid (out = ap l s.data.toList) from by
        have := HF.out
        unfold Far at this
        rw [List.drop_eq_nil_of_le (by rw [list_len]; omega), ap_nil, List.append_nil] at this
        exact this)
      have hki : ¬ (k : Int) < (s.size : Int) := by omega
      clear HF
      go_wp2
      go_ret
      exact ⟨by rw [← HE.out]; rfl, hB⟩
end Go.Proofs.YthmecbonjkcnmaaGreat.ru
