/-
  Contracts over this program: so many empty texts behind others (tok.written); what ids write, in plain words.
-/
import Derived.Test.YthmecbonjkcnmaaKCh
import Derived.Test.YthmecbonjkcnmaaKWa
import Derived.Lib.AppendZeros
namespace Go.Proofs.Ythmecbonjkcnmaa.tw
open Go.ChangeShapes Go.WideShapes Go.ChangeAt Go.RowKit Go.Shelf
open cf (Cf Cp cv CfAt CBox cfE cbox_new)
open mg (Row RowV IntsV StrsV In chain below_alloc Mgs errOf textsOf TextsOut atI InR cat AllIn)
set_option linter.unusedVariables false

def e0 : ByteArray := ⟨#[]⟩
theorem zc (x : Value) (m : Nat) : Builtin.zeroCells #[x] m = (List.replicate m x).toArray := by
  apply Array.ext'
  apply List.ext_getElem
  · simp [Builtin.zeroCells]
  · intro i h1 h2
    simp [Builtin.zeroCells, Nat.mod_one]
theorem zeros_own {w : World} (base n m : Nat) (v : Value) (xs : List Value) (hown : w.ownsRow base 9 1 v n xs) (hv : v ≠ .slice none 0 0) (hm : n + m ≤ 1000000) (hb : base ≤ w.heap.size) :
    ∃ v' w', (Builtin.append_ #[31, 3] 31 #[v, .int .i64 (m : Int)]).run Try.prog w = .ok v' w' ∧ w'.ownsRow base 9 1 v' (n + m) (xs ++ List.replicate m (.string e0)) ∧ w.grownBy w' v.ownBlock := by
  obtain ⟨i0, hi, hz, hz1, hz2⟩ := info_parts mg.info9
  have hw : IntKind.i64.wrap (m : Int) = m := by rw [IntKind.wrap_i64]; omega
  have hneg : ¬ ((m : Int) < 0) := by omega
  have h48i : ¬ (281474976710656 < (m : Int) * ((i0.bytes : Nat) : Int)) := by rw [hz2]; omega
  have hlen : (xs ++ List.replicate m (Value.string e0)).length = (n + m) * 1 := by rw [List.length_append, hown.1, List.length_replicate]; omega
  rcases hown.2 with ⟨rfl, _⟩ | ⟨g, cap, cur, rfl, hbg, hg, hnc, hcm, hcs, htake⟩
  · exact absurd rfl hv
  · have hzz : Builtin.zeroCells (Value.string ⟨#[]⟩).cells m = (List.replicate m (Value.string e0)).toArray := zc _ m
    by_cases hroom : n + m ≤ cap
    · have hst := run_storeCells_at Try.prog g (n * 1) 9 (List.replicate m (Value.string e0)) 0 cur w hg (by rw [List.length_replicate, hcs]; omega) (fun u hu => by rw [List.eq_of_mem_replicate hu]; rfl)
      simp only [Nat.add_zero] at hst
      have hr : (Builtin.append_ #[31, 3] 31 #[.slice (some ⟨g, 0, none⟩) n cap, .int .i64 (m : Int)]).run Try.prog w = .ok (.slice (some ⟨g, 0, none⟩) (n + m) cap) (w.setRow g (cur.toList.take (n * 1) ++ List.replicate m (Value.string e0) ++ cur.toList.drop (n * 1 + m)).toArray) := by
        rcases Nat.eq_zero_or_pos m with rfl | hpos
        · simp [Builtin.append_, run_underlying Try.underlying31, run_underlying Try.underlying3, sizeOf, typeInfo, zeroValue, hi, hz, hz1, asInt, asIntOf, show IntKind.i64.wrap 0 = 0 from rfl, hnc, Addr.add_lit]
          simp at hst
          simp [hst, Result.andThen]
        · have hns : ¬ (m = 0) := by omega
          simp [Builtin.append_, run_underlying Try.underlying31, run_underlying Try.underlying3, sizeOf, typeInfo, zeroValue, hi, hz, hz1, asInt, asIntOf, hw, hneg, h48i, hns, hroom, hzz, Addr.add_lit]
          simp at hst
          simp [hst, Result.andThen]
      refine ⟨_, _, hr, ⟨hlen, .inr ⟨g, cap, _, rfl, hbg, setRow_heap w g cur _ 9 _ hg, hroom, hcm, ?_, ?_⟩⟩, ⟨rfl, rfl, rfl, by simp, fun k _ hk => setRow_other w g k _ (fun e => hk (by simp [Value.ownBlock, e]))⟩⟩
      · simp only [List.size_toArray, List.length_append, List.length_take, List.length_drop, Array.length_toList, List.length_replicate]
        omega
      · rw [htake, ← hlen]
        exact List.take_left
    · have hr : (Builtin.append_ #[31, 3] 31 #[.slice (some ⟨g, 0, none⟩) n cap, .int .i64 (m : Int)]).run Try.prog w = .ok (.slice (some ⟨w.heap.size, 0, none⟩) (n + m) (grownCap w (n + m) cap 9)) (w.drew.alloc (.cells (xs.toArray ++ (List.replicate m (Value.string e0)).toArray ++ Builtin.zeroCells (Value.string e0).cells (grownCap w (n + m) cap 9 - (n + m))) 9)) := by
        have hns : ¬ (m = 0) := by omega
        have holds : ∀ j u, xs[j]? = some u → w.cell? ((⟨g, 0, none⟩ : Addr).add j) = some u := hown.cells (g := g) rfl
        have hfo := run_firstCells_some (P := Try.prog) w.drew 1 n ⟨g, 0, none⟩ n cap xs hown.1 (by simpa using holds)
        have h63' : ¬ (9223372036854775807 < ((n : Int) + (m : Int))) := by omega
        have h48' : ¬ (281474976710656 < Builtin.nextslicecap (n + m) cap * i0.bytes) := by
          have := growslice_fits (need := n + m) (old := cap) (bytes := i0.bytes) (by omega) (by rw [hz2]; omega)
          omega
        simp [Builtin.append_, run_underlying Try.underlying31, run_underlying Try.underlying3, sizeOf, typeInfo, zeroValue, hi, hz, hz1, asInt, asIntOf, hw, hneg, h48i, hns, hroom, h63', h48', Question.forced, hfo, hzz, newRow, grownCap]
        rfl
      have hge := grownCap_ge w (n + m) cap 9
      refine ⟨_, _, hr, ⟨hlen, .inr ⟨w.heap.size, _, _, rfl, hb, heap_alloc_new w.drew _, hge, grownCap_le_maxLen w (n + m) cap 9 (by unfold maxLen; omega), ?_, ?_⟩⟩, ⟨rfl, rfl, rfl, by simp, fun k hk _ => heap_alloc_old w.drew _ hk⟩⟩
      · have hxl := hown.1
        simp only [Array.size_append, List.size_toArray, size_zeroCells, List.length_replicate, show (Value.string e0).cells.size = 1 from rfl]
        omega
      · simp only [Array.toList_append, List.append_assoc]
        rw [← List.append_assoc, ← hlen]
        exact List.take_left

/-- what each id writes -/
def tsF (c : Cf) : List ByteArray := textsOf c.ms ++ List.replicate c.ns.length e0
theorem merges_ok {c : Cf} (h : cfE c = 0) : errOf c.ms = 0 := by
  rw [cf.cfE_eq] at h
  by_cases h1 : cf.passE c.ps ≠ 0
  · rw [if_pos h1] at h; exact absurd h h1
  · rw [if_neg h1] at h
    by_cases h2 : cf.splitE c.t ≠ 0
    · rw [if_pos h2] at h; exact absurd h h2
    · rw [if_neg h2] at h
      by_cases h3 : errOf c.ms ≠ 0
      · rw [if_pos h3] at h; exact absurd h h3
      · omega
theorem names_few {c : Cf} (h : cfE c = 0) : c.ns.length ≤ 64 := by
  rw [cf.cfE_eq] at h
  by_cases h1 : cf.passE c.ps ≠ 0
  · rw [if_pos h1] at h; exact absurd h h1
  · rw [if_neg h1] at h
    by_cases h2 : cf.splitE c.t ≠ 0
    · rw [if_pos h2] at h; exact absurd h h2
    · rw [if_neg h2] at h
      by_cases h3 : errOf c.ms ≠ 0
      · rw [if_pos h3] at h; exact absurd h h3
      · rw [if_neg h3] at h
        unfold cf.rest at h
        by_cases h4 : cf.LastOk c
        · exact h4.1.1
        · rw [if_neg h4] at h; cases h
theorem tsF_len {c : Cf} (h : cfE c = 0) : (tsF c).length = 256 + c.ms.length + c.ns.length := by
  unfold tsF
  rw [List.length_append, List.length_replicate, (mg.fine (merges_ok h)).len]
theorem tsF_size {c : Cf} (h : cfE c = 0) : ∀ t ∈ tsF c, t.size ≤ 64 := fun t ht => by
  rcases List.mem_append.1 ht with h1 | h1
  · exact ((mg.fine (merges_ok h)).size t h1).2
  · rw [List.eq_of_mem_replicate h1]; decide
set_option maxHeartbeats 1000000 in
set_option maxRecDepth 100000 in
theorem written_any (c : Cf) (p : Cp) (w : World) (hv : CfAt w c p) (h0 : cfE c = 0) : Calls Try.prog 10 #[.agg (cv c p)] w fun e w' => ∃ v, e = .returned v ∧ StrsV w' v (tsF c) ∧ Below w.heap.size w w' := by
  obtain ⟨wA, hwA⟩ : ∃ wA, wA = w.alloc (.cells (cv c p) 34) := ⟨_, rfl⟩
  have B0 : Below w.heap.size w wA := by rw [hwA]; exact below_alloc _ _
  have hX : CBox wA w.heap.size c p := by rw [hwA]; exact cbox_new w c p
  have c27 := mg.texts_any c.ms _ wA (hv.later B0).ms
  have k9 := hX.c9
  have HX := (show Hid (CBox wA w.heap.size c p) from hX)
  have hfew := names_few h0
  have hm := merges_ok h0
  have HF := (show Hid _ from mg.fine hm)
  have hml := (mg.ok_run hm).1
  rw [hwA] at k9
  clear hv hX
  go_enter Try.func10, Try.ntmps10
  go_wp2_with (fail)
  rw [← hwA]
  clear hwA k9
  go_at_call 27
  refine c27.mono ?_
  rintro e w1 ⟨v1, rfl, ho, b1⟩
  have k10 := (HX.out.later b1).c10
  have hvn : v1 ≠ .slice none 0 0 := fun e => by
    subst e
    have h1 := HF.out.len
    rcases ho.2 with ⟨_, h2⟩ | ⟨g, cap, cur, h2, _⟩
    · omega
    · cases h2
  have h1 := HF.out.len
  obtain ⟨v2, w2, happ, ho2, hg2⟩ := zeros_own (w := w1) wA.heap.size (textsOf c.ms).length c.ns.length v1 _ ho hvn (by omega) b1.size
  have b2 : Below wA.heap.size wA w2 := b1.trans ⟨hg2.os, hg2.tape, hg2.output, hg2.size, fun k hk => hg2.block k (by have := b1.size; omega) (fun e => by
    have := (ow.lt ho e.symm).1
    omega)⟩
  go_wp2_with (at_builtin; refine Lib.wpList_append_run _ rfl (.tmp 11) (.tmp 14) 31 3 rfl v1 (.int .i64 (c.ns.length : Int)) rfl rfl v2 w2 happ ?_)
  go_ret
  refine ⟨v2, rfl, RowV.own (B := wA.heap.size) (e := 9) ?_, chain B0 b2⟩
  unfold tsF
  rw [List.length_append, List.length_replicate, List.map_append, List.map_replicate]
  exact ho2
end Go.Proofs.Ythmecbonjkcnmaa.tw
