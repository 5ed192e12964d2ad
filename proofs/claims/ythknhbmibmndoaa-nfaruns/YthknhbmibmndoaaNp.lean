/-
  Contracts over this program: a crowd is left (crowd.leave).
-/
import Derived.Test.YthknhbmibmndoaaNk
namespace Go.Proofs.Ythknhbmibmndoaa.nf
open Go.RowKit Go.Shelf
set_option linter.unusedVariables false
open df (Kp Owns Row iv In IntsV)

theorem own_cell {w : World} {B : Nat} {g : Option Addr} {k cap : Nat} {l : List Int} (h : Owns w B (.slice g k cap) l) (i : Nat) (hi : i < l.length) : ∃ b, g = some ⟨b, 0, none⟩ ∧ w.cell? ⟨b, i, none⟩ = some (.int .i64 l[i]) ∧ b < w.heap.size := by
  rcases h.2 with ⟨e, h0⟩ | ⟨gg, cap', cur, e, hb, hgg, hn, hc, hs, ht⟩
  · omega
  · cases e
    refine ⟨gg, rfl, ?_, (Array.getElem?_eq_some_iff.1 hgg).1⟩
    have := World.ownsRow.cellAt h i (by omega)
    rw [this, List.getElem?_map, List.getElem?_eq_getElem hi]
    rfl
theorem own_cap {w : World} {B : Nat} {g : Option Addr} {k cap : Nat} {l : List Int} (h : Owns w B (.slice g k cap) l) : k = l.length ∧ l.length ≤ cap ∧ cap ≤ 9223372036854775807 := by
  rcases h.2 with ⟨e, h0⟩ | ⟨gg, cap', cur, e, hb, hgg, hn, hc, hs, ht⟩
  · cases e; exact ⟨h0.symm, by omega, by omega⟩
  · cases e; unfold maxLen at hc; exact ⟨rfl, hn, hc⟩
/-- a crowd whose list of all is cut to none -/
theorem Crowd.cutA {X : Nat → Prop} {W : World} {B c sb n : Nat} {m : List Bool} {g : Option Addr} {k cap : Nat} {vw : Value} {l q : List Int} (h : Crowd X W B c sb n m (.slice g k cap) vw l q) :
    Crowd X (W.setCell ⟨c, 1, none⟩ (.slice g 0 cap)) B c sb n m (.slice g 0 cap) vw [] q := by
  have b1 := h.blk
  have hh : ∀ k', k' ≠ c → (W.setCell ⟨c, 1, none⟩ (.slice g 0 cap)).heap[k']? = W.heap[k']? := fun k' hk => Below.heap_setCell _ _ _ k' hk
  have key : ∀ (v : Value) (l : List Int), Owns W B v l → some c ≠ v.ownBlock → Owns (W.setCell ⟨c, 1, none⟩ (.slice g 0 cap)) B v l := fun v l ho hn => by
    refine ⟨ho.1, ?_⟩
    rcases ho.2 with h | ⟨g, cap, cur, rfl, hb, hg, hr⟩
    · exact .inl h
    · exact .inr ⟨g, cap, cur, rfl, hb, (hh g (fun e => hn (by rw [← e]; rfl))).trans hg, hr⟩
  have ha : Owns W B (.slice g 0 cap) [] := by
    refine ⟨rfl, ?_⟩
    rcases h.all.2 with ⟨e, h0⟩ | ⟨gg, cap', cur, e, hb, hgg, hn, hc, hs, ht⟩
    · cases e; exact .inl ⟨rfl, rfl⟩
    · cases e; exact .inr ⟨gg, _, cur, rfl, hb, hgg, by simp, hc, hs, by simp⟩
  have hob : (Value.slice g 0 cap).ownBlock = (Value.slice g k cap).ownBlock := by cases g <;> rfl
  refine ⟨?_, (hh sb h.ne.symm).trans h.seen, h.ml, key _ _ ha (by rw [hob]; exact h.nac), key _ _ h.wait h.nwc, fun g' e => h.two g' (by rw [← hob]; exact e), h.bc, h.bs, fun b hb => ?_⟩
  · rw [set_heap _ _ _ _ 1 _ b1]; rfl
  · obtain ⟨a1, a2, a3, a4, a5⟩ := h.ap b hb
    exact ⟨by simpa using a1, a2, a3, by rw [hob]; exact a4, a5⟩
def LeaveIs (n : Nat) : Prop := ∀ (X : Nat → Prop) (B c sb : Nat) (l : List Int) (W : World), Cr X W B c sb n l [] → Calls Try.prog 34 #[.pointer (some ⟨c, 0, none⟩)] W fun e W' => (∃ v, e = .returned v) ∧ Cr X W' B c sb n [] [] ∧ Moved X B W W'
set_option maxHeartbeats 2000000 in
set_option maxRecDepth 100000 in
theorem leave_any (n : Nat) (hn : n ≤ 2000) : LeaveIs n := by
  intro X B c sb l W hC
  obtain ⟨m, va, vw, K, hmk⟩ := hC.lie
  have hlen := hC.len
  obtain ⟨ga, ca, rfl⟩ := df.own_slice K.all
  have k1 := K.c1
  have hcc := own_cap K.all
  have hcap := hcc.2.1
  have htop := hcc.2.2
  have HC := (show Hid (Cr X W B c sb n l []) from hC)
  have HK := (show Hid (Crowd X W B c sb n m (.slice ga l.length ca) vw l []) from K)
  have HMK := (show Hid (∀ i, i < n → m[i]? = some (decide ((i : Int) ∈ l))) from hmk)
  clear hC K hmk hcc
  go_enter Try.func34, Try.ntmps34
  go_wp2_with (fail)
  go_loopw [9] (fun y wr => ∃ (i : Nat) (m1 : List Bool), y = .int .i64 i ∧ i ≤ l.length ∧ Hid (Crowd X wr B c sb n m1 (.slice ga l.length ca) vw l []) ∧ Hid (∀ j, j < n → m1[j]? = some (decide ((j : Int) ∈ l.drop i))) ∧ Hid (Moved X B W wr)) (fun y _ => l.length - (intOf y).toNat)
  case atStart => exact ⟨0, m, rfl, by omega, HK, by rw [List.drop_zero]; exact HMK, Moved.refl _ _ _⟩
  case round =>
    obtain ⟨i, m1, rfl, hi, HK1, HM1, HMV⟩ := hrel
    clear k1
    have k0 := HK1.out.c0
    by_cases hend : i < l.length
    · obtain ⟨b, rfl, hcell, hbl⟩ := own_cell HK1.out.all i hend
      have hrg := HC.out.rg l[i] (List.getElem_mem hend)
      have hdrop : l.drop i = l[i] :: l.drop (i + 1) := List.drop_eq_getElem_cons hend
      have hnd : l[i] ∉ l.drop (i + 1) := by
        have h1 := HC.out.nd
        rw [← List.take_append_drop i l, hdrop] at h1
        have := (List.nodup_append.1 h1).2.1
        exact (List.nodup_cons.1 this).1
      obtain ⟨k, hk⟩ : ∃ k : Nat, l[i] = (k : Int) := ⟨l[i].toNat, by omega⟩
      rw [hk] at hcell hrg hnd hdrop
      have hkn : k < n := by omega
      have hml := HK1.out.ml
      have hkl : k < m1.length := by omega
      have q1 := HK1.out.seen.cell k hkl
      have q2 := HK1.out.seen.fz k
      have HN := (show Hid _ from HK1.out.mark k false)
      have HM2 : Hid (∀ j, j < n → (m1.set k false)[j]? = some (decide ((j : Int) ∈ l.drop (i + 1)))) := fun j hj => by
        rw [List.getElem?_set]
        by_cases e : k = j
        · subst e
          rw [if_pos rfl, if_pos hkl, decide_eq_false hnd]
        · rw [if_neg e, HM1.out j hj, hdrop]
          congr 1
          rw [decide_eq_decide, List.mem_cons]
          constructor
          · rintro (h | h)
            · omega
            · exact h
          · exact .inr
      have HV : Hid (Moved X B W (wr.setCell ⟨sb, k, none⟩ (.bool false))) := HMV.out.set (fun b hb => (HK1.out.ap b hb).2.2.1) HK1.out.bs k _
      clear hk hdrop hnd hrg HMV HM1 HK1
      generalize m1[k]'_ = z at *
      go_wp2_with (fail)
      go_roundw
      case rel => exact ⟨i + 1, m1.set k false, by go_num, by omega, HN.out, HM2, HV⟩
      case measure => simp [intOf]; omega
    · have e1 := HK1.out.c1
      have f1 := HK1.out.fz 1
      have HN := (show Hid _ from HK1.out.cutA)
      have HV : Hid (Moved X B W (wr.setCell ⟨c, 1, none⟩ (.slice ga 0 ca))) := HMV.out.set (fun b hb => (HK1.out.ap b hb).2.1) HK1.out.bc 1 _
      have HM2 : Hid (∀ j, j < n → m1[j]? = some (decide ((j : Int) ∈ ([] : List Int)))) := fun j hj => by
        rw [HM1.out j hj, List.drop_eq_nil_iff.2 (by omega)]
      clear HMV HM1 HK1
      go_wp2_with (fail)
      go_end0
      exact ⟨⟨_, rfl⟩, ⟨⟨m1, _, vw, HN.out, HM2.out⟩, List.nodup_nil, by simp, by simp⟩, HV.out⟩
end Go.Proofs.Ythknhbmibmndoaa.nf
