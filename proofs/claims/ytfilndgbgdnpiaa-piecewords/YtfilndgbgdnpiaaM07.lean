/-
  Texts put together: Contracts over this program: what is reached over Free edges (nfa.Free). Contracts over this program: a crowd is left (crowd.leave). Dfas, lists of ints, that came in as arguments: what their readings say of the memory. Nfas that came in as arguments: what their readings say of the memory; few.
-/
import Derived.Test.YtfilndgbgdnpiaaM06
import Derived.Test.YtfilndgbgdnpiaaM00
import Derived.Laws.IdiomArrays
import Derived.Deep.Slices
import Derived.SizedLaws
import Derived.ChangeOld
import Derived.Below
import Derived.OpenShut
import Derived.Test.YtfilndgbgdnpiaaM05
namespace Go.Proofs.Ytfilndgbgdnpiaa.nf
open Go.RowKit Go.Shelf
set_option linter.unusedVariables false
open df (Kp Owns Row iv In IntsV)

theorem others_of {W W' : World} (b : Below W.heap.size W W') : KeepsOthers W W' := ⟨b.size, fun k o hk _ => (b.block k (Array.getElem?_eq_some_iff.1 hk).1).trans hk⟩
theorem moved_of {X : Nat → Prop} {B : Nat} {W W' : World} (b : Below W.heap.size W W') (hX : ∀ b, X b → b < W.heap.size) (hB : B ≤ W.heap.size) : Moved X B W W' := Moved.below b hX hB (others_of b)

/-- what a right nfa's numbers are -/
structure Rt (x : Nfa) (n : Nat) : Prop where
  hx : x.n = (n : Int)
  n1 : 1 ≤ n
  n2 : n ≤ 2000
  m : x.edges.length ≤ 16000
  s : 0 ≤ x.s ∧ x.s < (n : Int)
  e : 0 ≤ x.e ∧ x.e < (n : Int)
  fr : ∀ e ∈ x.edges, 0 ≤ e.fr ∧ e.fr < (n : Int)
  to : ∀ e ∈ x.edges, 0 ≤ e.to ∧ e.to < (n : Int)
theorem rt_of (x : Nfa) (h : right x = true) : ∃ n, Rt x n := by
  unfold right isSt at h
  simp only [Bool.and_eq_true, decide_eq_true_eq, List.all_eq_true] at h
  obtain ⟨⟨⟨⟨⟨h1, h2⟩, h3⟩, h4⟩, h5⟩, h6⟩ := h
  have h7 : ∀ e ∈ x.edges, (0 ≤ e.fr ∧ e.fr < x.n) ∧ (0 ≤ e.to ∧ e.to < x.n) := fun e he => by
    have := h6 e he
    unfold edOk isSt at this
    simpa using this
  refine ⟨x.n.toNat, by omega, by omega, by omega, h3, by omega, by omega, fun e he => ?_, fun e he => ?_⟩
  · have := (h7 e he).1; omega
  · have := (h7 e he).2; omega

/-- the states of a list, each once, as they are met -/
def addS (n : Nat) (st : List Int × List Int) (t : Int) : List Int × List Int := if 0 ≤ t ∧ t < (n : Int) then addE st t else st
def addL (n : Nat) (l : List Int) : List Int × List Int := l.foldl (addS n) ([], [])
theorem addL_snoc (n : Nat) (l : List Int) (t : Int) : addL n (l ++ [t]) = addS n (addL n l) t := by unfold addL; rw [List.foldl_append]; rfl
theorem addL_spec (n : Nat) (l : List Int) : (addL n l).1 = (addL n l).2 ∧ ∀ t, t ∈ (addL n l).1 ↔ t ∈ l ∧ 0 ≤ t ∧ t < (n : Int) := by
  have key : ∀ (k : Nat), k ≤ l.length → (addL n (l.take k)).1 = (addL n (l.take k)).2 ∧ ∀ t, t ∈ (addL n (l.take k)).1 ↔ t ∈ l.take k ∧ 0 ≤ t ∧ t < (n : Int) := by
    intro k
    induction k with
    | zero => intro _; exact ⟨rfl, by simp [addL]⟩
    | succ k ih =>
      intro hk
      obtain ⟨h1, h2⟩ := ih (by omega)
      rw [List.take_succ_eq_append_getElem (by omega), addL_snoc]
      generalize l[k] = u
      generalize l.take k = L at *
      unfold addS addE
      by_cases hu : 0 ≤ u ∧ u < (n : Int)
      · rw [if_pos hu]
        by_cases hin : u ∈ (addL n L).1
        · rw [if_pos hin]
          refine ⟨h1, fun t => ?_⟩
          rw [h2 t]
          simp only [List.mem_append, List.mem_singleton]
          constructor
          · rintro ⟨a, b⟩; exact ⟨.inl a, b⟩
          · rintro ⟨a | a, b⟩
            · exact ⟨a, b⟩
            · subst a; exact (h2 t).1 hin
        · rw [if_neg hin]
          refine ⟨by rw [h1], fun t => ?_⟩
          simp only [List.mem_append, List.mem_singleton]
          rw [h2 t]
          constructor
          · rintro (⟨a, b⟩ | a)
            · exact ⟨.inl a, b⟩
            · subst a; exact ⟨.inr rfl, hu⟩
          · rintro ⟨a | a, b⟩
            · exact .inl ⟨a, b⟩
            · exact .inr a
      · rw [if_neg hu]
        refine ⟨h1, fun t => ?_⟩
        rw [h2 t]
        simp only [List.mem_append, List.mem_singleton]
        constructor
        · rintro ⟨a, b⟩; exact ⟨.inl a, b⟩
        · rintro ⟨a | a, b⟩
          · exact ⟨a, b⟩
          · subst a; exact absurd b hu
  have := key l.length (Nat.le_refl _)
  rwa [List.take_length] at this
/-- what Free answers -/
structure IsFree (x : Nfa) (l L : List Int) : Prop where
  up : L.Pairwise (· < ·)
  mem : ∀ t, t ∈ L ↔ Reach x (fun s => s ∈ l ∧ 0 ≤ s ∧ s < x.n) t
theorem up_eq : ∀ (l m : List Int), l.Pairwise (· < ·) → m.Pairwise (· < ·) → (∀ t, t ∈ l ↔ t ∈ m) → l = m
  | [], [], _, _, _ => rfl
  | [], b :: m, _, _, h => by have := (h b).2 (by simp); cases this
  | a :: l, [], _, _, h => by have := (h a).1 (by simp); cases this
  | a :: l, b :: m, h1, h2, h => by
    rw [List.pairwise_cons] at h1 h2
    have e : a = b := by
      have i1 := (h a).1 (by simp)
      have i2 := (h b).2 (by simp)
      rcases List.mem_cons.1 i1 with e | i1
      · exact e
      · rcases List.mem_cons.1 i2 with e | i2
        · exact e.symm
        · have := h1.1 b i2
          have := h2.1 a i1
          omega
    subst e
    congr 1
    refine up_eq l m h1.2 h2.2 (fun t => ⟨fun ht => ?_, fun ht => ?_⟩)
    · rcases List.mem_cons.1 ((h t).1 (by simp [ht])) with e | h3
      · subst e; have := h1.1 t ht; omega
      · exact h3
    · rcases List.mem_cons.1 ((h t).2 (by simp [ht])) with e | h3
      · subst e; have := h2.1 t ht; omega
      · exact h3
end Go.Proofs.Ytfilndgbgdnpiaa.nf

namespace Go.Proofs.Ytfilndgbgdnpiaa.nf
open Go.RowKit Go.Shelf
set_option linter.unusedVariables false
open df (Kp Owns Row iv In IntsV)

theorem own_cell {w : World} {B : Nat} {g : Option Addr} {k cap : Nat} {l : List Int} (h : Owns w B (.slice g k cap) l) (i : Nat) (hi : i < l.length) : ∃ b, g = some ⟨b, 0, none⟩ ∧ w.cell? ⟨b, i, none⟩ = some (.int .i64 l[i]) ∧ b < w.heap.size := by
  rcases h.2 with ⟨e, h0⟩ | ⟨gg, cap', cur, e, hb, hgg, hn, hc, hs, ht⟩
  · omega
  · cases e
    refine ⟨gg, rfl, ?_, (Array.getElem?_eq_some_iff.1 hgg).1⟩
    have := World.ownsRow.cellAt h i (by omega)
    rw [this, List.getElem?_map, List.getElem?_eq_getElem hi]
    rfl
theorem own_cap {w : World} {B : Nat} {g : Option Addr} {k cap : Nat} {l : List Int} (h : Owns w B (.slice g k cap) l) : k = l.length ∧ l.length ≤ cap ∧ cap ≤ 9223372036854775807 := by
  rcases h.2 with ⟨e, h0⟩ | ⟨gg, cap', cur, e, hb, hgg, hn, hc, hs, ht⟩
  · cases e; exact ⟨h0.symm, by omega, by omega⟩
  · cases e; unfold maxLen at hc; exact ⟨rfl, hn, hc⟩
/-- a crowd whose list of all is cut to none -/
theorem Crowd.cutA {X : Nat → Prop} {W : World} {B c sb n : Nat} {m : List Bool} {g : Option Addr} {k cap : Nat} {vw : Value} {l q : List Int} (h : Crowd X W B c sb n m (.slice g k cap) vw l q) :
    Crowd X (W.setCell ⟨c, 1, none⟩ (.slice g 0 cap)) B c sb n m (.slice g 0 cap) vw [] q := by
  have b1 := h.blk
  have hh : ∀ k', k' ≠ c → (W.setCell ⟨c, 1, none⟩ (.slice g 0 cap)).heap[k']? = W.heap[k']? := fun k' hk => Below.heap_setCell _ _ _ k' hk
  have key : ∀ (v : Value) (l : List Int), Owns W B v l → some c ≠ v.ownBlock → Owns (W.setCell ⟨c, 1, none⟩ (.slice g 0 cap)) B v l := fun v l ho hn => by
    refine ⟨ho.1, ?_⟩
    rcases ho.2 with h | ⟨g, cap, cur, rfl, hb, hg, hr⟩
    · exact .inl h
    · exact .inr ⟨g, cap, cur, rfl, hb, (hh g (fun e => hn (by rw [← e]; rfl))).trans hg, hr⟩
  have ha : Owns W B (.slice g 0 cap) [] := by
    refine ⟨rfl, ?_⟩
    rcases h.all.2 with ⟨e, h0⟩ | ⟨gg, cap', cur, e, hb, hgg, hn, hc, hs, ht⟩
    · cases e; exact .inl ⟨rfl, rfl⟩
    · cases e; exact .inr ⟨gg, _, cur, rfl, hb, hgg, by simp, hc, hs, by simp⟩
  have hob : (Value.slice g 0 cap).ownBlock = (Value.slice g k cap).ownBlock := by cases g <;> rfl
  refine ⟨?_, (hh sb h.ne.symm).trans h.seen, h.ml, key _ _ ha (by rw [hob]; exact h.nac), key _ _ h.wait h.nwc, fun g' e => h.two g' (by rw [← hob]; exact e), h.bc, h.bs, fun b hb => ?_⟩
  · rw [set_heap _ _ _ _ 1 _ b1]; rfl
  · obtain ⟨a1, a2, a3, a4, a5⟩ := h.ap b hb
    exact ⟨by simpa using a1, a2, a3, by rw [hob]; exact a4, a5⟩
def LeaveIs (n : Nat) : Prop := ∀ (X : Nat → Prop) (B c sb : Nat) (l : List Int) (W : World), Cr X W B c sb n l [] → Calls Try.prog 36 #[.pointer (some ⟨c, 0, none⟩)] W fun e W' => (∃ v, e = .returned v) ∧ Cr X W' B c sb n [] [] ∧ Moved X B W W'
set_option maxHeartbeats 2000000 in
set_option maxRecDepth 100000 in
theorem leave_any (n : Nat) (hn : n ≤ 2000) : LeaveIs n := by
  intro X B c sb l W hC
  obtain ⟨m, va, vw, K, hmk⟩ := hC.lie
  have hlen := hC.len
  obtain ⟨ga, ca, rfl⟩ := df.own_slice K.all
  have k1 := K.c1
  have hcc := own_cap K.all
  have hcap := hcc.2.1
  have htop := hcc.2.2
  have HC := (show Hid (Cr X W B c sb n l []) from hC)
  have HK := (show Hid (Crowd X W B c sb n m (.slice ga l.length ca) vw l []) from K)
  have HMK := (show Hid (∀ i, i < n → m[i]? = some (decide ((i : Int) ∈ l))) from hmk)
  clear hC K hmk hcc
  go_enter Try.func36, Try.ntmps36
  go_wp2_with (fail)
  go_loopw [9] (fun y wr => ∃ (i : Nat) (m1 : List Bool), y = .int .i64 i ∧ i ≤ l.length ∧ Hid (Crowd X wr B c sb n m1 (.slice ga l.length ca) vw l []) ∧ Hid (∀ j, j < n → m1[j]? = some (decide ((j : Int) ∈ l.drop i))) ∧ Hid (Moved X B W wr)) (fun y _ => l.length - (intOf y).toNat)
  case atStart => exact ⟨0, m, rfl, by omega, HK, by rw [List.drop_zero]; exact HMK, Moved.refl _ _ _⟩
  case round =>
    obtain ⟨i, m1, rfl, hi, HK1, HM1, HMV⟩ := hrel
    clear k1
    have k0 := HK1.out.c0
    by_cases hend : i < l.length
    · obtain ⟨b, rfl, hcell, hbl⟩ := own_cell HK1.out.all i hend
      have hrg := HC.out.rg l[i] (List.getElem_mem hend)
      have hdrop : l.drop i = l[i] :: l.drop (i + 1) := List.drop_eq_getElem_cons hend
      have hnd : l[i] ∉ l.drop (i + 1) := by
        have h1 := HC.out.nd
        rw [← List.take_append_drop i l, hdrop] at h1
        have := (List.nodup_append.1 h1).2.1
        exact (List.nodup_cons.1 this).1
      obtain ⟨k, hk⟩ : ∃ k : Nat, l[i] = (k : Int) := ⟨l[i].toNat, by omega⟩
      rw [hk] at hcell hrg hnd hdrop
      have hkn : k < n := by omega
      have hml := HK1.out.ml
      have hkl : k < m1.length := by omega
      have q1 := HK1.out.seen.cell k hkl
      have q2 := HK1.out.seen.fz k
      have HN := (show Hid _ from HK1.out.mark k false)
      have HM2 : Hid (∀ j, j < n → (m1.set k false)[j]? = some (decide ((j : Int) ∈ l.drop (i + 1)))) := fun j hj => by
        rw [List.getElem?_set]
        by_cases e : k = j
        · subst e
          rw [if_pos rfl, if_pos hkl, decide_eq_false hnd]
        · rw [if_neg e, HM1.out j hj, hdrop]
          congr 1
          rw [decide_eq_decide, List.mem_cons]
          constructor
          · rintro (h | h)
            · omega
            · exact h
          · exact .inr
      have HV : Hid (Moved X B W (wr.setCell ⟨sb, k, none⟩ (.bool false))) := HMV.out.set (fun b hb => (HK1.out.ap b hb).2.2.1) HK1.out.bs k _
      clear hk hdrop hnd hrg HMV HM1 HK1
      generalize m1[k]'_ = z at *
      go_wp2_with (fail)
      go_roundw
      case rel => exact ⟨i + 1, m1.set k false, by go_num, by omega, HN.out, HM2, HV⟩
      case measure => simp [intOf]; omega
    · have e1 := HK1.out.c1
      have f1 := HK1.out.fz 1
      have HN := (show Hid _ from HK1.out.cutA)
      have HV : Hid (Moved X B W (wr.setCell ⟨c, 1, none⟩ (.slice ga 0 ca))) := HMV.out.set (fun b hb => (HK1.out.ap b hb).2.1) HK1.out.bc 1 _
      have HM2 : Hid (∀ j, j < n → m1[j]? = some (decide ((j : Int) ∈ ([] : List Int)))) := fun j hj => by
        rw [HM1.out j hj, List.drop_eq_nil_iff.2 (by omega)]
      clear HMV HM1 HK1
      go_wp2_with (fail)
      go_end0
      exact ⟨⟨_, rfl⟩, ⟨⟨m1, _, vw, HN.out, HM2.out⟩, List.nodup_nil, by simp, by simp⟩, HV.out⟩
end Go.Proofs.Ytfilndgbgdnpiaa.nf

namespace Go.Proofs.Ytfilndgbgdnpiaa.df
open Go.ChangeShapes Go.WideShapes Go.ChangeAt Go.RowKit
set_option linter.unusedVariables false

theorem u8_range {a : Int} (h : (Lit.int .u8 a).wf = true) : 0 ≤ a ∧ a < 256 := by
  have e1 : IntKind.u8.min = 0 := by decide
  have e2 : IntKind.u8.max = 255 := by decide
  simp [Lit.wf] at h
  rw [e1, e2] at h
  omega
section
variable {H : Type} {enc : TypeId × Value → H} {W : World} {sp : Nat → Bool} {held : Bool}
theorem row_of {α : Type} [Inhabited α] (g : α → Value) (Pr : α → Prop) {t e : TypeId} (ht : Try.prog.underlying t = some (.slice e)) (hc : Try.prog.cellsOf e = 1)
    (dec : ∀ n V y, DataW.trod enc Try.prog W 0 sp held n e [V] = some y → ∃ x, V = g x ∧ Pr x) {fuel : Nat} {cs : List Value} {x : DataW H × List MemPlace} (h : DataW.trod enc Try.prog W 0 sp held fuel t cs = some x) :
    ∃ (o : Option Addr) (cap : Nat) (l : List α), cs = [.slice o l.length cap] ∧ Row (In W) W g o cap l ∧ ∀ x ∈ l, Pr x := by
  rcases Deep.open_slice1 ht hc h with ⟨rfl, _⟩ | ⟨a, len, cap, m, n, V, D, Pl, rfl, hb, hl, hm, hmm, _, hV⟩
  · exact ⟨none, 0, [], rfl, ⟨Nat.le_refl _, by omega, fun i hi => by simp at hi⟩, by simp⟩
  · have hlm : len ≤ m := by rw [hmm]; split <;> omega
    obtain ⟨f, hf⟩ := Deep.choose_lt (α := α) (p := fun i x => V i = g x ∧ Pr x) (fun i (hi : i < len) => dec n (V i) _ (hV i (by omega)).2)
    have hln : ((List.range len).map f).length = len := by simp
    unfold maxLen at hm
    refine ⟨some a, cap, (List.range len).map f, by rw [hln], ⟨by rw [hln]; exact hl, hm, fun i hi => ?_⟩, fun x hx => ?_⟩
    · rw [hln] at hi
      obtain ⟨b, off, spot⟩ := a
      have h1 := (hV i (by omega)).1
      have hspot : spot = none := by simpa [Addr.add] using World.cell?_spot (hV 0 (by omega)).1
      subst hspot
      have hadd : (⟨b, off, none⟩ : Addr).add i = ⟨b, off + i, none⟩ := by simp [Addr.add]
      rw [hadd] at h1
      refine ⟨b, off, rfl, block_lt_of_cell h1, ?_⟩
      rw [h1, (hf i hi).1]
      simp
    · obtain ⟨i, hi, rfl⟩ := List.mem_map.1 hx
      exact (hf i (List.mem_range.1 hi)).2
theorem ints_of {fuel : Nat} {cs : List Value} {x : DataW H × List MemPlace} (h : DataW.trod enc Try.prog W 0 sp held fuel 39 cs = some x) :
    ∃ (o : Option Addr) (cap : Nat) (l : List Int), cs = [.slice o l.length cap] ∧ Row (In W) W iv o cap l := by
  obtain ⟨o, cap, l, h1, h2, _⟩ := row_of iv (fun _ => True) Try.underlying39 (by kernel_rfl) (fun n V y h => by
    obtain ⟨z, e, _, _⟩ := DataW.trod_int Try.underlying3 h
    simp at e
    exact ⟨z, e, trivial⟩) h
  exact ⟨o, cap, l, h1, h2⟩
theorem bools_of {fuel : Nat} {cs : List Value} {x : DataW H × List MemPlace} (h : DataW.trod enc Try.prog W 0 sp held fuel 44 cs = some x) :
    ∃ (o : Option Addr) (cap : Nat) (l : List Bool), cs = [.slice o l.length cap] ∧ Row (In W) W bv o cap l := by
  obtain ⟨o, cap, l, h1, h2, _⟩ := row_of bv (fun _ => True) Try.underlying44 (by kernel_rfl) (fun n V y h => by
    obtain ⟨z, e, _⟩ := DataW.trod_bool Try.underlying4 h
    simp at e
    exact ⟨z, e, trivial⟩) h
  exact ⟨o, cap, l, h1, h2⟩
theorem rows_of {fuel : Nat} {cs : List Value} {x : DataW H × List MemPlace} (h : DataW.trod enc Try.prog W 0 sp held fuel 49 cs = some x) :
    ∃ (o : Option Addr) (cap : Nat) (l : List (List Int)), cs = [.slice o l.length cap] ∧ RowRow (In W) W o cap l := by
  obtain ⟨o, cap, l, h1, h2, h3⟩ := row_of (α := List Int × Option Addr × Nat) (fun x => .slice x.2.1 x.1.length x.2.2) (fun x => Row (In W) W iv x.2.1 x.2.2 x.1) Try.underlying49 (by kernel_rfl) (fun n V y h => by
    obtain ⟨o, cap, l, e, hr⟩ := ints_of h
    simp at e
    exact ⟨(l, o, cap), e, hr⟩) h
  refine ⟨o, cap, l.map (·.1), by simpa using h1, by simpa using h2.fit, h2.top, fun i hi => ?_⟩
  have hi2 : i < l.length := by simpa using hi
  obtain ⟨b, off, e, hb, hc⟩ := h2.lie i hi2
  exact ⟨b, off, l[i].2.1, l[i].2.2, e, hb, by simpa using hc, by simpa using h3 _ (List.getElem_mem hi2)⟩
set_option maxRecDepth 100000 in
theorem open51 {base : Nat} {v : Value} {d : DataW H} {p : List MemPlace} (hok : Value.okWide Try.prog W .any base 51 v) (h : DataW.Trod enc Try.prog W 0 (fun _ => true) true 51 v d p) :
    ∃ (d : Dfa) (cs : Array Value) (o : Option Addr) (cap : Nat) (ao : Option Addr) (acap : Nat), v = .agg cs ∧ DAt (In W) W d cs o cap ao acap := by
  unfold Value.okWide at hok
  rw [Try.underlying51] at hok
  obtain ⟨cs, rfl, _⟩ := hok
  obtain ⟨fuel, hf⟩ := h
  obtain ⟨xs, n, hfu, hx, hl, hlen, hf⟩ := DataW.trod_struct Try.underlying51 hf
  have c37 : Try.prog.cellsOf 51 = 258 := by kernel_rfl
  have c33 : Try.prog.cellsOf 48 = 256 := by kernel_rfl
  have c34 : Try.prog.cellsOf 49 = 1 := by kernel_rfl
  have c35 : Try.prog.cellsOf 44 = 1 := by kernel_rfl
  have c5 : Try.prog.cellsOf 5 = 1 := by kernel_rfl
  rw [c37] at hl
  have hsz : cs.size = 258 := by simpa [Value.cells] using hl
  match xs, hlen with
  | [y0, y1, y2], _ =>
    have f0 : DataW.trod enc Try.prog W 0 _ _ n 48 (List.take (Try.prog.cellsOf 48) (List.drop 0 _)) = some y0 := hf 0 _ rfl
    have f1 : DataW.trod enc Try.prog W 0 _ _ n 49 (List.take (Try.prog.cellsOf 49) (List.drop 256 _)) = some y1 := hf 1 _ rfl
    have f2 : DataW.trod enc Try.prog W 0 _ _ n 44 (List.take (Try.prog.cellsOf 44) (List.drop 257 _)) = some y2 := hf 2 _ rfl
    rw [c33] at f0
    rw [c34] at f1
    rw [c35] at f2
    obtain ⟨o, cap, l, e1, hr⟩ := rows_of f1
    obtain ⟨ao, acap, al, e2, ha⟩ := bools_of f2
    obtain ⟨zs, m, _, _, _, hzl, hz⟩ := DataW.trod_array Try.underlying48 f0
    rw [c5] at hz
    have each : ∀ i, i < 256 → ∃ k : Nat, k < 256 ∧ cs[i]? = some (.int .u8 (k : Int)) := fun i hi => by
      have h1 := hz i hi
      rw [List.getElem?_eq_getElem (by omega)] at h1
      obtain ⟨z, e, _, wz⟩ := DataW.trod_int Try.underlying5 h1
      have r := u8_range wz
      obtain ⟨k, rfl⟩ := Int.eq_ofNat_of_zero_le r.1
      refine ⟨k, by omega, ?_⟩
      have e' := congrArg (·[0]?) e
      simp [Value.cells, List.getElem?_drop, hi] at e'
      exact e'
    obtain ⟨f, hf2⟩ := Deep.choose_lt (α := Nat) each
    have e1' := congrArg (·[0]?) e1
    simp [Value.cells, List.getElem?_drop] at e1'
    have e2' := congrArg (·[0]?) e2
    simp [Value.cells, List.getElem?_drop] at e2'
    exact ⟨⟨fun i => if i < 256 then f i else 0, l, al⟩, cs, o, cap, ao, acap, rfl, hsz, fun i hi => by simp [hi, (hf2 i hi).2], fun i => by
      by_cases hi : i < 256
      · simp [hi, (hf2 i hi).1]
      · simp [hi], e1', e2', hr, ha⟩
end
end Go.Proofs.Ytfilndgbgdnpiaa.df

namespace Go.Proofs.Ytfilndgbgdnpiaa.nf
open Go.ChangeShapes Go.WideShapes Go.ChangeAt Go.RowKit
set_option linter.unusedVariables false

def Fits (x : Ed) : Prop := x.a < 18446744073709551616 ∧ x.b < 18446744073709551616 ∧ x.c < 18446744073709551616 ∧ x.d < 18446744073709551616
end Go.Proofs.Ytfilndgbgdnpiaa.nf
