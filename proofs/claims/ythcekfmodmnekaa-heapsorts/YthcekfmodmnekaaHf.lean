/-
  Contracts over this program: numbers, sorted (heap.Sorted); whether numbers rise, how often one stands there (the document's).
-/
import Derived.Test.YthcekfmodmnekaaHe
import Derived.Test.YthcekfmodmnekaaRg
namespace Go.Proofs.Ythcekfmodmnekaa.hp
open Go.ChangeShapes Go.WideShapes Go.ChangeAt Go.RowKit
open mg (IntsV RowV Row In iv below_alloc chain make23 icells)
set_option linter.unusedVariables false
set_option maxRecDepth 100000

theorem Mv.to_below {w w' : World} {B b off : Nat} {r : Option Nat} (h : Mv w w' b off r) (hb : B ≤ b) (hr : ∀ g, r = some g → B ≤ g) (hs : B ≤ w.heap.size) : Below B w w' :=
  ⟨h.os, h.tape, h.output, h.size, fun k hk => h.block k (by omega) (by omega) (fun e => by have := hr k e.symm; omega)⟩
theorem Pil.kept {w : World} {B b off : Nat} {v : Value} {l : List Int} {gs : Nat} {u : Value} (h : Pil w B b off v l) (h1 : gs ≠ b) (h2 : v.ownBlock ≠ some gs) {j : Nat} : Pil (w.setCell ⟨gs, j, none⟩ u) B b off v l :=
  h.keep (Below.heap_setCell _ _ _ _ (Ne.symm h1)) fun g eg => Below.heap_setCell _ _ _ _ (fun e => by have e' : g = gs := e; subst e'; exact h2 eg)
theorem sorted_snoc {o : List Int} {x : Int} (h : o.Pairwise (· ≤ ·)) (hx : ∀ a ∈ o, a ≤ x) : (o ++ [x]).Pairwise (· ≤ ·) := by
  rw [List.pairwise_append]
  exact ⟨h, List.pairwise_singleton _ _, fun a ha b hb => by rw [List.mem_singleton.1 hb]; exact hx a ha⟩
theorem take_set_snoc {o : List Int} {i : Nat} (x : Int) (hi : i < o.length) : (o.set i x).take (i + 1) = o.take i ++ [x] := by
  rw [List.take_add_one, List.getElem?_set_self hi, List.take_set_of_le (Nat.le_refl _)]
  rfl

set_option maxHeartbeats 2000000 in
theorem often_any (l : List Int) (x : Int) (v : Value) (w : World) (h : IntsV w v l) (hl : l.length ≤ 1000000) : Calls Try.prog 20 #[v, iv x] w fun e w' => e = .returned (iv (l.count x : Nat)) ∧ Below w.heap.size w w' := by
  obtain ⟨o, cap, rfl, h1⟩ := h
  have f1 := h1.fit
  have f2 := h1.top
  have H1 : Hid (Row (In w) w iv o cap l) := h1
  have hcnt : ∀ i, (l.take i).count x ≤ 1000000 := fun i => Nat.le_trans List.count_le_length (by rw [List.length_take]; omega)
  have HC := (show Hid _ from hcnt)
  clear h1 hcnt
  go_enter Try.func20, Try.ntmps20
  go_wp2_with (fail)
  go_loopw [10, 5] (fun y z wr => ∃ (i c : Nat), y = .int .i64 i ∧ z = .int .i64 c ∧ i ≤ l.length ∧ c ≤ 1000000 ∧ Hid (c = (l.take i).count x) ∧ Below w.heap.size w wr) (fun y _ _ => l.length - (intOf y).toNat)
  case atStart => exact ⟨0, 0, rfl, rfl, by omega, by omega, by show _ = _; simp, Below.refl _ _⟩
  case round =>
    obtain ⟨i, c, rfl, rfl, hil, hc9, HK, hB⟩ := hrel
    by_cases hend : i < l.length
    · obtain ⟨b, off, rfl, hb, hc⟩ := H1.out.lie i hend
      have k1 := (hB.cell (p := ⟨b, off + i, none⟩) hb).trans hc
      have HN : Hid ((l.take (i + 1)).count x = c + if l[i] = x then 1 else 0) := by
        show _ = _
        rw [List.take_add_one, List.getElem?_eq_getElem hend, List.count_append, HK.out]
        simp [List.count_singleton]
      have hlt := HC.out (i + 1)
      generalize l[i] = y at *
      clear hc
      by_cases he : y = x
      · subst he
        have HN2 : Hid ((l.take (i + 1)).count y = c + 1) := by show _ = _; rw [HN.out]; simp
        rw [HN2.out] at hlt
        clear HN
        go_wp2_with (fail)
        go_roundw
        case rel => exact ⟨i + 1, c + 1, by go_num, by go_num, by omega, hlt, HN2.out.symm, hB⟩
        case measure => simp [intOf]; omega
      · have HN2 : Hid ((l.take (i + 1)).count x = c) := by show _ = _; rw [HN.out]; simp [he]
        have he' : (x == y) = false := by simp; exact fun e => he e.symm
        clear HN hlt he
        go_wp2_with (fail)
        go_roundw
        case rel => exact ⟨i + 1, c, by go_num, rfl, by omega, hc9, HN2.out.symm, hB⟩
        case measure => simp [intOf]; omega
    · have HE : Hid (c = l.count x) := by show _ = _; rw [HK.out, List.take_of_length_le (by omega)]
      clear HK
      go_wp2_with (fail)
      go_ret
      exact ⟨by show Ending.returned (iv (c : Nat)) = _; rw [HE.out], hB⟩
set_option maxHeartbeats 2000000 in
theorem rising_yes (l : List Int) (v : Value) (w : World) (h : IntsV w v l) (hs : l.Pairwise (· ≤ ·)) : Calls Try.prog 19 #[v] w fun e w' => e = .returned (.bool true) ∧ Below w.heap.size w w' := by
  obtain ⟨o, cap, rfl, h1⟩ := h
  have f1 := h1.fit
  have f2 := h1.top
  have H1 : Hid (Row (In w) w iv o cap l) := h1
  have HS := (show Hid (l.Pairwise (· ≤ ·)) from hs)
  clear h1 hs
  go_enter Try.func19, Try.ntmps19
  go_wp2_with (fail)
  go_loopw [6] (fun y wr => ∃ (i : Nat), y = .int .i64 i ∧ i ≤ l.length ∧ Below w.heap.size w wr) (fun y _ => l.length - (intOf y).toNat)
  case atStart => exact ⟨0, rfl, by omega, Below.refl _ _⟩
  case round =>
    obtain ⟨i, rfl, hil, hB⟩ := hrel
    by_cases hend : i < l.length
    · rcases i with _ | j
      · go_wp2_with (fail)
        go_quiet (fail)
        go_wp2_with (fail)
        go_roundw
        case rel => exact ⟨1, by go_num, by omega, below_drewN hB _⟩
        case measure => simp [intOf]; omega
      · obtain ⟨b, off, rfl, hb, hc⟩ := H1.out.lie j (by omega)
        obtain ⟨b', off', e', hb', hc'⟩ := H1.out.lie (j + 1) hend
        cases e'
        have k1 := (hB.cell (p := ⟨b, off + j, none⟩) hb).trans hc
        have k2 := (hB.cell (p := ⟨b, off + (j + 1), none⟩) hb).trans hc'
        have hle : l[j] ≤ l[j + 1] := (List.pairwise_iff_getElem.1 HS.out) j (j + 1) (by omega) hend (by omega)
        have hd : decide (l[j + 1] < l[j]) = false := decide_eq_false (by omega)
        generalize l[j] = x1 at *
        generalize l[j + 1] = x2 at *
        have hgj : decide (0 < j + 1) = true := by simp
        clear hc hc' hle
        go_wp2_with (fail)
        go_quiet (fail)
        go_wp2_with (fail)
        go_roundw
        case rel => exact ⟨j + 1 + 1, by go_num, by omega, below_drewN hB _⟩
        case measure => simp [intOf]; omega
    · go_wp2_with (fail)
      go_ret
      exact ⟨rfl, hB⟩
def NRow (w : World) (B go n : Nat) (o : List Int) : Prop := w.ownsRow B 3 1 (.slice (some ⟨go, 0, none⟩) n n) n (o.map iv)
theorem NRow.keep {w w' : World} {B go n : Nat} {o : List Int} (h : NRow w B go n o) (hh : w'.heap[go]? = w.heap[go]?) : NRow w' B go n o := own_keep h fun g eg => by cases eg; exact hh
theorem NRow.len {w : World} {B go n : Nat} {o : List Int} (h : NRow w B go n o) : o.length = n := by have := h.1; simpa using this
theorem NRow.lt {w : World} {B go n : Nat} {o : List Int} (h : NRow w B go n o) : B ≤ go ∧ go < w.heap.size := World.ownsRow.lt h go rfl
theorem NRow.cell {w : World} {B go n : Nat} {o : List Int} (h : NRow w B go n o) {i : Nat} (hi : i < n) : (∃ x, w.cell? ⟨go, i, none⟩ = some (iv x)) ∧ w.frozen? ⟨go, i, none⟩ = false := by
  refine ⟨⟨o[i]'(by rw [h.len]; exact hi), ?_⟩, World.ownsRow.frozenAt h i⟩
  rw [World.ownsRow.cellAt h i (by omega)]
  simp
theorem NRow.set {w : World} {B go n : Nat} {o : List Int} (h : NRow w B go n o) (i : Nat) (x : Int) : NRow (w.setCell ⟨go, i, none⟩ (iv x)) B go n (o.set i x) := by
  have := (World.ownsRow.stored h i (iv x)).1
  rw [← List.map_set] at this
  exact this
theorem NRow.made (w : World) (B n : Nat) (hB : B ≤ w.heap.size) (hn : n ≤ 1000000) : NRow (w.alloc (.cells (icells (List.replicate n 0)) 3)) B w.heap.size n (List.replicate n 0) :=
  ⟨by simp, .inr ⟨w.heap.size, n, _, rfl, hB, World.alloc_heap_new w _, Nat.le_refl _, by unfold maxLen; omega, by simp [icells], by simp [icells]⟩⟩
theorem make71 (n : Nat) (hn : n ≤ 1000000) (W : World) : (Instr.makeSlice 71 (.int .i64 0) (.int .i64 (n : Int))).run Try.prog W = .ok (.slice (some ⟨W.heap.size, 0, none⟩) 0 n) (W.alloc (.cells (madeCells #[.int .i64 0] n) 75)) := by
  obtain ⟨i, hi, hz0, hz1, hz2⟩ := info_parts info75
  have hr := run_make (P := Try.prog) W 71 75 i _ Try.underlying71 hi hz0 .i64 .i64 0 n (Int.le_refl _) (by omega) (by rw [hz2]; omega) (by omega)
  simp only [Int.toNat_natCast, hz1, Nat.mul_one, Int.toNat_zero] at hr
  exact hr
def SortOut (l : List Int) (w : World) (e : Ending) (w' : World) : Prop := ∃ v o, e = .returned v ∧ IntsV w' v o ∧ o.Pairwise (· ≤ ·) ∧ o.Perm l ∧ Below w.heap.size w w'
set_option maxHeartbeats 4000000 in
theorem sorted_any (l : List Int) (hl : l.length ≤ 900000) (v : Value) (w : World) (h : IntsV w v l) : Calls Try.prog 18 #[v] w (SortOut l w) := by
  obtain ⟨o, cap, rfl, h1⟩ := h
  have f1 := h1.fit
  have f2 := h1.top
  have H1 : Hid (Row (In w) w iv o cap l) := h1
  have m1 := make71 l.length (by omega) w
  have p0 : Pil ((w.alloc (.cells (madeCells #[.int .i64 0] l.length) 75)).alloc (.cells #[.slice (some ⟨w.heap.size, 0, none⟩) 0 l.length] 73)) w.heap.size (w.heap.size + 1) 0 (.slice (some ⟨w.heap.size, 0, none⟩) 0 l.length) [] := by
    have e1 := World.alloc_heap_new (w.alloc (.cells (madeCells #[.int .i64 0] l.length) 75)) (.cells #[.slice (some ⟨w.heap.size, 0, none⟩) 0 l.length] 73)
    rw [show (w.alloc (.cells (madeCells #[.int .i64 0] l.length) 75)).heap.size = w.heap.size + 1 by simp] at e1
    refine ⟨?_, ?_, ?_, ?_⟩
    · rw [Lib.cell_of_heap e1]; rfl
    · exact frozen_of_row _ _ _ _ _ e1
    · exact (World.ownsRow_made (e := 75) (size := 1) w _ l.length (Nat.le_refl _) (by unfold maxLen; omega) (by simp [madeCells])).alloc _
    · intro e; simp [Value.ownBlock] at e
  have b0 : Below w.heap.size w ((w.alloc (.cells (madeCells #[.int .i64 0] l.length) 75)).alloc (.cells #[.slice (some ⟨w.heap.size, 0, none⟩) 0 l.length] 73)) := chain (below_alloc w _) (below_alloc _ _)
  have P0 := (show Hid _ from p0)
  have B0 := (show Hid _ from b0)
  clear h1 p0 b0
  go_enter Try.func18, Try.ntmps18
  go_wp2_with (fail)
  generalize (w.alloc (.cells (madeCells #[.int .i64 0] l.length) 75)).alloc (.cells #[.slice (some ⟨w.heap.size, 0, none⟩) 0 l.length] 73) = w2 at *
  clear m1
  obtain ⟨pb, HPB⟩ : ∃ pb, Hid (pb = w.heap.size + 1) := ⟨_, rfl⟩
  have hpb : w.heap.size ≤ pb := by rw [HPB.out]; omega
  rw [← HPB.out]
  go_loopw [14] (fun y wr => ∃ (i : Nat) (v : Value) (m : List Int), y = .int .i64 i ∧ i ≤ l.length ∧ Hid (Pil wr w.heap.size pb 0 v m) ∧ Hid (Heap nlt m) ∧ Hid (m.Perm (l.take i)) ∧ Hid (Below w.heap.size w wr)) (fun y _ => l.length - (intOf y).toNat)
  case atStart => exact ⟨0, _, [], rfl, by omega, by rw [HPB.out]; exact P0, Heap.nil, by show List.Perm _ _; simp, B0⟩
  case round =>
    clear P0 B0
    obtain ⟨i, v, m, rfl, hil, HP, HH, HR, HB⟩ := hrel
    have HML : Hid (m.length = i) := by show _ = _; rw [HR.out.length_eq, List.length_take]; omega
    by_cases hend : i < l.length
    · obtain ⟨b, off, rfl, hb, hc⟩ := H1.out.lie i hend
      have k1 := (HB.out.cell (p := ⟨b, off + i, none⟩) hb).trans hc
      have HT : Hid (l.take (i + 1) = l.take i ++ [l[i]]) := by show _ = _; rw [List.take_add_one, List.getElem?_eq_getElem hend]; rfl
      generalize l[i] = x at *
      have c33 := put_any x (l := m) (by rw [HML.out]; omega) HP.out hpb HH.out
      clear hc
      go_wp2_with (go_at_call 33; refine c33.mono ?_; rintro e w3 ⟨v', m', rfl, t1, t2, t3, t4, -⟩)
      go_roundw
      case rel => exact ⟨i + 1, v', m', by go_num, by omega, t1, t2, by show List.Perm _ _; rw [HT.out]; exact t3.trans ((List.Perm.cons _ HR.out).trans (List.perm_append_comm (l₁ := [x]))), HB.out.trans (t4.to_below hpb (fun g eg => (HP.out.own.lt g eg).1) HB.out.size)⟩
      case measure => simp [intOf]; omega
    · have HR2 : Hid (m.Perm l) := by show List.Perm _ _; have := HR.out; rw [List.take_of_length_le (by omega)] at this; exact this
      obtain ⟨w1, HW1⟩ : ∃ w1 : World, w1 = wr := ⟨_, rfl⟩
      have m2 := make23 l.length (by omega) wr
      have r0 := NRow.made wr w.heap.size l.length HB.out.size (by omega)
      have b1 := below_alloc wr (.cells (icells (List.replicate l.length 0)) 3)
      have p1 := HP.out.later b1
      have hne : wr.heap.size ≠ pb := by have := HP.out.lt; omega
      have hnv : v.ownBlock ≠ some wr.heap.size := fun e => by have := (HP.out.own.lt _ e).2; omega
      have P1 := (show Hid (Pil (wr.alloc (.cells (icells (List.replicate l.length 0)) 3)) w.heap.size pb 0 v m) from p1)
      have B1 := (show Hid (Below w.heap.size w (wr.alloc (.cells (icells (List.replicate l.length 0)) 3))) from HB.out.trans (b1.mono HB.out.size))
      have R0 := (show Hid (NRow (wr.alloc (.cells (icells (List.replicate l.length 0)) 3)) w.heap.size wr.heap.size l.length (List.replicate l.length 0)) from r0)
      have NE := (show Hid (v.ownBlock ≠ some wr.heap.size) from hnv)
      have hml : m.length = l.length := HR2.out.length_eq
      have HML := (show Hid (m.length = l.length) from hml)
      have HG := (show Hid (w.heap.size ≤ wr.heap.size) from HB.out.size)
      clear HP HR HB p1 b1 r0 hnv hml HW1
      go_wp2_with (fail)
      generalize wr.alloc (.cells (icells (List.replicate l.length 0)) 3) = w2' at *
      obtain ⟨go, HGO⟩ : ∃ go, Hid (go = wr.heap.size) := ⟨_, rfl⟩
      rw [← HGO.out] at R0 NE hne HG ⊢
      clear m2
      go_loopw [26] (fun y wz => ∃ (i : Nat) (v : Value) (m o : List Int), y = .int .i64 i ∧ i ≤ l.length ∧ Hid (Pil wz w.heap.size pb 0 v m) ∧ Hid (Heap nlt m) ∧ Hid (NRow wz w.heap.size go l.length o) ∧ Hid (v.ownBlock ≠ some go) ∧ Hid ((o.take i ++ m).Perm l) ∧ Hid ((o.take i).Pairwise (· ≤ ·)) ∧ Hid (∀ a ∈ o.take i, ∀ z ∈ m, a ≤ z) ∧ Hid (Below w.heap.size w wz)) (fun y _ => l.length - (intOf y).toNat)
      case atStart => exact ⟨0, v, m, _, rfl, by omega, P1, HH, R0, NE, by show List.Perm _ _; simpa using HR2.out, by show List.Pairwise _ _; simp, by show ∀ _, _; simp, B1⟩
      case round =>
        clear P1 R0 NE B1 HH HR2 HML
        obtain ⟨i, v, m, o, rfl, hil, HP, HH, HR, HNE, HPM, HPW, HLE, HB⟩ := hrel
        have hol := HR.out.len
        have HML : Hid (m.length = l.length - i) := by
          show _ = _
          have := HPM.out.length_eq
          rw [List.length_append, List.length_take, hol] at this
          omega
        have HOL := (show Hid (o.length = l.length) from hol)
        clear hol
        by_cases hend : i < l.length
        · have c34 := take_any (l := m) (by rw [HML.out]; omega) (by rw [HML.out]; omega) HP.out HH.out
          have hrow : ∀ W : World, W.heap[go]? = wr.heap[go]? → (∃ x, W.cell? ⟨go, i, none⟩ = some (iv x)) ∧ W.frozen? ⟨go, i, none⟩ = false := fun W hW => (HR.out.keep hW).cell hend
          have HROW := (show Hid _ from hrow)
          have hgl := HR.out.lt.2
          clear hrow
          go_wp2_with (go_at_call 34; refine c34.mono ?_; rintro e w3 ⟨v', x, m', rfl, t1, t2, t3, t4, t5, t6⟩; have hgo := t5.block go hgl hne (fun e => HNE.out e.symm); obtain ⟨⟨z9, hz9⟩, hz8⟩ := HROW.out w3 hgo)
          have q1 := (HR.out.keep hgo).set i x
          have q2 := t1.kept (gs := go) (u := iv x) (j := i) hne (by rw [t6]; exact HNE.out)
          have hb2 : Below w.heap.size w (w3.setCell ⟨go, i, none⟩ (iv x)) := by
            have := HB.out.trans (t5.to_below hpb (fun g eg => (HP.out.own.lt g eg).1) HB.out.size)
            exact this.setCell (by exact HG.out) _
          have HT := take_set_snoc (o := o) (i := i) x (by rw [HOL.out]; exact hend)
          go_roundw
          case rel =>
            refine ⟨i + 1, v', m', o.set i x, by go_num, by omega, q2, t2, q1, by show _ ≠ _; rw [t6]; exact HNE.out, ?_, ?_, ?_, hb2⟩
            · show List.Perm _ _
              rw [HT]
              refine List.Perm.trans ?_ HPM.out
              rw [List.append_assoc]
              exact List.Perm.append_left _ t3.symm
            · show List.Pairwise _ _
              rw [HT]
              exact sorted_snoc HPW.out (fun a ha => HLE.out a ha x (t3.symm.subset List.mem_cons_self))
            · show ∀ _, _
              rw [HT]
              intro a ha z hz
              rcases List.mem_append.1 ha with h | h
              · exact HLE.out a h z (t3.symm.subset (List.mem_cons_of_mem _ hz))
              · rw [List.mem_singleton.1 h]
                have := t4 z (t3.symm.subset (List.mem_cons_of_mem _ hz))
                simp [nlt] at this
                exact this
          case measure => simp [intOf]; omega
        · have hnil : m = [] := List.length_eq_zero_iff.1 (by rw [HML.out]; omega)
          have ho : o.take i = o := List.take_of_length_le (by rw [HOL.out]; omega)
          have HF := (show Hid (SortOut l w (.returned (.slice (some ⟨go, 0, none⟩) l.length l.length)) wr) from by
            show SortOut _ _ _ _
            have q := HPM.out
            have q2 := HPW.out
            rw [ho] at q q2
            rw [hnil, List.append_nil] at q
            exact ⟨_, o, rfl, RowV.own (g := iv) (B := w.heap.size) (e := 3) (by rw [HOL.out]; exact HR.out), q2, q, HB.out⟩)
          clear hnil ho
          go_wp2_with (fail)
          go_ret
          exact HF.out
end Go.Proofs.Ythcekfmodmnekaa.hp
