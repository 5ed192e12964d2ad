/-
  Texts put together: Plain mathematics: how large an expression is, what a configuration is, and whether it may be. Contracts over this program: slices.Index and slices.Contains of texts, rightNames, rightFrame, the document's frame. Contracts over this program: rightNames, rightFrame, the document's frame.
-/
import Derived.Test.YthmecbonjkcnmaaGreatM09
import Derived.Test.YthmecbonjkcnmaaGreatM01
import Derived.Test.YthmecbonjkcnmaaGreatM00
namespace Go.Proofs.YthmecbonjkcnmaaGreat.cf
open st (Tr nodesOf goods okNode nthT)
open ru (Ru rightE growN)
open mg (Mg errOf)
set_option linter.unusedVariables false

def tms (k mn mx : Int) : Nat := if k = 4 then Max.max (Max.max 1 mx.toNat) mn.toNat else 1
mutual
def szT : Tr → Nat
  | .node k q mn mx l => 2 + tms k mn mx * szs l
def szs : List Tr → Nat
  | [] => 0
  | t :: l => szT t + szs l
end
theorem szT_eq (t : Tr) : szT t = 2 + tms t.kind t.min t.max * szs t.kids := by
  cases t
  rw [szT]
  rfl
theorem sz_two (t : Tr) : 2 ≤ szT t := by rw [szT_eq]; omega
theorem tms_one (k mn mx : Int) : 1 ≤ tms k mn mx := by
  unfold tms
  split <;> omega
theorem szs_take : ∀ (l : List Tr) (i : Nat), i < l.length → szs (l.take (i + 1)) = szs (l.take i) + szT (nthT l i)
  | [], i, h => by simp at h
  | t :: l, 0, h => by
    simp only [List.take_succ_cons, List.take_zero, szs]
    show szT t + 0 = 0 + szT t
    omega
  | t :: l, i + 1, h => by
    have := szs_take l i (by simpa using h)
    simp only [List.take_succ_cons, szs]
    rw [this]
    show szT t + (szs (l.take i) + szT (nthT l i)) = szT t + szs (l.take i) + szT (nthT l i)
    omega
theorem szs_le : ∀ (l : List Tr) (i : Nat), szs (l.take i) ≤ szs l
  | [], i => by simp
  | t :: l, 0 => by simp [szs]
  | t :: l, i + 1 => by
    have := szs_le l i
    simp only [List.take_succ_cons, szs]
    omega
theorem goods_mem : ∀ (l : List Tr), goods l = true → ∀ t ∈ l, t.good = true
  | [], _, t, h => by simp at h
  | u :: l, h, t, ht => by
    rw [goods, Bool.and_eq_true] at h
    rcases List.mem_cons.1 ht with rfl | ht
    · exact h.1
    · exact goods_mem l h.2 t ht
/-- what is added up: of each kid no more than 1001 -/
def cap (l : List Tr) : Nat := (l.map fun t => Min.min (szT t) 1001).foldl (· + ·) 0
theorem cap_take (l : List Tr) (i : Nat) (h : i < l.length) : cap (l.take (i + 1)) = cap (l.take i) + Min.min (szT (nthT l i)) 1001 := by
  unfold cap
  rw [st.take_nthT l i h, List.map_append, List.foldl_append]
  rfl
theorem cap_le (l : List Tr) : ∀ i, i ≤ l.length → cap (l.take i) ≤ 1001 * i ∧ cap (l.take i) ≤ szs (l.take i) ∧ (cap (l.take i) < 1001 → cap (l.take i) = szs (l.take i)) := by
  intro i
  induction i with
  | zero => intro _; simp [cap, szs]
  | succ i ih =>
    intro h
    have h1 := ih (by omega)
    rw [cap_take l i (by omega), szs_take l i (by omega)]
    omega
theorem len_nodes : ∀ l : List Tr, l.length ≤ nodesOf l
  | [] => by simp
  | t :: l => by
    have := len_nodes l
    have := t.nodes_eq
    simp only [List.length_cons, nodesOf]
    omega
/-- what comes of it at the end -/
theorem size_end (T n s : Nat) (hT : 1 ≤ T) (h1 : n ≤ s) (h2 : n < 1001 → n = s) : Min.min (n * T + 2) 1001 = Min.min (2 + T * s) 1001 := by
  by_cases h : n < 1001
  · rw [h2 h, Nat.mul_comm, Nat.add_comm]
  · have a1 : n * 1 ≤ n * T := Nat.mul_le_mul (Nat.le_refl _) hT
    have a2 : 1 * s ≤ T * s := Nat.mul_le_mul hT (Nat.le_refl _)
    omega

/-! ### configurations -/
structure Cf where
  ps : List (List Ru)
  t : Tr
  ms : List Mg
  ns : List ByteArray
  bf : List Int
  af : List Int
def nthP (l : List (List Ru)) (i : Nat) : List Ru := l.getD i []
theorem nthP_eq (l : List (List Ru)) (i : Nat) (h : i < l.length) : nthP l i = l[i] := by simp [nthP, List.getD_eq_getElem?_getD, h]
def firstE : List (List Ru) → Nat
  | [] => 0
  | p :: l => if rightE p = 0 then firstE l else rightE p
def grs : Nat → List (List Ru) → Nat
  | n, [] => n
  | n, p :: l => grs (n * growN 1 p) l
theorem first_at : ∀ (l : List (List Ru)) (i : Nat), i < l.length → (∀ j, j < i → rightE (nthP l j) = 0) → rightE (nthP l i) ≠ 0 → firstE l = rightE (nthP l i)
  | [], i, h, _, _ => by simp at h
  | p :: l, 0, _, _, h => by
    show (if rightE p = 0 then firstE l else rightE p) = rightE p
    rw [if_neg (show ¬ rightE p = 0 from h)]
  | p :: l, i + 1, hi, h, k => by
    show (if rightE p = 0 then firstE l else rightE p) = _
    rw [if_pos (show rightE p = 0 from h 0 (by omega))]
    exact first_at l i (by simpa using hi) (fun j hj => h (j + 1) (by omega)) k
theorem first_all : ∀ (l : List (List Ru)), (∀ j, j < l.length → rightE (nthP l j) = 0) → firstE l = 0
  | [], _ => rfl
  | p :: l, h => by
    show (if rightE p = 0 then firstE l else rightE p) = _
    rw [if_pos (show rightE p = 0 from h 0 (by simp))]
    exact first_all l fun j hj => h (j + 1) (by simpa using hj)
theorem grs_app (a : List (List Ru)) (p : List Ru) : ∀ n, grs n (a ++ [p]) = grs n a * growN 1 p := by
  induction a with
  | nil => intro n; rfl
  | cons x a ih => intro n; exact ih _
theorem grs_take (l : List (List Ru)) (i : Nat) (h : i < l.length) : grs 1 (l.take (i + 1)) = grs 1 (l.take i) * growN 1 (nthP l i) := by
  rw [← grs_app, nthP_eq l i h, List.take_append_getElem]
theorem grow_le {p : List Ru} (h : rightE p = 0) : 1 ≤ growN 1 p ∧ growN 1 p ≤ 32 :=
  ⟨ru.growN_ge p 1, ru.growN_le p (ru.rightE_zero h).2.1 1 (by omega)⟩
theorem times_le {i n g : Nat} (hi : i ≤ 3) (hn : n ≤ 32 ^ i) (hg : g ≤ 32) : n * g ≤ 32 ^ (i + 1) := by
  rw [Nat.pow_succ]
  exact Nat.mul_le_mul hn hg
def NameOk (n : ByteArray) : Prop := 1 ≤ n.size ∧ n.size ≤ 32
def NamesOk (l : List ByteArray) : Prop := l.length ≤ 64 ∧ (∀ n ∈ l, NameOk n) ∧ l.Nodup
def FrameOk (l : List Int) (n : Nat) : Prop := l.length ≤ 32 ∧ ∀ x ∈ l, 0 ≤ x ∧ x < (n : Int)
def LastOk (c : Cf) : Prop := NamesOk c.ns ∧ FrameOk c.bf c.ns.length ∧ FrameOk c.af c.ns.length
open Classical in
noncomputable def rest (c : Cf) : Nat := if LastOk c then 0 else 172
def reE (t : Tr) : Nat := if t.depth ≤ 30 ∧ t.nodes ≤ 512 then (if t.good then 0 else 61) else 2
noncomputable def cfE (c : Cf) : Nat :=
  if 4 < c.ps.length then 172
  else if firstE c.ps ≠ 0 then firstE c.ps
  else if 32 < grs 1 c.ps then 172
  else if reE c.t ≠ 0 then reE c.t
  else if 1000 < szT c.t then 172
  else if errOf c.ms ≠ 0 then errOf c.ms
  else rest c
def passE (l : List (List Ru)) : Nat := if 4 < l.length then 172 else if firstE l ≠ 0 then firstE l else if 32 < grs 1 l then 172 else 0
def splitE (t : Tr) : Nat := if reE t ≠ 0 then reE t else if 1000 < szT t then 172 else 0
theorem cfE_eq (c : Cf) : cfE c = if passE c.ps ≠ 0 then passE c.ps else if splitE c.t ≠ 0 then splitE c.t else if errOf c.ms ≠ 0 then errOf c.ms else rest c := by
  unfold cfE passE splitE
  by_cases h1 : 4 < c.ps.length
  · simp [h1]
  · by_cases h2 : firstE c.ps = 0
    · by_cases h3 : 32 < grs 1 c.ps
      · simp [h1, h2, h3]
      · by_cases h4 : reE c.t = 0
        · by_cases h5 : 1000 < szT c.t
          · simp [h1, h2, h3, h4, h5]
          · simp [h1, h2, h3, h4, h5]
        · simp [h1, h2, h3, h4]
    · simp [h1, h2]
def Upto (l : List ByteArray) (i : Nat) : Prop := (∀ n ∈ l.take i, NameOk n) ∧ (l.take i).Nodup
def nthB (l : List ByteArray) (i : Nat) : ByteArray := l.getD i ⟨#[]⟩
theorem nthB_eq (l : List ByteArray) (i : Nat) (h : i < l.length) : nthB l i = l[i] := by simp [nthB, List.getD_eq_getElem?_getD, h]
theorem upto_zero (l : List ByteArray) : Upto l 0 := by simp [Upto]
theorem upto_step {l : List ByteArray} {i : Nat} (h : Upto l i) (hi : i < l.length) (hn : NameOk (nthB l i)) (hm : nthB l i ∉ l.take i) : Upto l (i + 1) := by
  have e : l.take (i + 1) = l.take i ++ [nthB l i] := by rw [nthB_eq l i hi, List.take_append_getElem]
  constructor
  · rw [e]
    intro n hn2
    rcases List.mem_append.1 hn2 with h1 | h1
    · exact h.1 n h1
    · rw [List.mem_singleton.1 h1]; exact hn
  · rw [e, List.nodup_append]
    exact ⟨h.2, by simp, fun a ha b hb => by rw [List.mem_singleton.1 hb]; intro e2; exact hm (e2 ▸ ha)⟩
theorem upto_all {l : List ByteArray} (hl : l.length ≤ 64) (h : Upto l l.length) : NamesOk l := by
  unfold Upto at h
  rw [List.take_length] at h
  exact ⟨hl, h.1, h.2⟩
theorem upto_bad {l : List ByteArray} {i : Nat} (hi : i < l.length) (hn : ¬ NameOk (nthB l i)) : ¬ NamesOk l := fun h => hn (h.2.1 _ (by rw [nthB_eq l i hi]; exact List.getElem_mem hi))
theorem upto_twice {l : List ByteArray} {i : Nat} (hi : i < l.length) (hn : nthB l i ∈ l.take i) : ¬ NamesOk l := fun h => by
  have h2 := h.2.2
  have e : l = l.take i ++ nthB l i :: l.drop (i + 1) := by
    rw [nthB_eq l i hi, ← List.drop_eq_getElem_cons hi, List.take_append_drop]
  rw [e, List.nodup_append] at h2
  exact h2.2.2 _ hn _ List.mem_cons_self rfl
theorem twice_at {l : List ByteArray} {i j : Nat} (hi : i < l.length) (hj : j < i) (e : nthB l j = nthB l i) : ¬ NamesOk l := by
  refine upto_twice hi ?_
  rw [← e, nthB_eq l j (by omega)]
  rw [List.mem_take_iff_getElem]
  exact ⟨j, by omega, rfl⟩
theorem not_in {l : List ByteArray} {i : Nat} (hi : i < l.length) (h : ∀ j, j < i → nthB l j ≠ nthB l i) : nthB l i ∉ l.take i := fun k => by
  rw [List.mem_take_iff_getElem] at k
  obtain ⟨j, hj, e⟩ := k
  exact h j (by omega) (by rw [nthB_eq l j (by omega)]; exact e)
end Go.Proofs.YthmecbonjkcnmaaGreat.cf

namespace Go.Proofs.YthmecbonjkcnmaaGreat.cf
open Go.ChangeShapes Go.WideShapes Go.ChangeAt Go.RowKit
open mg (Row RowV IntsV StrsV In chain below_alloc)
set_option linter.unusedVariables false

theorem str_eq (a b : ByteArray) : (a.toList == b.toList) = decide (a = b) := by
  by_cases h : a = b
  · subst h; simp
  · rw [decide_eq_false h, beq_eq_false_iff_ne]
    intro e
    apply h
    rw [ByteArray.toList_eq, ByteArray.toList_eq] at e
    cases a; cases b; congr; exact Array.toList_inj.1 e
def InL (x : ByteArray) (l : List ByteArray) : Prop := ∃ j, j < l.length ∧ nthB l j = x
theorem inL_iff {x : ByteArray} {l : List ByteArray} : InL x l ↔ x ∈ l := by
  constructor
  · rintro ⟨j, hj, rfl⟩
    rw [nthB_eq l j hj]
    exact List.getElem_mem hj
  · intro h
    obtain ⟨j, hj, e⟩ := List.mem_iff_getElem.1 h
    exact ⟨j, hj, by rw [nthB_eq l j hj]; exact e⟩
theorem strs_at {w : World} {o : Option Addr} {cap : Nat} {l : List ByteArray} (h : Row (In w) w Value.string o cap l) (i : Nat) (hi : i < l.length) : ∃ b off, o = some ⟨b, off, none⟩ ∧ b < w.heap.size ∧ w.cell? ⟨b, off + i, none⟩ = some (.string (nthB l i)) := by
  obtain ⟨b, off, e, hb, hc⟩ := h.lie i hi
  exact ⟨b, off, e, hb, by rw [nthB_eq l i hi]; exact hc⟩
def nthI (l : List Int) (i : Nat) : Int := l.getD i 0
theorem nthI_eq (l : List Int) (i : Nat) (h : i < l.length) : nthI l i = l[i] := by simp [nthI, List.getD_eq_getElem?_getD, h]
theorem ints_at {w : World} {o : Option Addr} {cap : Nat} {l : List Int} (h : Row (In w) w mg.iv o cap l) (i : Nat) (hi : i < l.length) : ∃ b off, o = some ⟨b, off, none⟩ ∧ b < w.heap.size ∧ w.cell? ⟨b, off + i, none⟩ = some (.int .i64 (nthI l i)) := by
  obtain ⟨b, off, e, hb, hc⟩ := h.lie i hi
  exact ⟨b, off, e, hb, by rw [nthI_eq l i hi]; exact hc⟩

set_option maxHeartbeats 1000000 in
set_option maxRecDepth 100000 in
theorem idx_any (x : ByteArray) (l : List ByteArray) (v : Value) (w : World) (hv : StrsV w v l) : Calls Tryz.prog 106 #[v, .string x] w fun e w' => ∃ n : Int, e = .returned (.int .i64 n) ∧ (0 ≤ n ↔ x ∈ l) ∧ Below w.heap.size w w' := by
  obtain ⟨o, cap, rfl, hr⟩ := hv
  have f1 := hr.fit
  have f2 := hr.top
  have HR := (show Hid (Row (In w) w Value.string o cap l) from hr)
  clear hr
  go_enter Tryz.func106, Tryz.ntmps106
  go_wp2_with (fail)
  go_loopw [8] (fun y wr => ∃ i : Nat, y = .int .i64 i ∧ i ≤ l.length ∧ Below w.heap.size w wr ∧ Hid (∀ j, j < i → nthB l j ≠ x)) (fun y _ => l.length - (intOf y).toNat)
  case atStart => exact ⟨0, rfl, by omega, Below.refl _ _, fun j hj => by omega⟩
  case round =>
    obtain ⟨i, rfl, hil, hB, HN⟩ := hrel
    by_cases hend : i < l.length
    · obtain ⟨b, off, rfl, hb, hc⟩ := strs_at HR.out i hend
      have k1 := (hB.cell (p := ⟨b, off + i, none⟩) hb).trans hc
      have HIN := (show Hid (nthB l i = x → x ∈ l) from fun e => inL_iff.1 ⟨i, hend, e⟩)
      have HNX := (show Hid (nthB l i ≠ x → ∀ j, j < i + 1 → nthB l j ≠ x) from fun h j hj => by
        by_cases e : j = i
        · rw [e]; exact h
        · exact HN.out j (by omega))
      have hq := str_eq x (nthB l i)
      clear hc HN HR
      generalize nthB l i = q at *
      by_cases he : x = q
      · have HI := (show Hid (x ∈ l) from HIN.out he.symm)
        rw [decide_eq_true he] at hq
        clear he HIN HNX
        go_wp2_with (fail)
        go_ret
        exact ⟨_, rfl, ⟨fun _ => HI.out, fun _ => by omega⟩, hB⟩
      · have HI := (show Hid _ from HNX.out (Ne.symm he))
        rw [decide_eq_false he] at hq
        clear he HIN HNX
        go_wp2_with (fail)
        go_roundw
        case rel => exact ⟨i + 1, by go_num, by omega, hB, HI.out⟩
        case measure => simp [intOf]; omega
    · have HI := (show Hid (x ∉ l) from fun h => by
        obtain ⟨j, hj, e⟩ := inL_iff.2 h
        exact HN.out j (by omega) e)
      go_wp2_with (fail)
      go_ret
      exact ⟨_, rfl, ⟨fun h => by omega, fun h => absurd h HI.out⟩, hB⟩
open Classical in
theorem has_any (x : ByteArray) (l : List ByteArray) (v : Value) (w : World) (r : Bool) (hr : r = true ↔ x ∈ l) (hv : StrsV w v l) : Calls Tryz.prog 80 #[v, .string x] w fun e w' => e = .returned (.bool r) ∧ Below w.heap.size w w' := by
  have c := idx_any x l v w hv
  obtain ⟨o, cap, rfl, hr2⟩ := hv
  clear hr2
  go_enter Tryz.func80, Tryz.ntmps80
  go_wp2_with (go_at_call 106; refine c.mono ?_; rintro e w2 ⟨n, rfl, hn, b2⟩; have hq : decide (0 ≤ n) = r := (by rw [Bool.eq_iff_iff, decide_eq_true_iff, hn, hr]); clear hn)
  go_ret
  exact ⟨rfl, b2⟩
end Go.Proofs.YthmecbonjkcnmaaGreat.cf

namespace Go.Proofs.YthmecbonjkcnmaaGreat.cf
open Go.ChangeShapes Go.WideShapes Go.ChangeAt Go.RowKit
open mg (Row RowV IntsV StrsV In chain below_alloc)
set_option linter.unusedVariables false

theorem empty_no (x : ByteArray) (h : 1 ≤ x.size) : x.toList.isEmpty = false := by
  rw [ru.empty_eq]; exact beq_eq_false_iff_ne.2 (by omega)
theorem empty_yes (x : ByteArray) (h : ¬ 1 ≤ x.size) : x.toList.isEmpty = true := by
  rw [ru.empty_eq]; exact beq_iff_eq.2 (by omega)
open Classical in
set_option maxHeartbeats 1000000 in
set_option maxRecDepth 100000 in
theorem names_any (l : List ByteArray) (v : Value) (w : World) (hv : StrsV w v l) : Calls Tryz.prog 55 #[v] w fun e w' => e = .returned (.bool (decide (NamesOk l))) ∧ Below w.heap.size w w' := by
  have HV := (show Hid (StrsV w v l) from hv)
  obtain ⟨o, cap, rfl, hr⟩ := hv
  have f1 := hr.fit
  have f2 := hr.top
  have HR := (show Hid (Row (In w) w Value.string o cap l) from hr)
  clear hr
  by_cases hlong : 64 < l.length
  · have HF := (show Hid (decide (NamesOk l) = false) from decide_eq_false fun h => by have := h.1; omega)
    rw [HF.out]
    clear HR HV
    go_enter Tryz.func55, Tryz.ntmps55
    go_wp2_with (fail)
    go_ret
    exact ⟨rfl, Below.refl _ _⟩
  · have hl : l.length ≤ 64 := by omega
    obtain ⟨r, hr⟩ : ∃ r, Hid (r = decide (NamesOk l)) := ⟨_, rfl⟩
    rw [← hr.out]
    go_enter Tryz.func55, Tryz.ntmps55
    go_wp2_with (fail)
    go_loopw [10] (fun y wr => ∃ i : Nat, y = .int .i64 i ∧ i ≤ l.length ∧ Below w.heap.size w wr ∧ Hid (Upto l i)) (fun y _ => l.length - (intOf y).toNat)
    case atStart => exact ⟨0, rfl, by omega, Below.refl _ _, upto_zero l⟩
    case round =>
      obtain ⟨i, rfl, hil, hB, HU⟩ := hrel
      by_cases hend : i < l.length
      · obtain ⟨b, off, rfl, hb, hc⟩ := strs_at HR.out i hend
        have k1 := (hB.cell (p := ⟨b, off + i, none⟩) hb).trans hc
        have HS := (show Hid (StrsV wr (.slice (some ⟨b, off, none⟩) i cap) (l.take i)) from ((HV.out.later hB).take i (by omega)).2)
        by_cases hn : NameOk (nthB l i)
        · obtain ⟨n1, n2⟩ := hn
          have HST := (show Hid (nthB l i ∉ l.take i → Upto l (i + 1)) from fun h => upto_step HU.out hend ⟨n1, n2⟩ h)
          have HTW := (show Hid (nthB l i ∈ l.take i → r = false) from fun h => by rw [hr.out]; exact decide_eq_false (upto_twice hend h))
          have e1 := empty_no _ n1
          have g2 : decide (32 < ((nthB l i).size : Int)) = false := decide_eq_false (by omega)
          clear HV HR HU hc
          generalize l.take i = pre at *
          generalize nthB l i = q at *
          by_cases hin : q ∈ pre
          · obtain rfl : r = false := HTW.out hin
            have hc2 := has_any q pre _ wr true ⟨fun _ => hin, fun _ => rfl⟩ HS.out
            clear HST HTW hin
            go_wp2_with (go_at_call 80; refine hc2.mono ?_; rintro e w2 ⟨rfl, b2⟩)
            go_ret
            exact ⟨rfl, chain hB b2⟩
          · have HI := (show Hid _ from HST.out hin)
            have hc2 := has_any q pre _ wr false ⟨fun h => (by cases h), fun h => absurd h hin⟩ HS.out
            clear HST HTW hin
            go_wp2_with (go_at_call 80; refine hc2.mono ?_; rintro e w2 ⟨rfl, b2⟩)
            go_roundw
            case rel => exact ⟨i + 1, by go_num, by omega, chain hB b2, HI.out⟩
            case measure => simp [intOf]; omega
        · obtain rfl : r = false := by rw [hr.out]; exact decide_eq_false (upto_bad hend hn)
          clear HV HR HU hc HS
          by_cases h1 : 1 ≤ (nthB l i).size
          · have e1 := empty_no _ h1
            have g2 : (32 : Int) < ((nthB l i).size : Int) := by
              have : ¬ (nthB l i).size ≤ 32 := fun h => hn ⟨h1, h⟩
              omega
            clear hn h1
            generalize nthB l i = q at *
            go_wp2_with (fail)
            go_ret
            exact ⟨rfl, hB⟩
          · have e1 := empty_yes _ h1
            clear hn h1
            generalize nthB l i = q at *
            go_wp2_with (fail)
            go_ret
            exact ⟨rfl, hB⟩
      · obtain rfl : r = true := by
          have e : i = l.length := by omega
          rw [e] at HU
          rw [hr.out]; exact decide_eq_true (upto_all hl HU.out)
        go_wp2_with (fail)
        go_ret
        exact ⟨rfl, hB⟩
theorem frame_bad {l : List Int} {n i : Nat} (hi : i < l.length) (h : ¬ (0 ≤ nthI l i ∧ nthI l i < (n : Int))) : ¬ FrameOk l n := fun k => h (k.2 _ (by rw [nthI_eq l i hi]; exact List.getElem_mem hi))
theorem frame_all {l : List Int} {n : Nat} (hl : l.length ≤ 32) (h : ∀ j, j < l.length → 0 ≤ nthI l j ∧ nthI l j < (n : Int)) : FrameOk l n := ⟨hl, fun x hx => by
  obtain ⟨j, hj, rfl⟩ := List.mem_iff_getElem.1 hx
  rw [← nthI_eq l j hj]; exact h j hj⟩
open Classical in
set_option maxHeartbeats 1000000 in
set_option maxRecDepth 100000 in
theorem frame_any (l : List Int) (n : Nat) (hn : n ≤ 9223372036854775807) (v : Value) (w : World) (hv : IntsV w v l) : Calls Tryz.prog 56 #[v, .int .i64 (n : Int)] w fun e w' => e = .returned (.bool (decide (FrameOk l n))) ∧ Below w.heap.size w w' := by
  obtain ⟨o, cap, rfl, hr⟩ := hv
  have f1 := hr.fit
  have f2 := hr.top
  have HR := (show Hid (Row (In w) w mg.iv o cap l) from hr)
  clear hr
  by_cases hlong : 32 < l.length
  · have HF := (show Hid (decide (FrameOk l n) = false) from decide_eq_false fun h => by have := h.1; omega)
    rw [HF.out]
    clear HR
    go_enter Tryz.func56, Tryz.ntmps56
    go_wp2_with (fail)
    go_ret
    exact ⟨rfl, Below.refl _ _⟩
  · have hl : l.length ≤ 32 := by omega
    obtain ⟨r, hr⟩ : ∃ r, Hid (r = decide (FrameOk l n)) := ⟨_, rfl⟩
    rw [← hr.out]
    go_enter Tryz.func56, Tryz.ntmps56
    go_wp2_with (fail)
    go_loopw [12] (fun y wr => ∃ i : Nat, y = .int .i64 i ∧ i ≤ l.length ∧ Below w.heap.size w wr ∧ Hid (∀ j, j < i → 0 ≤ nthI l j ∧ nthI l j < (n : Int))) (fun y _ => l.length - (intOf y).toNat)
    case atStart => exact ⟨0, rfl, by omega, Below.refl _ _, fun j hj => by omega⟩
    case round =>
      obtain ⟨i, rfl, hil, hB, HU⟩ := hrel
      by_cases hend : i < l.length
      · obtain ⟨b, off, rfl, hb, hc⟩ := ints_at HR.out i hend
        have k1 := (hB.cell (p := ⟨b, off + i, none⟩) hb).trans hc
        have HBD := (show Hid (¬ (0 ≤ nthI l i ∧ nthI l i < (n : Int)) → r = false) from fun h => by rw [hr.out]; exact decide_eq_false (frame_bad hend h))
        have HNX := (show Hid (0 ≤ nthI l i ∧ nthI l i < (n : Int) → ∀ j, j < i + 1 → 0 ≤ nthI l j ∧ nthI l j < (n : Int)) from fun h j hj => by
          by_cases e : j = i
          · rw [e]; exact h
          · exact HU.out j (by omega))
        clear HR HU hc hr
        generalize nthI l i = q at *
        by_cases h0 : q < 0
        · obtain rfl : r = false := HBD.out fun h => by omega
          clear HNX HBD
          go_wp2_with (fail)
          go_ret
          exact ⟨rfl, hB⟩
        · by_cases h1 : (n : Int) ≤ q
          · obtain rfl : r = false := HBD.out fun h => by omega
            clear HNX HBD
            go_wp2_with (fail)
            go_ret
            exact ⟨rfl, hB⟩
          · have HI := (show Hid _ from HNX.out (by omega))
            clear HNX HBD
            go_wp2_with (fail)
            go_roundw
            case rel => exact ⟨i + 1, by go_num, by omega, hB, HI.out⟩
            case measure => simp [intOf]; omega
      · obtain rfl : r = true := by
          rw [hr.out]; exact decide_eq_true (frame_all hl fun j hj => HU.out j (by omega))
        go_wp2_with (fail)
        go_ret
        exact ⟨rfl, hB⟩
open Classical in
set_option maxHeartbeats 1000000 in
set_option maxRecDepth 100000 in
theorem rframe_any (l : List Int) (n : Nat) (hn : n ≤ 9223372036854775807) (v : Value) (w : World) (hv : IntsV w v l) : Calls Tryz.prog 29 #[v, .int .i64 (n : Int)] w fun e w' => e = .returned (.bool (decide (FrameOk l n))) ∧ Below w.heap.size w w' := by
  obtain ⟨o, cap, rfl, hr⟩ := hv
  have f1 := hr.fit
  have f2 := hr.top
  have HR := (show Hid (Row (In w) w mg.iv o cap l) from hr)
  clear hr
  obtain ⟨r, hr⟩ : ∃ r, Hid (r = decide (FrameOk l n)) := ⟨_, rfl⟩
  rw [← hr.out]
  go_enter Tryz.func29, Tryz.ntmps29
  go_wp2_with (fail)
  go_loopw [9] (fun y wr => ∃ i : Nat, y = .int .i64 i ∧ i ≤ l.length ∧ Below w.heap.size w wr ∧ Hid (∀ j, j < i → 0 ≤ nthI l j ∧ nthI l j < (n : Int))) (fun y _ => l.length - (intOf y).toNat)
  case atStart => exact ⟨0, rfl, by omega, Below.refl _ _, fun j hj => by omega⟩
  case round =>
    obtain ⟨i, rfl, hil, hB, HU⟩ := hrel
    by_cases hend : i < l.length
    · obtain ⟨b, off, rfl, hb, hc⟩ := ints_at HR.out i hend
      have k1 := (hB.cell (p := ⟨b, off + i, none⟩) hb).trans hc
      have HBD := (show Hid (¬ (0 ≤ nthI l i ∧ nthI l i < (n : Int)) → r = false) from fun h => by rw [hr.out]; exact decide_eq_false (frame_bad hend h))
      have HNX := (show Hid (0 ≤ nthI l i ∧ nthI l i < (n : Int) → ∀ j, j < i + 1 → 0 ≤ nthI l j ∧ nthI l j < (n : Int)) from fun h j hj => by
        by_cases e : j = i
        · rw [e]; exact h
        · exact HU.out j (by omega))
      clear HR HU hc hr
      generalize nthI l i = q at *
      by_cases h0 : q < 0
      · obtain rfl : r = false := HBD.out fun h => by omega
        clear HNX HBD
        go_wp2_with (fail)
        go_ret
        exact ⟨rfl, hB⟩
      · by_cases h1 : (n : Int) ≤ q
        · obtain rfl : r = false := HBD.out fun h => by omega
          clear HNX HBD
          go_wp2_with (fail)
          go_ret
          exact ⟨rfl, hB⟩
        · have HI := (show Hid _ from HNX.out (by omega))
          clear HNX HBD
          go_wp2_with (fail)
          go_roundw
          case rel => exact ⟨i + 1, by go_num, by omega, hB, HI.out⟩
          case measure => simp [intOf]; omega
    · have HE := (show Hid (r = decide ((l.length : Int) ≤ 32)) from by
        show r = _
        rw [hr.out]
        exact decide_eq_decide.2 ⟨fun h => by have := h.1; omega, fun h => frame_all (by omega) fun j hj => HU.out j (by omega)⟩)
      clear hr HU HR
      go_wp2_with (fail)
      go_ret
      exact ⟨by rw [HE.out]; rfl, hB⟩
end Go.Proofs.YthmecbonjkcnmaaGreat.cf
