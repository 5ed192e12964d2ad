/-
  Contracts over this program: how deep a tree is, how many nodes it has, whether it is an expression's (the document's Deep, Nodes, one, every, Right; regex.rightNode, right, Right).
-/
import Derived.Test.YtfclidcfhadohaaDoorFit
import Derived.ChangeKeysEq
import Derived.Deep.RegionHeld3
import Derived.Deep.QuietTactic
namespace Go.Proofs.YtfclidcfhadohaaDoor.st
open Go.ChangeShapes Go.WideShapes Go.ChangeAt Go.RowKit
set_option linter.unusedVariables false

theorem info22 : (Tryd.prog.info? 22).map (fun i => (i.zero, i.size, i.bytes)) = some (some (.int .u64 0), 1, 8) := by kernel_rfl
theorem eq23 (a b c d a' b' c' d' : Int) (W : World) : (Op.equalIn 9999 23 (.agg #[.int .u64 a, .int .u64 b, .int .u64 c, .int .u64 d]) (.agg #[.int .u64 a', .int .u64 b', .int .u64 c', .int .u64 d'])).run Tryd.prog W = .ok (a == a' && (b == b' && (c == c' && d == d'))) W := by
  obtain ⟨i, hi, _, _, _⟩ := info_parts info22
  have c22 : Tryd.prog.cellsOf 22 = 1 := by kernel_rfl
  have r4 : List.range 4 = [0, 1, 2, 3] := rfl
  have he : ∀ x y : Int, (Op.equalIn 9998 22 (.int .u64 x) (.int .u64 y)).run Tryd.prog W = .ok (x == y) W := fun x y => by
    rw [run_equalIn_int W 9997 22 .u64 .u64 x y Tryd.underlying22]
  rw [run_equalIn_array W 9998 _ _ Tryd.underlying23 hi, c22, r4]
  simp only [Op.eqItems, part]
  cases h1 : (a == a') <;> cases h2 : (b == b') <;> cases h3 : (c == c') <;> cases h4 : (d == d') <;> simp [he, h1, h2, h3, h4]
theorem noSet_is (q : Q4) : ((q.a : Int) == 0 && ((q.b : Int) == 0 && ((q.c : Int) == 0 && (q.d : Int) == 0))) = noSet q := by
  unfold noSet
  have h : ∀ x : Nat, ((x : Int) == 0) = decide (x = 0) := fun x => by
    by_cases hx : x = 0
    · subst hx; rfl
    · rw [decide_eq_false hx, beq_eq_false_iff_ne]; omega
  rw [h, h, h, h, Bool.and_assoc, Bool.and_assoc]

def OnceIs (a b : Int) (r : Bool) : Prop := ∀ w, Calls Tryd.prog 67 #[.int .i64 a, .int .i64 b] w fun e w' => e = .returned (.bool r) ∧ w' = w
theorem once_any (a b : Int) (r : Bool) (hr : r = (decide (a = 1) && decide (b = 1))) : OnceIs a b r := by
  intro w
  have HR : Hid (r = (decide (a = 1) && decide (b = 1))) := hr
  clear hr
  by_cases h1 : a = 1 <;> by_cases h2 : b = 1
  all_goals
    go_enter Tryd.func67, Tryd.ntmps67
    go_wp2
    go_ret
    refine ⟨?_, rfl⟩
    rw [HR.out]
    simp [*]

def TimesIs (a b : Int) (r : Bool) : Prop := ∀ w, Calls Tryd.prog 51 #[.int .i64 a, .int .i64 b] w fun e w' => e = .returned (.bool r) ∧ w' = w
theorem times_any (a b : Int) (r : Bool) (hr : r = timesOk a b) : TimesIs a b r := by
  intro w
  have HR : Hid (r = timesOk a b) := hr
  have ho := once_any a b _ rfl
  clear hr
  by_cases h0 : a < 0
  · go_enter Tryd.func51, Tryd.ntmps51
    go_wp2_with (fail)
    go_ret
    exact ⟨by rw [HR.out]; simp [timesOk]; omega, rfl⟩
  by_cases h20 : 20 < a
  · go_enter Tryd.func51, Tryd.ntmps51
    go_wp2_with (fail)
    go_ret
    exact ⟨by rw [HR.out]; simp [timesOk]; omega, rfl⟩
  by_cases h1 : a = 1 ∧ b = 1
  · obtain ⟨rfl, rfl⟩ := h1
    go_enter Tryd.func51, Tryd.ntmps51
    go_wp2_with (go_at_call 67; refine (ho _).mono ?_; rintro e w1 ⟨rfl, rfl⟩)
    go_ret
    exact ⟨by rw [HR.out]; rfl, rfl⟩
  · have ho2 : OnceIs a b false := by
      have e : (decide (a = 1) && decide (b = 1)) = false := by simp; omega
      rw [e] at ho; exact ho
    have HO : Hid (timesOk a b = (decide (b = -1) || (decide (a ≤ b) && decide (b ≤ 20)))) := by
      show _ = _
      unfold timesOk
      have e : (decide (a = 1) && decide (b = 1)) = false := by simp; omega
      rw [e, decide_eq_true (by omega : 0 ≤ a), decide_eq_true (by omega : a ≤ 20)]
      simp
    clear ho h1
    by_cases h2 : b = -1
    · subst h2
      go_enter Tryd.func51, Tryd.ntmps51
      go_wp2_with (go_at_call 67; refine (ho2 _).mono ?_; rintro e w1 ⟨rfl, rfl⟩)
      go_ret
      exact ⟨by rw [HR.out, HO.out]; rfl, rfl⟩
    · by_cases h3 : a ≤ b
      · by_cases h4 : b ≤ 20
        · go_enter Tryd.func51, Tryd.ntmps51
          go_wp2_with (go_at_call 67; refine (ho2 _).mono ?_; rintro e w1 ⟨rfl, rfl⟩)
          go_ret
          exact ⟨by rw [HR.out, HO.out]; simp [*], rfl⟩
        · go_enter Tryd.func51, Tryd.ntmps51
          go_wp2_with (go_at_call 67; refine (ho2 _).mono ?_; rintro e w1 ⟨rfl, rfl⟩)
          go_ret
          exact ⟨by rw [HR.out, HO.out]; simp [*], rfl⟩
      · go_enter Tryd.func51, Tryd.ntmps51
        go_wp2_with (go_at_call 67; refine (ho2 _).mono ?_; rintro e w1 ⟨rfl, rfl⟩)
        go_ret
        exact ⟨by rw [HR.out, HO.out, decide_eq_false (by omega : ¬ a ≤ b), decide_eq_false h2]; simp [h2], rfl⟩

theorem any_take_le (k : Int) (l : List Tr) (i : Nat) (h : l.length ≤ i) : anyKind k (l.take i) = anyKind k l := by rw [List.take_of_length_le h]

/-- a list of kids -/
def KidsIs (w : World) (P : Nat → Prop) (l : List Tr) (v : Value) : Prop := Is w P (.node 0 none4 0 0 l) v
theorem Is.toKids {w : World} {P : Nat → Prop} {t : Tr} {v : Value} (h : Is w P t v) : KidsIs w P t.kids v := by
  cases h with
  | leaf k q mn mx a cap => exact .leaf _ _ _ _ a cap
  | node k q mn mx l b off cap vs hl hc hb hP cells kids => exact .node _ _ _ _ l b off cap vs hl hc hb hP cells kids
theorem KidsIs.toTree {w : World} {P : Nat → Prop} {l : List Tr} {v : Value} (h : KidsIs w P l v) (k : Int) (q : Q4) (mn mx : Int) : Is w P (.node k q mn mx l) v := by
  unfold KidsIs at h
  cases h with
  | leaf _ _ _ _ a cap => exact .leaf _ _ _ _ a cap
  | node _ _ _ _ l b off cap vs hl hc hb hP cells kids => exact .node _ _ _ _ l b off cap vs hl hc hb hP cells kids

def HasTIs (l : List Tr) (k : Int) (r : Bool) : Prop := ∀ v w P, KidsIs w P l v → Calls Tryd.prog 50 #[v, .int .i64 k] w fun e w' => e = .returned (.bool r) ∧ Below w.heap.size w w'
set_option maxHeartbeats 1000000 in
set_option maxRecDepth 100000 in
theorem hasT_any (l : List Tr) (k : Int) (r : Bool) (hr : r = anyKind k l) : HasTIs l k r := by
  intro v w P hi
  have HR : Hid (r = anyKind k l) := hr
  obtain ⟨o, cap, b, off, vs, rfl, hcap, hk⟩ := hi.form
  simp only [Tr.kids] at hcap hk ⊢
  have hll : l.length ≤ 9223372036854775807 := by
    by_cases h0 : 0 < l.length
    · have := (hk 0 h0).2.1; omega
    · omega
  clear hr hi
  go_enter Tryd.func50, Tryd.ntmps50
  go_wp2
  go_loopw [9] (fun x wr => ∃ (i : Nat), x = .int .i64 i ∧ i ≤ l.length ∧ Below w.heap.size w wr ∧ Hid (anyKind k (l.take i) = false)) (fun x _ => l.length - (intOf x).toNat)
  case atStart => exact ⟨0, rfl, by omega, Below.refl _ _, rfl⟩
  case round =>
    obtain ⟨i, rfl, hil, hB, HI⟩ := hrel
    by_cases hend : i < l.length
    · obtain ⟨rfl, hcm, hb, hne, hcells, hkid⟩ := hk i hend
      have hcells2 := hcells.same (hB.block b hb)
      obtain ⟨o2, n2, cap2, hv2⟩ := hkid.shape
      rw [hv2] at hcells2
      obtain ⟨k0, k1, k2, k3, k4, k5, k6, k7⟩ := hcells2
      clear hcells hkid hk hv2
      by_cases hyes : (nthT l i).kind = k
      · have HF : Hid (r = true) := HR.out.trans (any_true k l i hend hyes)
        generalize nthT l i = x at *
        go_wp2
        go_ret
        exact ⟨by rw [HF.out]; rfl, hB.alloc hB.size _⟩
      · have HJ : Hid (anyKind k (l.take (i + 1)) = false) := by
          show _ = _
          rw [any_take k l i hend, HI.out, decide_eq_false hyes]; rfl
        generalize nthT l i = x at *
        go_wp2
        go_roundw
        case rel => exact ⟨i + 1, by go_num, by omega, hB.alloc hB.size _, HJ⟩
        case measure => simp [intOf]; omega
    · have HF : Hid (r = false) := by
        show _ = _
        rw [HR.out, ← HI.out, any_take_le k l i (by omega)]
      go_wp2
      go_ret
      exact ⟨by rw [HF.out]; rfl, hB⟩

def okB (k : Int) (ns : Bool) (mn mx : Int) (n : Nat) (h2 h3 tm : Bool) : Bool :=
  if k = 1 then decide (mn = 0) && decide (mx = 0) && decide (n = 0)
  else if k = 2 then ns && decide (mn = 0) && decide (mx = 0) && !decide (n = 1) && !h2
  else if k = 3 then ns && decide (mn = 0) && decide (mx = 0) && decide (2 ≤ n) && !h3
  else if k = 4 then ns && tm && decide (n = 1)
  else false
theorem okB_is (t : Tr) : okNode t = okB t.kind (noSet t.set) t.min t.max t.kids.length (anyKind 2 t.kids) (anyKind 3 t.kids) (timesOk t.min t.max) := rfl

def NodeIs (f : Nat) (t : Tr) (r : Bool) : Prop := ∀ v w P, Is w P t v → Calls Tryd.prog f #[.agg #[.int .i64 t.kind, .int .u64 t.set.a, .int .u64 t.set.b, .int .u64 t.set.c, .int .u64 t.set.d, .int .i64 t.min, .int .i64 t.max, v]] w fun e w' => e = .returned (.bool r) ∧ Below w.heap.size w w'

end Go.Proofs.YtfclidcfhadohaaDoor.st
