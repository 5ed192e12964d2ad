/-
  Texts put together: Contracts over this program: whether a tree has at most so many levels and nodes (regex.fits). Contracts over this program: how deep a tree is, how many nodes it has, whether it is an expression's (the document's Deep, Nodes, one, every, Right; regex.rightNode, right, Right). Contracts over this program: whether one node may be (regex.rightNode): what its parts say. Contracts over this program: whether one node may be (regex.rightNode): a set. Contracts over this program: whether one node may be (regex.rightNode): one behind the other. Contracts over this program: whether one node may be (regex.rightNode): one of them.
-/
import Derived.Test.YthmecbonjkcnmaaGreatM02
import Derived.ChangeKeysEq
import Derived.Deep.RegionHeld3
import Derived.Deep.QuietTactic
namespace Go.Proofs.YthmecbonjkcnmaaGreat.st
open Go.ChangeShapes Go.WideShapes Go.ChangeAt Go.RowKit
set_option linter.unusedVariables false

def FitsIs (t : Tr) (lv n : Nat) (r : Bool) (m : Nat) : Prop := ∀ g v w, Is w (· ≠ g) t v → One w g n → Calls Tryz.prog 88 #[.agg #[.int .i64 t.kind, .int .u64 t.set.a, .int .u64 t.set.b, .int .u64 t.set.c, .int .u64 t.set.d, .int .i64 t.min, .int .i64 t.max, v], .int .i64 lv, .pointer (some ⟨g, 0, none⟩)] w fun e w' =>
  e = .returned (.bool r) ∧ (r = true → One w' g (m : Int)) ∧ w.grownBy w' (some g)

theorem below_alloc (w : World) (o : Obj) : Below w.heap.size w (w.alloc o) := (Below.refl _ _).alloc (Nat.le_refl _) o

theorem fits_none_left (t : Tr) (n m : Nat) : FitsIs t 0 n false m := by
  intro g v w hi ho
  clear hi
  generalize t.kind = k at *
  generalize t.set = q at *
  generalize t.min = mn at *
  generalize t.max = mx at *
  go_enter Tryz.func88, Tryz.ntmps88
  go_wp2
  go_ret
  exact ⟨rfl, fun h => (by cases h), touch_alloc (touch_refl _ _) _⟩
theorem fits_no_nodes (t : Tr) (lv m : Nat) (hlv : lv ≠ 0) : FitsIs t lv 0 false m := by
  intro g v w hi ho
  have hne : ((lv : Int) == 0) = false := by rw [beq_eq_false_iff_ne]; omega
  clear hi
  generalize t.kind = k at *
  generalize t.set = q at *
  generalize t.min = mn at *
  generalize t.max = mx at *
  have c0 := ho.c
  have c1 : ∀ o, (w.alloc o).cell? ⟨g, 0, none⟩ = some (.int .i64 0) := fun o => (cell_same ((below_alloc w o).block g ho.lt) 0).trans (by simpa using c0)
  clear c0 ho
  go_enter Tryz.func88, Tryz.ntmps88
  go_wp2
  go_ret
  exact ⟨rfl, fun h => (by cases h), touch_alloc (touch_refl _ _) _⟩

set_option maxHeartbeats 1000000 in
set_option maxRecDepth 100000 in
theorem fits_step (d : Nat) (ih : ∀ (t : Tr) (lv n : Nat) (r : Bool) (m : Nat), t.depth ≤ d → lv ≤ 9223372036854775807 → n ≤ 9223372036854775807 → r = (decide (t.depth ≤ lv) && decide (t.nodes ≤ n)) → m = n - t.nodes → FitsIs t lv n r m)
    (t : Tr) (L N lv n : Nat) (r : Bool) (M : Nat) (hd : t.depth ≤ d + 1) (hL : L ≤ 9223372036854775807) (hN : N ≤ 9223372036854775807) (eL : L = lv + 1) (eN : N = n + 1) (hr : r = (decide (t.depth ≤ L) && decide (t.nodes ≤ N))) (hM : M = N - t.nodes) : FitsIs t L N r M := by
  intro g v w hi ho
  obtain ⟨o, cap, b, off, vs, rfl, hcap, hk⟩ := hi.form
  have hDe := t.depth_eq
  have hNe := t.nodes_eq
  have HK : Hid (∀ i, i < t.kids.length → (nthT t.kids i).depth ≤ d) := fun i hi => by have := depth_nth t.kids i hi; omega
  have c0 := ho.c
  have hlt := ho.lt
  have f0 := ho.fz
  have c1 : ∀ o, (w.alloc o).cell? ⟨g, 0, none⟩ = some (.int .i64 N) := fun o => (cell_same ((below_alloc w o).block g hlt) 0).trans c0
  have f1 : ∀ o, (w.alloc o).frozen? ⟨g, 0, none⟩ = false := fun o => (ho.below (below_alloc w o)).fz
  have HR : Hid (r = (decide (depths t.kids ≤ lv) && decide (nodesOf t.kids ≤ n)) ∧ M = n - nodesOf t.kids) := by
    refine ⟨?_, by omega⟩
    rw [hr, hDe, hNe, eL, eN]; simp only [Nat.add_le_add_iff_right]
  have hne1 : ((L : Int) == 0) = false := by rw [beq_eq_false_iff_ne]; omega
  have hne2 : ((N : Int) == 0) = false := by rw [beq_eq_false_iff_ne]; omega
  have hs1 : (N : Int) - 1 = (n : Int) := by omega
  have hs2 : (L : Int) - 1 = (lv : Int) := by omega
  have hlv : lv ≤ 9223372036854775807 := by omega
  have hn : n ≤ 9223372036854775807 := by omega
  have hll : t.kids.length ≤ 9223372036854775807 := by
    by_cases h0 : 0 < t.kids.length
    · have := (hk 0 h0).2.1; omega
    · omega
  clear hDe hNe hd hi eL eN hr hM
  generalize t.kind = k at *
  generalize t.set = q at *
  generalize t.min = mn at *
  generalize t.max = mx at *
  generalize t.kids = l at *
  go_enter Tryz.func88, Tryz.ntmps88
  go_wp2
  go_loopw [25] (fun x wr => ∃ (i m : Nat), x = .int .i64 i ∧ i ≤ l.length ∧ One wr g (m : Int) ∧ w.grownBy wr (some g) ∧ w.heap.size + 1 ≤ wr.heap.size ∧ Hid (depths (l.take i) ≤ lv ∧ m + nodesOf (l.take i) = n)) (fun x _ => l.length - (intOf x).toNat)
  case atStart => exact ⟨0, n, rfl, by omega, (ho.set n).below (below_alloc _ _), touch_alloc (touch_cell _ _ _ _) _, by simp, by show _ ∧ _; simp [depths, nodesOf]⟩
  case round =>
    obtain ⟨i, m, rfl, hil, hone, hT, hsz, HI⟩ := hrel
    by_cases hend : i < l.length
    · obtain ⟨rfl, hcm, hb, hne, hcells, hkid⟩ := hk i hend
      have hcells2 := hcells.same (hT.block b hb (fun e => hne (Option.some.inj e)))
      have hkid2 := hkid.grown hT
      obtain ⟨k0, k1, k2, k3, k4, k5, k6, k7⟩ := hcells2
      obtain ⟨o2, n2, cap2, hv2⟩ := hkid2.shape
      rw [hv2] at k7 hkid2
      clear hcells hkid hk hv2
      by_cases hyes : (nthT l i).depth ≤ lv ∧ (nthT l i).nodes ≤ m
      · have hcall := ih (nthT l i) lv m true (m - (nthT l i).nodes) (HK.out i hend) hlv (by have := HI.out.2; omega) (by simp [hyes]) rfl
        have HJ : Hid (depths (l.take (i + 1)) ≤ lv ∧ m - (nthT l i).nodes + nodesOf (l.take (i + 1)) = n) := by
          refine ⟨?_, ?_⟩
          · rw [depths_take l i hend]; have := HI.out.1; omega
          · rw [nodesOf_take l i hend]; have := HI.out.2; omega
        clear hyes
        generalize nthT l i = x at *
        go_wp2_with (go_at_call 88; refine (hcall _ _ _ (hkid2.later (below_alloc _ _)) (hone.below (below_alloc _ _))).mono ?_; rintro e w1 ⟨rfl, h1, t1⟩)
        go_roundw
        case rel => exact ⟨i + 1, _, by go_num, by omega, h1 trivial, touch_trans (touch_alloc hT _) t1, by have := t1.size; simp at this; omega, HJ⟩
        case measure => simp [intOf]; omega
      · have hcall := ih (nthT l i) lv m false (m - (nthT l i).nodes) (HK.out i hend) hlv (by have := HI.out.2; omega) (by symm; simp; omega) rfl
        have HF : Hid (r = false) := by
          have h1 := depth_nth l i hend
          have h2 := nodes_nth l i hend
          have h3 := HI.out.2
          show _ = _
          rw [HR.out.1]; simp; omega
        clear hyes
        generalize nthT l i = x at *
        go_wp2_with (go_at_call 88; refine (hcall _ _ _ (hkid2.later (below_alloc _ _)) (hone.below (below_alloc _ _))).mono ?_; rintro e w1 ⟨rfl, h1, t1⟩)
        go_ret
        exact ⟨by rw [HF.out]; rfl, fun h => absurd h (by rw [HF.out]; decide), touch_trans (touch_alloc hT _) t1⟩
    · have HF : Hid (r = true ∧ M = m) := by
        have h := HI.out
        rw [List.take_of_length_le (by omega)] at h
        refine ⟨?_, ?_⟩
        · rw [HR.out.1]; simp; omega
        · rw [HR.out.2]; omega
      go_wp2
      go_ret
      exact ⟨by rw [HF.out.1]; rfl, fun _ => by rw [HF.out.2]; exact hone, hT⟩

theorem fits_any (d : Nat) : ∀ (t : Tr) (lv n : Nat) (r : Bool) (m : Nat), t.depth ≤ d → lv ≤ 9223372036854775807 → n ≤ 9223372036854775807 → r = (decide (t.depth ≤ lv) && decide (t.nodes ≤ n)) → m = n - t.nodes → FitsIs t lv n r m := by
  induction d with
  | zero => intro t lv n r m hd; have := t.depth_eq; omega
  | succ d ih =>
    intro t lv n r m hd hlv hn hr hm
    have hDe := t.depth_eq
    have hNe := t.nodes_eq
    match lv, n, hr with
    | 0, n, hr =>
      have e : r = false := by rw [hr]; simp; omega
      rw [e]; exact fits_none_left t n m
    | lv + 1, 0, hr =>
      have e : r = false := by rw [hr]; simp; omega
      rw [e]; exact fits_no_nodes t (lv + 1) m (by omega)
    | lv + 1, n + 1, hr => exact fits_step d ih t _ _ lv n r m hd hlv hn rfl rfl hr hm
end Go.Proofs.YthmecbonjkcnmaaGreat.st

namespace Go.Proofs.YthmecbonjkcnmaaGreat.st
open Go.ChangeShapes Go.WideShapes Go.ChangeAt Go.RowKit
set_option linter.unusedVariables false

theorem info23 : (Tryz.prog.info? 23).map (fun i => (i.zero, i.size, i.bytes)) = some (some (.int .u64 0), 1, 8) := by kernel_rfl
theorem eq24 (a b c d a' b' c' d' : Int) (W : World) : (Op.equalIn 9999 24 (.agg #[.int .u64 a, .int .u64 b, .int .u64 c, .int .u64 d]) (.agg #[.int .u64 a', .int .u64 b', .int .u64 c', .int .u64 d'])).run Tryz.prog W = .ok (a == a' && (b == b' && (c == c' && d == d'))) W := by
  obtain ⟨i, hi, _, _, _⟩ := info_parts info23
  have c22 : Tryz.prog.cellsOf 23 = 1 := by kernel_rfl
  have r4 : List.range 4 = [0, 1, 2, 3] := rfl
  have he : ∀ x y : Int, (Op.equalIn 9998 23 (.int .u64 x) (.int .u64 y)).run Tryz.prog W = .ok (x == y) W := fun x y => by
    rw [run_equalIn_int W 9997 23 .u64 .u64 x y Tryz.underlying23]
  rw [run_equalIn_array W 9998 _ _ Tryz.underlying24 hi, c22, r4]
  simp only [Op.eqItems, part]
  cases h1 : (a == a') <;> cases h2 : (b == b') <;> cases h3 : (c == c') <;> cases h4 : (d == d') <;> simp [he, h1, h2, h3, h4]
theorem noSet_is (q : Q4) : ((q.a : Int) == 0 && ((q.b : Int) == 0 && ((q.c : Int) == 0 && (q.d : Int) == 0))) = noSet q := by
  unfold noSet
  have h : ∀ x : Nat, ((x : Int) == 0) = decide (x = 0) := fun x => by
    by_cases hx : x = 0
    · subst hx; rfl
    · rw [decide_eq_false hx, beq_eq_false_iff_ne]; omega
  rw [h, h, h, h, Bool.and_assoc, Bool.and_assoc]

def OnceIs (a b : Int) (r : Bool) : Prop := ∀ w, Calls Tryz.prog 147 #[.int .i64 a, .int .i64 b] w fun e w' => e = .returned (.bool r) ∧ w' = w
theorem once_any (a b : Int) (r : Bool) (hr : r = (decide (a = 1) && decide (b = 1))) : OnceIs a b r := by
  intro w
  have HR : Hid (r = (decide (a = 1) && decide (b = 1))) := hr
  clear hr
  by_cases h1 : a = 1 <;> by_cases h2 : b = 1
  all_goals
    go_enter Tryz.func147, Tryz.ntmps147
    go_wp2
    go_ret
    refine ⟨?_, rfl⟩
    rw [HR.out]
    simp [*]

def TimesIs (a b : Int) (r : Bool) : Prop := ∀ w, Calls Tryz.prog 131 #[.int .i64 a, .int .i64 b] w fun e w' => e = .returned (.bool r) ∧ w' = w
theorem times_any (a b : Int) (r : Bool) (hr : r = timesOk a b) : TimesIs a b r := by
  intro w
  have HR : Hid (r = timesOk a b) := hr
  have ho := once_any a b _ rfl
  clear hr
  by_cases h0 : a < 0
  · go_enter Tryz.func131, Tryz.ntmps131
    go_wp2_with (fail)
    go_ret
    exact ⟨by rw [HR.out]; simp [timesOk]; omega, rfl⟩
  by_cases h20 : 20 < a
  · go_enter Tryz.func131, Tryz.ntmps131
    go_wp2_with (fail)
    go_ret
    exact ⟨by rw [HR.out]; simp [timesOk]; omega, rfl⟩
  by_cases h1 : a = 1 ∧ b = 1
  · obtain ⟨rfl, rfl⟩ := h1
    go_enter Tryz.func131, Tryz.ntmps131
    go_wp2_with (go_at_call 147; refine (ho _).mono ?_; rintro e w1 ⟨rfl, rfl⟩)
    go_ret
    exact ⟨by rw [HR.out]; rfl, rfl⟩
  · have ho2 : OnceIs a b false := by
      have e : (decide (a = 1) && decide (b = 1)) = false := by simp; omega
      rw [e] at ho; exact ho
    have HO : Hid (timesOk a b = (decide (b = -1) || (decide (a ≤ b) && decide (b ≤ 20)))) := by
      show _ = _
      unfold timesOk
      have e : (decide (a = 1) && decide (b = 1)) = false := by simp; omega
      rw [e, decide_eq_true (by omega : 0 ≤ a), decide_eq_true (by omega : a ≤ 20)]
      simp
    clear ho h1
    by_cases h2 : b = -1
    · subst h2
      go_enter Tryz.func131, Tryz.ntmps131
      go_wp2_with (go_at_call 147; refine (ho2 _).mono ?_; rintro e w1 ⟨rfl, rfl⟩)
      go_ret
      exact ⟨by rw [HR.out, HO.out]; rfl, rfl⟩
    · by_cases h3 : a ≤ b
      · by_cases h4 : b ≤ 20
        · go_enter Tryz.func131, Tryz.ntmps131
          go_wp2_with (go_at_call 147; refine (ho2 _).mono ?_; rintro e w1 ⟨rfl, rfl⟩)
          go_ret
          exact ⟨by rw [HR.out, HO.out]; simp [*], rfl⟩
        · go_enter Tryz.func131, Tryz.ntmps131
          go_wp2_with (go_at_call 147; refine (ho2 _).mono ?_; rintro e w1 ⟨rfl, rfl⟩)
          go_ret
          exact ⟨by rw [HR.out, HO.out]; simp [*], rfl⟩
      · go_enter Tryz.func131, Tryz.ntmps131
        go_wp2_with (go_at_call 147; refine (ho2 _).mono ?_; rintro e w1 ⟨rfl, rfl⟩)
        go_ret
        exact ⟨by rw [HR.out, HO.out, decide_eq_false (by omega : ¬ a ≤ b), decide_eq_false h2]; simp [h2], rfl⟩

theorem any_take_le (k : Int) (l : List Tr) (i : Nat) (h : l.length ≤ i) : anyKind k (l.take i) = anyKind k l := by rw [List.take_of_length_le h]

/-- a list of kids -/
def KidsIs (w : World) (P : Nat → Prop) (l : List Tr) (v : Value) : Prop := Is w P (.node 0 none4 0 0 l) v
theorem Is.toKids {w : World} {P : Nat → Prop} {t : Tr} {v : Value} (h : Is w P t v) : KidsIs w P t.kids v := by
  cases h with
  | leaf k q mn mx a cap => exact .leaf _ _ _ _ a cap
  | node k q mn mx l b off cap vs hl hc hb hP cells kids => exact .node _ _ _ _ l b off cap vs hl hc hb hP cells kids
theorem KidsIs.toTree {w : World} {P : Nat → Prop} {l : List Tr} {v : Value} (h : KidsIs w P l v) (k : Int) (q : Q4) (mn mx : Int) : Is w P (.node k q mn mx l) v := by
  unfold KidsIs at h
  cases h with
  | leaf _ _ _ _ a cap => exact .leaf _ _ _ _ a cap
  | node _ _ _ _ l b off cap vs hl hc hb hP cells kids => exact .node _ _ _ _ l b off cap vs hl hc hb hP cells kids

def HasTIs (l : List Tr) (k : Int) (r : Bool) : Prop := ∀ v w P, KidsIs w P l v → Calls Tryz.prog 130 #[v, .int .i64 k] w fun e w' => e = .returned (.bool r) ∧ Below w.heap.size w w'
set_option maxHeartbeats 1000000 in
set_option maxRecDepth 100000 in
theorem hasT_any (l : List Tr) (k : Int) (r : Bool) (hr : r = anyKind k l) : HasTIs l k r := by
  intro v w P hi
  have HR : Hid (r = anyKind k l) := hr
  obtain ⟨o, cap, b, off, vs, rfl, hcap, hk⟩ := hi.form
  simp only [Tr.kids] at hcap hk ⊢
  have hll : l.length ≤ 9223372036854775807 := by
    by_cases h0 : 0 < l.length
    · have := (hk 0 h0).2.1; omega
    · omega
  clear hr hi
  go_enter Tryz.func130, Tryz.ntmps130
  go_wp2
  go_loopw [9] (fun x wr => ∃ (i : Nat), x = .int .i64 i ∧ i ≤ l.length ∧ Below w.heap.size w wr ∧ Hid (anyKind k (l.take i) = false)) (fun x _ => l.length - (intOf x).toNat)
  case atStart => exact ⟨0, rfl, by omega, Below.refl _ _, rfl⟩
  case round =>
    obtain ⟨i, rfl, hil, hB, HI⟩ := hrel
    by_cases hend : i < l.length
    · obtain ⟨rfl, hcm, hb, hne, hcells, hkid⟩ := hk i hend
      have hcells2 := hcells.same (hB.block b hb)
      obtain ⟨o2, n2, cap2, hv2⟩ := hkid.shape
      rw [hv2] at hcells2
      obtain ⟨k0, k1, k2, k3, k4, k5, k6, k7⟩ := hcells2
      clear hcells hkid hk hv2
      by_cases hyes : (nthT l i).kind = k
      · have HF : Hid (r = true) := HR.out.trans (any_true k l i hend hyes)
        generalize nthT l i = x at *
        go_wp2
        go_ret
        exact ⟨by rw [HF.out]; rfl, hB.alloc hB.size _⟩
      · have HJ : Hid (anyKind k (l.take (i + 1)) = false) := by
          show _ = _
          rw [any_take k l i hend, HI.out, decide_eq_false hyes]; rfl
        generalize nthT l i = x at *
        go_wp2
        go_roundw
        case rel => exact ⟨i + 1, by go_num, by omega, hB.alloc hB.size _, HJ⟩
        case measure => simp [intOf]; omega
    · have HF : Hid (r = false) := by
        show _ = _
        rw [HR.out, ← HI.out, any_take_le k l i (by omega)]
      go_wp2
      go_ret
      exact ⟨by rw [HF.out]; rfl, hB⟩

def okB (k : Int) (ns : Bool) (mn mx : Int) (n : Nat) (h2 h3 tm : Bool) : Bool :=
  if k = 1 then decide (mn = 0) && decide (mx = 0) && decide (n = 0)
  else if k = 2 then ns && decide (mn = 0) && decide (mx = 0) && !decide (n = 1) && !h2
  else if k = 3 then ns && decide (mn = 0) && decide (mx = 0) && decide (2 ≤ n) && !h3
  else if k = 4 then ns && tm && decide (n = 1)
  else false
theorem okB_is (t : Tr) : okNode t = okB t.kind (noSet t.set) t.min t.max t.kids.length (anyKind 2 t.kids) (anyKind 3 t.kids) (timesOk t.min t.max) := rfl

def NodeIs (f : Nat) (t : Tr) (r : Bool) : Prop := ∀ v w P, Is w P t v → Calls Tryz.prog f #[.agg #[.int .i64 t.kind, .int .u64 t.set.a, .int .u64 t.set.b, .int .u64 t.set.c, .int .u64 t.set.d, .int .i64 t.min, .int .i64 t.max, v]] w fun e w' => e = .returned (.bool r) ∧ Below w.heap.size w w'

end Go.Proofs.YthmecbonjkcnmaaGreat.st

namespace Go.Proofs.YthmecbonjkcnmaaGreat.st
open Go.ChangeShapes Go.WideShapes Go.ChangeAt Go.RowKit
set_option linter.unusedVariables false

theorem heq_of (q : Q4) (W : World) : (Op.equalIn 9999 24 (.agg #[.int .u64 q.a, .int .u64 q.b, .int .u64 q.c, .int .u64 q.d]) (.agg #[.int .u64 0, .int .u64 0, .int .u64 0, .int .u64 0])).run Tryz.prog W = .ok (noSet q) W := by rw [eq24, noSet_is]
theorem beq0 (n : Nat) : ((n : Int) == 0) = decide (n = 0) := by
  by_cases h : n = 0
  · subst h; rfl
  · rw [decide_eq_false h, beq_eq_false_iff_ne]; omega
theorem beq1 (n : Nat) : ((n : Int) == 1) = decide (n = 1) := by
  by_cases h : n = 1
  · subst h; rfl
  · rw [decide_eq_false h, beq_eq_false_iff_ne]; omega
theorem leq2 (n : Nat) : decide (2 ≤ (n : Int)) = decide (2 ≤ n) := by
  by_cases h : 2 ≤ n
  · rw [decide_eq_true h, decide_eq_true (by omega)]
  · rw [decide_eq_false h, decide_eq_false (by omega)]
def EqS (q : Q4) (ns : Bool) : Prop := ∀ W, (Op.equalIn 9999 24 (.agg #[.int .u64 q.a, .int .u64 q.b, .int .u64 q.c, .int .u64 q.d]) (.agg #[.int .u64 0, .int .u64 0, .int .u64 0, .int .u64 0])).run Tryz.prog W = .ok ns W
def HasAt (w : World) (v : Value) (k : Int) (r : Bool) : Prop := ∀ o, Calls Tryz.prog 130 #[v, .int .i64 k] (w.alloc o) fun e w' => e = .returned (.bool r) ∧ Below w.heap.size w w'
theorem beqf {a b : Int} (h : ¬ a = b) : (a == b) = false := by rw [beq_eq_false_iff_ne]; exact h
def NodeAt (w : World) (k : Int) (q : Q4) (mn mx : Int) (o : Option Addr) (n cap : Nat) (r : Bool) : Prop :=
  Calls Tryz.prog 109 #[.agg #[.int .i64 k, .int .u64 q.a, .int .u64 q.b, .int .u64 q.c, .int .u64 q.d, .int .i64 mn, .int .i64 mx, .slice o n cap]] w fun e w' => e = .returned (.bool r) ∧ Below w.heap.size w w'
end Go.Proofs.YthmecbonjkcnmaaGreat.st

namespace Go.Proofs.YthmecbonjkcnmaaGreat.st
open Go.ChangeShapes Go.WideShapes Go.ChangeAt Go.RowKit
set_option linter.unusedVariables false

set_option maxHeartbeats 2000000 in
set_option maxRecDepth 100000 in
theorem node1 (w : World) (q : Q4) (mn mx : Int) (o : Option Addr) (n cap : Nat) (ns r : Bool) (hn : n ≤ 9223372036854775807) (heq : EqS q ns) (hr : r = (decide (mn = 0) && decide (mx = 0) && decide (n = 0))) : NodeAt w 1 q mn mx o n cap r := by
  have HR : Hid (r = (decide (mn = 0) && decide (mx = 0) && decide (n = 0))) := hr
  unfold EqS at heq
  unfold NodeAt
  clear hr
  by_cases hmn : mn = 0
  · subst hmn
    by_cases hmx : mx = 0
    · subst hmx
      cases ns
      all_goals
        go_enter Tryz.func109, Tryz.ntmps109
        go_wp2_with (fail)
        go_ret
        exact ⟨by rw [HR.out, ← beq0]; rfl, below_alloc _ _⟩
    · have hmx2 := beqf hmx
      have HX : Hid (r = false) := by show _ = _; rw [HR.out]; simp [hmx]
      clear hmx
      cases ns
      all_goals
        go_enter Tryz.func109, Tryz.ntmps109
        go_wp2_with (fail)
        go_ret
        exact ⟨by rw [HX.out]; rfl, below_alloc _ _⟩
  · have hmn2 := beqf hmn
    have HX : Hid (r = false) := by show _ = _; rw [HR.out]; simp [hmn]
    clear hmn
    cases ns
    all_goals
      go_enter Tryz.func109, Tryz.ntmps109
      go_wp2_with (fail)
      go_ret
      exact ⟨by rw [HX.out]; rfl, below_alloc _ _⟩

set_option maxHeartbeats 2000000 in
set_option maxRecDepth 100000 in
theorem node5 (w : World) (k : Int) (q : Q4) (mn mx : Int) (o : Option Addr) (n cap : Nat) (ns : Bool) (heq : EqS q ns) (k1 : (k == 1) = false) (k2 : (k == 2) = false) (k3 : (k == 3) = false) (k4 : (k == 4) = false) : NodeAt w k q mn mx o n cap false := by
  unfold EqS at heq
  unfold NodeAt
  have h3 : (mn == 0) = false ∨ (mn = 0 ∧ mx = 0) ∨ (mn = 0 ∧ (mx == 0) = false) := by
    by_cases h : mn = 0
    · by_cases h' : mx = 0
      · exact .inr (.inl ⟨h, h'⟩)
      · exact .inr (.inr ⟨h, beqf h'⟩)
    · exact .inl (beqf h)
  cases ns
  all_goals rcases h3 with h3 | ⟨rfl, rfl⟩ | ⟨rfl, h3⟩
  all_goals
    go_enter Tryz.func109, Tryz.ntmps109
    go_wp2_with (fail)
    go_ret
    exact ⟨rfl, below_alloc _ _⟩
end Go.Proofs.YthmecbonjkcnmaaGreat.st

namespace Go.Proofs.YthmecbonjkcnmaaGreat.st
open Go.ChangeShapes Go.WideShapes Go.ChangeAt Go.RowKit
set_option linter.unusedVariables false

set_option maxHeartbeats 2000000 in
set_option maxRecDepth 100000 in
theorem node2 (w : World) (q : Q4) (mn mx : Int) (o : Option Addr) (n cap : Nat) (ns bk r : Bool) (hn : n ≤ 9223372036854775807) (heq : EqS q ns) (hh : HasAt w (.slice o n cap) 2 bk) (hr : r = (ns && decide (mn = 0) && decide (mx = 0) && !decide (n = 1) && !bk)) : NodeAt w 2 q mn mx o n cap r := by
  have HR : Hid (r = (ns && decide (mn = 0) && decide (mx = 0) && !decide (n = 1) && !bk)) := hr
  unfold EqS at heq
  unfold NodeAt
  unfold HasAt at hh
  clear hr
  by_cases hmn : mn = 0
  · subst hmn
    by_cases hmx : mx = 0
    · subst hmx
      cases ns
      · have HX : Hid (r = false) := by show _ = _; rw [HR.out]; rfl
        go_enter Tryz.func109, Tryz.ntmps109
        go_wp2_with (fail)
        go_ret
        exact ⟨by rw [HX.out]; rfl, below_alloc _ _⟩
      · by_cases hc : ¬ n = 1
        · have HX : Hid (r = !bk) := by show _ = _; rw [HR.out]; simp [hc]
          have hc2 : ((n : Int) != 1) = true := by rw [bne_iff_ne]; omega
          clear hc
          go_enter Tryz.func109, Tryz.ntmps109
          go_wp2_with (go_at_call 130; refine (hh _).mono ?_; rintro e w1 ⟨rfl, b1⟩)
          go_ret
          exact ⟨by rw [HX.out]; rfl, b1⟩
        · have HX : Hid (r = false) := by show _ = _; rw [HR.out]; simp [hc]
          have hc2 : n = 1 := by omega
          subst hc2
          clear hc
          go_enter Tryz.func109, Tryz.ntmps109
          go_wp2_with (fail)
          go_ret
          exact ⟨by rw [HX.out]; rfl, below_alloc _ _⟩
    · have hmx2 := beqf hmx
      have HX : Hid (r = false) := by show _ = _; rw [HR.out]; simp [hmx]
      clear hmx
      cases ns
      all_goals
        go_enter Tryz.func109, Tryz.ntmps109
        go_wp2_with (fail)
        go_ret
        exact ⟨by rw [HX.out]; rfl, below_alloc _ _⟩
  · have hmn2 := beqf hmn
    have HX : Hid (r = false) := by show _ = _; rw [HR.out]; simp [hmn]
    clear hmn
    cases ns
    all_goals
      go_enter Tryz.func109, Tryz.ntmps109
      go_wp2_with (fail)
      go_ret
      exact ⟨by rw [HX.out]; rfl, below_alloc _ _⟩
end Go.Proofs.YthmecbonjkcnmaaGreat.st

namespace Go.Proofs.YthmecbonjkcnmaaGreat.st
open Go.ChangeShapes Go.WideShapes Go.ChangeAt Go.RowKit
set_option linter.unusedVariables false

set_option maxHeartbeats 2000000 in
set_option maxRecDepth 100000 in
theorem node3 (w : World) (q : Q4) (mn mx : Int) (o : Option Addr) (n cap : Nat) (ns bk r : Bool) (hn : n ≤ 9223372036854775807) (heq : EqS q ns) (hh : HasAt w (.slice o n cap) 3 bk) (hr : r = (ns && decide (mn = 0) && decide (mx = 0) && decide (2 ≤ n) && !bk)) : NodeAt w 3 q mn mx o n cap r := by
  have HR : Hid (r = (ns && decide (mn = 0) && decide (mx = 0) && decide (2 ≤ n) && !bk)) := hr
  unfold EqS at heq
  unfold NodeAt
  unfold HasAt at hh
  clear hr
  by_cases hmn : mn = 0
  · subst hmn
    by_cases hmx : mx = 0
    · subst hmx
      cases ns
      · have HX : Hid (r = false) := by show _ = _; rw [HR.out]; rfl
        go_enter Tryz.func109, Tryz.ntmps109
        go_wp2_with (fail)
        go_ret
        exact ⟨by rw [HX.out]; rfl, below_alloc _ _⟩
      · by_cases hc : 2 ≤ n
        · have HX : Hid (r = !bk) := by show _ = _; rw [HR.out]; simp [hc]
          skip
          go_enter Tryz.func109, Tryz.ntmps109
          go_wp2_with (go_at_call 130; refine (hh _).mono ?_; rintro e w1 ⟨rfl, b1⟩)
          go_ret
          exact ⟨by rw [HX.out]; rfl, b1⟩
        · have HX : Hid (r = false) := by show _ = _; rw [HR.out]; simp [hc]
          skip
          go_enter Tryz.func109, Tryz.ntmps109
          go_wp2_with (fail)
          go_ret
          exact ⟨by rw [HX.out]; rfl, below_alloc _ _⟩
    · have hmx2 := beqf hmx
      have HX : Hid (r = false) := by show _ = _; rw [HR.out]; simp [hmx]
      clear hmx
      cases ns
      all_goals
        go_enter Tryz.func109, Tryz.ntmps109
        go_wp2_with (fail)
        go_ret
        exact ⟨by rw [HX.out]; rfl, below_alloc _ _⟩
  · have hmn2 := beqf hmn
    have HX : Hid (r = false) := by show _ = _; rw [HR.out]; simp [hmn]
    clear hmn
    cases ns
    all_goals
      go_enter Tryz.func109, Tryz.ntmps109
      go_wp2_with (fail)
      go_ret
      exact ⟨by rw [HX.out]; rfl, below_alloc _ _⟩
end Go.Proofs.YthmecbonjkcnmaaGreat.st
