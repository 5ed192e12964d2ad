/-
  Contracts over this program: a list of sets without its repeats (set.different).
-/
import Derived.Test.YtfpihoghpogblaaRCls
import Derived.Maps.OwnSet
import Derived.Maps.AppendAt
import Derived.DeepKeys4
import Derived.MapViews
namespace Go.Proofs.Ytfpihoghpogblaa.st
open Go.Sort Go.ChangeShapes Go.WideShapes Go.ChangeAt Go.RowKit Go.Maps
set_option linter.unusedVariables false

theorem laidOut : laidOutB Try.prog = true := by kernel_rfl
theorem wide23 : (match Try.prog.underlying 23 with | some (.array _ _) | some (.struct _) => true | _ => false) = true := by rw [Try.underlying23]
theorem law23 : Keyed Try.prog 23 := Keyed.of_law (deep_law_laid laidOut (m := 2) (by omega) (of_decide_eq_true (by kernel_rfl)) (by kernel_rfl) wide23)

def V4 (q : Q4) : Value := .agg #[.int .u64 q.a, .int .u64 q.b, .int .u64 q.c, .int .u64 q.d]
def kl (q : Q4) : Lit := (DataW.agg (H := Unit) [.lit (.int .u64 q.a), .lit (.int .u64 q.b), .lit (.int .u64 q.c), .lit (.int .u64 q.d)]).asKey

theorem wf_u64 (n : Nat) (h : n < 18446744073709551616) : (Lit.int .u64 (n : Int)).wf = true := by
  have e1 : IntKind.u64.min = 0 := by decide
  have e2 : IntKind.u64.max = 18446744073709551615 := by decide
  simp [Lit.wf, e1, e2]
  omega
theorem key23 (q : Q4) (hq : Fits q) : keyOf Try.prog 23 (.agg #[.int .u64 q.a, .int .u64 q.b, .int .u64 q.c, .int .u64 q.d]) = some (kl q) := by
  have hf : (V4 q).formed Try.prog 23 = true := by
    have : Try.prog.cellsOf 23 = 4 := by kernel_rfl
    simp [V4, Value.formed, Try.underlying23, this]
  have hd : DataW.Trod (H := Unit) (fun _ => ()) Try.prog (default : World) 0 (fun _ => true) true 23 (V4 q) (.agg [.lit (.int .u64 q.a), .lit (.int .u64 q.b), .lit (.int .u64 q.c), .lit (.int .u64 q.d)]) [] := by
    refine ⟨2, ?_⟩
    have c23 : Try.prog.cellsOf 23 = 4 := by kernel_rfl
    have c22 : Try.prog.cellsOf 22 = 1 := by kernel_rfl
    have r4 : List.range 4 = [0, 1, 2, 3] := rfl
    simp [V4, Value.cells, DataW.trod, Try.underlying23, Try.underlying22, c23, c22, r4, wf_u64 q.a hq.a, wf_u64 q.b hq.b, wf_u64 q.c hq.c, wf_u64 q.d hq.d]
  obtain ⟨h, _⟩ := keyOf_asKey (by kernel_rfl) wide23 hf hd
  exact h
theorem kl_inj {q r : Q4} (hq : Fits q) (hr : Fits r) (h : kl q = kl r) : q = r := by
  have h1 := key23 q hq
  have h2 := key23 r hr
  rw [h] at h1
  have := law23.inj h1 h2
  cases q; cases r
  simp at this
  simp only [Q4.mk.injEq]
  omega

/-- the set of what was seen -/
def seen (acc : List Q4) : DataW Unit := setOf (.agg []) (acc.map kl)
theorem seen_key {acc : List Q4} (hf : ∀ q ∈ acc, Fits q) : ∀ x ∈ acc.map kl, WideAt.IsKeyLit x := by
  intro x hx
  obtain ⟨q, hq, rfl⟩ := List.mem_map.1 hx
  exact law23.key (key23 q (hf q hq))
theorem has_seen {acc : List Q4} (hf : ∀ q ∈ acc, Fits q) {q : Q4} (hq : Fits q) : Maps.has (seen acc) (kl q) = decide (q ∈ acc) := by
  unfold seen
  rw [has_setOf _ _ _ (seen_key hf), Bool.eq_iff_iff, List.any_eq_true, decide_eq_true_iff]
  constructor
  · rintro ⟨x, hx, hs⟩
    obtain ⟨r, hr, rfl⟩ := List.mem_map.1 hx
    have := kl_inj (hf r hr) hq (WideAt.sameKey_eq hs)
    rw [← this]
    exact hr
  · intro h
    exact ⟨kl q, List.mem_map.2 ⟨q, h, rfl⟩, WideAt.sameKey_self (law23.key (key23 q hq))⟩
theorem seen_more (acc : List Q4) (q : Q4) : seen (acc ++ [q]) = (seen acc).put (kl q) (.agg []) := by
  unfold seen
  rw [List.map_append, List.map_cons, List.map_nil, setOf_snoc]

/-! ### lists of sets that the call makes -/
def cells4 : List Q4 → List Value
  | [] => []
  | q :: l => .int .u64 q.a :: .int .u64 q.b :: .int .u64 q.c :: .int .u64 q.d :: cells4 l
theorem cells4_append (a b : List Q4) : cells4 (a ++ b) = cells4 a ++ cells4 b := by
  induction a with
  | nil => rfl
  | cons x a ih => rw [List.cons_append, cells4, cells4, ih]; rfl
theorem nth_cons (x : Q4) (l : List Q4) (i : Nat) : nth (x :: l) (i + 1) = nth l i := by simp [nth]
theorem cells4_at (l : List Q4) (i : Nat) (h : i < l.length) : (cells4 l)[i * 4]? = some (.int .u64 (nth l i).a) ∧ (cells4 l)[i * 4 + 1]? = some (.int .u64 (nth l i).b) ∧ (cells4 l)[i * 4 + 2]? = some (.int .u64 (nth l i).c) ∧ (cells4 l)[i * 4 + 3]? = some (.int .u64 (nth l i).d) := by
  induction l generalizing i with
  | nil => simp at h
  | cons x l ih =>
    cases i with
    | zero => exact ⟨rfl, rfl, rfl, rfl⟩
    | succ i =>
      have h2 := ih i (by simpa using h)
      have e : (i + 1) * 4 = i * 4 + 1 + 1 + 1 + 1 := by omega
      rw [e, cells4, nth_cons]
      exact h2
def OwnSets (B : Nat) (w : World) (v : Value) (l : List Q4) : Prop := w.ownsRow B 25 4 v l.length (cells4 l)
theorem OwnSets.sets {B : Nat} {w : World} {v : Value} {l : List Q4} (h : OwnSets B w v l) : Sets w v l := by
  rcases h.2 with ⟨rfl, h0⟩ | ⟨g, cap, cur, rfl, hb, hg, hcap, hm, hsz, htk⟩
  · exact .inl ⟨List.eq_nil_of_length_eq_zero h0, _, _, rfl⟩
  · refine .inr ⟨g, 0, cap, rfl, hcap, by unfold maxLen at hm; omega, (Array.getElem?_eq_some_iff.1 hg).1, fun i hi => ?_⟩
    have hc := World.ownsRow.cells h (g := g) rfl
    have hat := cells4_at l i hi
    have hadd : ∀ j, (⟨g, 0, none⟩ : Addr).add j = ⟨g, 0 + j, none⟩ := fun j => by unfold Addr.add; split <;> simp_all
    have h1 := hc _ _ hat.1
    have h2 := hc _ _ hat.2.1
    have h3 := hc _ _ hat.2.2.1
    have h4 := hc _ _ hat.2.2.2
    rw [hadd] at h1 h2 h3 h4
    exact ⟨h1, by rw [Nat.add_assoc]; exact h2, by rw [Nat.add_assoc]; exact h3, by rw [Nat.add_assoc]; exact h4⟩
theorem info25 : (Try.prog.info? 25).map (fun i => (i.zero, i.size, i.bytes)) = some (some (.agg #[.int .u64 0, .int .u64 0, .int .u64 0, .int .u64 0]), 4, 32) := by kernel_rfl
theorem zero55 (w : World) : (zeroValue 55).run Try.prog w = .ok (.agg #[]) w := by kernel_rfl
theorem four_cells (W : World) (q : Q4) : ∀ j u, [Value.int .u64 q.a, .int .u64 q.b, .int .u64 q.c, .int .u64 q.d][j]? = some u → (W.alloc (.cells #[.int .u64 q.a, .int .u64 q.b, .int .u64 q.c, .int .u64 q.d] 25)).cell? ((⟨W.heap.size, 0, none⟩ : Addr).add j) = some u := by
  intro j u hu
  match j, hu with
  | 0, hu => simp at hu; subst hu; simp [Addr.add]
  | 1, hu => simp at hu; subst hu; simp [Addr.add]
  | 2, hu => simp at hu; subst hu; simp [Addr.add]
  | 3, hu => simp at hu; subst hu; simp [Addr.add]
  | j + 4, hu => simp at hu

theorem four_one (q : Q4) : ∀ u ∈ [Value.int .u64 q.a, .int .u64 q.b, .int .u64 q.c, .int .u64 q.d], u.oneCell' = true := by
  intro u hu
  simp at hu
  rcases hu with rfl | rfl | rfl | rfl <;> rfl
theorem OwnSets.kept {B : Nat} {w w' : World} {v : Value} {l : List Q4} (h : OwnSets B w v l) {k : Nat} (t : w.grownBy w' (some k)) (hk : k < B) : OwnSets B w' v l :=
  World.ownsRow.kept h t (.inr (fun e => by have := (World.ownsRow.lt h k e).1; omega))
theorem OwnSets.alloc {B : Nat} {w : World} {v : Value} {l : List Q4} (h : OwnSets B w v l) (o : Obj) : OwnSets B (w.alloc o) v l := World.ownsRow.alloc h o

theorem blk_kept (W : World) (q : Q4) (o : Obj) {w' : World} {k : Nat} (t : ((W.alloc (.cells #[.int .u64 q.a, .int .u64 q.b, .int .u64 q.c, .int .u64 q.d] 25)).alloc o).grownBy w' (some k)) (hk : k < W.heap.size) : Blk w' W.heap.size q := by
  unfold Blk
  rw [t.block _ (by simp; omega) (by intro e; cases e; omega)]
  exact heap_alloc2_old W _ _

def DiffIs (l m : List Q4) : Prop := ∀ v w, Sets w v l → Calls Try.prog 28 #[v] w fun e w' => ∃ u, e = .returned u ∧ Sets w' u m ∧ Below w.heap.size w w'

set_option maxHeartbeats 2000000 in
set_option maxRecDepth 100000 in
theorem diff_any (l : List Q4) (hf : ∀ q ∈ l, Fits q) (hlen : l.length ≤ 1000000) : DiffIs l (diff [] l) := by
  intro v w hv
  have hmm := @run_makeMap Try.prog
  rcases hv with ⟨rfl, a, cap, rfl⟩ | ⟨g, off, cap, rfl, hl, hm, hlt, hcell⟩
  · go_enter Try.func28, Try.ntmps28
    go_wp2
    go_loopw [3, 12] (fun u x wr => u = .slice none 0 0 ∧ x = .int .i64 0 ∧ Below w.heap.size w wr) (fun _ _ _ => 0)
    case atStart => exact ⟨rfl, rfl, (Below.refl _ _).alloc (Nat.le_refl _) _⟩
    case round =>
      obtain ⟨rfl, rfl, hB⟩ := hrel
      go_wp2
      go_ret
      exact ⟨_, rfl, .inl ⟨rfl, _, _, rfl⟩, hB⟩
  · obtain ⟨i0, hi0, hz0, hz1, hz2⟩ := info_parts info25
    go_enter Try.func28, Try.ntmps28
    go_wp2
    go_loopw [3, 12] (fun u x wr => ∃ (k : Nat) (acc : List Q4), x = .int .i64 k ∧ k ≤ l.length ∧ wr.ownsMap Try.prog 23 (unitElem (H := Unit)) w.heap.size k (seen acc) ∧ OwnSets (w.heap.size + 1) wr u acc ∧ Below w.heap.size w wr ∧ w.heap.size + 1 ≤ wr.heap.size ∧ acc.length ≤ k ∧ (∀ q ∈ acc, Fits q) ∧ Hid (acc = diff [] (l.take k))) (fun _ x _ => l.length - (intOf x).toNat)
    case atStart => exact ⟨0, [], rfl, by omega, World.ownsMap_made _ _ _ _, World.ownsRow_nil _ _ _ _, (Below.refl _ _).alloc (Nat.le_refl _) _, by simp, by simp, by simp, rfl⟩
    case round =>
      obtain ⟨k, acc, rfl, hk, hown, hrow, hB, hws, hal, hfa, HA⟩ := hrel
      by_cases hend : k < l.length
      · obtain ⟨c0, c1, c2, c3⟩ := hcell k hend
        rw [← hB.cell (p := ⟨g, off + k * 4, none⟩) hlt] at c0
        rw [← hB.cell (p := ⟨g, off + k * 4 + 1, none⟩) hlt] at c1
        rw [← hB.cell (p := ⟨g, off + k * 4 + 2, none⟩) hlt] at c2
        rw [← hB.cell (p := ⟨g, off + k * 4 + 3, none⟩) hlt] at c3
        have hfx := hf _ (nth_mem l k hend)
        have hkey := key23 _ hfx
        have hhas := has_seen hfa hfx
        have HS : Hid (diff [] (l.take (k + 1)) = if nth l k ∈ acc then acc else acc ++ [nth l k]) := by show _ = _; rw [take_nth l k hend, diff_take, ← HA.out]
        generalize nth l k = x at *
        clear hcell HA
        by_cases hx : x ∈ acc
        · rw [show decide (x ∈ acc) = true from by simp [hx]] at hhas
          have HS2 : Hid (acc = diff [] (l.take (k + 1))) := by show _ = _; rw [HS.out, if_pos hx]
          clear HS hx
          go_wp2_with (first | (at_lookup; refine wpList_lookup_own_unit _ rfl _ _ 54 rfl 23 55 law23 Try.underlying54 (zero55 _) w.heap.size k _ rfl (hown.alloc _) _ _ rfl hkey ?_; rw [hhas]))
          go_roundw
          case rel => exact ⟨k + 1, acc, by go_num, by omega, ((hown.alloc _).alloc _).mono (Nat.le_succ _), World.ownsRow.alloc (World.ownsRow.alloc hrow _) _, (hB.alloc hB.size _).alloc (by simp; omega) _, by simp; omega, by omega, hfa, HS2⟩
          case measure => simp [intOf]; omega
        · rw [show decide (x ∈ acc) = false from by simp [hx]] at hhas
          have HS2 : Hid (acc ++ [x] = diff [] (l.take (k + 1))) := by show _ = _; rw [HS.out, if_neg hx]
          have hfa2 : ∀ q ∈ acc ++ [x], Fits q := by
            intro q hq
            rcases List.mem_append.1 hq with hq | hq
            · exact hfa q hq
            · rw [List.mem_singleton.1 hq]; exact hfx
          clear HS hx
          go_wp2_with (first | (at_lookup; refine wpList_lookup_own_unit _ rfl _ _ 54 rfl 23 55 law23 Try.underlying54 (zero55 _) w.heap.size k _ rfl (hown.alloc _) _ _ rfl hkey ?_; rw [hhas]) | (at_mapUpdate; refine wpList_mapUpdate_own _ rfl _ _ _ 54 rfl 23 55 law23 Try.underlying54 (unitElem (H := Unit)) w.heap.size k _ rfl ((hown.alloc _).alloc _) (by unfold maxLen; omega) _ _ _ rfl rfl hkey _ [] unitElem_mk ?_; intro w1 hown1 hgrow1; have hrow1 := ((hrow.alloc _).alloc _).kept hgrow1 (Nat.lt_succ_self _); have kb := blk_kept wr x _ hgrow1 (by omega); have q0 := kb.c0; have q1 := kb.c1; have q2 := kb.c2; have q3 := kb.c3) | (at_builtin; refine wpList_append_own _ rfl _ _ 35 rfl (w.heap.size + 1) 25 i0 _ 4 32 Try.underlying35 hi0 hz0 hz1 hz2 rfl (by decide) _ acc.length (cells4 acc) rfl (hrow1.alloc _) ⟨w1.heap.size, 0, none⟩ 1 1 [.int .u64 x.a, .int .u64 x.b, .int .u64 x.c, .int .u64 x.d] rfl rfl (four_cells w1 x) (four_one x) (by unfold maxLen; omega) (by omega) (by have := hgrow1.size; simp at this ⊢; omega) ?_; intro v' w2 hown' hgrow2 hnil2))
          have s1 := hgrow1.size
          have s2 := hgrow2.size
          simp at s1 s2
          have hrl : ∀ j, Value.ownBlock u3 = some j → w.heap.size + 1 ≤ j := fun j hj => (World.ownsRow.lt hrow j hj).1
          refine ⟨⟨k + 1, acc ++ [x], by go_num, by omega, ?_, ?_, ?_, by omega, by simp; omega, hfa2, HS2⟩, by simp [intOf]; omega⟩
          · rw [seen_more]
            exact (hown1.alloc _).kept hgrow2 (fun e => by have := hrl _ e.symm; omega)
          · unfold OwnSets
            rw [cells4_append, List.length_append]
            exact hown'
          · exact ((((hB.alloc hB.size _).alloc (by simp; omega) _).grown hgrow1 (by simp; omega) (fun j hj => by cases hj; exact Nat.le_refl _)).alloc (by omega) _).grown hgrow2 (by simp; omega) (fun j hj => Nat.le_trans (Nat.le_succ _) (hrl j hj))
      · have he : k = l.length := by omega
        have HE : Hid (acc = diff [] l) := by show _ = _; rw [HA.out, he, List.take_length]
        clear HA hcell
        go_wp2
        go_ret
        exact ⟨_, rfl, by rw [← HE.out]; exact hrow.sets, hB⟩
end Go.Proofs.Ytfpihoghpogblaa.st
