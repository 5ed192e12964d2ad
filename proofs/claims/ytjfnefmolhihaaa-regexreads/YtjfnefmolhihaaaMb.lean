/-
  Contracts over this program: kids that are given up for theirs, and an atom as the document's reader reads it, way by way.
-/
import Derived.Test.YtjfnefmolhihaaaMa
import Derived.Test.YtjfnefmolhihaaaQa
import Derived.Test.YtjfnefmolhihaaaRq
import Derived.Test.YtjfnefmolhihaaaQj
namespace Go.Proofs.Ytjfnefmolhihaaa.st
open Go.Sort Go.ChangeShapes Go.WideShapes Go.ChangeAt Go.RowKit
set_option linter.unusedVariables false

/-- kids, those of a kind being given up for theirs -/
def flat (k : Int) (ts : List Tr) : List Tr := ts.foldl (fun ks t => laid ks t k) []
theorem flat_snoc (k : Int) (ts : List Tr) (t : Tr) : flat k (ts ++ [t]) = laid (flat k ts) t k := by unfold flat; rw [List.foldl_append]; rfl
theorem take_snoc (ts : List Tr) (i : Nat) (h : i < ts.length) : ts.take (i + 1) = ts.take i ++ [nthT ts i] := by
  rw [nthT_lt ts i h, List.take_add_one, List.getElem?_eq_getElem h]
  rfl
theorem flat_take (k : Int) (ts : List Tr) (i : Nat) (h : i < ts.length) : flat k (ts.take (i + 1)) = laid (flat k (ts.take i)) (nthT ts i) k := by rw [take_snoc ts i h, flat_snoc]
theorem flat_nodes (k : Int) (ts : List Tr) (i : Nat) (hi : i ≤ ts.length) : nodesOf (flat k (ts.take i)) ≤ nodesOf (ts.take i) := by
  induction i with
  | zero => simp [flat]
  | succ i ih =>
    rw [flat_take k ts i hi, nodesOf_take ts i hi]
    have := laid_nodes (flat k (ts.take i)) (nthT ts i) k
    have := ih (by omega)
    omega

/-- one more, of which a row of one was laid -/
theorem wpList_one {ops : Array Oper} {rest : List Oper} {o : Oper} {a : Act} {Q : Exit → Act → World → Prop} (w : World) (hgd : o.guard = none) (s x : Operand) (ho : o.op = .call { callee := .builtin .append, args := #[s, x], argTypes := #[26, 26] })
    (B : Nat) (v : Value) (l : List (Tr × Value)) (t : Tr) (ta : Option Addr) (tn tc : Nat) (g0 : Nat) (hg0 : g0 = w.heap.size) (hs : a.eval s = v) (hx : a.eval x = .slice (some ⟨g0, 0, none⟩) 1 1) (hown : OwnK B w v l) (ht : Is w (fun b => B ≤ b ∧ v.ownBlock ≠ some b) t (.slice ta tn tc)) (hlen : l.length + 1 ≤ 1000000) (hB : B ≤ w.heap.size)
    (h : ∀ v' w', OwnK B w' v' (l ++ [(t, .slice ta tn tc)]) → w.grownBy w' v.ownBlock → (v'.ownBlock = v.ownBlock ∨ ∃ k, v'.ownBlock = some k ∧ w.heap.size ≤ k) → wpList Try.prog ops Q rest (a.put o.dst v') w') :
    wpList Try.prog ops Q (o :: rest) a (w.alloc (.cells #[.int .i64 t.kind, .int .u64 t.set.a, .int .u64 t.set.b, .int .u64 t.set.c, .int .u64 t.set.d, .int .i64 t.min, .int .i64 t.max, .slice ta tn tc] 28)) := by
  subst hg0
  have h1 : ∀ u ∈ cellsL [(t, (.slice ta tn tc : Value))], u.oneCell' = true := ones_cell (m := [(t, .slice ta tn tc)]) (by intro x hx; simp at hx; subst hx; exact ht)
  have hb : Box (w.alloc (.cells #[.int .i64 t.kind, .int .u64 t.set.a, .int .u64 t.set.b, .int .u64 t.set.c, .int .u64 t.set.d, .int .i64 t.min, .int .i64 t.max, .slice ta tn tc] 28)) w.heap.size t (.slice ta tn tc) := box_new w t _
  generalize hW : w.alloc (.cells #[.int .i64 t.kind, .int .u64 t.set.a, .int .u64 t.set.b, .int .u64 t.set.c, .int .u64 t.set.d, .int .i64 t.min, .int .i64 t.max, .slice ta tn tc] 28) = W at *
  have bl : RowKit.Below w.heap.size w W := by rw [← hW]; exact below_alloc _ _
  have hsz : w.heap.size ≤ W.heap.size := bl.size
  have hc : ∀ j u, (cellsL [(t, (.slice ta tn tc : Value))])[j]? = some u → W.cell? ((⟨w.heap.size, 0, none⟩ : Addr).add j) = some u := fun j u hu => by
    have hadd : ∀ j, (⟨w.heap.size, 0, none⟩ : Addr).add j = ⟨w.heap.size, j, none⟩ := fun j => by unfold Addr.add; split <;> simp_all
    rw [hadd, Lib.cell_of_heap hb]
    simpa [cellsL, cells8] using hu
  refine wpList_plain hgd fun K hK => ?_
  obtain ⟨v', w', hr, h2, h3, h4⟩ := append_kids W o.type B v l.length (cellsL l) (hown.below bl).row ⟨w.heap.size, 0, none⟩ 1 1 (cellsL [(t, .slice ta tn tc)]) (cellsL_length _) hc h1 hlen (by omega)
  unfold Oper.wp execOp
  simp only [ho, resolve, invoke, builtin, Sem.run_bind, Sem.run_pure, Result.andThen_ok, List.map_toArray, List.map_cons, List.map_nil, hs, hx, hr]
  refine hK _ _ (h v' w' (own_more (hown.below bl) (fun x hx => by simp at hx; subst hx; exact ht.later bl) h2 h3 h4) ?_ ?_)
  · exact ⟨h3.os.trans bl.os, h3.tape.trans bl.tape, h3.output.trans bl.output, Nat.le_trans bl.size h3.size, fun k hk hne => (h3.block k (by omega) hne).trans (bl.block k hk)⟩
  · rcases h4 with h4 | ⟨k, h4, h5⟩
    · exact .inl h4
    · exact .inr ⟨k, h4, by omega⟩
theorem own_empty (B : Nat) (w : World) (hB : B ≤ w.heap.size) : OwnK B (w.alloc (.cells #[] 28)) (.slice (some ⟨w.heap.size, 0, none⟩) 0 0) [] := by
  refine ⟨⟨rfl, Or.inr ⟨w.heap.size, 0, #[], rfl, hB, heap_alloc_new w _, Nat.le_refl _, by decide, rfl, rfl⟩⟩, by simp⟩

abbrev treeV (t : Tr) (v : Value) : Value := .agg #[.int .i64 t.kind, .int .u64 t.set.a, .int .u64 t.set.b, .int .u64 t.set.c, .int .u64 t.set.d, .int .i64 t.min, .int .i64 t.max, v]
def TakenIs (B : Nat) (ts : List Tr) (k : Int) (t : Tr) : Prop := ∀ v w, Is w (fun b => B ≤ b) (.node 0 none4 0 0 ts) v → B ≤ w.heap.size → Calls Try.prog 25 #[.int .i64 k, v] w fun e w' => ∃ tv, e = .returned (treeV t tv) ∧ Is w' (fun b => B ≤ b) t tv ∧ RowKit.Below w.heap.size w w'

end Go.Proofs.Ytjfnefmolhihaaa.st

namespace Go.Proofs.Ytjfnefmolhihaaa.st
open Go.Sort Go.ChangeShapes Go.WideShapes Go.ChangeAt Go.RowKit
set_option linter.unusedVariables false

theorem own_first {B : Nat} {w : World} {v : Value} {x : Tr × Value} (hown : OwnK B w v [x]) : ∃ g cap, v = .slice (some ⟨g, 0, none⟩) 1 cap ∧ 1 ≤ cap ∧ g < w.heap.size ∧ Cells w g 0 x.1 x.2 := by
  rcases hown.row.2 with ⟨r1, r2⟩ | ⟨g', cap', cur, r1, r2, r3, r4, _⟩
  · simp at r2
  · have hcl := World.ownsRow.cells hown.row (g := g') (by rw [r1]; rfl)
    have hat : ∀ j u, (cells8 x)[j]? = some u → w.cell? ⟨g', 0 + j, none⟩ = some u := fun j u hu => by
      have := hcl j u (by show (cells8 x ++ cellsL [])[j]? = some u; rw [show cellsL [] = [] from rfl, List.append_nil]; exact hu)
      rw [addr_add] at this; exact this
    exact ⟨g', cap', r1, r4, (Array.getElem?_eq_some_iff.1 r3).1, hat 0 _ rfl, hat 1 _ rfl, hat 2 _ rfl, hat 3 _ rfl, hat 4 _ rfl, hat 5 _ rfl, hat 6 _ rfl, hat 7 _ rfl⟩

/-- what stands between the rounds of taken -/
structure Mt (B : Nat) (w wr : World) (x : Value) (l : List (Tr × Value)) : Prop where
  own : OwnK B wr x l
  new : ∀ b, x.ownBlock = some b → w.heap.size < b
  zero : Box wr w.heap.size Tr.zero (.slice none 0 0)
  bel : RowKit.Below w.heap.size w wr
  old : ∀ x ∈ l, Is w (fun b => B ≤ b) x.1 x.2
theorem Mt.later {B : Nat} {w wr W : World} {x : Value} {l : List (Tr × Value)} (h : Mt B w wr x l) (b : RowKit.Below wr.heap.size wr W) : Mt B w W x l :=
  ⟨h.own.below b, h.new, h.zero.below b, h.bel.trans (b.mono h.bel.size), h.old⟩
theorem Mt.more {B : Nat} {w W w2 : World} {x v' : Value} {l : List (Tr × Value)} {y : Tr × Value} (h : Mt B w W x l) (o2 : OwnK B w2 v' (l ++ [y])) (hy : Is w (fun b => B ≤ b) y.1 y.2) (g2 : W.grownBy w2 x.ownBlock) (n2 : v'.ownBlock = x.ownBlock ∨ ∃ k, v'.ownBlock = some k ∧ W.heap.size ≤ k) : Mt B w w2 v' (l ++ [y]) := by
  refine ⟨o2, ?_, ?_, ?_, ?_⟩
  · intro b hb
    rcases n2 with n2 | ⟨k, n2, n3⟩
    · exact h.new b (n2 ▸ hb)
    · rw [n2] at hb
      have := Option.some.inj hb
      have := h.zero.lt
      omega
  · show w2.heap[w.heap.size]? = _
    rw [g2.block _ h.zero.lt (fun e => by have := h.new _ e.symm; omega)]
    exact h.zero
  · exact Below.grown h.bel g2 h.bel.size (fun k hk => by have := h.new k hk; omega)
  · intro x hx
    rcases List.mem_append.1 hx with h1 | h1
    · exact h.old x h1
    · simp at h1; subst h1; exact hy
theorem Mt.kid {B : Nat} {w wr : World} {x : Value} {l : List (Tr × Value)} (h : Mt B w wr x l) {t : Tr} {v : Value} (hi : Is w (fun b => B ≤ b) t v) : Is wr (fun b => B ≤ b ∧ x.ownBlock ≠ some b) t v :=
  hi.carry h.bel.size (fun b hb hlt => ⟨hb, fun e => by have := h.new b e; omega⟩) (fun b _ hlt => h.bel.block b hlt)
theorem Mt.ge {B : Nat} {w wr : World} {x : Value} {l : List (Tr × Value)} (h : Mt B w wr x l) : w.heap.size < wr.heap.size := h.zero.lt

theorem row_up {w : World} {B N : Nat} {v : Value} {n : Nat} {xs : List Value} (h : w.ownsRow B 28 8 v n xs) (hn : ∀ b, v.ownBlock = some b → N < b) : w.ownsRow (N + 1) 28 8 v n xs := by
  refine ⟨h.1, ?_⟩
  rcases h.2 with h2 | ⟨g, cap, cur, hv, hg, r⟩
  · exact Or.inl h2
  · exact Or.inr ⟨g, cap, cur, hv, hn g (by rw [hv]; rfl), r⟩
theorem row_down {w : World} {B N : Nat} {v : Value} {n : Nat} {xs : List Value} (h : w.ownsRow N 28 8 v n xs) (hB : B ≤ N) : w.ownsRow B 28 8 v n xs := by
  refine ⟨h.1, ?_⟩
  rcases h.2 with h2 | ⟨g, cap, cur, hv, hg, r⟩
  · exact Or.inl h2
  · exact Or.inr ⟨g, cap, cur, hv, by omega, r⟩
theorem row_kept {w w' : World} {B g : Nat} {v : Value} {n : Nat} {xs : List Value} (h : w.ownsRow B 28 8 v n xs) (t : w.grownBy w' (some g)) (hg : g < B) : w'.ownsRow B 28 8 v n xs := by
  refine ⟨h.1, ?_⟩
  rcases h.2 with h2 | ⟨g', cap, cur, hv, hg', r, r2⟩
  · exact Or.inl h2
  · refine Or.inr ⟨g', cap, cur, hv, hg', ?_, r2⟩
    rw [t.block g' (Array.getElem?_eq_some_iff.1 r).1 (fun e => by have := Option.some.inj e; omega)]
    exact r
theorem Mt.final {B : Nat} {w wr w' : World} {x : Value} {l : List (Tr × Value)} (h : Mt B w wr x l) (hB : B ≤ w.heap.size) (t : wr.grownBy w' (some w.heap.size)) : OwnK B w' x l := by
  refine ⟨row_down (row_kept (row_up h.own.row h.new) t (by omega)) (by omega), fun y hy => ?_⟩
  have bl : RowKit.Below w.heap.size w w' := below_over h.bel t (Nat.le_refl _)
  exact (h.old y hy).carry bl.size (fun b hb hlt => ⟨hb, fun e => by have := h.new b e; omega⟩) (fun b _ hlt => bl.block b hlt)

set_option maxHeartbeats 2000000 in
set_option maxRecDepth 100000 in
theorem taken_any (B : Nat) (ts : List Tr) (k : Int) (t : Tr) (hn : nodesOf ts ≤ 100000) (ht : t = grown k (flat k ts)) : TakenIs B ts k t := by
  intro v w hi hB
  obtain ⟨o, cap, b, off, vs, hv, hcap, hk⟩ := hi.form
  replace hv : v = .slice o ts.length cap := hv
  replace hk : ∀ i, i < ts.length → o = some ⟨b, off, none⟩ ∧ cap ≤ 9223372036854775807 ∧ b < w.heap.size ∧ B ≤ b ∧ Cells w b (off + i * 8) (nthT ts i) (vs i) ∧ Is w (fun b => B ≤ b) (nthT ts i) (vs i) := hk
  replace hcap : ts.length ≤ cap := hcap
  subst hv
  have hlen : ts.length ≤ 100000 := by have := length_nodes ts; omega
  have HT : Hid (t = grown k (flat k ts)) := ht
  have HN : Hid (nodesOf ts ≤ 100000) := hn
  clear ht hi hn
  have m0 : Mt B w ((w.alloc (.cells #[.int .i64 0, .int .u64 0, .int .u64 0, .int .u64 0, .int .u64 0, .int .i64 0, .int .i64 0, .slice none 0 0] 28)).alloc (.cells #[] 28)) (.slice (some ⟨w.heap.size + 1, 0, none⟩) 0 0) [] := by
    have h1 := own_empty B (w.alloc (.cells #[.int .i64 0, .int .u64 0, .int .u64 0, .int .u64 0, .int .u64 0, .int .i64 0, .int .i64 0, .slice none 0 0] 28)) (by simp; omega)
    refine ⟨by simpa using h1, fun b hb => ?_, (box_new w Tr.zero (.slice none 0 0)).below (below_alloc _ _), (below_alloc w _).trans ((below_alloc _ _).mono (below_alloc w _).size), by simp⟩
    have : w.heap.size + 1 = b := Option.some.inj hb
    omega
  go_enter Try.func25, Try.ntmps25
  go_wp2_with (fail)
  go_loopw [5, 13] (fun x y wr => ∃ (i : Nat) (l : List (Tr × Value)), y = .int .i64 i ∧ i ≤ ts.length ∧ Mt B w wr x l ∧ Hid (l.map Prod.fst = flat k (ts.take i))) (fun _ y _ => ts.length - (intOf y).toNat)
  case atStart => exact ⟨0, [], rfl, by omega, m0, by show _ = _; rfl⟩
  case round =>
    obtain ⟨i, l, rfl, hil, hM, HL⟩ := hrel
    by_cases hend : i < ts.length
    · obtain ⟨rfl, hcm, hb, hBb, hcells, hkid⟩ := hk i hend
      have hcells2 := hcells.same (hM.bel.block b hb)
      obtain ⟨o2, n2, cap2, hv2⟩ := hkid.shape
      rw [hv2] at hcells2 hkid
      obtain ⟨k0, k1, k2, k3, k4, k5, k6, k7⟩ := hcells2
      clear hcells hk hv2
      have hsm : l.length ≤ 100000 := by
        have h1 := length_nodes (l.map Prod.fst)
        rw [HL.out, ← HL.out, List.length_map] at h1
        have h2 := flat_nodes k ts i hil
        rw [← HL.out] at h2
        have h3 := nodesOf_le ts i
        have := HN.out
        omega
      by_cases hkk : (nthT ts i).kind = k
      · obtain ⟨o3, cap3, b3, off3, vs3, hv3, hcap3, hk3⟩ := hkid.form
        have hf0 : flat k (ts.take (i + 1)) = flat k (ts.take i) ++ (nthT ts i).kids := by
          rw [flat_take k ts i hend]
          unfold laid
          rw [if_pos hkk]
        have HF : Hid (flat k (ts.take (i + 1)) = l.map Prod.fst ++ (nthT ts i).kids) := by
          show _ = _
          rw [hf0, HL.out]
        have hsm2 : l.length + (nthT ts i).kids.length ≤ 100000 := by
          have h1 := length_nodes (flat k (ts.take (i + 1)))
          have h2 := flat_nodes k ts (i + 1) hend
          have h3 := nodesOf_le ts (i + 1)
          have := HN.out
          rw [HF.out, ← HF.out] at h1
          have h4 := congrArg List.length HF.out
          rw [List.length_append, List.length_map] at h4
          omega
        have heq : ((nthT ts i).kind == k) = true := by simpa using hkk
        clear hf0 HL
        have hM1 := hM.later (below_alloc wr (.cells #[.int .i64 (nthT ts i).kind, .int .u64 (nthT ts i).set.a, .int .u64 (nthT ts i).set.b, .int .u64 (nthT ts i).set.c, .int .u64 (nthT ts i).set.d, .int .i64 (nthT ts i).min, .int .i64 (nthT ts i).max, .slice o2 n2 cap2] 28))
        generalize nthT ts i = x at *
        injection hv3 with hv3a hv3b hv3c
        subst hv3a hv3b hv3c
        generalize x.kids = ks at *
        subst hkk
        go_wp2_with (fail)
        go_loopw [5, 28] (fun x y wq => ∃ (j : Nat) (l3 : List (Tr × Value)), y = .int .i64 j ∧ j ≤ ks.length ∧ Mt B w wq x l3 ∧ Hid (l3.map Prod.fst = l.map Prod.fst ++ ks.take j)) (fun _ y _ => ks.length - (intOf y).toNat)
        case atStart => exact ⟨0, l, rfl, by omega, hM1, by show _ = _; simp⟩
        case round =>
          obtain ⟨j, l3, rfl, hjl, hM3, HL3⟩ := hrel
          have hl3 : l3.length = l.length + j := by
            have := congrArg List.length HL3.out
            rw [List.length_append, List.length_map, List.length_map, List.length_take] at this
            omega
          by_cases hend3 : j < ks.length
          · obtain ⟨rfl, hcm3, hb3, hBb3, hcells3, hkid3⟩ := hk3 j hend3
            have hcells4 := hcells3.same (hM3.bel.block b3 hb3)
            obtain ⟨o4, n4, cap4, hv4⟩ := hkid3.shape
            rw [hv4] at hcells4 hkid3
            obtain ⟨j0, j1, j2, j3, j4, j5, j6, j7⟩ := hcells4
            have HJ : Hid ((l3 ++ [(nthT ks j, (.slice o4 n4 cap4 : Value))]).map Prod.fst = l.map Prod.fst ++ ks.take (j + 1)) := by
              show _ = _
              rw [take_snoc ks j hend3, List.map_append, HL3.out]
              simp
            clear hcells3 hk3 hv4 HL3
            have hM4 := hM3.later (below_alloc wr (.cells #[.int .i64 (nthT ks j).kind, .int .u64 (nthT ks j).set.a, .int .u64 (nthT ks j).set.b, .int .u64 (nthT ks j).set.c, .int .u64 (nthT ks j).set.d, .int .i64 (nthT ks j).min, .int .i64 (nthT ks j).max, .slice o4 n4 cap4] 28))
            generalize nthT ks j = y at *
            have hge3 := hM3.ge
            go_wp2_with (at_builtin; refine wpList_one _ rfl (.tmp 32) (.tmp 34) rfl B _ l3 y o4 n4 cap4 (wr.heap.size + 1) (by simp) rfl rfl hM4.own (hM4.kid hkid3) (by omega) (by simp; omega) ?_; intro v' w2 p2 g2 q2)
            go_roundw
            case rel => exact ⟨j + 1, _, by go_num, by omega, hM4.more p2 hkid3 g2 q2, HJ⟩
            case measure => simp [intOf]; omega
          · have HE : Hid (l3.map Prod.fst = flat x.kind (ts.take (i + 1))) := by
              show _ = _
              rw [HL3.out, HF.out, List.take_of_length_le (by omega)]
            go_wp2_with (fail)
            go_roundw
            case rel => exact ⟨i + 1, l3, by go_num, by omega, hM3, HE⟩
            case measure => simp [intOf]; omega
      · have HJ : Hid ((l ++ [(nthT ts i, (.slice o2 n2 cap2 : Value))]).map Prod.fst = flat k (ts.take (i + 1))) := by
          show _ = _
          rw [flat_take k ts i hend, List.map_append, HL.out]
          unfold laid
          rw [if_neg hkk]
          rfl
        have hne := beqf hkk
        clear hkk HL
        generalize nthT ts i = x at *
        obtain ⟨xk, hxk⟩ : ∃ xk, xk = x.kind := ⟨_, rfl⟩
        have hM1 := hM.later (below_alloc wr (.cells #[.int .i64 x.kind, .int .u64 x.set.a, .int .u64 x.set.b, .int .u64 x.set.c, .int .u64 x.set.d, .int .i64 x.min, .int .i64 x.max, .slice o2 n2 cap2] 28))
        have hge := hM.ge
        go_wp2_with (at_builtin; refine wpList_one _ rfl (.tmp 21) (.tmp 23) rfl B _ l x o2 n2 cap2 (wr.heap.size + 1) (by simp) rfl rfl hM1.own (hM1.kid hkid) (by omega) (by simp; omega) ?_; intro v' w2 p2 g2 q2)
        go_roundw
        case rel => exact ⟨i + 1, _, by go_num, by omega, hM1.more p2 hkid g2 q2, HJ⟩
        case measure => simp [intOf]; omega
    · have hi2 : i = ts.length := by omega
      have HE : Hid (t = grown k (l.map Prod.fst)) := by
        show _ = _
        rw [HT.out, HL.out, hi2, List.take_of_length_le (Nat.le_refl _)]
      have hsm : l.length ≤ 100000 := by
        have h1 := length_nodes (l.map Prod.fst)
        rw [List.length_map] at h1
        have h2 := flat_nodes k ts i hil
        rw [← HL.out] at h2
        have h3 := nodesOf_le ts i
        have := HN.out
        omega
      clear hk HT HL HN
      obtain ⟨⟨d0, d1, d2, d3, d4, d5, d6, d7⟩, f0, f1, f2, f3, f4, f5, f6, f7⟩ := b8 hM.zero
      by_cases h1 : l.length = 1
      · obtain ⟨x, rfl⟩ := List.length_eq_one_iff.1 h1
        have e : t = x.1 := by rw [HE.out]; rfl
        obtain ⟨g, cp, hv, hc1, hlt, hc⟩ := own_first hM.own
        subst hv
        subst e
        have hx := hM.old x (by simp)
        obtain ⟨xa, xn, xc, hxv⟩ := hx.shape
        rw [hxv] at hc hx
        obtain ⟨c0, c1, c2, c3, c4, c5, c6, c7⟩ := hc
        simp only [Nat.zero_add] at c0 c1 c2 c3 c4 c5 c6 c7
        clear HE h1
        go_wp2_with (fail)
        refine ret28 Try.results25 w.heap.size x.1 (.slice xa xn xc) rfl (box_set hM.zero x.1 _) rfl ?_
        have hbf := below_over hM.bel (touch_set8 wr w.heap.size x.1 (.slice xa xn xc)) (Nat.le_refl _)
        exact ⟨_, rfl, hx.later hbf, hbf⟩
      · have e : t = .node k none4 0 0 (l.map Prod.fst) := by rw [HE.out]; unfold grown; rw [if_neg (by simpa using h1)]
        have hx : ∀ w', wr.grownBy w' (some w.heap.size) → Is w' (fun b => B ≤ b) (.node k none4 0 0 (l.map Prod.fst)) _ := fun w' t => (hM.final hB t).is k none4 0 0
        obtain ⟨a, cp, hv, hcp⟩ := hM.own.shape
        subst hv
        subst e
        have hne : ((l.length : Int) == 1) = false := by rw [beq_eq_false_iff_ne]; omega
        generalize l.length = n at *
        clear HE h1
        go_wp2_with (fail)
        refine ret28 Try.results25 w.heap.size (.node k none4 0 0 (l.map Prod.fst)) (.slice a n cp) rfl (box_set hM.zero (.node k none4 0 0 (l.map Prod.fst)) _) rfl ?_
        exact ⟨_, rfl, hx _ (touch_set8 _ _ (.node k none4 0 0 (l.map Prod.fst)) _), below_over hM.bel (touch_set8 _ _ (.node k none4 0 0 (l.map Prod.fst)) _) (Nat.le_refl _)⟩
end Go.Proofs.Ytjfnefmolhihaaa.st

namespace Go.Proofs.Ytjfnefmolhihaaa.st
open Go.Sort Go.ChangeShapes Go.WideShapes Go.ChangeAt Go.RowKit
set_option linter.unusedVariables false

/-- a tree is read, and the reader goes on to a place -/
def OkP (f : Nat) (u : ByteArray) (i o a : Nat) (t : Tr) (i' : Nat) : Prop := ∀ g w, Pb w g u i o 0 a → Calls Try.prog f #[.pointer (some ⟨g, 0, none⟩)] w fun e w' => ∃ v, e = .returned (treeV t v) ∧ Is w' (fun b => w.heap.size ≤ b) t v ∧ Pb w' g u i' o 0 a ∧ w.grownBy w' (some g)
/-- something is wrong: any tree, and the error and its place are kept -/
def BadP (c f : Nat) (u : ByteArray) (i o a er q : Nat) : Prop := ∀ g w, Pb w g u i o 0 a → Calls Try.prog f #[.pointer (some ⟨g, 0, none⟩)] w fun e w' => ∃ t v i', e = .returned (treeV t v) ∧ Is w' (fun b => w.heap.size ≤ b) t v ∧ Pb w' g u i' o er q ∧ w.grownBy w' (some g) ∧ er ≠ 0 ∧ i ≤ i' ∧ i' ≤ u.size ∧ t.nodes ≤ 2 * (i' - i) + c
def TellP (f c : Nat) (u : ByteArray) (i o a : Nat) (r : R Tr) : Prop :=
  (∃ t i', i ≤ i' ∧ i' ≤ u.size ∧ r = .ok t (suf u i') ∧ t.nodes ≤ 2 * (i' - i) + c ∧ OkP f u i o a t i') ∨ (∃ er q, q ≤ u.size ∧ r = .bad er (suf u q) ∧ BadP c f u i o a er q)
def OutP (c : Nat) (res : R Tr) (u : ByteArray) (g o a i : Nat) (w : World) (e : Ending) (w' : World) : Prop :=
  (∃ t i' v, res = .ok t (suf u i') ∧ i' ≤ u.size ∧ e = .returned (treeV t v) ∧ Is w' (fun b => w.heap.size ≤ b) t v ∧ Pb w' g u i' o 0 a ∧ w.grownBy w' (some g)) ∨
  (∃ er q t i' v, res = .bad er (suf u q) ∧ q ≤ u.size ∧ e = .returned (treeV t v) ∧ Is w' (fun b => w.heap.size ≤ b) t v ∧ Pb w' g u i' o er q ∧ w.grownBy w' (some g) ∧ er ≠ 0 ∧ i ≤ i' ∧ i' ≤ u.size ∧ t.nodes ≤ 2 * (i' - i) + c)
/-- one walk to either end, and what is read, in plain words, make the form -/
theorem tellP_of {f c : Nat} {u : ByteArray} {i o a : Nat} {r : R Tr} (hp : (∃ t i', i ≤ i' ∧ i' ≤ u.size ∧ r = .ok t (suf u i') ∧ t.nodes ≤ 2 * (i' - i) + c) ∨ (∃ er q, q ≤ u.size ∧ r = .bad er (suf u q)))
    (hw : ∀ g w, Pb w g u i o 0 a → Calls Try.prog f #[.pointer (some ⟨g, 0, none⟩)] w (OutP c r u g o a i w)) : TellP f c u i o a r := by
  rcases hp with ⟨t, i', h1, h2, h3, h4⟩ | ⟨er, q, h1, h2⟩
  · refine .inl ⟨t, i', h1, h2, h3, h4, fun g w h => (hw g w h).mono ?_⟩
    rintro e w' (⟨t2, j, v, k1, k2, k3, k4, k5, k6⟩ | ⟨er, q, t2, j, v, k1, _⟩)
    · rw [h3] at k1
      injection k1 with k7 k8
      have := suf_inj u _ _ h2 k2 k8
      subst this
      subst k7
      exact ⟨v, k3, k4, k5, k6⟩
    · rw [h3] at k1; cases k1
  · refine .inr ⟨er, q, h1, h2, fun g w h => (hw g w h).mono ?_⟩
    rintro e w' (⟨t2, j, v, k1, _⟩ | ⟨er2, q2, t2, j, v, k1, k2, k3, k4, k5, k6, k7, k8, k9, k10⟩)
    · rw [h2] at k1; cases k1
    · rw [h2] at k1
      injection k1 with k11 k12
      have := suf_inj u _ _ h1 k2 k12
      subst this
      subst k11
      exact ⟨t2, v, j, k3, k4, k5, k6, k7, k8, k9, k10⟩

end Go.Proofs.Ytjfnefmolhihaaa.st

namespace Go.Proofs.Ytjfnefmolhihaaa.st
open Go.Sort Go.ChangeShapes Go.WideShapes Go.ChangeAt Go.RowKit
set_option linter.unusedVariables false

/-- what stands between two steps of a function that hands a tree back -/
structure Ast (w V : World) (u : ByteArray) (g j o b a : Nat) : Prop where
  pb : Pb V g u j o b a
  zero : Box V w.heap.size Tr.zero (.slice none 0 0)
  t : w.grownBy V (some g)
section
variable {w V V' : World} {u : ByteArray} {g j o b a j' o' b' a' : Nat}
theorem Ast.call (h : Ast w V u g j o b a) (hg : g < w.heap.size) (pb : Pb V' g u j' o' b' a') (t : V.grownBy V' (some g)) : Ast w V' u g j' o' b' a' := ⟨pb, Box.keep h.zero t (by omega), touch_trans h.t t⟩
theorem Ast.later (h : Ast w V u g j o b a) (t : RowKit.Below V.heap.size V V') : Ast w V' u g j o b a := ⟨h.pb.later t, h.zero.below t, touch_trans h.t (touch_below _ t)⟩
theorem Ast.move (h : Ast w V u g j o b a) (hg : g < w.heap.size) (k : Nat) : Ast w (V.setCell ⟨g, 1, none⟩ (.int .i64 k)) u g k o b a := h.call hg (h.pb.set1 k) (touch_cell _ _ _ _)
theorem Ast.opens (h : Ast w V u g j o b a) (hg : g < w.heap.size) (k : Nat) : Ast w (V.setCell ⟨g, 2, none⟩ (.int .i64 k)) u g j k b a := h.call hg (h.pb.set2 k) (touch_cell _ _ _ _)
end
theorem Is.over {N g : Nat} {V V' : World} {t : Tr} {v : Value} (h : Is V (fun b => N < b) t v) (hg : g ≤ N) (s : V.grownBy V' (some g)) : Is V' (fun b => N < b) t v :=
  h.carry s.size (fun _ p _ => p) (fun b p hlt => s.block b hlt (fun e => by have := Option.some.inj e; omega))
set_option maxHeartbeats 1000000 in
set_option maxRecDepth 100000 in
theorem atom_deep (u : ByteArray) (i o a : Nat) (ho : 30 ≤ o) (n0 : Mv 30 [] u i o 0 a (.int .i64 40) i 0 a) : ∀ g w, Pb w g u i o 0 a → Calls Try.prog 38 #[.pointer (some ⟨g, 0, none⟩)] w fun e w' => e = .returned (treeV Tr.zero (.slice none 0 0)) ∧ Pb w' g u i o 2 i ∧ w.grownBy w' (some g) := by
  intro g w h
  have hg := h.lt
  have ast : Ast w (w.alloc (.cells #[.int .i64 0, .int .u64 0, .int .u64 0, .int .u64 0, .int .u64 0, .int .i64 0, .int .i64 0, .slice none 0 0] 28)) u g i o 0 a := ⟨h.later (below_alloc _ _), box_new w Tr.zero _, touch_alloc (touch_refl _ _) _⟩
  have c3 := ast.pb.c3
  have s0 : Mv 14 [.int .i64 2, .int .i64 i] u i o 0 a (.tuple #[]) i 2 i := stop_first u i o a 2 i
  have hoo : decide (30 ≤ o) = true := by simpa using ho
  unfold Mv at n0 s0
  go_enter Try.func38, Try.ntmps38
  go_wp2_with (first | (go_at_call 30; (with_reducible refine (n0 _ _ ast.pb).mono ?_); rintro e w1 ⟨rfl, h1, t1⟩; replace ast := ast.call hg h1 t1; clear h1 t1; have c1 := ast.pb.c1; have c2 := ast.pb.c2) | (go_at_call 14; (with_reducible refine (s0 _ _ ast.pb).mono ?_); rintro e w1 ⟨rfl, h1, t1⟩; replace ast := ast.call hg h1 t1; clear h1 t1; obtain ⟨⟨d0, d1, d2, d3, d4, d5, d6, d7⟩, f0, f1, f2, f3, f4, f5, f6, f7⟩ := b8 ast.zero))
  refine ret28 Try.results38 w.heap.size Tr.zero _ rfl (box_set ast.zero Tr.zero _) rfl ?_
  exact ⟨rfl, ast.pb.other (touch_set8 _ _ Tr.zero _) (by omega), touch_over ast.t (touch_set8 _ _ Tr.zero _) (Nat.le_refl _)⟩
set_option maxHeartbeats 1000000 in
set_option maxRecDepth 100000 in
theorem atom_end (u : ByteArray) (i o a : Nat) (n0 : Mv 30 [] u i o 0 a (.int .i64 (-1)) i 0 a) (t91 : Mv 24 [.int .u8 91] u i o 0 a (.bool false) i 0 a) (t46 : Mv 24 [.int .u8 46] u i o 0 a (.bool false) i 0 a) (t92 : Mv 24 [.int .u8 92] u i o 0 a (.bool false) i 0 a) : ∀ g w, Pb w g u i o 0 a → Calls Try.prog 38 #[.pointer (some ⟨g, 0, none⟩)] w fun e w' => e = .returned (treeV Tr.zero (.slice none 0 0)) ∧ Pb w' g u i o 60 i ∧ w.grownBy w' (some g) := by
  intro g w h
  have hg := h.lt
  have ast : Ast w (w.alloc (.cells #[.int .i64 0, .int .u64 0, .int .u64 0, .int .u64 0, .int .u64 0, .int .i64 0, .int .i64 0, .slice none 0 0] 28)) u g i o 0 a := ⟨h.later (below_alloc _ _), box_new w Tr.zero _, touch_alloc (touch_refl _ _) _⟩
  have c3 := ast.pb.c3
  have s0 : Mv 14 [.int .i64 60, .int .i64 i] u i o 0 a (.tuple #[]) i 60 i := stop_first u i o a 60 i
  unfold Mv at n0 t91 t46 t92 s0
  go_enter Try.func38, Try.ntmps38
  go_wp2_with (first | (go_at_call 30; (with_reducible refine (n0 _ _ ast.pb).mono ?_); rintro e w1 ⟨rfl, h1, t1⟩; replace ast := ast.call hg h1 t1; clear h1 t1) | (go_at_call 24; (with_reducible refine (t91 _ _ ast.pb).mono ?_); rintro e w1 ⟨rfl, h1, t1⟩; replace ast := ast.call hg h1 t1; clear h1 t1; have c1 := ast.pb.c1) | (go_at_call 24; (with_reducible refine (t46 _ _ ast.pb).mono ?_); rintro e w1 ⟨rfl, h1, t1⟩; replace ast := ast.call hg h1 t1; clear h1 t1; have c1 := ast.pb.c1) | (go_at_call 24; (with_reducible refine (t92 _ _ ast.pb).mono ?_); rintro e w1 ⟨rfl, h1, t1⟩; replace ast := ast.call hg h1 t1; clear h1 t1; have c1 := ast.pb.c1) | (go_at_call 14; (with_reducible refine (s0 _ _ ast.pb).mono ?_); rintro e w1 ⟨rfl, h1, t1⟩; replace ast := ast.call hg h1 t1; clear h1 t1; obtain ⟨⟨d0, d1, d2, d3, d4, d5, d6, d7⟩, f0, f1, f2, f3, f4, f5, f6, f7⟩ := b8 ast.zero))
  refine ret28 Try.results38 w.heap.size Tr.zero _ rfl (box_set ast.zero Tr.zero _) rfl ?_
  exact ⟨rfl, ast.pb.other (touch_set8 _ _ Tr.zero _) (by omega), touch_over ast.t (touch_set8 _ _ Tr.zero _) (Nat.le_refl _)⟩
set_option maxHeartbeats 1000000 in
set_option maxRecDepth 100000 in
theorem atom_sign (u : ByteArray) (i o a : Nat) (c : Nat) (hc : c ≠ 40) (n0 : Mv 30 [] u i o 0 a (.int .i64 c) i 0 a) (t91 : Mv 24 [.int .u8 91] u i o 0 a (.bool false) i 0 a) (t46 : Mv 24 [.int .u8 46] u i o 0 a (.bool false) i 0 a) (t92 : Mv 24 [.int .u8 92] u i o 0 a (.bool false) i 0 a) (sg : SignIs c true) : ∀ g w, Pb w g u i o 0 a → Calls Try.prog 38 #[.pointer (some ⟨g, 0, none⟩)] w fun e w' => e = .returned (treeV Tr.zero (.slice none 0 0)) ∧ Pb w' g u i o 60 i ∧ w.grownBy w' (some g) := by
  intro g w h
  have hg := h.lt
  have ast : Ast w (w.alloc (.cells #[.int .i64 0, .int .u64 0, .int .u64 0, .int .u64 0, .int .u64 0, .int .i64 0, .int .i64 0, .slice none 0 0] 28)) u g i o 0 a := ⟨h.later (below_alloc _ _), box_new w Tr.zero _, touch_alloc (touch_refl _ _) _⟩
  have c3 := ast.pb.c3
  have s0 : Mv 14 [.int .i64 60, .int .i64 i] u i o 0 a (.tuple #[]) i 60 i := stop_first u i o a 60 i
  have f40 : ((c : Int) == 40) = false := by rw [beq_eq_false_iff_ne]; omega
  unfold Mv at n0 t91 t46 t92 s0
  unfold SignIs at sg
  go_enter Try.func38, Try.ntmps38
  go_wp2_with (first | (go_at_call 30; (with_reducible refine (n0 _ _ ast.pb).mono ?_); rintro e w1 ⟨rfl, h1, t1⟩; replace ast := ast.call hg h1 t1; clear h1 t1) | (go_at_call 24; (with_reducible refine (t91 _ _ ast.pb).mono ?_); rintro e w1 ⟨rfl, h1, t1⟩; replace ast := ast.call hg h1 t1; clear h1 t1) | (go_at_call 24; (with_reducible refine (t46 _ _ ast.pb).mono ?_); rintro e w1 ⟨rfl, h1, t1⟩; replace ast := ast.call hg h1 t1; clear h1 t1) | (go_at_call 24; (with_reducible refine (t92 _ _ ast.pb).mono ?_); rintro e w1 ⟨rfl, h1, t1⟩; replace ast := ast.call hg h1 t1; clear h1 t1) | (go_at_call 50; (with_reducible refine (sg _).mono ?_); rintro e w6 ⟨rfl, b6⟩; replace ast := ast.later b6; have c1 := ast.pb.c1; have f1_ := ast.pb.fz 1) | (go_at_call 14; (with_reducible refine (s0 _ _ ast.pb).mono ?_); rintro e w1 ⟨rfl, h1, t1⟩; replace ast := ast.call hg h1 t1; clear h1 t1; obtain ⟨⟨d0, d1, d2, d3, d4, d5, d6, d7⟩, f0, f1, f2, f3, f4, f5, f6, f7⟩ := b8 ast.zero))
  refine ret28 Try.results38 w.heap.size Tr.zero _ rfl (box_set ast.zero Tr.zero _) rfl ?_
  exact ⟨rfl, ast.pb.other (touch_set8 _ _ Tr.zero _) (by omega), touch_over ast.t (touch_set8 _ _ Tr.zero _) (Nat.le_refl _)⟩
set_option maxHeartbeats 1000000 in
set_option maxRecDepth 100000 in
theorem atom_lit (u : ByteArray) (i j k o a : Nat) (c : Nat) (hc : c < 256) (hi : i ≤ 1000) (hj : j = i + 1) (h40 : c ≠ 40) (n0 : Mv 30 [] u i o 0 a (.int .i64 c) i 0 a) (t91 : Mv 24 [.int .u8 91] u i o 0 a (.bool false) i 0 a) (t46 : Mv 24 [.int .u8 46] u i o 0 a (.bool false) i 0 a) (t92 : Mv 24 [.int .u8 92] u i o 0 a (.bool false) i 0 a) (sg : SignIs c false) (sn : SglIs c (rng c c)) : Mv 38 [] u i o 0 a (nodeV (rng c c)) j 0 a := by
  intro g w h
  have hg := h.lt
  have ast : Ast w (w.alloc (.cells #[.int .i64 0, .int .u64 0, .int .u64 0, .int .u64 0, .int .u64 0, .int .i64 0, .int .i64 0, .slice none 0 0] 28)) u g i o 0 a := ⟨h.later (below_alloc _ _), box_new w Tr.zero _, touch_alloc (touch_refl _ _) _⟩
  have c3 := ast.pb.c3
  have HJ : Hid (j = i + 1) := hj
  clear hj
  have f40 : ((c : Int) == 40) = false := by rw [beq_eq_false_iff_ne]; omega
  unfold Mv at n0 t91 t46 t92
  unfold SignIs at sg
  unfold SglIs at sn
  go_enter Try.func38, Try.ntmps38
  go_wp2_with (first | (go_at_call 30; (with_reducible refine (n0 _ _ ast.pb).mono ?_); rintro e w1 ⟨rfl, h1, t1⟩; replace ast := ast.call hg h1 t1; clear h1 t1) | (go_at_call 24; (with_reducible refine (t91 _ _ ast.pb).mono ?_); rintro e w1 ⟨rfl, h1, t1⟩; replace ast := ast.call hg h1 t1; clear h1 t1) | (go_at_call 24; (with_reducible refine (t46 _ _ ast.pb).mono ?_); rintro e w1 ⟨rfl, h1, t1⟩; replace ast := ast.call hg h1 t1; clear h1 t1) | (go_at_call 24; (with_reducible refine (t92 _ _ ast.pb).mono ?_); rintro e w1 ⟨rfl, h1, t1⟩; replace ast := ast.call hg h1 t1; clear h1 t1) | (go_at_call 50; (with_reducible refine (sg _).mono ?_); rintro e w6 ⟨rfl, b6⟩; replace ast := ast.later b6; have c1 := ast.pb.c1; have f1_ := ast.pb.fz 1; have s1 : Ast w (World.setCell _ ⟨g, 1, none⟩ (.int .i64 ((i : Int) + 1))) u g (i + 1) o 0 a := ast.move hg (i + 1); rw [← HJ.out] at s1; have c1 := ast.pb.c1; have f1_ := ast.pb.fz 1; replace ast := s1) | (go_at_call 48; (with_reducible refine (sn _).mono ?_); rintro e w7 ⟨rfl, b7⟩; replace ast := ast.later b7; obtain ⟨⟨d0, d1, d2, d3, d4, d5, d6, d7⟩, f0, f1, f2, f3, f4, f5, f6, f7⟩ := b8 ast.zero))
  refine ret28 Try.results38 w.heap.size (.node 1 (rng c c) 0 0 []) _ rfl (box_set ast.zero (.node 1 (rng c c) 0 0 []) _) rfl ?_
  exact ⟨rfl, ast.pb.other (touch_set8 _ _ (.node 1 (rng c c) 0 0 []) _) (by omega), touch_over ast.t (touch_set8 _ _ (.node 1 (rng c c) 0 0 []) _) (Nat.le_refl _)⟩
set_option maxHeartbeats 1000000 in
set_option maxRecDepth 100000 in
theorem atom_one (u : ByteArray) (i j k o a : Nat) (c b' a' : Nat) (n0 : Mv 30 [] u i o 0 a (.int .i64 92) i 0 a) (t91 : Mv 24 [.int .u8 91] u i o 0 a (.bool false) i 0 a) (t46 : Mv 24 [.int .u8 46] u i o 0 a (.bool false) i 0 a) (t92 : Mv 24 [.int .u8 92] u i o 0 a (.bool true) j 0 a) (z : Int) (n1 : Mv 30 [] u j o 0 a (.int .i64 z) j 0 a) (kn : KndIs z none4 false) (m1 : Mv 49 [] u j o 0 a (vb c) k b' a') (sn : SglIs c (rng c c)) : Mv 38 [] u i o 0 a (nodeV (rng c c)) k b' a' := by
  intro g w h
  have hg := h.lt
  have ast : Ast w (w.alloc (.cells #[.int .i64 0, .int .u64 0, .int .u64 0, .int .u64 0, .int .u64 0, .int .i64 0, .int .i64 0, .slice none 0 0] 28)) u g i o 0 a := ⟨h.later (below_alloc _ _), box_new w Tr.zero _, touch_alloc (touch_refl _ _) _⟩
  have c3 := ast.pb.c3
  unfold Mv at n0 t91 t46 t92 n1 m1
  unfold KndIs at kn
  unfold SglIs at sn
  go_enter Try.func38, Try.ntmps38
  go_wp2_with (first | (go_at_call 30; (with_reducible refine (n0 _ _ ast.pb).mono ?_); rintro e w1 ⟨rfl, h1, t1⟩; replace ast := ast.call hg h1 t1; clear h1 t1) | (go_at_call 30; (with_reducible refine (n1 _ _ ast.pb).mono ?_); rintro e w1 ⟨rfl, h1, t1⟩; replace ast := ast.call hg h1 t1; clear h1 t1) | (go_at_call 24; (with_reducible refine (t91 _ _ ast.pb).mono ?_); rintro e w1 ⟨rfl, h1, t1⟩; replace ast := ast.call hg h1 t1; clear h1 t1) | (go_at_call 24; (with_reducible refine (t46 _ _ ast.pb).mono ?_); rintro e w1 ⟨rfl, h1, t1⟩; replace ast := ast.call hg h1 t1; clear h1 t1) | (go_at_call 24; (with_reducible refine (t92 _ _ ast.pb).mono ?_); rintro e w1 ⟨rfl, h1, t1⟩; replace ast := ast.call hg h1 t1; clear h1 t1) | (go_at_call 47; (with_reducible refine (kn _).mono ?_); rintro e w6 ⟨rfl, b6⟩; replace ast := (ast.later b6).later (below_alloc w6 (.cells #[.int .u64 none4.a, .int .u64 none4.b, .int .u64 none4.c, .int .u64 none4.d] 25))) | (go_at_call 49; (with_reducible refine (m1 _ _ ast.pb).mono ?_); rintro e w1 ⟨rfl, h1, t1⟩; replace ast := ast.call hg h1 t1; clear h1 t1) | (go_at_call 48; (with_reducible refine (sn _).mono ?_); rintro e w7 ⟨rfl, b7⟩; replace ast := ast.later b7; obtain ⟨⟨d0, d1, d2, d3, d4, d5, d6, d7⟩, f0, f1, f2, f3, f4, f5, f6, f7⟩ := b8 ast.zero))
  refine ret28 Try.results38 w.heap.size (.node 1 (rng c c) 0 0 []) _ rfl (box_set ast.zero (.node 1 (rng c c) 0 0 []) _) rfl ?_
  exact ⟨rfl, ast.pb.other (touch_set8 _ _ (.node 1 (rng c c) 0 0 []) _) (by omega), touch_over ast.t (touch_set8 _ _ (.node 1 (rng c c) 0 0 []) _) (Nat.le_refl _)⟩
set_option maxHeartbeats 1000000 in
set_option maxRecDepth 100000 in
theorem atom_kind (u : ByteArray) (i j k o a : Nat) (q : Q4) (hi : j ≤ 1000) (hk : k = j + 1) (n0 : Mv 30 [] u i o 0 a (.int .i64 92) i 0 a) (t91 : Mv 24 [.int .u8 91] u i o 0 a (.bool false) i 0 a) (t46 : Mv 24 [.int .u8 46] u i o 0 a (.bool false) i 0 a) (t92 : Mv 24 [.int .u8 92] u i o 0 a (.bool true) j 0 a) (z : Int) (n1 : Mv 30 [] u j o 0 a (.int .i64 z) j 0 a) (kn : KndIs z q true) : Mv 38 [] u i o 0 a (nodeV q) k 0 a := by
  intro g w h
  have hg := h.lt
  have ast : Ast w (w.alloc (.cells #[.int .i64 0, .int .u64 0, .int .u64 0, .int .u64 0, .int .u64 0, .int .i64 0, .int .i64 0, .slice none 0 0] 28)) u g i o 0 a := ⟨h.later (below_alloc _ _), box_new w Tr.zero _, touch_alloc (touch_refl _ _) _⟩
  have c3 := ast.pb.c3
  have HJ : Hid (k = j + 1) := hk
  clear hk
  unfold Mv at n0 t91 t46 t92 n1
  unfold KndIs at kn
  go_enter Try.func38, Try.ntmps38
  go_wp2_with (first | (go_at_call 30; (with_reducible refine (n0 _ _ ast.pb).mono ?_); rintro e w1 ⟨rfl, h1, t1⟩; replace ast := ast.call hg h1 t1; clear h1 t1) | (go_at_call 30; (with_reducible refine (n1 _ _ ast.pb).mono ?_); rintro e w1 ⟨rfl, h1, t1⟩; replace ast := ast.call hg h1 t1; clear h1 t1) | (go_at_call 24; (with_reducible refine (t91 _ _ ast.pb).mono ?_); rintro e w1 ⟨rfl, h1, t1⟩; replace ast := ast.call hg h1 t1; clear h1 t1) | (go_at_call 24; (with_reducible refine (t46 _ _ ast.pb).mono ?_); rintro e w1 ⟨rfl, h1, t1⟩; replace ast := ast.call hg h1 t1; clear h1 t1) | (go_at_call 24; (with_reducible refine (t92 _ _ ast.pb).mono ?_); rintro e w1 ⟨rfl, h1, t1⟩; replace ast := ast.call hg h1 t1; clear h1 t1) | (go_at_call 47; (with_reducible refine (kn _).mono ?_); rintro e w6 ⟨rfl, b6⟩; replace ast := ast.later b6; have hz6 := ast.zero.lt; replace ast := ast.later (below_alloc w6 (.cells #[.int .u64 q.a, .int .u64 q.b, .int .u64 q.c, .int .u64 q.d] 25)); have kq := (sp.blk_new w6 q).other (touch_cell (w6.alloc (.cells #[.int .u64 q.a, .int .u64 q.b, .int .u64 q.c, .int .u64 q.d] 25)) g 1 (.int .i64 ((j : Int) + 1))) (by omega); obtain ⟨x0, x1, x2, x3, _, _, _, _⟩ := sp8 kq; have s1 : Ast w (World.setCell _ ⟨g, 1, none⟩ (.int .i64 ((j : Int) + 1))) u g (j + 1) o 0 a := ast.move hg (j + 1); rw [← HJ.out] at s1; have c1 := ast.pb.c1; have f1_ := ast.pb.fz 1; replace ast := s1; obtain ⟨⟨d0, d1, d2, d3, d4, d5, d6, d7⟩, f0, f1, f2, f3, f4, f5, f6, f7⟩ := b8 ast.zero))
  refine ret28 Try.results38 w.heap.size (.node 1 q 0 0 []) _ rfl (box_set ast.zero (.node 1 q 0 0 []) _) rfl ?_
  exact ⟨rfl, ast.pb.other (touch_set8 _ _ (.node 1 q 0 0 []) _) (by omega), touch_over ast.t (touch_set8 _ _ (.node 1 q 0 0 []) _) (Nat.le_refl _)⟩
set_option maxHeartbeats 1000000 in
set_option maxRecDepth 100000 in
theorem atom_dot (u : ByteArray) (i j k o a : Nat) (q n : Q4) (n0 : Mv 30 [] u i o 0 a (.int .i64 46) i 0 a) (t91 : Mv 24 [.int .u8 91] u i o 0 a (.bool false) i 0 a) (t46 : Mv 24 [.int .u8 46] u i o 0 a (.bool true) j 0 a) (of : sp.ROfIs ⟨#[10]⟩ n) (nq : sp.RNotIs n q) : Mv 38 [] u i o 0 a (nodeV q) j 0 a := by
  intro g w h
  have hg := h.lt
  have ast : Ast w (w.alloc (.cells #[.int .i64 0, .int .u64 0, .int .u64 0, .int .u64 0, .int .u64 0, .int .i64 0, .int .i64 0, .slice none 0 0] 28)) u g i o 0 a := ⟨h.later (below_alloc _ _), box_new w Tr.zero _, touch_alloc (touch_refl _ _) _⟩
  have c3 := ast.pb.c3
  unfold Mv at n0 t91 t46
  unfold sp.ROfIs at of
  unfold sp.RNotIs at nq
  go_enter Try.func38, Try.ntmps38
  go_wp2_with (first | (go_at_call 30; (with_reducible refine (n0 _ _ ast.pb).mono ?_); rintro e w1 ⟨rfl, h1, t1⟩; replace ast := ast.call hg h1 t1; clear h1 t1) | (go_at_call 24; (with_reducible refine (t91 _ _ ast.pb).mono ?_); rintro e w1 ⟨rfl, h1, t1⟩; replace ast := ast.call hg h1 t1; clear h1 t1) | (go_at_call 24; (with_reducible refine (t46 _ _ ast.pb).mono ?_); rintro e w1 ⟨rfl, h1, t1⟩; replace ast := ast.call hg h1 t1; clear h1 t1) | (go_at_call 46; (with_reducible refine (of _).mono ?_); rintro e w6 ⟨rfl, b6⟩; replace ast := ast.later b6) | (go_at_call 45; (with_reducible refine (nq _).mono ?_); rintro e w7 ⟨rfl, b7⟩; replace ast := ast.later b7; obtain ⟨⟨d0, d1, d2, d3, d4, d5, d6, d7⟩, f0, f1, f2, f3, f4, f5, f6, f7⟩ := b8 ast.zero))
  refine ret28 Try.results38 w.heap.size (.node 1 q 0 0 []) _ rfl (box_set ast.zero (.node 1 q 0 0 []) _) rfl ?_
  exact ⟨rfl, ast.pb.other (touch_set8 _ _ (.node 1 q 0 0 []) _) (by omega), touch_over ast.t (touch_set8 _ _ (.node 1 q 0 0 []) _) (Nat.le_refl _)⟩
set_option maxHeartbeats 1000000 in
set_option maxRecDepth 100000 in
theorem atom_cls (u : ByteArray) (i j k o a : Nat) (q : Q4) (n0 : Mv 30 [] u i o 0 a (.int .i64 91) i 0 a) (t91 : Mv 24 [.int .u8 91] u i o 0 a (.bool true) j 0 a) (m1 : Mv 44 [] u j o 0 a (nodeV q) k 0 a) : Mv 38 [] u i o 0 a (nodeV q) k 0 a := by
  intro g w h
  have hg := h.lt
  have ast : Ast w (w.alloc (.cells #[.int .i64 0, .int .u64 0, .int .u64 0, .int .u64 0, .int .u64 0, .int .i64 0, .int .i64 0, .slice none 0 0] 28)) u g i o 0 a := ⟨h.later (below_alloc _ _), box_new w Tr.zero _, touch_alloc (touch_refl _ _) _⟩
  have c3 := ast.pb.c3
  unfold Mv at n0 t91 m1
  go_enter Try.func38, Try.ntmps38
  go_wp2_with (first | (go_at_call 30; (with_reducible refine (n0 _ _ ast.pb).mono ?_); rintro e w1 ⟨rfl, h1, t1⟩; replace ast := ast.call hg h1 t1; clear h1 t1) | (go_at_call 24; (with_reducible refine (t91 _ _ ast.pb).mono ?_); rintro e w1 ⟨rfl, h1, t1⟩; replace ast := ast.call hg h1 t1; clear h1 t1) | (go_at_call 44; (with_reducible refine (m1 _ _ ast.pb).mono ?_); rintro e w1 ⟨rfl, h1, t1⟩; replace ast := ast.call hg h1 t1; clear h1 t1; obtain ⟨⟨d0, d1, d2, d3, d4, d5, d6, d7⟩, f0, f1, f2, f3, f4, f5, f6, f7⟩ := b8 ast.zero))
  refine ret28 Try.results38 w.heap.size (.node 1 q 0 0 []) _ rfl (box_set ast.zero (.node 1 q 0 0 []) _) rfl ?_
  exact ⟨rfl, ast.pb.other (touch_set8 _ _ (.node 1 q 0 0 []) _) (by omega), touch_over ast.t (touch_set8 _ _ (.node 1 q 0 0 []) _) (Nat.le_refl _)⟩
set_option maxHeartbeats 1000000 in
set_option maxRecDepth 100000 in
theorem atom_clsbad (u : ByteArray) (i j o a er s : Nat) (hij : i ≤ j) (n0 : Mv 30 [] u i o 0 a (.int .i64 91) i 0 a) (t91 : Mv 24 [.int .u8 91] u i o 0 a (.bool true) j 0 a) (m1 : ∀ g w, Pb w g u j o 0 a → Calls Try.prog 44 #[.pointer (some ⟨g, 0, none⟩)] w fun e w' => ∃ q i', e = .returned (nodeV q) ∧ Pb w' g u i' o er s ∧ w.grownBy w' (some g) ∧ er ≠ 0 ∧ j ≤ i' ∧ i' ≤ u.size) : BadP 1 38 u i o a er s := by
  intro g w h
  have hg := h.lt
  have ast : Ast w (w.alloc (.cells #[.int .i64 0, .int .u64 0, .int .u64 0, .int .u64 0, .int .u64 0, .int .i64 0, .int .i64 0, .slice none 0 0] 28)) u g i o 0 a := ⟨h.later (below_alloc _ _), box_new w Tr.zero _, touch_alloc (touch_refl _ _) _⟩
  have c3 := ast.pb.c3
  unfold Mv at n0 t91
  go_enter Try.func38, Try.ntmps38
  go_wp2_with (first | (go_at_call 30; (with_reducible refine (n0 _ _ ast.pb).mono ?_); rintro e w1 ⟨rfl, h1, t1⟩; replace ast := ast.call hg h1 t1; clear h1 t1) | (go_at_call 24; (with_reducible refine (t91 _ _ ast.pb).mono ?_); rintro e w1 ⟨rfl, h1, t1⟩; replace ast := ast.call hg h1 t1; clear h1 t1) | (go_at_call 44; (with_reducible refine (m1 _ _ ast.pb).mono ?_); rintro e w1 ⟨q, i', rfl, h1, t1, z1, z2, z3⟩; replace ast := ast.call hg h1 t1; clear h1 t1; obtain ⟨⟨d0, d1, d2, d3, d4, d5, d6, d7⟩, f0, f1, f2, f3, f4, f5, f6, f7⟩ := b8 ast.zero))
  refine ret28 Try.results38 w.heap.size (.node 1 q 0 0 []) _ rfl (box_set ast.zero (.node 1 q 0 0 []) _) rfl ?_
  exact ⟨.node 1 q 0 0 [], _, i', rfl, .leaf _ _ _ _ _ _, ast.pb.other (touch_set8 _ _ (.node 1 q 0 0 []) _) (by omega), touch_over ast.t (touch_set8 _ _ (.node 1 q 0 0 []) _) (Nat.le_refl _), z1, by omega, z3, by simp only [Tr.nodes, nodesOf]; omega⟩
set_option maxHeartbeats 1000000 in
set_option maxRecDepth 100000 in
theorem atom_grp (u : ByteArray) (i j k l o oo a er s : Nat) (T : Tr) (hi : i ≤ 1000) (hj : j = i + 1) (ho : oo = o + 1) (ho30 : o < 30) (n0 : Mv 30 [] u i o 0 a (.int .i64 40) i 0 a) (al : OkP 13 u j oo a T k) (ms : Mv 40 [.int .u8 41] u k oo 0 a (.tuple #[]) l er s) : ∀ g w, Pb w g u i o 0 a → Calls Try.prog 38 #[.pointer (some ⟨g, 0, none⟩)] w fun e w' => ∃ v, e = .returned (treeV T v) ∧ Is w' (fun b => w.heap.size ≤ b) T v ∧ Pb w' g u l o er s ∧ w.grownBy w' (some g) := by
  intro g w h
  have hg := h.lt
  have ast : Ast w (w.alloc (.cells #[.int .i64 0, .int .u64 0, .int .u64 0, .int .u64 0, .int .u64 0, .int .i64 0, .int .i64 0, .slice none 0 0] 28)) u g i o 0 a := ⟨h.later (below_alloc _ _), box_new w Tr.zero _, touch_alloc (touch_refl _ _) _⟩
  have c3 := ast.pb.c3
  have HJ : Hid (j = i + 1) := hj
  have HO : Hid (oo = o + 1) := ho
  have hoo : decide (30 ≤ o) = false := by rw [decide_eq_false_iff_not]; omega
  have hos : ((oo : Int) - 1) = (o : Int) := by omega
  have hol : oo ≤ 30 := by omega
  clear hj ho
  unfold Mv at n0 ms
  unfold OkP at al
  go_enter Try.func38, Try.ntmps38
  go_wp2_with (first | (go_at_call 30; (with_reducible refine (n0 _ _ ast.pb).mono ?_); rintro e w1 ⟨rfl, h1, t1⟩; replace ast := ast.call hg h1 t1; clear h1 t1; have c2a := ast.pb.c2; have c1 := ast.pb.c1; have f1_ := ast.pb.fz 1; have s1 : Ast w (World.setCell _ ⟨g, 1, none⟩ (.int .i64 ((i : Int) + 1))) u g (i + 1) o 0 a := ast.move hg (i + 1); rw [← HJ.out] at s1; have c2 := s1.pb.c2; have f2_ := s1.pb.fz 2; have s2 : Ast w (World.setCell _ ⟨g, 2, none⟩ (.int .i64 ((o : Int) + 1))) u g j (o + 1) 0 a := s1.opens hg (o + 1); rw [← HO.out] at s2; replace ast := s2; clear s1) | (go_at_call 13; (with_reducible refine (al _ _ ast.pb).mono ?_); rintro e w1 ⟨v, rfl, i0, h1, t1⟩; have hlw := ast.zero.lt; obtain ⟨va, vn, vc, rfl⟩ := i0.shape; replace ast := (ast.call hg h1 t1).later (below_alloc w1 (.cells #[.int .i64 T.kind, .int .u64 T.set.a, .int .u64 T.set.b, .int .u64 T.set.c, .int .u64 T.set.d, .int .i64 T.min, .int .i64 T.max, .slice va vn vc] 28)); have i1 : Is w1 (fun b => w.heap.size < b) T (.slice va vn vc) := i0.weaken (fun b hb => by omega); replace i1 := i1.later (below_alloc w1 (.cells #[.int .i64 T.kind, .int .u64 T.set.a, .int .u64 T.set.b, .int .u64 T.set.c, .int .u64 T.set.d, .int .i64 T.min, .int .i64 T.max, .slice va vn vc] 28)); have hgw1 : g < w1.heap.size := h1.lt; clear h1 t1 i0))
  go_at_call 40
  (with_reducible refine (ms _ _ ast.pb).mono ?_)
  rintro e w2 ⟨rfl, h2, t2⟩
  replace ast := ast.call hg h2 t2
  replace i1 := i1.over (by omega) t2
  have hbx : w1.heap.size ≠ g := by omega
  have bx := Box.keep (box_new w1 T (.slice va vn vc)) t2 hbx
  clear h2 t2
  have c2 := ast.pb.c2
  have f2_ := ast.pb.fz 2
  have s3 := ast.opens hg o
  have tx := b8 bx
  obtain ⟨⟨x0, x1, x2, x3, x4, x5, x6, x7⟩, _⟩ := tx
  obtain ⟨⟨y0, y1, y2, y3, y4, y5, y6, y7⟩, _⟩ := b8 (Box.keep bx (touch_cell _ g 2 (.int .i64 o)) hbx)
  replace ast := s3
  obtain ⟨⟨d0, d1, d2, d3, d4, d5, d6, d7⟩, f0, f1, f2, f3, f4, f5, f6, f7⟩ := b8 ast.zero
  replace i1 := i1.over (g := g) (by omega) (touch_cell _ g 2 (.int .i64 o))
  go_wp2_with (fail)
  refine ret28 Try.results38 w.heap.size T _ rfl (box_set ast.zero T _) rfl ?_
  exact ⟨_, rfl, (i1.carry (touch_set8 _ _ T _).size (fun b hb _ => by omega) (fun b hb hlt => (touch_set8 _ _ T _).block b hlt (fun e => by have := Option.some.inj e; omega))), ast.pb.other (touch_set8 _ _ T _) (by omega), touch_over ast.t (touch_set8 _ _ T _) (Nat.le_refl _)⟩
set_option maxHeartbeats 1000000 in
set_option maxRecDepth 100000 in
theorem atom_grpbad (u : ByteArray) (i j o oo a er s : Nat) (hi : i ≤ 1000) (hj : j = i + 1) (ho : oo = o + 1) (ho30 : o < 30) (n0 : Mv 30 [] u i o 0 a (.int .i64 40) i 0 a) (al : BadP 3 13 u j oo a er s) (ms : er ≠ 0 → ∀ k, Mv 40 [.int .u8 41] u k oo er s (.tuple #[]) k er s) : BadP 1 38 u i o a er s := by
  intro g w h
  have hg := h.lt
  have ast : Ast w (w.alloc (.cells #[.int .i64 0, .int .u64 0, .int .u64 0, .int .u64 0, .int .u64 0, .int .i64 0, .int .i64 0, .slice none 0 0] 28)) u g i o 0 a := ⟨h.later (below_alloc _ _), box_new w Tr.zero _, touch_alloc (touch_refl _ _) _⟩
  have c3 := ast.pb.c3
  have HJ : Hid (j = i + 1) := hj
  have HO : Hid (oo = o + 1) := ho
  have hoo : decide (30 ≤ o) = false := by rw [decide_eq_false_iff_not]; omega
  have hos : ((oo : Int) - 1) = (o : Int) := by omega
  have hol : oo ≤ 30 := by omega
  clear hj ho
  unfold Mv at n0 ms
  unfold BadP at al
  go_enter Try.func38, Try.ntmps38
  go_wp2_with (first | (go_at_call 30; (with_reducible refine (n0 _ _ ast.pb).mono ?_); rintro e w1 ⟨rfl, h1, t1⟩; replace ast := ast.call hg h1 t1; clear h1 t1; have c2a := ast.pb.c2; have c1 := ast.pb.c1; have f1_ := ast.pb.fz 1; have s1 : Ast w (World.setCell _ ⟨g, 1, none⟩ (.int .i64 ((i : Int) + 1))) u g (i + 1) o 0 a := ast.move hg (i + 1); rw [← HJ.out] at s1; have c2 := s1.pb.c2; have f2_ := s1.pb.fz 2; have s2 : Ast w (World.setCell _ ⟨g, 2, none⟩ (.int .i64 ((o : Int) + 1))) u g j (o + 1) 0 a := s1.opens hg (o + 1); rw [← HO.out] at s2; replace ast := s2; clear s1) | (go_at_call 13; (with_reducible refine (al _ _ ast.pb).mono ?_); rintro e w1 ⟨T, v, i9, rfl, i0, h1, t1, z1, z2, z3, z4⟩; have hlw := ast.zero.lt; obtain ⟨va, vn, vc, rfl⟩ := i0.shape; replace ast := (ast.call hg h1 t1).later (below_alloc w1 (.cells #[.int .i64 T.kind, .int .u64 T.set.a, .int .u64 T.set.b, .int .u64 T.set.c, .int .u64 T.set.d, .int .i64 T.min, .int .i64 T.max, .slice va vn vc] 28)); have i1 : Is w1 (fun b => w.heap.size < b) T (.slice va vn vc) := i0.weaken (fun b hb => by omega); replace i1 := i1.later (below_alloc w1 (.cells #[.int .i64 T.kind, .int .u64 T.set.a, .int .u64 T.set.b, .int .u64 T.set.c, .int .u64 T.set.d, .int .i64 T.min, .int .i64 T.max, .slice va vn vc] 28)); have hgw1 : g < w1.heap.size := h1.lt; clear h1 t1 i0))
  go_at_call 40
  (with_reducible refine (ms z1 _ _ _ ast.pb).mono ?_)
  rintro e w2 ⟨rfl, h2, t2⟩
  replace ast := ast.call hg h2 t2
  replace i1 := i1.over (by omega) t2
  have hbx : w1.heap.size ≠ g := by omega
  have bx := Box.keep (box_new w1 T (.slice va vn vc)) t2 hbx
  clear h2 t2
  have c2 := ast.pb.c2
  have f2_ := ast.pb.fz 2
  have s3 := ast.opens hg o
  have tx := b8 bx
  obtain ⟨⟨x0, x1, x2, x3, x4, x5, x6, x7⟩, _⟩ := tx
  obtain ⟨⟨y0, y1, y2, y3, y4, y5, y6, y7⟩, _⟩ := b8 (Box.keep bx (touch_cell _ g 2 (.int .i64 o)) hbx)
  replace ast := s3
  obtain ⟨⟨d0, d1, d2, d3, d4, d5, d6, d7⟩, f0, f1, f2, f3, f4, f5, f6, f7⟩ := b8 ast.zero
  replace i1 := i1.over (g := g) (by omega) (touch_cell _ g 2 (.int .i64 o))
  go_wp2_with (fail)
  refine ret28 Try.results38 w.heap.size T _ rfl (box_set ast.zero T _) rfl ?_
  exact ⟨T, _, i9, rfl, (i1.carry (touch_set8 _ _ T _).size (fun b hb _ => by omega) (fun b hb hlt => (touch_set8 _ _ T _).block b hlt (fun e => by have := Option.some.inj e; omega))), ast.pb.other (touch_set8 _ _ T _) (by omega), touch_over ast.t (touch_set8 _ _ T _) (Nat.le_refl _), z1, by have := HJ.out; omega, z3, by have := HJ.out; omega⟩
end Go.Proofs.Ytjfnefmolhihaaa.st
