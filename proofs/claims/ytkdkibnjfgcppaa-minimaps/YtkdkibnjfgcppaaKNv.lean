/-
  Memory: the document's dfa that is being made, its rows and what it accepts, one behind the other.
-/
import Derived.Test.YtkdkibnjfgcppaaM06
import Derived.Test.YtkdkibnjfgcppaaKNi
import Derived.Test.YtkdkibnjfgcppaaM03
namespace Go.Proofs.Ytkdkibnjfgcppaa.mi
open Go.ChangeShapes Go.WideShapes Go.ChangeAt Go.RowKit Go.Shelf Go.Maps
set_option linter.unusedVariables false

structure T7 (w : World) (B g : Nat) (X : List Nat) (lv : Value) (fs : List Int) (nv av : Value) (vs : List Value) (rs : List (List Int)) (ac : List Bool) : Prop where
  box : DL w g X nv av
  gB : B ≤ g
  ll : w.ownsRow B 3 1 lv fs.length (ivl fs)
  ac : w.ownsRow B 4 1 av ac.length (ac.map Value.bool)
  nx : w.ownsRow B 39 1 nv rs.length vs
  rows : ∀ k, k < rs.length → ∃ v, vs[k]? = some v ∧ w.ownsRow B 3 1 v (nthL rs k).length (ivl (nthL rs k))
theorem own_blk {w : World} {B e n k : Nat} {v : Value} {xs : List Value} (hr : w.ownsRow B e 1 v n xs) (hk : v.ownBlock = some k) : ∃ cur, w.heap[k]? = some (.cells cur e (0, 0)) := by
  rcases hr.2 with ⟨rfl, _⟩ | ⟨gg, cap, cur, rfl, _, hgg, _⟩
  · cases hk
  · cases hk; exact ⟨cur, hgg⟩
/-- what is kept where one row grows and its place in the box is written -/
theorem kept_by {w w' : World} {B g t j : Nat} {cells : Array Value} {nv v' : Value} {m : Nat} {ys : List Value} (hb : w.heap[g]? = some (.cells cells 26 (0, 0))) (hn : w.ownsRow B t 1 nv m ys) (hg : w.grownBy w' nv.ownBlock) {K e n : Nat} {v : Value} {xs : List Value} (h1 : e ≠ t) (h2 : e ≠ 26) (hr : w.ownsRow K e 1 v n xs) : (w'.setCell ⟨g, j, none⟩ v').ownsRow K e 1 v n xs := by
  refine ow.keep hr fun k hk => ?_
  obtain ⟨cur, hcur⟩ := own_blk hr hk
  have hne : k ≠ g := fun e1 => by
    rw [e1, hb] at hcur
    injection hcur with hcur
    injection hcur with _ e2
    exact h2 e2.symm
  rw [Below.heap_setCell w' ⟨g, j, none⟩ v' k hne]
  exact hg.block k (ow.lt hr hk).2 (ow.type hn hcur h1)
section
variable {w w' : World} {B g : Nat} {X : List Nat} {lv : Value} {fs : List Int} {nv av : Value} {vs : List Value} {rs : List (List Int)} {ac : List Bool}
theorem T7.later (h : T7 w B g X lv fs nv av vs rs ac) (b : Below w.heap.size w w') : T7 w' B g X lv fs nv av vs rs ac :=
  ⟨h.box.keep (b.block g h.box.lt), h.gB, ow.later h.ll b, ow.later h.ac b, ow.later h.nx b, fun k hk => by
    obtain ⟨v, e, hv⟩ := h.rows k hk
    exact ⟨v, e, ow.later hv b⟩⟩
theorem nthL_left {rs : List (List Int)} {r : List Int} {k : Nat} (h : k < rs.length) : nthL (rs ++ [r]) k = nthL rs k := by
  unfold nthL
  rw [List.getD_eq_getElem?_getD, List.getD_eq_getElem?_getD, List.getElem?_append_left h]
theorem nthL_last {rs : List (List Int)} {r : List Int} : nthL (rs ++ [r]) rs.length = r := by
  unfold nthL
  rw [List.getD_eq_getElem?_getD, List.getElem?_append_right (Nat.le_refl _)]
  simp
theorem T7.push (h : T7 w B g X lv fs nv av vs rs ac) {v9 : Value} {r : List Int} (hv : w.ownsRow B 3 1 v9 r.length (ivl r)) {v' : Value} (ho : w'.ownsRow B 39 1 v' (rs.length + 1) (vs ++ [v9])) (hg : w.grownBy w' nv.ownBlock) : T7 (w'.setCell ⟨g, 256, none⟩ v') B g X lv fs v' av (vs ++ [v9]) (rs ++ [r]) ac ∧ DL w' g X nv av := by
  have hgl := h.box.lt
  obtain ⟨cells, hb, hC⟩ := h.box
  have hb' : w'.heap[g]? = some (.cells cells 26 (0, 0)) := (hg.block g hgl (ow.type h.nx hb (by decide))).trans hb
  refine ⟨⟨DL.setN ⟨cells, hb', hC⟩ v', h.gB, kept_by hb h.nx hg (by decide) (by decide) h.ll, kept_by hb h.nx hg (by decide) (by decide) h.ac, ?_, fun k hk => ?_⟩, ⟨cells, hb', hC⟩⟩
  · rw [List.length_append]
    exact ow.keep ho fun k hk => Below.heap_setCell w' ⟨g, 256, none⟩ v' k (fun e1 => ow.type ho hb' (by decide) (by rw [← (show k = g from e1), hk]))
  · have hvl : vs.length = rs.length := by have := h.nx.1; omega
    by_cases hki : k < rs.length
    · obtain ⟨v, e, hr⟩ := h.rows k hki
      rw [nthL_left hki]
      exact ⟨v, by rw [List.getElem?_append_left (by omega)]; exact e, kept_by hb h.nx hg (by decide) (by decide) hr⟩
    · obtain rfl : k = rs.length := by rw [List.length_append] at hk; simp at hk; omega
      rw [nthL_last]
      exact ⟨v9, by rw [List.getElem?_append_right (by omega), hvl]; simp, kept_by hb h.nx hg (by decide) (by decide) hv⟩
theorem T7.acc (h : T7 w B g X lv fs nv av vs rs ac) {b : Bool} {v' : Value} (ho : w'.ownsRow B 4 1 v' (ac.length + 1) (ac.map Value.bool ++ [Value.bool b])) (hg : w.grownBy w' av.ownBlock) : T7 (w'.setCell ⟨g, 257, none⟩ v') B g X lv fs nv v' vs rs (ac ++ [b]) ∧ DL w' g X nv av := by
  have hgl := h.box.lt
  obtain ⟨cells, hb, hC⟩ := h.box
  have hb' : w'.heap[g]? = some (.cells cells 26 (0, 0)) := (hg.block g hgl (ow.type h.ac hb (by decide))).trans hb
  refine ⟨⟨DL.setA ⟨cells, hb', hC⟩ v', h.gB, kept_by hb h.ac hg (by decide) (by decide) h.ll, ?_, kept_by hb h.ac hg (by decide) (by decide) h.nx, fun k hk => ?_⟩, ⟨cells, hb', hC⟩⟩
  · rw [List.map_append, List.length_append]
    exact ow.keep ho fun k hk => Below.heap_setCell w' ⟨g, 257, none⟩ v' k (fun e1 => ow.type ho hb' (by decide) (by rw [← (show k = g from e1), hk]))
  · obtain ⟨v, e, hr⟩ := h.rows k hk
    exact ⟨v, e, kept_by hb h.ac hg (by decide) (by decide) hr⟩
theorem dat_own (hac : w.ownsRow B 4 1 av ac.length (ac.map Value.bool)) (hnx : w.ownsRow B 39 1 nv rs.length vs) (hrows : ∀ k, k < rs.length → ∃ v, vs[k]? = some v ∧ w.ownsRow B 3 1 v (nthL rs k).length (ivl (nthL rs k))) {cells : Array Value} (hC : DCells cells X nv av) (hX : X.length = 256) (hX8 : ∀ x ∈ X, x < 256) (hk : ∀ k, B ≤ k → w'.heap[k]? = w.heap[k]?) :
    ∃ o c ao acap, df.DAt (fun b => B ≤ b ∧ b < w'.heap.size) w' ⟨fun i => X.getD i 0, rs, ac⟩ cells o c ao acap := by
  obtain ⟨o, c, e1, h1, h2, h3⟩ := own_row hnx (by have := hnx.1; omega) hk
  obtain ⟨ao, acap, e4, h4, h5, h6⟩ := own_row hac (by simp) hk
  refine ⟨o, c, ao, acap, hC.size, fun i hi => ?_, fun i => ?_, ?_, ?_, ⟨h1, h2, fun i hi => ?_⟩, ⟨h4, h5, fun i hi => ?_⟩⟩
  · rw [hC.cl i hi]
    show _ = some (Value.int .u8 (X.getD i 0 : Nat))
    rw [List.getD_eq_getElem?_getD, List.getElem?_eq_getElem (by omega)]
    rfl
  · show X.getD i 0 < 256
    rw [List.getD_eq_getElem?_getD]
    cases hx : X[i]? with
    | none => simp
    | some x => exact hX8 x (List.mem_of_getElem? hx)
  · rw [hC.nx, e1]
  · rw [hC.ac, e4]
  · have hi' : i < rs.length := hi
    obtain ⟨v, ev, hv⟩ := hrows i hi'
    obtain ⟨gq, eq, hq1, hq2, hq3⟩ := h3 i v ev
    have ei : nthL rs i = rs[i] := by unfold nthL; rw [List.getD_eq_getElem?_getD, List.getElem?_eq_getElem hi']; rfl
    rw [ei] at hv
    obtain ⟨ro, rc, rfl, r1, r2, r3⟩ := own_row hv (by simp [ivl]) hk
    refine ⟨gq, 0, ro, rc, eq, ⟨hq1, hq2⟩, by rw [Nat.zero_add]; exact hq3, ⟨r1, r2, fun j hj => ?_⟩⟩
    obtain ⟨g3, e3, k1, k2, k3⟩ := r3 j (.int .i64 rs[i][j]) (by unfold ivl; rw [List.getElem?_map, List.getElem?_eq_getElem hj]; rfl)
    exact ⟨g3, 0, e3, ⟨k1, k2⟩, by rw [Nat.zero_add]; exact k3⟩
  · have hi' : i < ac.length := hi
    obtain ⟨gq, eq, hq1, hq2, hq3⟩ := h6 i (.bool ac[i]) (by rw [List.getElem?_map, List.getElem?_eq_getElem hi']; rfl)
    exact ⟨gq, 0, eq, ⟨hq1, hq2⟩, by rw [Nat.zero_add]; exact hq3⟩
theorem T7.dat (h : T7 w B g X lv fs nv av vs rs ac) {cells : Array Value} (hC : DCells cells X nv av) (hX : X.length = 256) (hX8 : ∀ x ∈ X, x < 256) (hk : ∀ k, B ≤ k → w'.heap[k]? = w.heap[k]?) :
    ∃ o c ao acap, df.DAt (fun b => B ≤ b ∧ b < w'.heap.size) w' ⟨fun i => X.getD i 0, rs, ac⟩ cells o c ao acap := dat_own h.ac h.nx h.rows hC hX hX8 hk
end
section
variable {o : Oper} {a : Act} {w : World}
theorem y_idx39 {x y : Operand} {g i n c s : Nat} (h : o.op = .indexAddr 39 x y) (hx : a.eval x = .slice (some ⟨g, i, none⟩) n c) (hy : a.eval y = .int .i64 (s : Int)) (hs : s < n) (hn : n ≤ 1000) : (execOp a.eval o).run Try.prog w = .ok (.value (.pointer (some ⟨g, i + s, none⟩))) w := by
  unfold execOp
  rw [h]
  simp only [hx, hy]
  go_simp
theorem y_load3 {x : Operand} {g i : Nat} {v : Value} (h : o.op = .load 3 x) (hx : a.eval x = .pointer (some ⟨g, i, none⟩)) (hc : w.cell? ⟨g, i, none⟩ = some v) : (execOp a.eval o).run Try.prog w = .ok (.value v) w := by
  unfold execOp
  rw [h]
  simp only [hx]
  go_simp
end
end Go.Proofs.Ytkdkibnjfgcppaa.mi
