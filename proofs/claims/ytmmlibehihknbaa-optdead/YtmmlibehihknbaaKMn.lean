/-
  Contracts over this program: the document's Apply (fretsawref13).
-/
import Derived.Test.YtmmlibehihknbaaM03
namespace Go.Proofs.Ytmmlibehihknbaa.mg
open Go.ChangeShapes Go.WideShapes Go.ChangeAt Go.RowKit Go.Shelf Go.Maps
set_option linter.unusedVariables false
set_option maxRecDepth 100000

section
variable {o : Oper} {a : Act} {w : World}
theorem x_load3 {x : Operand} {p : Addr} {v : Value} (h : o.op = .load 3 x) (hx : a.eval x = .pointer (some p)) (hc : w.cell? p = some v) : (execOp a.eval o).run Try.prog w = .ok (.value v) w := by
  unfold execOp; rw [h]; simp only [hx]; go_simp
theorem x_index25 {x y : Operand} {b off n cap i : Nat} (h : o.op = .indexAddr 25 x y) (hx : a.eval x = .slice (some ⟨b, off, none⟩) n cap) (hy : a.eval y = .int .i64 (i : Int)) (hi : i < n) : (execOp a.eval o).run Try.prog w = .ok (.value (.pointer (some ⟨b, off + i, none⟩))) w := by
  have h1 : (i : Int) < (n : Int) := by omega
  unfold execOp; rw [h]; simp only [hx, hy]; go_simp
theorem x_add1 {x : Operand} {i : Nat} (h : o.op = .binOp .add 3 x (.const (.int .i64 1)) 3) (hx : a.eval x = .int .i64 (i : Int)) (hi : i ≤ 1000000) : (execOp a.eval o).run Try.prog w = .ok (.value (.int .i64 ((i + 1 : Nat) : Int))) w := by
  have h1 : (i : Int) + 1 ≤ 9223372036854775807 := by omega
  rw [show ((i + 1 : Nat) : Int) = (i : Int) + 1 from rfl]
  unfold execOp; rw [h]; simp only [hx]; go_simp
  exact IntWalk.i64_in _ (by omega)
end
def bestOf (p : Nat × Int) : Int := if p.2 < 0 then -1 else (p.1 : Int)
theorem rk_rkv {l : List Mg} {ids : List Int} {i : Nat} (h : i + 1 < ids.length) (hl : l.length ≤ 1024) : (rkv l (ids[i], ids[i + 1]) = -1 ∧ rk l ids i = 1024) ∨ (∃ k : Nat, rkv l (ids[i], ids[i + 1]) = (k : Int) ∧ rk l ids i = k ∧ k < 1024) := by
  by_cases hm : (ids[i], ids[i + 1]) ∈ l
  · right
    refine ⟨l.idxOf (ids[i], ids[i + 1]), by unfold rkv; rw [if_pos hm], rk_in h hm, ?_⟩
    have := List.idxOf_lt_length_of_mem hm
    omega
  · left
    exact ⟨rkv_no hm, rk_out h hm⟩
/-- what the best so far is -/
theorem lst_cases (f : Nat → Nat) (i : Nat) : (lst f i = (1024, -1)) ∨ (∃ r k : Nat, lst f i = (r, (k : Int)) ∧ r < 1024 ∧ k < i) := by
  rcases lst_spec f i with ⟨a, b, c⟩ | ⟨j, a, b, c, d, e, g⟩
  · exact .inl (Prod.ext b a)
  · exact .inr ⟨(lst f i).1, j, Prod.ext rfl a, d, b⟩
def lenOf : Value → Nat
  | .slice _ n _ => n
  | _ => 0
theorem ostart {w W : World} {v : Value} {l : List Int} (i : Nat) (h : Owns W w.heap.size v l) (hi : i = l.length) : ∃ (tg : Option Addr) (tc : Nat), v = .slice tg i tc ∧ i ≤ tc ∧ tc ≤ 9223372036854775807 ∧ Hid (Owns W w.heap.size (.slice tg i tc) l) := by
  obtain ⟨tg, tc, e, h1, h2⟩ := ow.form h
  subst e hi
  exact ⟨tg, tc, rfl, h1, h2, h⟩
theorem lst_end {l : List Mg} {is : List Int} {j : Nat} (h : ¬ j + 1 < is.length) (hj : j = 0 ∨ j < is.length) : lst (rk l is) is.length = lst (rk l is) j := by
  by_cases h0 : is.length = 0
  · have : j = 0 := by omega
    rw [h0, this]
  · have e : is.length = j + 1 := by omega
    rw [e, lst, if_neg]
    rw [rk_last e.symm]
    rcases lst_cases (rk l is) j with h1 | ⟨r, k, h1, h2, h3⟩
    · rw [h1]; simp
    · rw [h1]; simp; omega
def cnt (k i : Nat) : Nat := if i ≤ k + 1 then i else i - 1
theorem cnt_at {k i : Nat} (h : i = k) : cnt k (i + 1) = cnt k i + 1 ∧ cnt k i = k := by subst h; simp [cnt]
theorem cnt_skip {k i : Nat} (h : i = k + 1) : cnt k (i + 1) = cnt k i := by subst h; simp [cnt]
theorem cnt_low {k i : Nat} (h : i < k) : cnt k (i + 1) = cnt k i + 1 ∧ cnt k i = i := by unfold cnt; constructor <;> split <;> (try split) <;> omega
theorem cnt_high {k i : Nat} (h : k + 1 < i) : cnt k (i + 1) = cnt k i + 1 ∧ cnt k i = i - 1 := by unfold cnt; constructor <;> split <;> (try split) <;> omega
theorem cnt_le {k i n : Nat} (h : i ≤ n + 1) (hk : k + 1 ≤ n) : cnt k i ≤ n := by unfold cnt; split <;> omega
theorem take_next {l : List Int} {n : Nat} {x : Int} (h : n < l.length) (hx : l.getD n 0 = x) : l.take (n + 1) = l.take n ++ [x] := by
  rw [List.take_add_one, List.getElem?_eq_getElem h]
  rw [List.getD_eq_getElem?_getD, List.getElem?_eq_getElem h] at hx
  simp at hx
  rw [hx]
  rfl
theorem take_len {l : List Int} {i : Nat} (h : i ≤ l.length) : (l.take i).length = i := by rw [List.length_take]; omega
def MergedOwn (l : List Mg) (ids : List Int) (w : World) (e : Ending) (W' : World) : Prop := ∃ v', e = .returned v' ∧ Owns W' w.heap.size v' (app l ids) ∧ Below w.heap.size w W'
set_option maxHeartbeats 4000000 in
set_option maxRecDepth 100000 in
theorem rapply_any (l : List Mg) (hl4 : l.length ≤ 1024) (ids : List Int) (hl : ids.length ≤ 100000) (v vs : Value) (w : World) (hv : Mgs w v l) (hs : IntsV w vs ids) : Calls Try.prog 33 #[v, vs] w (MergedOwn l ids w) := by
  have HV : Hid (∀ W, Below w.heap.size w W → ∀ a b r, r = rkv l (a, b) → Calls Try.prog 38 #[v, .int .i64 a, .int .i64 b] W fun e w' => e = .returned (.int .i64 r) ∧ Below W.heap.size W w') := fun W b a c r hr => rank_any l a c r hr v W (hv.later b)
  obtain ⟨o, cap, rfl, f1, f2, _⟩ := hv.form
  obtain ⟨o', cap', rfl, hrow⟩ := id hs
  have f3 := hrow.fit
  have f4 := hrow.top
  have HR : Hid (Row (In w) w iv o' cap' ids) := hrow
  clear hv hs hrow
  have O0 := World.ownsRow_made (e := 3) (size := 1) w #[] 0 (Nat.le_refl _) (Nat.zero_le _) rfl
  have BB0 := below_alloc w (.cells #[] 3)
  go_enter Try.func33, Try.ntmps33
  go_wp2_with (fail)
  generalize w.alloc (.cells #[] 3) = w1 at *
  go_loopw [17, 5] (fun y x wr => ∃ (i : Nat) (tg : Option Addr) (tc : Nat), y = .int .i64 i ∧ x = .slice tg i tc ∧ i ≤ ids.length ∧ i ≤ tc ∧ tc ≤ 9223372036854775807 ∧ Hid (Owns wr w.heap.size (.slice tg i tc) (ids.take i)) ∧ Below w.heap.size w wr) (fun y _ _ => ids.length - (intOf y).toNat)
  case atStart =>
    obtain ⟨tg, tc, h1, h2, h3, h4⟩ := ostart (w := w) (W := w1) (l := []) 0 O0 rfl
    exact ⟨0, tg, tc, rfl, h1, by omega, h2, h3, by rw [List.take_zero]; exact h4, BB0⟩
  case round =>
    clear O0 BB0
    obtain ⟨i, tg, tc, rfl, rfl, hi, tf1, tf2, HO, hB⟩ := hrel
    by_cases hend : i < ids.length
    · obtain ⟨b, off, rfl, hb, hc⟩ := HR.out.lie i hend
      have k1 := (hB.cell (p := ⟨b, off + i, none⟩) hb).trans hc
      have HT : Hid (ids.take (i + 1) = ids.take i ++ [ids[i]]) := by show _ = _; rw [List.take_add_one, List.getElem?_eq_getElem hend]; rfl
      have HO1 : Hid (wr.ownsRow w.heap.size 3 1 (.slice tg i tc) i ((ids.take i).map (Value.int .i64))) := by have := HO.out; unfold Owns at this; rw [take_len hi] at this; exact this
      generalize ids[i] = x at *
      have HO2 := (show Hid _ from ow.later HO1.out (below_alloc wr (.cells #[.int .i64 x] 3)))
      have HN2 := (show Hid _ from ow.new1 wr (.int .i64 x) 3)
      have hB2 := hB.alloc hB.size (.cells #[.int .i64 x] 3)
      have hBw : w.heap.size ≤ (wr.alloc (.cells #[.int .i64 x] 3)).heap.size := hB2.size
      clear HO HO1 hc
      go_wp2_with (at_builtin; refine ow.wpList_append (by rfl) (.tmp 21) (.tmp 23) 25 (by rfl) 3 (.int .i64 0) 1 8 Try.underlying25 info3 (by rfl) (by decide) (by decide) w.heap.size (.slice tg i tc) i ((ids.take i).map (Value.int .i64)) wr.heap.size [.int .i64 x] (by rfl) (by rfl) (by exact HO2.out) (by rfl) (by exact HN2.out) (by exact ow.one1 _ rfl) (by omega) (by exact hBw) ?_; intro g' cap2 w3 ho hgr hw3)
      have B4 : Below w.heap.size w w3 := hB2.grown hgr hB2.size (by intro k hk; exact (ow.lt HO2.out hk).1)
      have ho2 : Owns w3 w.heap.size (.slice (some ⟨g', 0, none⟩) (i + 1) cap2) (ids.take (i + 1)) := by
        unfold Owns
        rw [take_len (by omega), HT.out, List.map_append]
        exact ho
      obtain ⟨tg3, tc3, h1, h2, h3, h4⟩ := ostart (i + 1) ho2 (by rw [take_len (by omega)])
      go_roundw
      case rel => exact ⟨i + 1, tg3, tc3, by go_num, h1, by omega, h2, h3, h4, B4⟩
      case measure => simp [intOf]; omega
    · have HO1 : Hid (Owns wr w.heap.size (.slice tg i tc) ids) := by have := HO.out; rwa [List.take_of_length_le (by omega)] at this
      have HIE : Hid (i = ids.length) := by show _ = _; omega
      clear HO HR
      go_wp2_with (fail)
      generalize wr = wq at *
      go_loopw [5] (fun x wr => ∃ (is : List Int) (tg : Option Addr) (tc : Nat), x = .slice tg is.length tc ∧ is.length ≤ 100000 ∧ is.length ≤ tc ∧ tc ≤ 9223372036854775807 ∧ Hid (Owns wr w.heap.size (.slice tg is.length tc) is) ∧ Hid (app l is = app l ids) ∧ Below w.heap.size w wr) (fun x _ => lenOf x)
      case atStart =>
        have e := HIE.out
        exact ⟨ids, tg, tc, by rw [e], hl, by omega, tf2, by rw [← e]; exact HO1.out, rfl, hB⟩
      case round =>
        clear HO1 HIE hB
        obtain ⟨is, tg, tc, rfl, hisl, tf1, tf2, HO, HA, hB⟩ := hrel
        generalize wr = wo at *
        have kB : Below wo.heap.size wo wo := Below.refl _ _
        have HCS := (show Hid _ from fun j => lst_cases (rk l is) j)
        go_wp2_with (fail)
        go_loopw [10, 8, 9] (fun y x z wr => ∃ j : Nat, y = .int .i64 j ∧ x = .int .i64 (bestOf (lst (rk l is) j)) ∧ z = .int .i64 (lst (rk l is) j).2 ∧ (j = 0 ∨ j < is.length) ∧ Below wo.heap.size wo wr) (fun y _ _ _ => is.length - (intOf y).toNat)
        case atStart => exact ⟨0, rfl, rfl, rfl, .inl rfl, kB⟩
        case round =>
          obtain ⟨j, rfl, rfl, rfl, hj, hB1⟩ := hrel
          by_cases hend : j + 1 < is.length
          · have hjl : j < is.length := by omega
            obtain ⟨g, cg, e, hgl, hce⟩ := ow.cell (ow.later HO.out hB1) j (by rw [List.length_map]; exact hjl)
            obtain ⟨g2, cg2, e2, hgl2, hce2⟩ := ow.cell (ow.later HO.out hB1) (j + 1) (by rw [List.length_map]; exact hend)
            obtain ⟨rfl, rfl⟩ : tg = some ⟨g, 0, none⟩ ∧ tc = cg := by simpa using e
            obtain ⟨rfl, rfl⟩ : g = g2 ∧ tc = cg2 := by simpa using e2
            rw [List.getElem_map] at hce hce2
            have hR := rk_rkv hend hl4
            have hend2 : (j : Int) + 1 < (is.length : Int) := by omega
            have HST : Hid (lst (rk l is) (j + 1) = if rk l is j < (lst (rk l is) j).1 then (rk l is j, (j : Int)) else lst (rk l is) j) := rfl
            have hC := HCS.out j
            have c18 := fun W (b : Below w.heap.size w W) => HV.out W b is[j] is[j + 1] _ rfl
            generalize is[j] = x at *
            generalize is[j + 1] = y at *
            clear e e2 hj
            have hR1 : ∀ z, rkv l (x, y) = z → ∀ W, Below w.heap.size w W → Calls Try.prog 38 #[.slice o l.length cap, .int .i64 x, .int .i64 y] W fun e w' => e = .returned (.int .i64 z) ∧ Below W.heap.size W w' := fun z hz W b => HV.out W b x y z hz.symm
            clear c18 HV
            rcases hR with ⟨e1, e2⟩ | ⟨k, e1, e2, hk⟩
            · have HL : Hid (lst (rk l is) (j + 1) = lst (rk l is) j) := by
                show _ = _
                rw [HST.out, if_neg]
                rcases hC with h1 | ⟨r, k, h1, h2, h3⟩
                · rw [h1, e2]; simp
                · rw [h1, e2]; simp; omega
              have c18 := hR1 _ e1
              clear hR1 e1 e2 HST hC HCS
              generalize lst (rk l is) j = p at *
              generalize hq : bestOf p = q at *
              have HQ : Hid (bestOf p = q) := hq
              clear hq
              go_wp2_with (fail)
              have kR : Below wr.heap.size wr wr := Below.refl _ _
              refine wp_region_held (S := fun W => Below wr.heap.size wr W) (by kernel_rfl) ?_
              refine rg.take_op (i := 0) 33 rfl rfl (rg.yields_run rfl (v := .slice o l.length cap) (fun W h => rg.x_move rfl rfl)) (by kernel_rfl) (by kernel_rfl) (by kernel_rfl) (fun _ _ _ h => h) kR.drew ?_
              simp only [Act.put, List.setIfInBounds_toArray, List.set_cons_zero, List.set_cons_succ]
              refine rg.take_op (i := 1) 34 rfl rfl (rg.yields_run rfl (v := .slice (some ⟨g, 0, none⟩) is.length tc) (fun W h => rg.x_move rfl rfl)) (by kernel_rfl) (by kernel_rfl) (by kernel_rfl) (fun _ _ _ h => h) kR.drew ?_
              simp only [Act.put, List.setIfInBounds_toArray, List.set_cons_zero, List.set_cons_succ]
              refine rg.take_op (i := 2) 35 rfl rfl (rg.yields_run rfl (v := .int .i64 (j : Int)) (fun W h => rg.x_move rfl rfl)) (by kernel_rfl) (by kernel_rfl) (by kernel_rfl) (fun _ _ _ h => h) kR.drew ?_
              simp only [Act.put, List.setIfInBounds_toArray, List.set_cons_zero, List.set_cons_succ]
              refine rg.take_op (i := 3) 36 rfl rfl (rg.yields_run rfl (v := .pointer (some ⟨g, 0 + j, none⟩)) (fun W h => x_index25 (x := .tmp 34) (y := .tmp 35) rfl rfl rfl hjl)) (by kernel_rfl) (by kernel_rfl) (by kernel_rfl) (fun _ _ _ h => h) kR.drew ?_
              simp only [Act.put, List.setIfInBounds_toArray, List.set_cons_zero, List.set_cons_succ]
              refine rg.take_op (i := 4) 37 rfl rfl (rg.yields_run rfl (v := .int .i64 x) (fun W h => x_load3 (x := .tmp 36) rfl rfl (by rw [Nat.zero_add, Below.cell h hgl]; exact hce))) (by kernel_rfl) (by kernel_rfl) (by kernel_rfl) (fun _ _ _ h => h) kR.drew ?_
              simp only [Act.put, List.setIfInBounds_toArray, List.set_cons_zero, List.set_cons_succ]
              refine rg.take_op (i := 5) 38 rfl rfl (rg.yields_run rfl (v := .slice (some ⟨g, 0, none⟩) is.length tc) (fun W h => rg.x_move rfl rfl)) (by kernel_rfl) (by kernel_rfl) (by kernel_rfl) (fun _ _ _ h => h) kR.drew ?_
              simp only [Act.put, List.setIfInBounds_toArray, List.set_cons_zero, List.set_cons_succ]
              refine rg.take_op (i := 6) 39 rfl rfl (rg.yields_run rfl (v := .int .i64 (j : Int)) (fun W h => rg.x_move rfl rfl)) (by kernel_rfl) (by kernel_rfl) (by kernel_rfl) (fun _ _ _ h => h) kR.drew ?_
              simp only [Act.put, List.setIfInBounds_toArray, List.set_cons_zero, List.set_cons_succ]
              refine rg.take_op (i := 7) 40 rfl rfl (rg.yields_run rfl (v := .int .i64 ((j + 1 : Nat) : Int)) (fun W h => x_add1 (x := .tmp 39) rfl rfl (by omega))) (by kernel_rfl) (by kernel_rfl) (by kernel_rfl) (fun _ _ _ h => h) kR.drew ?_
              simp only [Act.put, List.setIfInBounds_toArray, List.set_cons_zero, List.set_cons_succ]
              refine rg.take_op (i := 8) 41 rfl rfl (rg.yields_run rfl (v := .pointer (some ⟨g, 0 + (j + 1), none⟩)) (fun W h => x_index25 (x := .tmp 38) (y := .tmp 40) rfl rfl rfl hend)) (by kernel_rfl) (by kernel_rfl) (by kernel_rfl) (fun _ _ _ h => h) kR.drew ?_
              simp only [Act.put, List.setIfInBounds_toArray, List.set_cons_zero, List.set_cons_succ]
              refine rg.take_op (i := 9) 42 rfl rfl (rg.yields_run rfl (v := .int .i64 y) (fun W h => x_load3 (x := .tmp 41) rfl rfl (by rw [Nat.zero_add, Below.cell h hgl]; exact hce2))) (by kernel_rfl) (by kernel_rfl) (by kernel_rfl) (fun _ _ _ h => h) kR.drew ?_
              simp only [Act.put, List.setIfInBounds_toArray, List.set_cons_zero, List.set_cons_succ]
              refine rg.call_op 10 43 (f := 38) (args := #[.slice o l.length cap, .int .i64 x, .int .i64 y]) (by kernel_rfl) rfl rfl rfl (by kernel_rfl) ?_
              refine (c18 _ (hB.trans ((below_drewN hB1 1).mono hB.size))).mono ?_
              rintro e w5 ⟨rfl, b5⟩
              have k5 : Below wr.heap.size wr w5 := kR.drew.trans b5
              refine ⟨_, rfl, k5, ?_⟩
              simp only [Act.put, List.setIfInBounds_toArray, List.set_cons_zero, List.set_cons_succ]
              refine rg.take_op (i := 11) 11 rfl rfl (rg.yields_run rfl (v := .int .i64 (-1)) (fun W h => by kernel_rfl)) (by kernel_rfl) (by kernel_rfl) (by kernel_rfl) (fun _ _ _ h => h) k5 ?_
              simp only [Act.put, List.setIfInBounds_toArray, List.set_cons_zero, List.set_cons_succ]
              refine rg.done_op (by kernel_rfl) ?_
              have hB5 : Below wo.heap.size wo w5 := hB1.trans (k5.mono hB1.size)
              go_wp2_with (fail)
              go_roundw
              case rel => exact ⟨j + 1, by go_num, by rw [HL.out, HQ.out], by rw [HL.out], .inr (by omega), hB5⟩
              case measure => simp [intOf]; omega
            · have c18 := hR1 _ e1
              rcases hC with h1 | ⟨r, k', h1, h2, h3⟩
              · have HL : Hid (lst (rk l is) (j + 1) = (k, (j : Int))) := by
                  show _ = _
                  rw [HST.out, if_pos (by rw [h1, e2]; exact hk), e2]
                rw [h1, show bestOf (1024, -1) = -1 from rfl]
                clear hR1 e1 e2 HST h1 HCS
                go_wp2_with (fail)
                have kR : Below wr.heap.size wr wr := Below.refl _ _
                refine wp_region_held (S := fun W => Below wr.heap.size wr W) (by kernel_rfl) ?_
                refine rg.take_op (i := 0) 33 rfl rfl (rg.yields_run rfl (v := .slice o l.length cap) (fun W h => rg.x_move rfl rfl)) (by kernel_rfl) (by kernel_rfl) (by kernel_rfl) (fun _ _ _ h => h) kR.drew ?_
                simp only [Act.put, List.setIfInBounds_toArray, List.set_cons_zero, List.set_cons_succ]
                refine rg.take_op (i := 1) 34 rfl rfl (rg.yields_run rfl (v := .slice (some ⟨g, 0, none⟩) is.length tc) (fun W h => rg.x_move rfl rfl)) (by kernel_rfl) (by kernel_rfl) (by kernel_rfl) (fun _ _ _ h => h) kR.drew ?_
                simp only [Act.put, List.setIfInBounds_toArray, List.set_cons_zero, List.set_cons_succ]
                refine rg.take_op (i := 2) 35 rfl rfl (rg.yields_run rfl (v := .int .i64 (j : Int)) (fun W h => rg.x_move rfl rfl)) (by kernel_rfl) (by kernel_rfl) (by kernel_rfl) (fun _ _ _ h => h) kR.drew ?_
                simp only [Act.put, List.setIfInBounds_toArray, List.set_cons_zero, List.set_cons_succ]
                refine rg.take_op (i := 3) 36 rfl rfl (rg.yields_run rfl (v := .pointer (some ⟨g, 0 + j, none⟩)) (fun W h => x_index25 (x := .tmp 34) (y := .tmp 35) rfl rfl rfl hjl)) (by kernel_rfl) (by kernel_rfl) (by kernel_rfl) (fun _ _ _ h => h) kR.drew ?_
                simp only [Act.put, List.setIfInBounds_toArray, List.set_cons_zero, List.set_cons_succ]
                refine rg.take_op (i := 4) 37 rfl rfl (rg.yields_run rfl (v := .int .i64 x) (fun W h => x_load3 (x := .tmp 36) rfl rfl (by rw [Nat.zero_add, Below.cell h hgl]; exact hce))) (by kernel_rfl) (by kernel_rfl) (by kernel_rfl) (fun _ _ _ h => h) kR.drew ?_
                simp only [Act.put, List.setIfInBounds_toArray, List.set_cons_zero, List.set_cons_succ]
                refine rg.take_op (i := 5) 38 rfl rfl (rg.yields_run rfl (v := .slice (some ⟨g, 0, none⟩) is.length tc) (fun W h => rg.x_move rfl rfl)) (by kernel_rfl) (by kernel_rfl) (by kernel_rfl) (fun _ _ _ h => h) kR.drew ?_
                simp only [Act.put, List.setIfInBounds_toArray, List.set_cons_zero, List.set_cons_succ]
                refine rg.take_op (i := 6) 39 rfl rfl (rg.yields_run rfl (v := .int .i64 (j : Int)) (fun W h => rg.x_move rfl rfl)) (by kernel_rfl) (by kernel_rfl) (by kernel_rfl) (fun _ _ _ h => h) kR.drew ?_
                simp only [Act.put, List.setIfInBounds_toArray, List.set_cons_zero, List.set_cons_succ]
                refine rg.take_op (i := 7) 40 rfl rfl (rg.yields_run rfl (v := .int .i64 ((j + 1 : Nat) : Int)) (fun W h => x_add1 (x := .tmp 39) rfl rfl (by omega))) (by kernel_rfl) (by kernel_rfl) (by kernel_rfl) (fun _ _ _ h => h) kR.drew ?_
                simp only [Act.put, List.setIfInBounds_toArray, List.set_cons_zero, List.set_cons_succ]
                refine rg.take_op (i := 8) 41 rfl rfl (rg.yields_run rfl (v := .pointer (some ⟨g, 0 + (j + 1), none⟩)) (fun W h => x_index25 (x := .tmp 38) (y := .tmp 40) rfl rfl rfl hend)) (by kernel_rfl) (by kernel_rfl) (by kernel_rfl) (fun _ _ _ h => h) kR.drew ?_
                simp only [Act.put, List.setIfInBounds_toArray, List.set_cons_zero, List.set_cons_succ]
                refine rg.take_op (i := 9) 42 rfl rfl (rg.yields_run rfl (v := .int .i64 y) (fun W h => x_load3 (x := .tmp 41) rfl rfl (by rw [Nat.zero_add, Below.cell h hgl]; exact hce2))) (by kernel_rfl) (by kernel_rfl) (by kernel_rfl) (fun _ _ _ h => h) kR.drew ?_
                simp only [Act.put, List.setIfInBounds_toArray, List.set_cons_zero, List.set_cons_succ]
                refine rg.call_op 10 43 (f := 38) (args := #[.slice o l.length cap, .int .i64 x, .int .i64 y]) (by kernel_rfl) rfl rfl rfl (by kernel_rfl) ?_
                refine (c18 _ (hB.trans ((below_drewN hB1 1).mono hB.size))).mono ?_
                rintro e w5 ⟨rfl, b5⟩
                have k5 : Below wr.heap.size wr w5 := kR.drew.trans b5
                refine ⟨_, rfl, k5, ?_⟩
                simp only [Act.put, List.setIfInBounds_toArray, List.set_cons_zero, List.set_cons_succ]
                refine rg.take_op (i := 11) 11 rfl rfl (rg.yields_run rfl (v := .int .i64 (k : Int)) (fun W h => by kernel_rfl)) (by kernel_rfl) (by kernel_rfl) (by kernel_rfl) (fun _ _ _ h => h) k5 ?_
                simp only [Act.put, List.setIfInBounds_toArray, List.set_cons_zero, List.set_cons_succ]
                refine rg.done_op (by kernel_rfl) ?_
                have hB5 : Below wo.heap.size wo w5 := hB1.trans (k5.mono hB1.size)
                go_wp2_with (fail)
                go_roundw
                case rel => exact ⟨j + 1, by go_num, by rw [HL.out]; unfold bestOf; rw [if_neg (by simp only; omega)], by rw [HL.out], .inr (by omega), hB5⟩
                case measure => simp [intOf]; omega
              · rw [h1, show bestOf (r, (k' : Int)) = (r : Int) by unfold bestOf; rw [if_neg (by simp only; omega)]]
                by_cases hkr : k < r
                · have HL : Hid (lst (rk l is) (j + 1) = (k, (j : Int))) := by
                    show _ = _
                    rw [HST.out, if_pos (by rw [h1, e2]; exact hkr), e2]
                  have hkr2 : (k : Int) < (r : Int) := by omega
                  clear hR1 e1 e2 HST h1 HCS
                  go_wp2_with (fail)
                  have kR : Below wr.heap.size wr wr := Below.refl _ _
                  refine wp_region_held (S := fun W => Below wr.heap.size wr W) (by kernel_rfl) ?_
                  refine rg.take_op (i := 0) 33 rfl rfl (rg.yields_run rfl (v := .slice o l.length cap) (fun W h => rg.x_move rfl rfl)) (by kernel_rfl) (by kernel_rfl) (by kernel_rfl) (fun _ _ _ h => h) kR.drew ?_
                  simp only [Act.put, List.setIfInBounds_toArray, List.set_cons_zero, List.set_cons_succ]
                  refine rg.take_op (i := 1) 34 rfl rfl (rg.yields_run rfl (v := .slice (some ⟨g, 0, none⟩) is.length tc) (fun W h => rg.x_move rfl rfl)) (by kernel_rfl) (by kernel_rfl) (by kernel_rfl) (fun _ _ _ h => h) kR.drew ?_
                  simp only [Act.put, List.setIfInBounds_toArray, List.set_cons_zero, List.set_cons_succ]
                  refine rg.take_op (i := 2) 35 rfl rfl (rg.yields_run rfl (v := .int .i64 (j : Int)) (fun W h => rg.x_move rfl rfl)) (by kernel_rfl) (by kernel_rfl) (by kernel_rfl) (fun _ _ _ h => h) kR.drew ?_
                  simp only [Act.put, List.setIfInBounds_toArray, List.set_cons_zero, List.set_cons_succ]
                  refine rg.take_op (i := 3) 36 rfl rfl (rg.yields_run rfl (v := .pointer (some ⟨g, 0 + j, none⟩)) (fun W h => x_index25 (x := .tmp 34) (y := .tmp 35) rfl rfl rfl hjl)) (by kernel_rfl) (by kernel_rfl) (by kernel_rfl) (fun _ _ _ h => h) kR.drew ?_
                  simp only [Act.put, List.setIfInBounds_toArray, List.set_cons_zero, List.set_cons_succ]
                  refine rg.take_op (i := 4) 37 rfl rfl (rg.yields_run rfl (v := .int .i64 x) (fun W h => x_load3 (x := .tmp 36) rfl rfl (by rw [Nat.zero_add, Below.cell h hgl]; exact hce))) (by kernel_rfl) (by kernel_rfl) (by kernel_rfl) (fun _ _ _ h => h) kR.drew ?_
                  simp only [Act.put, List.setIfInBounds_toArray, List.set_cons_zero, List.set_cons_succ]
                  refine rg.take_op (i := 5) 38 rfl rfl (rg.yields_run rfl (v := .slice (some ⟨g, 0, none⟩) is.length tc) (fun W h => rg.x_move rfl rfl)) (by kernel_rfl) (by kernel_rfl) (by kernel_rfl) (fun _ _ _ h => h) kR.drew ?_
                  simp only [Act.put, List.setIfInBounds_toArray, List.set_cons_zero, List.set_cons_succ]
                  refine rg.take_op (i := 6) 39 rfl rfl (rg.yields_run rfl (v := .int .i64 (j : Int)) (fun W h => rg.x_move rfl rfl)) (by kernel_rfl) (by kernel_rfl) (by kernel_rfl) (fun _ _ _ h => h) kR.drew ?_
                  simp only [Act.put, List.setIfInBounds_toArray, List.set_cons_zero, List.set_cons_succ]
                  refine rg.take_op (i := 7) 40 rfl rfl (rg.yields_run rfl (v := .int .i64 ((j + 1 : Nat) : Int)) (fun W h => x_add1 (x := .tmp 39) rfl rfl (by omega))) (by kernel_rfl) (by kernel_rfl) (by kernel_rfl) (fun _ _ _ h => h) kR.drew ?_
                  simp only [Act.put, List.setIfInBounds_toArray, List.set_cons_zero, List.set_cons_succ]
                  refine rg.take_op (i := 8) 41 rfl rfl (rg.yields_run rfl (v := .pointer (some ⟨g, 0 + (j + 1), none⟩)) (fun W h => x_index25 (x := .tmp 38) (y := .tmp 40) rfl rfl rfl hend)) (by kernel_rfl) (by kernel_rfl) (by kernel_rfl) (fun _ _ _ h => h) kR.drew ?_
                  simp only [Act.put, List.setIfInBounds_toArray, List.set_cons_zero, List.set_cons_succ]
                  refine rg.take_op (i := 9) 42 rfl rfl (rg.yields_run rfl (v := .int .i64 y) (fun W h => x_load3 (x := .tmp 41) rfl rfl (by rw [Nat.zero_add, Below.cell h hgl]; exact hce2))) (by kernel_rfl) (by kernel_rfl) (by kernel_rfl) (fun _ _ _ h => h) kR.drew ?_
                  simp only [Act.put, List.setIfInBounds_toArray, List.set_cons_zero, List.set_cons_succ]
                  refine rg.call_op 10 43 (f := 38) (args := #[.slice o l.length cap, .int .i64 x, .int .i64 y]) (by kernel_rfl) rfl rfl rfl (by kernel_rfl) ?_
                  refine (c18 _ (hB.trans ((below_drewN hB1 1).mono hB.size))).mono ?_
                  rintro e w5 ⟨rfl, b5⟩
                  have k5 : Below wr.heap.size wr w5 := kR.drew.trans b5
                  refine ⟨_, rfl, k5, ?_⟩
                  simp only [Act.put, List.setIfInBounds_toArray, List.set_cons_zero, List.set_cons_succ]
                  refine rg.take_op (i := 11) 11 rfl rfl (rg.yields_run rfl (v := .int .i64 (k : Int)) (fun W h => by kernel_rfl)) (by kernel_rfl) (by kernel_rfl) (by kernel_rfl) (fun _ _ _ h => h) k5 ?_
                  simp only [Act.put, List.setIfInBounds_toArray, List.set_cons_zero, List.set_cons_succ]
                  refine rg.done_op (by kernel_rfl) ?_
                  have hB5 : Below wo.heap.size wo w5 := hB1.trans (k5.mono hB1.size)
                  go_wp2_with (fail)
                  go_roundw
                  case rel => exact ⟨j + 1, by go_num, by rw [HL.out]; unfold bestOf; rw [if_neg (by simp only; omega)], by rw [HL.out], .inr (by omega), hB5⟩
                  case measure => simp [intOf]; omega
                · have HL : Hid (lst (rk l is) (j + 1) = (r, (k' : Int))) := by
                    show _ = _
                    rw [HST.out, if_neg (by rw [h1, e2]; exact hkr), h1]
                  have hkr2 : ¬ (k : Int) < (r : Int) := by omega
                  clear hR1 e1 e2 HST h1 HCS
                  go_wp2_with (fail)
                  have kR : Below wr.heap.size wr wr := Below.refl _ _
                  refine wp_region_held (S := fun W => Below wr.heap.size wr W) (by kernel_rfl) ?_
                  refine rg.take_op (i := 0) 33 rfl rfl (rg.yields_run rfl (v := .slice o l.length cap) (fun W h => rg.x_move rfl rfl)) (by kernel_rfl) (by kernel_rfl) (by kernel_rfl) (fun _ _ _ h => h) kR.drew ?_
                  simp only [Act.put, List.setIfInBounds_toArray, List.set_cons_zero, List.set_cons_succ]
                  refine rg.take_op (i := 1) 34 rfl rfl (rg.yields_run rfl (v := .slice (some ⟨g, 0, none⟩) is.length tc) (fun W h => rg.x_move rfl rfl)) (by kernel_rfl) (by kernel_rfl) (by kernel_rfl) (fun _ _ _ h => h) kR.drew ?_
                  simp only [Act.put, List.setIfInBounds_toArray, List.set_cons_zero, List.set_cons_succ]
                  refine rg.take_op (i := 2) 35 rfl rfl (rg.yields_run rfl (v := .int .i64 (j : Int)) (fun W h => rg.x_move rfl rfl)) (by kernel_rfl) (by kernel_rfl) (by kernel_rfl) (fun _ _ _ h => h) kR.drew ?_
                  simp only [Act.put, List.setIfInBounds_toArray, List.set_cons_zero, List.set_cons_succ]
                  refine rg.take_op (i := 3) 36 rfl rfl (rg.yields_run rfl (v := .pointer (some ⟨g, 0 + j, none⟩)) (fun W h => x_index25 (x := .tmp 34) (y := .tmp 35) rfl rfl rfl hjl)) (by kernel_rfl) (by kernel_rfl) (by kernel_rfl) (fun _ _ _ h => h) kR.drew ?_
                  simp only [Act.put, List.setIfInBounds_toArray, List.set_cons_zero, List.set_cons_succ]
                  refine rg.take_op (i := 4) 37 rfl rfl (rg.yields_run rfl (v := .int .i64 x) (fun W h => x_load3 (x := .tmp 36) rfl rfl (by rw [Nat.zero_add, Below.cell h hgl]; exact hce))) (by kernel_rfl) (by kernel_rfl) (by kernel_rfl) (fun _ _ _ h => h) kR.drew ?_
                  simp only [Act.put, List.setIfInBounds_toArray, List.set_cons_zero, List.set_cons_succ]
                  refine rg.take_op (i := 5) 38 rfl rfl (rg.yields_run rfl (v := .slice (some ⟨g, 0, none⟩) is.length tc) (fun W h => rg.x_move rfl rfl)) (by kernel_rfl) (by kernel_rfl) (by kernel_rfl) (fun _ _ _ h => h) kR.drew ?_
                  simp only [Act.put, List.setIfInBounds_toArray, List.set_cons_zero, List.set_cons_succ]
                  refine rg.take_op (i := 6) 39 rfl rfl (rg.yields_run rfl (v := .int .i64 (j : Int)) (fun W h => rg.x_move rfl rfl)) (by kernel_rfl) (by kernel_rfl) (by kernel_rfl) (fun _ _ _ h => h) kR.drew ?_
                  simp only [Act.put, List.setIfInBounds_toArray, List.set_cons_zero, List.set_cons_succ]
                  refine rg.take_op (i := 7) 40 rfl rfl (rg.yields_run rfl (v := .int .i64 ((j + 1 : Nat) : Int)) (fun W h => x_add1 (x := .tmp 39) rfl rfl (by omega))) (by kernel_rfl) (by kernel_rfl) (by kernel_rfl) (fun _ _ _ h => h) kR.drew ?_
                  simp only [Act.put, List.setIfInBounds_toArray, List.set_cons_zero, List.set_cons_succ]
                  refine rg.take_op (i := 8) 41 rfl rfl (rg.yields_run rfl (v := .pointer (some ⟨g, 0 + (j + 1), none⟩)) (fun W h => x_index25 (x := .tmp 38) (y := .tmp 40) rfl rfl rfl hend)) (by kernel_rfl) (by kernel_rfl) (by kernel_rfl) (fun _ _ _ h => h) kR.drew ?_
                  simp only [Act.put, List.setIfInBounds_toArray, List.set_cons_zero, List.set_cons_succ]
                  refine rg.take_op (i := 9) 42 rfl rfl (rg.yields_run rfl (v := .int .i64 y) (fun W h => x_load3 (x := .tmp 41) rfl rfl (by rw [Nat.zero_add, Below.cell h hgl]; exact hce2))) (by kernel_rfl) (by kernel_rfl) (by kernel_rfl) (fun _ _ _ h => h) kR.drew ?_
                  simp only [Act.put, List.setIfInBounds_toArray, List.set_cons_zero, List.set_cons_succ]
                  refine rg.call_op 10 43 (f := 38) (args := #[.slice o l.length cap, .int .i64 x, .int .i64 y]) (by kernel_rfl) rfl rfl rfl (by kernel_rfl) ?_
                  refine (c18 _ (hB.trans ((below_drewN hB1 1).mono hB.size))).mono ?_
                  rintro e w5 ⟨rfl, b5⟩
                  have k5 : Below wr.heap.size wr w5 := kR.drew.trans b5
                  refine ⟨_, rfl, k5, ?_⟩
                  simp only [Act.put, List.setIfInBounds_toArray, List.set_cons_zero, List.set_cons_succ]
                  refine rg.take_op (i := 11) 11 rfl rfl (rg.yields_run rfl (v := .int .i64 (k : Int)) (fun W h => by kernel_rfl)) (by kernel_rfl) (by kernel_rfl) (by kernel_rfl) (fun _ _ _ h => h) k5 ?_
                  simp only [Act.put, List.setIfInBounds_toArray, List.set_cons_zero, List.set_cons_succ]
                  refine rg.done_op (by kernel_rfl) ?_
                  have hB5 : Below wo.heap.size wo w5 := hB1.trans (k5.mono hB1.size)
                  go_wp2_with (fail)
                  go_roundw
                  case rel => exact ⟨j + 1, by go_num, by rw [HL.out]; unfold bestOf; rw [if_neg (by simp only; omega)], by rw [HL.out], .inr (by omega), hB5⟩
                  case measure => simp [intOf]; omega
          · have hLE := lst_end (l := l) hend hj
            rw [← hLE]
            have hend2 : ¬ (j : Int) + 1 < (is.length : Int) := by omega
            have HO1 : Hid (Owns wr w.heap.size (.slice tg is.length tc) is) := ow.later HO.out hB1
            have hBw1 : Below w.heap.size w wr := hB.trans (hB1.mono hB.size)
            have hjb : j ≤ 100000 := by omega
            clear hLE HO HCS hj
            cases hnx : nx l is with
            | none =>
              rw [(nx_none hnx).2, show bestOf (1024, -1) = -1 from rfl]
              have HF : Hid (MergedOwn l ids w (.returned (.slice tg is.length tc)) wr) := ⟨_, rfl, by rw [← HA.out, app_none hnx]; exact HO1.out, hBw1⟩
              clear hnx HO1 HV
              go_wp2_with (fail)
              go_ret
              exact HF.out
            | some p =>
              obtain ⟨k, r⟩ := p
              obtain ⟨q1, q2, q3, q4, q5, q6, q7, q8⟩ := nx_some hnx
              rw [q8, show bestOf (r, (k : Int)) = (r : Int) by unfold bestOf; rw [if_neg (by simp only; omega)]]
              have HNXT : Hid (app l (joinAt is k r) = app l ids) := by show _ = _; rw [← HA.out, app_some hnx]
              have hjn := joinAt_len is k r q1
              have HJN : Hid ((joinAt is k r).length + 1 = is.length) := hjn
              have HJG : Hid (∀ i, (joinAt is k r).getD i 0 = _) := fun i => joinAt_get is k r i q1
              have hk0 : ¬ (k : Int) < 0 := by omega
              clear hnx q2 q3 q4 q6 q7 q8 hjn HV HA
              have BX := below_alloc wr (.cells #[] 3)
              have HOX : Hid (Owns (wr.alloc (.cells #[] 3)) w.heap.size (.slice tg is.length tc) is) := ow.later HO1.out BX
              have hBXw : Below w.heap.size w (wr.alloc (.cells #[] 3)) := hBw1.alloc hBw1.size _
              have O0 : Owns (wr.alloc (.cells #[] 3)) wr.heap.size (.slice (some ⟨wr.heap.size, 0, none⟩) 0 0) [] := World.ownsRow_made (e := 3) (size := 1) wr #[] 0 (Nat.le_refl _) (Nat.zero_le _) rfl
              have OL : ∀ g, (Value.slice tg is.length tc).ownBlock = some g → g < wr.heap.size := fun g eg => (ow.lt HO1.out eg).2
              have HOL : Hid _ := OL
              have HO1' := HO1
              clear HO1 OL
              go_wp2_with (fail)
              generalize hwX : wr = wX at *
              generalize wX.alloc (.cells #[] 3) = wY at *
              go_loopw [63, 12] (fun y x wr => ∃ (i nl : Nat) (ng : Option Addr) (nc : Nat), y = .int .i64 i ∧ x = .slice ng nl nc ∧ i ≤ is.length ∧ nl ≤ nc ∧ nc ≤ 9223372036854775807 ∧ nl = ((joinAt is k r).take (cnt k i)).length ∧ Hid (Owns wr wX.heap.size (.slice ng nl nc) ((joinAt is k r).take (cnt k i))) ∧ Below wX.heap.size wX wr) (fun y _ _ => is.length - (intOf y).toNat)
              case atStart => exact ⟨0, 0, _, 0, rfl, rfl, by omega, Nat.le_refl _, by omega, by simp [cnt], by rw [show cnt k 0 = 0 from by simp [cnt], List.take_zero]; exact O0, BX⟩
              case round =>
                clear O0
                obtain ⟨i, nl, ng, nc, rfl, rfl, hil, nf1, nf2, hnl, HN, hBX⟩ := hrel
                have HNL : Hid (nl = ((joinAt is k r).take (cnt k i)).length) := hnl
                have hnl2 : nl ≤ 100000 := by rw [hnl, List.length_take]; have := HJN.out; omega
                have HN1 : Hid (wr.ownsRow wX.heap.size 3 1 (.slice ng nl nc) nl (((joinAt is k r).take (cnt k i)).map (Value.int .i64))) := by
                  have := HN.out
                  unfold Owns at this
                  rw [← hnl] at this
                  exact this
                clear hnl
                by_cases hie : i < is.length
                · by_cases hik : i = k
                  · have g1 : ((i : Int) == (k : Int)) = true := beq_iff_eq.2 (by omega)
                    have HTN : Hid ((joinAt is k r).take (cnt k (i + 1)) = (joinAt is k r).take (cnt k i) ++ [256 + (r : Int)]) := by
                      show _ = _
                      rw [(cnt_at hik).1]
                      refine take_next ?_ ?_
                      · rw [(cnt_at hik).2]; have := HJN.out; omega
                      · rw [(cnt_at hik).2, HJG.out, if_neg (by omega), if_pos rfl]
                    clear hik HN HJG
                    have HO2 := (show Hid _ from ow.later HN1.out (below_alloc wr (.cells #[.int .i64 (256 + (r : Int))] 3)))
                    have HN2 := (show Hid _ from ow.new1 wr (.int .i64 (256 + (r : Int))) 3)
                    have hB2 := hBX.alloc hBX.size (.cells #[.int .i64 (256 + (r : Int))] 3)
                    have hBw : wX.heap.size ≤ (wr.alloc (.cells #[.int .i64 (256 + (r : Int))] 3)).heap.size := hB2.size
                    clear HN1
                    go_wp2_with (at_builtin; refine ow.wpList_append (by rfl) (.tmp 69) (.tmp 72) 25 (by rfl) 3 (.int .i64 0) 1 8 Try.underlying25 info3 (by rfl) (by decide) (by decide) wX.heap.size (.slice ng nl nc) nl (((joinAt is k r).take (cnt k i)).map (Value.int .i64)) wr.heap.size [.int .i64 (256 + (r : Int))] (by rfl) (by rfl) (by exact HO2.out) (by rfl) (by exact HN2.out) (by exact ow.one1 _ rfl) (by omega) (by exact hBw) ?_; intro g' cap2 w3 ho hgr hw3)
                    have B4 : Below wX.heap.size wX w3 := hB2.grown hgr hB2.size (by intro k hk; exact (ow.lt HO2.out hk).1)
                    have ho2 : Owns w3 wX.heap.size (.slice (some ⟨g', 0, none⟩) (nl + 1) cap2) ((joinAt is k r).take (cnt k (i + 1))) := by
                      unfold Owns
                      rw [HTN.out, List.length_append, List.map_append]
                      have := HNL.out
                      rw [← this]
                      exact ho
                    obtain ⟨tg3, tc3, h1, h2, h3, h4⟩ := ostart (w := wX) (nl + 1) ho2 (by rw [HTN.out, List.length_append, ← HNL.out]; rfl)
                    go_roundw
                    case rel => exact ⟨i + 1, nl + 1, tg3, tc3, by go_num, h1, by omega, h2, h3, by rw [HTN.out, List.length_append, ← HNL.out]; rfl, h4, B4⟩
                    case measure => simp [intOf]; omega
                  · have g1 : ((i : Int) == (k : Int)) = false := beq_eq_false_iff_ne.2 (by omega)
                    by_cases hik1 : i = k + 1
                    · have g2 : ((i : Int) == (k : Int) + 1) = true := beq_iff_eq.2 (by omega)
                      have g3 : ((i : Int) != (k : Int) + 1) = false := by rw [bne, g2]; rfl
                      have HC : Hid (cnt k (i + 1) = cnt k i) := cnt_skip hik1
                      clear hik hik1 HN1 HJG
                      go_wp2_with (fail)
                      go_roundw
                      case rel => exact ⟨i + 1, nl, ng, nc, by go_num, rfl, by omega, nf1, nf2, by rw [HC.out]; exact HNL.out, by rw [HC.out]; exact HN.out, hBX⟩
                      case measure => simp [intOf]; omega
                    · have g2 : ((i : Int) == (k : Int) + 1) = false := beq_eq_false_iff_ne.2 (by omega)
                      have g3 : ((i : Int) != (k : Int) + 1) = true := by rw [bne, g2]; rfl
                      obtain ⟨g, cg, e, hgl, hce⟩ := ow.cell (ow.later HO1'.out hBX) i (by rw [List.length_map]; exact hie)
                      obtain ⟨rfl, rfl⟩ : tg = some ⟨g, 0, none⟩ ∧ tc = cg := by simpa using e
                      rw [List.getElem_map] at hce
                      have HTN : Hid ((joinAt is k r).take (cnt k (i + 1)) = (joinAt is k r).take (cnt k i) ++ [is[i]]) := by
                        show _ = _
                        have hgd : is.getD i 0 = is[i] := by rw [List.getD_eq_getElem?_getD, List.getElem?_eq_getElem hie]; rfl
                        by_cases hlow : i < k
                        · rw [(cnt_low hlow).1]
                          refine take_next ?_ ?_
                          · rw [(cnt_low hlow).2]; have := HJN.out; omega
                          · rw [(cnt_low hlow).2, HJG.out, if_pos hlow, hgd]
                        · have hh : k + 1 < i := by omega
                          rw [(cnt_high hh).1]
                          refine take_next ?_ ?_
                          · rw [(cnt_high hh).2]; have := HJN.out; omega
                          · rw [(cnt_high hh).2, HJG.out, if_neg (by omega), if_neg (by omega), show i - 1 + 1 = i by omega, hgd]
                      generalize is[i] = x at *
                      clear hik hik1 HN HJG e
                      have HO2 := (show Hid _ from ow.later HN1.out (below_alloc wr (.cells #[.int .i64 x] 3)))
                      have HN2 := (show Hid _ from ow.new1 wr (.int .i64 x) 3)
                      have hB2 := hBX.alloc hBX.size (.cells #[.int .i64 x] 3)
                      have hBw : wX.heap.size ≤ (wr.alloc (.cells #[.int .i64 x] 3)).heap.size := hB2.size
                      clear HN1
                      go_wp2_with (at_builtin; refine ow.wpList_append (by rfl) (.tmp 78) (.tmp 83) 25 (by rfl) 3 (.int .i64 0) 1 8 Try.underlying25 info3 (by rfl) (by decide) (by decide) wX.heap.size (.slice ng nl nc) nl (((joinAt is k r).take (cnt k i)).map (Value.int .i64)) wr.heap.size [.int .i64 x] (by rfl) (by rfl) (by exact HO2.out) (by rfl) (by exact HN2.out) (by exact ow.one1 _ rfl) (by omega) (by exact hBw) ?_; intro g' cap2 w3 ho hgr hw3)
                      have B4 : Below wX.heap.size wX w3 := hB2.grown hgr hB2.size (by intro k hk; exact (ow.lt HO2.out hk).1)
                      have ho2 : Owns w3 wX.heap.size (.slice (some ⟨g', 0, none⟩) (nl + 1) cap2) ((joinAt is k r).take (cnt k (i + 1))) := by
                        unfold Owns
                        rw [HTN.out, List.length_append, List.map_append]
                        have := HNL.out
                        rw [← this]
                        exact ho
                      obtain ⟨tg3, tc3, h1, h2, h3, h4⟩ := ostart (w := wX) (nl + 1) ho2 (by rw [HTN.out, List.length_append, ← HNL.out]; rfl)
                      go_roundw
                      case rel => exact ⟨i + 1, nl + 1, tg3, tc3, by go_num, h1, by omega, h2, h3, by rw [HTN.out, List.length_append, ← HNL.out]; rfl, h4, B4⟩
                      case measure => simp [intOf]; omega
                · have hall : (joinAt is k r).take (cnt k i) = joinAt is k r := by
                    refine List.take_of_length_le ?_
                    have e : i = is.length := by omega
                    have := HJN.out
                    unfold cnt
                    rw [if_neg (by omega)]
                    omega
                  have HNF : Hid (Owns wr w.heap.size (.slice ng nl nc) (joinAt is k r)) := by have := HN.out; rw [hall] at this; exact this.base hBw1.size
                  have HNE : Hid (nl = (joinAt is k r).length) := by show _ = _; rw [HNL.out, hall]
                  have hBF : Below w.heap.size w wr := hBw1.trans (hBX.mono hBw1.size)
                  clear hall HN HN1 HJG
                  go_wp2_with (fail)
                  go_roundw
                  case rel => exact ⟨joinAt is k r, ng, nc, by rw [HNE.out], by have := HJN.out; omega, by rw [← HNE.out]; exact nf1, nf2, by rw [← HNE.out]; exact HNF.out, HNXT.out, hBF⟩
                  case measure =>
                    show nl < is.length
                    have := HNE.out
                    have := HJN.out
                    omega
end Go.Proofs.Ytmmlibehihknbaa.mg
