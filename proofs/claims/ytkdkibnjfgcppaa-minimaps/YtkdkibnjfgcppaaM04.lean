/-
  Texts put together: Contracts over this program: the document's bytes: where a state goes by each byte. Plain mathematics: which states are live, and which are apart, as the document finds them. Contracts over this program: the document's live.
-/
import Derived.Test.YtkdkibnjfgcppaaKNe
import Derived.Test.YtkdkibnjfgcppaaKAp
import Derived.Test.YtkdkibnjfgcppaaKRg
import Derived.Test.YtkdkibnjfgcppaaKMn
import Derived.Test.YtkdkibnjfgcppaaKNb
import Derived.Test.YtkdkibnjfgcppaaKMl
namespace Go.Proofs.Ytkdkibnjfgcppaa.mi
open Go.ChangeShapes Go.WideShapes Go.ChangeAt Go.RowKit Go.Shelf Go.Maps
set_option linter.unusedVariables false

section
variable {o : Oper} {a : Act} {w : World}
theorem x_ld23 {x : Operand} {g i : Nat} {v : Value} (h : o.op = .load 23 x) (hx : a.eval x = .pointer (some ⟨g, i, none⟩)) (hc : w.cell? ⟨g, i, none⟩ = some v) : (execOp a.eval o).run Try.prog w = .ok (.value v) w := by
  unfold execOp
  rw [h]
  simp only [hx]
  go_simp
theorem x_ld39 {x : Operand} {g i : Nat} {v : Value} (h : o.op = .load 39 x) (hx : a.eval x = .pointer (some ⟨g, i, none⟩)) (hc : w.cell? ⟨g, i, none⟩ = some v) : (execOp a.eval o).run Try.prog w = .ok (.value v) w := by
  unfold execOp
  rw [h]
  simp only [hx]
  go_simp
theorem x_ld3 {x : Operand} {g i : Nat} {v : Value} (h : o.op = .load 3 x) (hx : a.eval x = .pointer (some ⟨g, i, none⟩)) (hc : w.cell? ⟨g, i, none⟩ = some v) : (execOp a.eval o).run Try.prog w = .ok (.value v) w := by
  unfold execOp
  rw [h]
  simp only [hx]
  go_simp
theorem x_ld5 {x : Operand} {g i : Nat} {v : Value} (h : o.op = .load 5 x) (hx : a.eval x = .pointer (some ⟨g, i, none⟩)) (hc : w.cell? ⟨g, i, none⟩ = some v) : (execOp a.eval o).run Try.prog w = .ok (.value v) w := by
  unfold execOp
  rw [h]
  simp only [hx]
  go_simp
theorem x_idx23 {x y : Operand} {g i n c s : Nat} (h : o.op = .indexAddr 23 x y) (hx : a.eval x = .slice (some ⟨g, i, none⟩) n c) (hy : a.eval y = .int .i64 (s : Int)) (hs : s < n) (hn : n ≤ 1000) : (execOp a.eval o).run Try.prog w = .ok (.value (.pointer (some ⟨g, i + s, none⟩))) w := by
  unfold execOp
  rw [h]
  simp only [hx, hy]
  go_simp
theorem x_idx39 {x y : Operand} {g i n c s : Nat} (h : o.op = .indexAddr 39 x y) (hx : a.eval x = .slice (some ⟨g, i, none⟩) n c) (hy : a.eval y = .int .u8 (s : Int)) (hs : s < n) (hn : n ≤ 1000) : (execOp a.eval o).run Try.prog w = .ok (.value (.pointer (some ⟨g, i + s, none⟩))) w := by
  unfold execOp
  rw [h]
  simp only [hx, hy]
  go_simp
theorem x_idx22 {x y : Operand} {g s : Nat} (h : o.op = .indexAddr 22 x y) (hx : a.eval x = .pointer (some ⟨g, 0, none⟩)) (hy : a.eval y = .int .i64 (s : Int)) (hs : s < 256) : (execOp a.eval o).run Try.prog w = .ok (.value (.pointer (some ⟨g, s, none⟩))) w := by
  unfold execOp
  rw [h]
  simp only [hx, hy]
  go_simp
  intro h2
  omega
theorem x_app39 {x y : Operand} {v u v' : Value} {w' : World} (h : o.op = .call { callee := .builtin .append, args := #[x, y], argTypes := #[39, 39] }) (ht : o.type = 39) (hx : a.eval x = v) (hy : a.eval y = u) (e : (Builtin.append_ #[39, 39] 39 #[v, u]).run Try.prog w = .ok v' w') : (execOp a.eval o).run Try.prog w = .ok (.value v') w' := by
  unfold execOp
  simp only [h, ht, resolve, invoke, builtin, Sem.run_bind, Sem.run_pure, Result.andThen_ok, List.map_toArray, List.map_cons, List.map_nil, hx, hy, e]
end
theorem app39 {w : World} {K g0 : Nat} {v : Value} {xs : List Value} {y : Int} {n : Nat}
    (ho : w.ownsRow K 3 1 v n xs) (hb : w.heap[g0]? = some (.cells #[.int .i64 y] 3 (0, 0))) (hn : n ≤ 100000) (hK : K ≤ w.heap.size) :
    ∃ q c w', (Builtin.append_ #[39, 39] 39 #[v, .slice (some ⟨g0, 0, none⟩) 1 1]).run Try.prog w = .ok (.slice (some ⟨q, 0, none⟩) (n + 1) c) w' ∧ w'.ownsRow K 3 1 (.slice (some ⟨q, 0, none⟩) (n + 1) c) (n + 1) (xs ++ [.int .i64 y]) ∧ w.grownBy w' v.ownBlock := by
  obtain ⟨i0, hi0, hz0, hz1, hz2⟩ := info_parts df.info3
  obtain ⟨v', w', e, h1, h2, _, h4⟩ := run_append_own_at (P := Try.prog) w K 39 39 3 i0 (.int .i64 0) 1 8 Try.underlying39 hi0 hz0 hz1 hz2 rfl (by omega) v n xs ho ⟨g0, 0, none⟩ 1 1 [.int .i64 y] rfl (fun j u hu => by
    rcases j with _ | j
    · simp at hu
      subst hu
      rw [show (⟨g0, 0, none⟩ : Addr).add 0 = ⟨g0, 0, none⟩ from rfl, Lib.cell_of_heap hb]; rfl
    · simp at hu) (by simp [Value.oneCell']) (by unfold maxLen; omega) (by omega) hK
  obtain ⟨g', cap', rfl⟩ := ownsRow_succ h1
  exact ⟨g', cap', w', e, h1, h2⟩
/-- where a state goes by each byte -/
def bts (d : df.Dfa) (i : Nat) : List Int := (List.range 256).map fun b => df.nxt d i (d.cls b)
theorem bts_len (d : df.Dfa) (i : Nat) : (bts d i).length = 256 := by simp [bts]
theorem bts_take (d : df.Dfa) (i b : Nat) (h : b < 256) : (bts d i).take (b + 1) = (bts d i).take b ++ [df.nxt d i (d.cls b)] := by
  rw [List.take_add_one]
  simp [bts, h]
theorem bts_get (d : df.Dfa) (i b : Nat) (h : b < 256) : (bts d i)[b]? = some (df.nxt d i (d.cls b)) := by simp [bts, h]
def BT (w : World) (K : Nat) (v : Value) (d : df.Dfa) (i b : Nat) : Prop := w.ownsRow K 3 1 v b (((bts d i).take b).map (Value.int .i64))
def KeptB (w1 : World) (W : World) : Prop := Below w1.heap.size w1 W
theorem KeptB.drew {w1 W : World} (h : KeptB w1 W) : KeptB w1 W.drew := Below.drew h
theorem grown_low {W w w' : World} {v : Value} {e n : Nat} {xs : List Value} (h : w.ownsRow W.heap.size e 1 v n xs) (b : Below W.heap.size W w) (hg : w.grownBy w' v.ownBlock) : Below W.heap.size W w' :=
  b.trans ⟨hg.os, hg.tape, hg.output, hg.size, fun g hgB => hg.block g (by have := b.size; omega) (fun e => by have := (ow.lt h e.symm).1; omega)⟩
theorem row_len {w : World} {B e n : Nat} {v : Value} {xs : List Value} (h : w.ownsRow B e 1 v n xs) : ∃ o c, v = .slice o n c ∧ n ≤ c ∧ c ≤ 9223372036854775807 := by
  rcases h.2 with ⟨e, h0⟩ | ⟨g, cap, cur, e, _, _, h1, h2, _⟩
  · exact ⟨none, 0, by rw [e, h0], by omega, by omega⟩
  · unfold maxLen at h2; exact ⟨_, _, e, h1, h2⟩
set_option maxHeartbeats 4000000 in
set_option maxRecDepth 100000 in
theorem bytes_any (d : df.Dfa) (hr : df.right d = true) (i : Nat) (hi : i < d.next.length) (cs : Array Value) (o ao : Option Addr) (cap acap : Nat) (w : World) (hD : df.DAt (df.In w) w d cs o cap ao acap) :
    Calls Try.prog 41 #[.agg cs, .int .i64 (i : Int)] w fun e w' => ∃ v, e = .returned v ∧ w'.ownsRow w.heap.size 3 1 v 256 ((bts d i).map (Value.int .i64)) ∧ Below w.heap.size w w' := by
  have hok := df.ok_of d hr
  have hmost := hok.most
  have hk256 := hok.k256
  obtain ⟨wA, hwA⟩ : ∃ wA, wA = w.alloc (.cells cs 26) := ⟨_, rfl⟩
  have B0 : Below w.heap.size w wA := by rw [hwA]; exact below_alloc w _
  have xA : df.DBox wA w.heap.size cs := by rw [hwA]; exact df.dbox_new w cs
  have hsA : wA.heap.size = w.heap.size + 1 := by rw [hwA]; simp
  have HD := (show Hid _ from hD.later B0)
  have O0 : (wA.alloc (.cells #[] 3)).ownsRow wA.heap.size 3 1 (.slice (some ⟨wA.heap.size, 0, none⟩) 0 0) 0 [] := World.ownsRow_made wA #[] 0 (Nat.le_refl _) (Nat.zero_le _) rfl
  have B1 := below_alloc wA (.cells #[] 3)
  obtain ⟨b, off, oi, ci, e0, hb, hc, hrow⟩ := HD.out.rows.lie i hi
  have hwd := hok.wide i hi
  have HCL := (show Hid (∀ k, k < 256 → d.cls k < d.next[i].length) from fun k hk => by rw [hwd]; exact hok.cl k hk)
  have hw2 : d.next[i].length ≤ 256 := by omega
  have HNX := (show Hid (∀ c (h : c < d.next[i].length), df.nxt d i c = d.next[i][c]) from fun c h => by
    unfold df.nxt
    rw [List.getElem?_eq_getElem hi, Option.getD_some, List.getElem?_eq_getElem h]; rfl)
  have HRW := (show Hid (df.Row (df.In wA) wA df.iv oi ci d.next[i]) from hrow)
  have HC := (show Hid _ from hc)
  have f1 := hrow.fit
  have f2 := hrow.top
  have HW := (show Hid (wA.heap.size = w.heap.size + 1) from hsA)
  subst e0
  have hsB := hsA
  clear hD hok hrow hc hsA hwd
  go_enter Try.func41, Try.ntmps41
  go_wp2_with (fail)
  rw [← hwA]
  clear hwA
  go_loopw [6, 5] (fun y v wr => ∃ (k : Nat) (tg : Option Addr) (tc : Nat), y = .int .i64 (k : Int) ∧ v = .slice tg k tc ∧ k ≤ 256 ∧ Below wA.heap.size wA wr ∧ BT wr wA.heap.size (.slice tg k tc) d i k) (fun y _ _ => 256 - (intOf y).toNat)
  case atStart => exact ⟨0, _, 0, rfl, rfl, by omega, B1, by unfold BT; rw [List.take_zero, ← hsB]; exact O0⟩
  case round =>
    obtain ⟨k, tg, tc, rfl, rfl, hk, hBk, HO⟩ := hrel
    unfold BT at HO
    obtain ⟨_, _, eh, hf1, hf2⟩ := row_len HO
    by_cases hlt : k < 256
    · have hcl := HCL.out k hlt
      obtain ⟨rb, roff, rfl, hrb, hrc⟩ := HRW.out.lie (d.cls k) hcl
      have xs1 : ∀ W, KeptB wA W → df.DBox W w.heap.size cs := fun W h => xA.later h
      have hBW : ∀ W, KeptB wA W → Below wA.heap.size wA W := fun W h => h
      have y1 : ∀ W, KeptB wA W → W.cell? ⟨w.heap.size, 256, none⟩ = some (.slice (some ⟨b, off, none⟩) d.next.length cap) := fun W h => (xs1 W h).nx HD.out
      have y2 : ∀ W, KeptB wA W → W.cell? ⟨w.heap.size, k, none⟩ = some (.int .u8 ((d.cls k : Nat) : Int)) := fun W h => (xs1 W h).cl HD.out k hlt
      have y3 : ∀ W, KeptB wA W → W.cell? ⟨b, off + i, none⟩ = some (.slice (some ⟨rb, roff, none⟩) d.next[i].length ci) := fun W h => ((hBW W h).cell (p := ⟨b, off + i, none⟩) hb).trans HC.out
      have y4 : ∀ W, KeptB wA W → W.cell? ⟨rb, roff + d.cls k, none⟩ = some (.int .i64 (df.nxt d i (d.cls k))) := fun W h => by rw [HNX.out _ hcl]; exact ((hBW W h).cell (p := ⟨rb, roff + d.cls k, none⟩) hrb).trans hrc
      have HT := (show Hid (((bts d i).take (k + 1)).map (Value.int .i64) = ((bts d i).take k).map (Value.int .i64) ++ [Value.int .i64 (df.nxt d i (d.cls k))]) from by show _ = _; rw [bts_take d i k hlt, List.map_append]; rfl)
      have HOO := (show Hid _ from HO)
      clear HO hrc eh
      generalize ((bts d i).take k).map (Value.int .i64) = pre at *
      generalize df.nxt d i (d.cls k) = j at *
      obtain ⟨rl, hrl⟩ : ∃ rl, rl = d.next[i].length := ⟨_, rfl⟩
      rw [← hrl] at y3 hcl hw2
      clear HNX HRW HC HCL hrl f1
      generalize d.cls k = c at *
      have kR : KeptB wA wr := hBk
      go_wp2_with (fail)
      refine wp_region_held (S := KeptB wA) (by kernel_rfl) ?_
      refine rg.take_op (i := 0) 12 rfl rfl (rg.yields_run (by kernel_rfl) (fun W h => rg.x_move (x := .tmp 5) rfl rfl)) (by kernel_rfl) (by kernel_rfl) (by kernel_rfl) (fun _ _ _ h => h) kR.drew ?_
      simp only [Act.put, List.setIfInBounds_toArray, List.set_cons_zero, List.set_cons_succ]
      refine rg.take_op (i := 1) 13 rfl rfl (rg.yields_run (by kernel_rfl) (v := .pointer (some ⟨w.heap.size, 256, none⟩)) (fun W h => by kernel_rfl)) (by kernel_rfl) (by kernel_rfl) (by kernel_rfl) (fun _ _ _ h => h) kR.drew ?_
      simp only [Act.put, List.setIfInBounds_toArray, List.set_cons_zero, List.set_cons_succ]
      refine rg.take_op (i := 2) 14 rfl rfl (rg.yields_run (by kernel_rfl) (fun W h => x_ld23 (x := .tmp 13) rfl rfl (y1 W h))) (by kernel_rfl) (by kernel_rfl) (by kernel_rfl) (fun _ _ _ h => h) kR.drew ?_
      simp only [Act.put, List.setIfInBounds_toArray, List.set_cons_zero, List.set_cons_succ]
      refine rg.take_op (i := 3) 15 rfl rfl (rg.yields_run (by kernel_rfl) (fun W h => rg.x_move (x := .tmp 1) rfl rfl)) (by kernel_rfl) (by kernel_rfl) (by kernel_rfl) (fun _ _ _ h => h) kR.drew ?_
      simp only [Act.put, List.setIfInBounds_toArray, List.set_cons_zero, List.set_cons_succ]
      refine rg.take_op (i := 4) 16 rfl rfl (rg.yields_run (by kernel_rfl) (fun W h => x_idx23 (x := .tmp 14) (y := .tmp 15) rfl rfl rfl hi (by omega))) (by kernel_rfl) (by kernel_rfl) (by kernel_rfl) (fun _ _ _ h => h) kR.drew ?_
      simp only [Act.put, List.setIfInBounds_toArray, List.set_cons_zero, List.set_cons_succ]
      refine rg.take_op (i := 5) 17 rfl rfl (rg.yields_run (by kernel_rfl) (fun W h => x_ld39 (x := .tmp 16) rfl rfl (y3 W h))) (by kernel_rfl) (by kernel_rfl) (by kernel_rfl) (fun _ _ _ h => h) kR.drew ?_
      simp only [Act.put, List.setIfInBounds_toArray, List.set_cons_zero, List.set_cons_succ]
      refine rg.take_op (i := 6) 18 rfl rfl (rg.yields_run (by kernel_rfl) (fun W h => rg.x_move (x := .tmp 6) rfl rfl)) (by kernel_rfl) (by kernel_rfl) (by kernel_rfl) (fun _ _ _ h => h) kR.drew ?_
      simp only [Act.put, List.setIfInBounds_toArray, List.set_cons_zero, List.set_cons_succ]
      refine rg.take_op (i := 7) 19 rfl rfl (rg.yields_run (by kernel_rfl) (v := .pointer (some ⟨w.heap.size, 0, none⟩)) (fun W h => by kernel_rfl)) (by kernel_rfl) (by kernel_rfl) (by kernel_rfl) (fun _ _ _ h => h) kR.drew ?_
      simp only [Act.put, List.setIfInBounds_toArray, List.set_cons_zero, List.set_cons_succ]
      refine rg.take_op (i := 8) 20 rfl rfl (rg.yields_run (by kernel_rfl) (fun W h => x_idx22 (x := .tmp 19) (y := .tmp 18) rfl rfl rfl hlt)) (by kernel_rfl) (by kernel_rfl) (by kernel_rfl) (fun _ _ _ h => h) kR.drew ?_
      simp only [Act.put, List.setIfInBounds_toArray, List.set_cons_zero, List.set_cons_succ]
      refine rg.take_op (i := 9) 21 rfl rfl (rg.yields_run (by kernel_rfl) (fun W h => x_ld5 (x := .tmp 20) rfl rfl (y2 W h))) (by kernel_rfl) (by kernel_rfl) (by kernel_rfl) (fun _ _ _ h => h) kR.drew ?_
      simp only [Act.put, List.setIfInBounds_toArray, List.set_cons_zero, List.set_cons_succ]
      refine rg.take_op (i := 10) 22 rfl rfl (rg.yields_run (by kernel_rfl) (fun W h => x_idx39 (x := .tmp 17) (y := .tmp 21) rfl rfl rfl hcl (by omega))) (by kernel_rfl) (by kernel_rfl) (by kernel_rfl) (fun _ _ _ h => h) kR.drew ?_
      simp only [Act.put, List.setIfInBounds_toArray, List.set_cons_zero, List.set_cons_succ]
      refine rg.take_op (i := 11) 23 rfl rfl (rg.yields_run (by kernel_rfl) (fun W h => x_ld3 (x := .tmp 22) rfl rfl (y4 W h))) (by kernel_rfl) (by kernel_rfl) (by kernel_rfl) (fun _ _ _ h => h) kR.drew ?_
      simp only [Act.put, List.setIfInBounds_toArray, List.set_cons_zero, List.set_cons_succ]
      have bd : Below wr.heap.size wr wr.drew := (Below.refl _ _).drew
      have b2 := below_alloc wr.drew (.cells #[.int .i64 j] 3)
      have kr2 : KeptB wA (wr.drew.alloc (.cells #[.int .i64 j] 3)) := hBk.trans ((df.chain bd b2).mono hBk.size)
      refine rg.eff_op 12 24 (by kernel_rfl) rfl rfl (by kernel_rfl) (x_build39 (x := .tmp 23) rfl rfl) kr2 ?_
      simp only [Act.put, List.setIfInBounds_toArray, List.set_cons_zero, List.set_cons_succ]
      have hg0 := heap_alloc_new wr.drew (.cells #[.int .i64 j] 3)
      have HO2 := ow.later (ow.later HOO.out bd) b2
      have hB2 : Below wA.heap.size wA (wr.drew.alloc (.cells #[.int .i64 j] 3)) := kr2
      obtain ⟨q, qc, w3, ea, ho3, hg3⟩ := app39 (g0 := wr.drew.heap.size) HO2 hg0 (by omega) hB2.size
      have hB3 := grown_low HO2 hB2 hg3
      refine rg.one (i := 13) (by kernel_rfl) (rg.op_val 13 25 rfl rfl (by kernel_rfl) (x_app39 (x := .tmp 12) (y := .tmp 24) (v := .slice tg k tc) (u := .slice (some ⟨wr.drew.heap.size, 0, none⟩) 1 1) rfl rfl rfl rfl ea) ?_)
      refine ⟨hB3, ?_⟩
      simp only [Act.put, List.setIfInBounds_toArray, List.set_cons_zero, List.set_cons_succ]
      refine rg.take_op (i := 14) 5 rfl rfl (rg.yields_run (by kernel_rfl) (v := .slice (some ⟨q, 0, none⟩) (k + 1) qc) (fun W h => by kernel_rfl)) (by kernel_rfl) (by kernel_rfl) (by kernel_rfl) (fun _ _ _ h => h) hB3 ?_
      simp only [Act.put, List.setIfInBounds_toArray, List.set_cons_zero, List.set_cons_succ]
      refine rg.done_op (by kernel_rfl) ?_
      have HF := (show Hid (BT w3 wA.heap.size (.slice (some ⟨q, 0, none⟩) (k + 1) qc) d i (k + 1)) from by show BT _ _ _ _ _ _; unfold BT; rw [HT.out]; exact ho3)
      clear HOO HO2 ho3 hg3 hg0 ea y1 y2 y3 y4
      go_wp2_with (fail)
      go_roundw
      case rel => exact ⟨k + 1, _, _, by go_num, rfl, by omega, hB3, HF.out⟩
      case measure => simp [intOf]; omega
    · obtain rfl : k = 256 := by omega
      have HF := (show Hid (wr.ownsRow w.heap.size 3 1 (.slice tg 256 tc) 256 ((bts d i).map (Value.int .i64))) from by
        rw [List.take_of_length_le (by rw [bts_len]; omega)] at HO
        refine ⟨HO.1, ?_⟩
        rcases HO.2 with h0 | ⟨g, cap, cur, h1, h2, h3⟩
        · exact .inl h0
        · exact .inr ⟨g, cap, cur, h1, by omega, h3⟩)
      clear HO
      go_wp2_with (fail)
      go_ret
      exact ⟨_, rfl, HF.out, df.chain B0 hBk⟩
end Go.Proofs.Ytkdkibnjfgcppaa.mi

namespace Go.Proofs.Ytkdkibnjfgcppaa.mi
set_option linter.unusedVariables false

def atL (l : List Int) (i : Nat) : Int := l.getD i 0
theorem atL_set (l : List Int) (i j : Nat) (x : Int) (hi : i < l.length) : atL (l.set i x) j = if i = j then x else atL l j := by
  unfold atL
  rw [List.getD_eq_getElem?_getD, List.getD_eq_getElem?_getD, List.getElem?_set]
  by_cases e : i = j
  · rw [if_pos e, if_pos e, if_pos hi]; rfl
  · rw [if_neg e, if_neg e]
/-- noughts and ones -/
def Bin (l : List Int) : Prop := ∀ i, atL l i = 0 ∨ atL l i = 1
theorem Bin.set {l : List Int} (h : Bin l) (i : Nat) (hi : i < l.length) : Bin (l.set i 1) := fun j => by
  rw [atL_set l i j 1 hi]
  split
  · exact .inr rfl
  · exact h j
def zeros (l : List Int) : Nat := (l.filter fun x => x == 0).length
theorem zeros_le (l : List Int) : zeros l ≤ l.length := List.length_filter_le _ _
theorem zeros_set : ∀ (l : List Int) (i : Nat), i < l.length → atL l i = 0 → zeros (l.set i 1) + 1 = zeros l
  | [], i, h, _ => by simp at h
  | x :: l, 0, _, h => by
    have hx : x = 0 := h
    subst hx
    simp [zeros]
  | x :: l, i + 1, h, h0 => by
    have ih := zeros_set l i (by simpa using h) h0
    unfold zeros at *
    simp only [List.set_cons_succ, List.filter_cons]
    split
    · simp only [List.length_cons]; omega
    · exact ih
/-- a state's language -/
abbrev lg (d : df.Dfa) (i : Nat) : Lg := (dm d).lang (some i)
theorem lg_dv (d : df.Dfa) (i b : Nat) (hb : b < 256) : dv (lg d i) (by8 b) = if 0 ≤ df.nxt d i (d.cls b) then lg d (df.nxt d i (d.cls b)).toNat else nil := by
  show dv ((dm d).lang (some i)) (by8 b) = _
  rw [lang_dv]
  have e : (dm d).goO (some i) (by8 b) = if 0 ≤ df.nxt d i (d.cls b) then some (df.nxt d i (d.cls b)).toNat else none := by
    show (if 0 ≤ df.nxt d i (d.cls (by8 b).toNat) then some (df.nxt d i (d.cls (by8 b).toNat)).toNat else none) = _
    rw [by8_nat b hb]
  rw [e]
  split
  · rfl
  · exact lang_none _
theorem lg_nil (d : df.Dfa) (i : Nat) : lg d i [] = df.acpt d i := rfl
/-- what is marked is live -/
def LvOk (d : df.Dfa) (l : List Int) : Prop := l.length = d.next.length ∧ Bin l ∧ (∀ i, i < d.next.length → df.acpt d i = true → atL l i = 1) ∧ ∀ i, i < d.next.length → atL l i = 1 → Live (lg d i)
/-- nothing more is to be marked from a state -/
def Still (d : df.Dfa) (l : List Int) (i : Nat) : Prop := atL l i = 0 → ∀ b, b < 256 → 0 ≤ df.nxt d i (d.cls b) → atL l (df.nxt d i (d.cls b)).toNat = 0
theorem LvOk.step {d : df.Dfa} {l : List Int} (h : LvOk d l) {i b : Nat} (hi : i < d.next.length) (hb : b < 256) (hj : 0 ≤ df.nxt d i (d.cls b)) (hjn : (df.nxt d i (d.cls b)).toNat < d.next.length) (h1 : atL l (df.nxt d i (d.cls b)).toNat = 1) : LvOk d (l.set i 1) := by
  obtain ⟨h2, h3, h4, h5⟩ := h
  refine ⟨by rw [List.length_set]; exact h2, h3.set i (by omega), fun k hk ha => ?_, fun k hk ha => ?_⟩
  · rw [atL_set l i k 1 (by omega)]
    split
    · rfl
    · exact h4 k hk ha
  · rw [atL_set l i k 1 (by omega)] at ha
    by_cases e : i = k
    · subst e
      obtain ⟨w, hw⟩ := h5 _ hjn h1
      have := lg_dv d i b hb
      rw [if_pos hj] at this
      exact ⟨by8 b :: w, by rw [← this] at hw; exact hw⟩
    · rw [if_neg e] at ha
      exact h5 k hk ha
theorem LvOk.done {d : df.Dfa} (hr : df.right d = true) {l : List Int} (h : LvOk d l) (hs : ∀ i, i < d.next.length → Still d l i) : ∀ i, i < d.next.length → (atL l i = 1 ↔ Live (lg d i)) := by
  obtain ⟨h2, h3, h4, h5⟩ := h
  have hok := df.ok_of d hr
  have key : ∀ (w : List UInt8) (i : Nat), i < d.next.length → atL l i = 0 → lg d i w = false := by
    intro w
    induction w with
    | nil =>
      intro i hi h0
      rw [lg_nil]
      cases hacc : df.acpt d i with
      | false => rfl
      | true => have := h4 i hi hacc; omega
    | cons b w ih =>
      intro i hi h0
      have hb : b.toNat < 256 := b.toNat_lt
      have e : by8 b.toNat = b := by simp [by8]
      have h6 := lg_dv d i b.toNat hb
      rw [e] at h6
      show dv (lg d i) b w = false
      rw [h6]
      by_cases hj : 0 ≤ df.nxt d i (d.cls b.toNat)
      · rw [if_pos hj]
        have hn := df.nxt_ok hok i (d.cls b.toNat) hi (hok.cl _ hb)
        exact ih _ (by omega) (hs i hi h0 b.toNat hb hj)
      · rw [if_neg hj]; rfl
  intro i hi
  refine ⟨h5 i hi, fun ⟨w, hw⟩ => ?_⟩
  rcases h3 i with h0 | h1
  · rw [key w i hi h0] at hw; cases hw
  · exact h1
end Go.Proofs.Ytkdkibnjfgcppaa.mi

namespace Go.Proofs.Ytkdkibnjfgcppaa.mi
open Go.ChangeShapes Go.WideShapes Go.ChangeAt Go.RowKit Go.Shelf Go.Maps
set_option linter.unusedVariables false

def isZ : Value → Bool
  | .int _ x => x == 0
  | _ => false
/-- how many noughts a row has, told by the world -/
def zW (w : World) (g : Nat) : Nat := match w.heap[g]? with
  | some (.cells cs _ _) => (cs.toList.filter isZ).length
  | _ => 0
theorem zW_row {w : World} {g : Nat} {l : List Int} (h : ZRow w g l) : zW w g = zeros l := by
  unfold zW
  rw [show w.heap[g]? = some (.cells (ics l) 3 (0, 0)) from h]
  show ((ics l).toList.filter isZ).length = _
  unfold ics zeros
  rw [List.filter_map, List.length_map]
  rfl
theorem atL_get {l : List Int} {i : Nat} (h : i < l.length) : l[i]? = some (atL l i) := by
  rw [List.getElem?_eq_getElem h]; simp [atL, List.getD_eq_getElem?_getD, h]
theorem ZRow.at {w : World} {g : Nat} {l : List Int} (h : ZRow w g l) {i : Nat} (hi : i < l.length) : w.cell? ⟨g, i, none⟩ = some (.int .i64 (atL l i)) := h.cell (atL_get hi)
theorem ZRow.fz {w : World} {g : Nat} {l : List Int} (h : ZRow w g l) (i : Nat) : w.frozen? ⟨g, i, none⟩ = false := Lib.frozen_of_heap h i
theorem ZRow.later {w w' : World} {g : Nat} {l : List Int} (h : ZRow w g l) (b : Below w.heap.size w w') : ZRow w' g l := (b.block g h.lt).trans h
/-- the first states' signs are marked -/
def Mk1 (d : df.Dfa) (l : List Int) (i : Nat) : Prop := l.length = d.next.length ∧ ∀ k, k < d.next.length → atL l k = if k < i ∧ df.acpt d k = true then 1 else 0
theorem atL_out {l : List Int} {k : Nat} (h : l.length ≤ k) : atL l k = 0 := by simp [atL, List.getD_eq_getElem?_getD, h]
theorem Mk1.start (d : df.Dfa) : Mk1 d (List.replicate d.next.length 0) 0 := ⟨by simp, fun k hk => by rw [if_neg (by omega)]; simp [atL, List.getD_eq_getElem?_getD, hk]⟩
theorem Mk1.yes {d : df.Dfa} {l : List Int} {i : Nat} (h : Mk1 d l i) (hi : i < d.next.length) (ha : df.acpt d i = true) : Mk1 d (l.set i 1) (i + 1) := ⟨by rw [List.length_set]; exact h.1, fun k hk => by
  rw [atL_set l i k 1 (by rw [h.1]; exact hi), h.2 k hk]
  by_cases e : i = k
  · subst e; rw [if_pos rfl, if_pos ⟨by omega, ha⟩]
  · rw [if_neg e]
    by_cases h1 : k < i ∧ df.acpt d k = true
    · rw [if_pos h1, if_pos ⟨by omega, h1.2⟩]
    · rw [if_neg h1, if_neg fun h2 => h1 ⟨by omega, h2.2⟩]⟩
theorem Mk1.no {d : df.Dfa} {l : List Int} {i : Nat} (h : Mk1 d l i) (ha : df.acpt d i = false) : Mk1 d l (i + 1) := ⟨h.1, fun k hk => by
  rw [h.2 k hk]
  by_cases h1 : k < i ∧ df.acpt d k = true
  · rw [if_pos h1, if_pos ⟨by omega, h1.2⟩]
  · rw [if_neg h1, if_neg fun h2 => ?_]
    by_cases e : k = i
    · rw [e, ha] at h2; cases h2.2
    · exact h1 ⟨by omega, h2.2⟩⟩
theorem Mk1.ok {d : df.Dfa} {l : List Int} (h : Mk1 d l d.next.length) : LvOk d l := by
  refine ⟨h.1, fun i => ?_, fun i hi ha => ?_, fun i hi ha => ?_⟩
  · by_cases hi : i < d.next.length
    · rw [h.2 i hi]; split <;> simp
    · exact .inl (atL_out (by rw [h.1]; omega))
  · rw [h.2 i hi, if_pos ⟨hi, ha⟩]
  · rw [h.2 i hi] at ha
    by_cases h1 : i < d.next.length ∧ df.acpt d i = true
    · exact ⟨[], h1.2⟩
    · rw [if_neg h1] at ha; cases ha
/-- within a state: the first bytes are looked at -/
def StillTo (d : df.Dfa) (l : List Int) (i b : Nat) : Prop := atL l i = 0 → ∀ c, c < b → 0 ≤ df.nxt d i (d.cls c) → atL l (df.nxt d i (d.cls c)).toNat = 0
/-- how a pass stands: l0 was there, l is -/
structure Pass (d : df.Dfa) (l0 l : List Int) (more : Bool) (i : Nat) : Prop where
  ok : LvOk d l
  yes : more = true → zeros l < zeros l0
  no : more = false → l = l0 ∧ ∀ k, k < i → Still d l k
theorem Pass.next {d : df.Dfa} {l0 l : List Int} {more : Bool} {i : Nat} (h : Pass d l0 l more i) (hs : more = false → StillTo d l i 256) : Pass d l0 l more (i + 1) :=
  ⟨h.ok, h.yes, fun e => ⟨(h.no e).1, fun k hk => by
    by_cases e2 : k = i
    · subst e2; exact fun h0 b hb hj => hs e h0 b hb hj
    · exact (h.no e).2 k (by omega)⟩⟩
theorem Pass.mark {d : df.Dfa} {l0 l : List Int} {more : Bool} {i b : Nat} (hr : df.right d = true) (h : Pass d l0 l more i) (hi : i < d.next.length) (hb : b < 256) (h0 : atL l i = 0) (hj : 0 ≤ df.nxt d i (d.cls b)) (h1 : atL l (df.nxt d i (d.cls b)).toNat = 1) : Pass d l0 (l.set i 1) true i := by
  have hok := df.ok_of d hr
  have hn := df.nxt_ok hok i (d.cls b) hi (hok.cl b hb)
  have hz := zeros_set l i (by rw [h.ok.1]; exact hi) h0
  refine ⟨h.ok.step hi hb hj (by omega) h1, fun _ => ?_, fun e => by cases e⟩
  cases hm : more with
  | true => have := h.yes hm; omega
  | false => rw [(h.no hm).1] at hz ⊢; omega
theorem cell_setZ {w : World} {g b i : Nat} {v : Value} (h : b ≠ g) (j : Nat) : (w.setCell ⟨g, i, none⟩ v).cell? ⟨b, j, none⟩ = w.cell? ⟨b, j, none⟩ := by
  have e : (w.setCell ⟨g, i, none⟩ v).heap[b]? = w.heap[b]? := Below.heap_setCell _ _ _ _ h
  simp only [World.cell?, e]
def RowB (w : World) (vb : Nat) (d : df.Dfa) (i : Nat) : Prop := ∀ b, b < 256 → w.cell? ⟨vb, b, none⟩ = some (.int .i64 (df.nxt d i (d.cls b)))
theorem rowB_of {w : World} {K : Nat} {v : Value} {d : df.Dfa} {i : Nat} (h : w.ownsRow K 3 1 v 256 ((bts d i).map (Value.int .i64))) : ∃ vb vc, v = .slice (some ⟨vb, 0, none⟩) 256 vc ∧ K ≤ vb ∧ 256 ≤ vc ∧ vc ≤ 9223372036854775807 ∧ RowB w vb d i := by
  obtain ⟨o, c, e1, h1, h2, h3⟩ := own_row h (by simp [bts_len]) (fun _ _ => rfl)
  obtain ⟨vb, e2, hK, _, _⟩ := h3 0 (.int .i64 (df.nxt d i (d.cls 0))) (by rw [List.getElem?_map, bts_get d i 0 (by omega)]; rfl)
  refine ⟨vb, c, by rw [e1, e2], hK, h1, h2, fun b hb => ?_⟩
  obtain ⟨vb', e3, _, _, hc⟩ := h3 b (.int .i64 (df.nxt d i (d.cls b))) (by rw [List.getElem?_map, bts_get d i b hb]; rfl)
  rw [e2] at e3
  cases e3
  exact hc
end Go.Proofs.Ytkdkibnjfgcppaa.mi
