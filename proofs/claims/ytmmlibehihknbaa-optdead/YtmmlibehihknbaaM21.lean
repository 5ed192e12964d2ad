/-
  Texts put together: Contracts over this program: what a framer does. Contracts over this program: stages in a slice; ir.inOrder and ir.Right at three stages.
-/
import Derived.Test.YtmmlibehihknbaaKRf
import Derived.Laws.Tables
namespace Go.Proofs.Ytmmlibehihknbaa.ir
open Go.ChangeShapes Go.WideShapes Go.ChangeAt Go.RowKit
open mg (Row In iv IntsV chain below_alloc Mg Mgs app idsOf)
set_option linter.unusedVariables false
set_option maxRecDepth 100000

def Do4 (g : Sg) (l : List Int) (s : ByteArray) (fb : Nat) (vp : Value) (w : World) (e : Ending) (w' : World) : Prop := e = .returned (.int .i64 0) ∧ ∃ v, FBox w' fb s vp v ∧ Ids w' w.heap.size v (g.bf ++ l ++ g.af) ∧ Ch fb w w'
theorem lists3 {W : World} {B : Nat} {v0 v1 v2 : Value} {l0 l1 l2 : List Int} (hB : B = W.heap.size) (h0 : IntsV W v0 l0) (h1 : IntsV W v1 l1) (h2 : IntsV W v2 l2) : Lists (W.alloc (.cells #[v0, v1, v2] 25)) B 3 [l0, l1, l2] := by
  subst hB
  have hb := below_alloc W (.cells #[v0, v1, v2] 25)
  have hx := World.alloc_heap_new W (.cells #[v0, v1, v2] 25)
  refine ⟨rfl, by simp, fun i hi => ?_⟩
  have key : ∀ j u, #[v0, v1, v2][j]? = some u → (W.alloc (.cells #[v0, v1, v2] 25)).cell? ⟨W.heap.size, j, none⟩ = some u := fun j u hj => by rw [cell_of_row _ _ j _ _ _ hx]; exact hj
  match i, hi with
  | 0, _ => exact ⟨v0, key 0 v0 rfl, h0.later hb⟩
  | 1, _ => exact ⟨v1, key 1 v1 rfl, h1.later hb⟩
  | 2, _ => exact ⟨v2, key 2 v2 rfl, h2.later hb⟩
set_option maxHeartbeats 4000000 in
theorem do4 (g : Sg) (p : Sp) (w : World) (h : SgAt w g p) (h1 : g.bf.length ≤ 32) (h2 : g.af.length ≤ 32) (s : ByteArray) (l : List Int) (hl : l.length ≤ 300000) (fb : Nat) (vp vi : Value) (hi : IntsV w vi l) (hf : FBox w fb s vp vi) : Calls Try.prog 124 #[.agg #[p.vb, p.va], .pointer (some ⟨fb, 0, none⟩)] w (Do4 g l s fb vp w) := by
  obtain ⟨o1, c1, e1, _⟩ := h.bf
  obtain ⟨o2, c2, e2, _⟩ := h.af
  obtain ⟨w1, HW1⟩ : ∃ w1, Hid (w1 = w.alloc (.cells #[p.vb, p.va] 80)) := ⟨_, rfl⟩
  have b1 : Below w.heap.size w w1 := by rw [HW1.out]; exact below_alloc w _
  have hx1 : w1.heap[w.heap.size]? = some (.cells #[p.vb, p.va] 80 (0, 0)) := by rw [HW1.out]; exact World.alloc_heap_new w _
  have HB1 := (show Hid (Below w.heap.size w w1) from b1)
  have HF1 := (show Hid (FBox w1 fb s vp vi) from hf.later b1)
  have HL3 := (show Hid (∀ W, Below w1.heap.size w1 W → Lists (W.alloc (.cells #[p.vb, vi, p.va] 25)) W.heap.size 3 [g.bf, l, g.af]) from fun W b => lists3 rfl ((h.bf.later b1).later b) ((hi.later b1).later b) ((h.af.later b1).later b))
  have HC := (show Hid (∀ W, Below w1.heap.size w1 W → Calls Try.prog 126 #[.slice (some ⟨W.heap.size, 0, none⟩) 3 3] (W.alloc (.cells #[p.vb, vi, p.va] 25)) fun e w' => ∃ v, e = .returned v ∧ Ids w' (W.alloc (.cells #[p.vb, vi, p.va] 25)).heap.size v (g.bf ++ l ++ g.af) ∧ Below (W.alloc (.cells #[p.vb, vi, p.va] 25)).heap.size (W.alloc (.cells #[p.vb, vi, p.va] 25)) w') from fun W b => by
    have := concat_any [g.bf, l, g.af] W.heap.size 3 (by omega) (by simp [total]; omega) _ (HL3.out W b)
    simpa using this)
  have q0 : w1.cell? ⟨w.heap.size, 0, none⟩ = some p.vb := by rw [Lib.cell_of_heap hx1]; rfl
  have q1 : w1.cell? ⟨w.heap.size, 1, none⟩ = some p.va := by rw [Lib.cell_of_heap hx1]; rfl
  have hfl := hf.lt
  obtain ⟨o3, c3, e3, _⟩ := hi
  rw [e1] at HW1 HC q0 ⊢
  rw [e2] at HW1 HC q1 ⊢
  rw [e3] at HC HF1
  have u2 := HF1.out.cells.2.2
  have ff := Lib.frozen_of_heap (show w1.heap[fb]? = some (.cells #[.string s, vp, .slice o3 l.length c3] 58 (0, 0)) from HF1.out) 2
  clear h b1 hx1 HL3 e1 e2 e3 hf
  go_enter Try.func124, Try.ntmps124
  go_wp2_with (fail)
  rw [← HW1.out]
  clear HW1
  go_region_with (go_at_call 126; refine (HC.out _ (Below.drew (Below.refl _ _))).mono ?_; rintro e w3 ⟨v, rfl, hI3, b3⟩; obtain ⟨vo, vc, rfl, hv1, hv2⟩ := ow.form hI3; have bx3 := (Below.drew (Below.refl w1.heap.size w1)).trans (mg.chain (mg.below_alloc _ _) b3); have hb3 := HF1.out.later bx3; have u3 := hb3.cells.2.2; have f3 := Lib.frozen_of_heap (show w3.heap[fb]? = some (.cells #[.string s, vp, .slice o3 l.length c3] 58 (0, 0)) from hb3) 2; have HZ := (show Hid (Below w1.heap.size w1 w3 ∧ FBox w3 fb s vp (.slice o3 l.length c3) ∧ Ids w3 (w1.heap.size + 1) (.slice vo (g.bf ++ l ++ g.af).length vc) (g.bf ++ l ++ g.af)) from ⟨bx3, hb3, by simpa using hI3⟩); clear hI3 b3 bx3 hb3)
  all_goals (
    rename_i K9 hK9
    refine hK9 _ _ ?_
    clear hK9 u2 ff u3 f3 q0 q1
    go_wp2_with (fail)
    go_ret
    obtain ⟨z1, z2, z3⟩ := HZ.out
    have hsz : w.heap.size ≤ w1.heap.size := HB1.out.size
    have e : g.bf.length + (l.length + g.af.length) = (g.bf ++ l ++ g.af).length := by simp
    rw [e]
    refine ⟨rfl, _, ?_, pc.base_down (B := w1.heap.size + 1) (ow.keep z3 fun q hq => Below.heap_setCell _ _ _ q (by have := (ow.lt z3 hq).1; show q ≠ fb; omega)) (by omega), (Ch.below (chain HB1.out z1)).trans (Ch.set 2 _)⟩
    show _ = _
    rw [set_heap w3 fb _ _ 2 _ z2]
    rfl)
end Go.Proofs.Ytmmlibehihknbaa.ir

namespace Go.Proofs.Ytmmlibehihknbaa.ir
open Go.ChangeShapes Go.WideShapes Go.ChangeAt Go.RowKit
open mg (Row In iv IntsV chain below_alloc Mg Mgs app idsOf)
set_option linter.unusedVariables false
set_option maxRecDepth 100000

/-- three stages in a slice -/
structure Sgs (w : World) (b off : Nat) (g0 g1 g2 : Sg) (p0 p1 p2 : Sp) : Prop where
  lt : b < w.heap.size
  r0 : w.rangeAt b off (svL g0 p0)
  r1 : w.rangeAt b (off + 523) (svL g1 p1)
  r2 : w.rangeAt b (off + 1046) (svL g2 p2)
  s0 : SgAt w g0 p0
  s1 : SgAt w g1 p1
  s2 : SgAt w g2 p2
section
variable {w w' : World} {b off : Nat} {g0 g1 g2 : Sg} {p0 p1 p2 : Sp}
theorem Sgs.later (h : Sgs w b off g0 g1 g2 p0 p1 p2) (k : Below w.heap.size w w') : Sgs w' b off g0 g1 g2 p0 p1 p2 :=
  ⟨Nat.lt_of_lt_of_le h.lt k.size, range_later h.r0 h.lt k, range_later h.r1 h.lt k, range_later h.r2 h.lt k, h.s0.later k, h.s1.later k, h.s2.later k⟩
theorem kind_of {o : Nat} {g : Sg} {p : Sp} (h : w.rangeAt b o (svL g p)) : w.cell? ⟨b, o, none⟩ = some (.int .i64 g.kind) := h 0 _ rfl
end
def z39 : List Value := .int .i64 0 :: (List.replicate 4 (Value.slice none 0 0) ++ (List.replicate 256 (Value.int .u8 0) ++ (List.replicate 2 (Value.slice none 0 0) ++ (List.replicate 256 (Value.int .u8 0) ++ List.replicate 4 (Value.slice none 0 0)))))
theorem z39_len : z39.length = 523 := by unfold z39; simp
theorem zero39 : ∀ w, (zeroValue 39).run Try.prog w = .ok (.agg z39.toArray) w := (zero_of_info (P := Try.prog) (t := 39) (v := .agg z39.toArray) (n := 523) (by kernel_rfl)).1
theorem info39 : (Try.prog.info? 39).map (·.size) = some 523 := by kernel_rfl
theorem info39c {w : World} {g : Sg} {p : Sp} (h : SgAt w g p) : (Try.prog.info? 39).map (·.size) = some (svL g p).length := by rw [h.len]; exact info39
theorem info39a {w : World} {g : Sg} {p : Sp} (h : SgAt w g p) : (Try.prog.info? 39).map (·.size) = some (svL g p).toArray.size := by rw [List.size_toArray, h.len]; exact info39
theorem below_row {n g : Nat} {w W : World} (h : Below n w W) (hg : n ≤ g) (hn : n ≤ w.heap.size) (cs : Array Value) : Below n w (W.setRow g cs) := ⟨h.os, h.tape, h.output, by simpa using h.size, fun k hk => (setRow_other _ _ _ _ (by omega)).trans (h.block k hk)⟩
theorem stage_new {w0 : World} (w1 : World) (Z : Array Value) {g : Sg} {p : Sp} (h : SgAt w0 g p) : ∃ W3, (w1.alloc (.cells Z 39)).setRow w1.heap.size (svL g p).toArray = W3 ∧ SBox W3 w1.heap.size g p ∧ Below w1.heap.size w1 W3 :=
  ⟨_, rfl, setRow_heap _ _ _ _ _ _ (World.alloc_heap_new w1 _), below_row (below_alloc w1 _) (Nat.le_refl _) (Nat.le_refl _) _⟩
theorem store_stage {ops : Array Oper} {rest : List Oper} {o : Oper} {a : Act} {w0 w1 W3 : World} {Z C : Array Value} {Q : Exit → Act → World → Prop} (hgd : o.guard = none) (x y : Operand) (ho : o.op = .store 39 x y)
    (hx : a.eval x = .pointer (some ⟨w1.heap.size, 0, none⟩)) (hy : a.eval y = .agg C) (hi : (Try.prog.info? 39).map (·.size) = some C.size) (hone : C.all (·.oneCell') = true) (hold : Z.size = C.size) (hW : (w1.alloc (.cells Z 39)).setRow w1.heap.size C = W3)
    (h : wpList Try.prog ops Q rest (a.put o.dst undef) W3) : wpList Try.prog ops Q (o :: rest) a (w1.alloc (.cells Z 39)) := by
  subst hW
  exact wpList_store_row hgd 39 x y ho w1.heap.size C hx hy 39 Z (World.alloc_heap_new w1 _) hi hold hone h
theorem SgAt.all {w : World} {g : Sg} {p : Sp} (h : SgAt w g p) : (svL g p).toArray.all (·.oneCell') = true := all_oneCell_toArray h.ones
theorem idx64 (i : Nat) (h : i < 3) (w : World) : (Instr.index 72 (.agg #[.int .i64 2, .int .i64 3, .int .i64 4]) (.int .i64 (i : Int))).run Try.prog w = .ok (.int .i64 ((i : Int) + 2)) w := by
  match i, h with
  | 0, _ => exact df.run_index_arr 72 3 3 _ 0 (by decide) _ rfl w Try.underlying72 (Try.isAgg3 w) (Try.sizeOf3 w)
  | 1, _ => exact df.run_index_arr 72 3 3 _ 1 (by decide) _ rfl w Try.underlying72 (Try.isAgg3 w) (Try.sizeOf3 w)
  | 2, _ => exact df.run_index_arr 72 3 3 _ 2 (by decide) _ rfl w Try.underlying72 (Try.isAgg3 w) (Try.sizeOf3 w)
def kindAt (g0 g1 g2 : Sg) (i : Nat) : Int := if i = 0 then g0.kind else if i = 1 then g1.kind else g2.kind
def ordered (g0 g1 g2 : Sg) : Bool := decide (g0.kind = 2) && decide (g1.kind = 3) && decide (g2.kind = 4)
theorem kind_cell {w : World} {b off : Nat} {g0 g1 g2 : Sg} {p0 p1 p2 : Sp} (h : Sgs w b off g0 g1 g2 p0 p1 p2) (i : Nat) (hi : i < 3) : w.cell? ⟨b, off + i * 523, none⟩ = some (.int .i64 (kindAt g0 g1 g2 i)) := by
  match i, hi with
  | 0, _ => simpa [kindAt] using kind_of h.r0
  | 1, _ => simpa [kindAt] using kind_of h.r1
  | 2, _ => simpa [kindAt] using kind_of h.r2
set_option maxHeartbeats 4000000 in
theorem inOrder_any (b off cap : Nat) (hc1 : 3 ≤ cap) (hc2 : cap ≤ 9223372036854775807) (g0 g1 g2 : Sg) (p0 p1 p2 : Sp) (w : World) (h : Sgs w b off g0 g1 g2 p0 p1 p2) : Calls Try.prog 16 #[.slice (some ⟨b, off, none⟩) 3 cap] w fun e w' => e = .returned (.bool (ordered g0 g1 g2)) ∧ Below w.heap.size w w' := by
  have HS := (show Hid (∀ W, Below w.heap.size w W → ∀ i, i < 3 → W.cell? ⟨b, off + i * 523, none⟩ = some (.int .i64 (kindAt g0 g1 g2 i))) from fun W k i hi => kind_cell (h.later k) i hi)
  obtain ⟨r, hr⟩ : ∃ r, r = ordered g0 g1 g2 := ⟨_, rfl⟩
  have HR := (show Hid (r = ordered g0 g1 g2) from hr)
  rw [← hr]
  have hB : Below w.heap.size w (w.alloc (.cells #[.int .i64 2, .int .i64 3, .int .i64 4] 72)) := below_alloc w _
  have hX : (w.alloc (.cells #[.int .i64 2, .int .i64 3, .int .i64 4] 72)).heap[w.heap.size]? = some (.cells #[.int .i64 2, .int .i64 3, .int .i64 4] 72 (0, 0)) := World.alloc_heap_new w _
  clear h hr
  go_enter Try.func16, Try.ntmps16
  go_wp2_with (fail)
  generalize w.alloc (.cells #[.int .i64 2, .int .i64 3, .int .i64 4] 72) = w1 at *
  have hc0 := Lib.cell_of_heap hX
  have k0 : w1.cell? ⟨w.heap.size, 0, none⟩ = some (.int .i64 2) := by rw [hc0]; rfl
  have k1 : w1.cell? ⟨w.heap.size, 1, none⟩ = some (.int .i64 3) := by rw [hc0]; rfl
  have k2 : w1.cell? ⟨w.heap.size, 2, none⟩ = some (.int .i64 4) := by rw [hc0]; rfl
  have HB := (show Hid (Below w.heap.size w w1) from hB)
  clear hB hX hc0
  go_loopw [23] (fun y wr => y = .int .i64 0 ∧ wr = w1) (fun _ _ => 0)
  case atStart => exact ⟨rfl, rfl⟩
  case round =>
    obtain ⟨rfl, rfl⟩ := hrel
    go_wp2_with (fail)
    go_loopw [32] (fun y wq => ∃ i : Nat, y = .int .i64 (i : Int) ∧ i ≤ 3 ∧ Hid (∀ j, j < i → kindAt g0 g1 g2 j = (j : Int) + 2) ∧ wq = wr) (fun y _ => 3 - (intOf y).toNat)
    case atStart => exact ⟨0, rfl, by omega, fun j hj => by omega, rfl⟩
    case round =>
      obtain ⟨i, rfl, hi, HA, rfl⟩ := hrel
      by_cases hend : i < 3
      · have hcell := HS.out wr HB.out i hend
        have hx := fun W => idx64 i hend W
        have HK := (show Hid (∃ x, x = kindAt g0 g1 g2 i) from ⟨_, rfl⟩)
        by_cases he : kindAt g0 g1 g2 i = (i : Int) + 2
        · have HN := (show Hid (∀ j, j < i + 1 → kindAt g0 g1 g2 j = (j : Int) + 2) from fun j hj => by
            by_cases e : j = i
            · subst e; exact he
            · exact HA.out j (by omega))
          rw [he] at hcell
          clear HA he k0 k1 k2
          go_wp2_with (fail)
          refine ⟨⟨i + 1, by go_num, by omega, HN, trivial⟩, by simp [intOf]; omega⟩
        · have HF := (show Hid (r = false) from by
            show _ = _
            rw [HR.out]
            unfold ordered
            unfold kindAt at he
            match i, hend with
            | 0, _ => simp at he; simp [he]
            | 1, _ => simp at he; simp; omega
            | 2, _ => simp at he; simp; omega)
          generalize kindAt g0 g1 g2 i = x at *
          have hne : (x == (i : Int) + 2) = false := beq_eq_false_iff_ne.2 he
          clear HA k0 k1 k2
          go_wp2_with (fail)
          go_ret
          exact ⟨by rw [HF.out]; rfl, HB.out⟩
      · obtain rfl : i = 3 := by omega
        have HT := (show Hid (r = true) from by
          show _ = _
          rw [HR.out]
          have a0 := HA.out 0 (by omega)
          have a1 := HA.out 1 (by omega)
          have a2 := HA.out 2 (by omega)
          simp [kindAt] at a0 a1 a2
          simp [ordered, a0, a1, a2])
        clear HA k0 k1 k2
        go_wp2_with (fail)
        go_ret
        exact ⟨by rw [HT.out]; rfl, HB.out⟩
def mays (g0 g1 g2 : Sg) : Bool := df.right g0.d && decide (hp.newE g1.ms g1.dr = 0) && (areIds g2.bf && areIds g2.af)
def rightS (g0 g1 g2 : Sg) : Bool := ordered g0 g1 g2 && mays g0 g1 g2
theorem ordered_kinds {g0 g1 g2 : Sg} (h : ordered g0 g1 g2 = true) : g0.kind = 2 ∧ g1.kind = 3 ∧ g2.kind = 4 := by
  unfold ordered at h
  simp at h
  exact ⟨h.1.1, h.1.2, h.2⟩
/-- one stage is looked at -/
def MayIs (g : Sg) (p : Sp) (T : TypeId) (f : Nat) (v : Value) (r : Bool) (w : World) : Prop := ∀ W, Below w.heap.size w W → Calls Try.prog 17 #[.agg (svL g p).toArray] W (fun e w' => e = .returned (.iface T v) ∧ Below W.heap.size W w') ∧ Calls Try.prog f #[v] W (fun e w' => e = .returned (.bool r) ∧ Below W.heap.size W w')
theorem meth68 (v : Value) (W : World) : Sem.run Try.prog (method 288 76 v "fretsaw/ir.may") W = .ok (68, v) W := by kernel_rfl
theorem meth70 (v : Value) (W : World) : Sem.run Try.prog (method 288 78 v "fretsaw/ir.may") W = .ok (84, v) W := by kernel_rfl
theorem meth72 (v : Value) (W : World) : Sem.run Try.prog (method 288 80 v "fretsaw/ir.may") W = .ok (125, v) W := by kernel_rfl
theorem call54 (a : Array Value) (W : World) : Sem.run Try.prog (callFunc 68 a) W = .ok (.enter 68 a) W := by kernel_rfl
theorem call70 (a : Array Value) (W : World) : Sem.run Try.prog (callFunc 84 a) W = .ok (.enter 84 a) W := by kernel_rfl
theorem call111 (a : Array Value) (W : World) : Sem.run Try.prog (callFunc 125 a) W = .ok (.enter 125 a) W := by kernel_rfl
theorem may_is2 (g : Sg) (p : Sp) (hk : g.kind = 2) (w : World) (h : SgAt w g p) : MayIs g p 76 68 (.agg (p.cs.toList ++ mapL g.mp).toArray) (df.right g.d) w := fun W b => ⟨step2 g p hk W (h.later b), may2 g p _ rfl W (h.later b)⟩
theorem may_is3 (g : Sg) (p : Sp) (hk : g.kind = 3) (w : World) (h : SgAt w g p) : MayIs g p 78 84 (.agg #[p.vm, p.vd]) (decide (hp.newE g.ms g.dr = 0)) w := fun W b => ⟨step3 g p hk W (h.later b), may3 g p W (h.later b)⟩
theorem may_is4 (g : Sg) (p : Sp) (hk : g.kind = 4) (w : World) (h : SgAt w g p) : MayIs g p 80 125 (.agg #[p.vb, p.va]) (areIds g.bf && areIds g.af) w := fun W b => ⟨step4 g p hk W (h.later b), may4 g p W (h.later b)⟩
/-- the i-th stage: its value, whether it may be -/
theorem may_at {w : World} {b off : Nat} {g0 g1 g2 : Sg} {p0 p1 p2 : Sp} (h : Sgs w b off g0 g1 g2 p0 p1 p2) (ho : ordered g0 g1 g2 = true) (i : Nat) (hi : i < 3) : ∃ g p T f v r, SgAt w g p ∧ w.rangeAt b (off + i * 523) (svL g p) ∧ MayIs g p T f v r w ∧ (∀ W, Sem.run Try.prog (method 288 T v "fretsaw/ir.may") W = .ok (f, v) W) ∧ (∀ a W, Sem.run Try.prog (callFunc f a) W = .ok (.enter f a) W) ∧ (r = false → mays g0 g1 g2 = false) ∧ (i = 0 → r = df.right g0.d) ∧ (i = 1 → r = decide (hp.newE g1.ms g1.dr = 0)) ∧ (i = 2 → r = (areIds g2.bf && areIds g2.af)) := by
  obtain ⟨k0, k1, k2⟩ := ordered_kinds ho
  match i, hi with
  | 0, _ => exact ⟨g0, p0, 76, 68, _, _, h.s0, by simpa using h.r0, may_is2 g0 p0 k0 w h.s0, fun W => meth68 _ W, fun a W => call54 a W, fun e => by unfold mays; rw [e]; rfl, fun _ => rfl, fun e => by simp at e, fun e => by simp at e⟩
  | 1, _ => exact ⟨g1, p1, 78, 84, _, _, h.s1, by simpa using h.r1, may_is3 g1 p1 k1 w h.s1, fun W => meth70 _ W, fun a W => call70 a W, fun e => by unfold mays; rw [e]; simp, fun e => by simp at e, fun _ => rfl, fun e => by simp at e⟩
  | 2, _ => exact ⟨g2, p2, 80, 125, _, _, h.s2, by simpa using h.r2, may_is4 g2 p2 k2 w h.s2, fun W => meth72 _ W, fun a W => call111 a W, fun e => by unfold mays; rw [e]; simp, fun e => by simp at e, fun e => by simp at e, fun _ => rfl⟩
/-- so many may be -/
def Upto (g0 g1 g2 : Sg) (i : Nat) : Prop := (0 < i → df.right g0.d = true) ∧ (1 < i → hp.newE g1.ms g1.dr = 0) ∧ (2 < i → (areIds g2.bf && areIds g2.af) = true)
set_option maxHeartbeats 4000000 in
theorem right_any (b off cap : Nat) (hc1 : 3 ≤ cap) (hc2 : cap ≤ 9223372036854775807) (g0 g1 g2 : Sg) (p0 p1 p2 : Sp) (w : World) (h : Sgs w b off g0 g1 g2 p0 p1 p2) : Calls Try.prog 6 #[.slice (some ⟨b, off, none⟩) 3 cap] w fun e w' => e = .returned (.bool (rightS g0 g1 g2)) ∧ Below w.heap.size w w' := by
  have c12 := inOrder_any b off cap hc1 hc2 g0 g1 g2 p0 p1 p2 w h
  have HS := (show Hid (∀ W, Below w.heap.size w W → Sgs W b off g0 g1 g2 p0 p1 p2) from fun W k => h.later k)
  obtain ⟨o, ho⟩ : ∃ o, o = ordered g0 g1 g2 := ⟨_, rfl⟩
  obtain ⟨r, hr⟩ : ∃ r, r = rightS g0 g1 g2 := ⟨_, rfl⟩
  have HR := (show Hid (r = (o && mays g0 g1 g2)) from by show _ = _; rw [hr, ho]; rfl)
  have HO := (show Hid (o = ordered g0 g1 g2) from ho)
  rw [← hr]
  rw [← ho] at c12
  clear h hr ho
  obtain ⟨Z, hZ⟩ : ∃ Z, Z = z39.toArray := ⟨_, rfl⟩
  have hzero : ∀ w, (zeroValue 39).run Try.prog w = .ok (.agg Z) w := by rw [hZ]; exact zero39
  have hzs : Z.size = 523 := by rw [hZ, List.size_toArray]; exact z39_len
  clear hZ
  cases o
  · obtain rfl : r = false := HR.out
    go_enter Try.func6, Try.ntmps6
    go_wp2_with (fail)
    go_at_call 16
    refine c12.mono ?_
    rintro e w1 ⟨rfl, b1⟩
    clear c12
    go_wp2_with (fail)
    go_ret
    exact ⟨rfl, b1⟩
  · have hrm : r = mays g0 g1 g2 := HR.out
    have HM := (show Hid (r = mays g0 g1 g2) from hrm)
    clear hrm HR
    go_enter Try.func6, Try.ntmps6
    go_wp2_with (fail)
    go_at_call 16
    refine c12.mono ?_
    rintro e w1 ⟨rfl, b1⟩
    have HB1 := (show Hid (Below w.heap.size w w1) from b1)
    clear c12 b1
    go_wp2_with (fail)
    go_loopw [10] (fun y wr => ∃ i : Nat, y = .int .i64 (i : Int) ∧ i ≤ 3 ∧ Hid (Upto g0 g1 g2 i) ∧ Hid (Below w.heap.size w wr)) (fun y _ => 3 - (intOf y).toNat)
    case atStart => exact ⟨0, rfl, by omega, ⟨fun h => by omega, fun h => by omega, fun h => by omega⟩, HB1⟩
    case round =>
      obtain ⟨i, rfl, hi, HU, HB⟩ := hrel
      by_cases hend : i < 3
      · obtain ⟨g, p, T, f, v, x, hs, hrg, hm, hme, hcf, hf0, e0, e1, e2⟩ := may_at (HS.out wr HB.out) HO.out.symm i hend
        obtain ⟨W3, hW3, hbx, b3⟩ := stage_new wr Z hs
        have hl1 := info39c hs
        have hl2 := info39a hs
        have hone := hs.all
        have hold : Z.size = (svL g p).toArray.size := by rw [hzs, List.size_toArray, hs.len]
        have HX := (show Hid (MayIs g p T f v x wr) from hm)
        have HX3 := (show Hid (W3.heap[wr.heap.size]? = some (.cells (svL g p).toArray 39 (0, 0))) from hbx)
        have c13 := (hm W3 b3).1
        have HB3 := (show Hid (Below wr.heap.size wr W3) from b3)
        unfold SBox at hbx
        have hnew := World.alloc_heap_new wr (.cells Z 39)
        generalize hCL : svL g p = CL at *
        have HN := (show Hid (x = true → Upto g0 g1 g2 (i + 1)) from fun hx => by
          obtain ⟨u0, u1, u2⟩ := HU.out
          refine ⟨fun _ => ?_, fun h => ?_, fun h => ?_⟩
          · by_cases e : i = 0
            · rw [← e0 e]; exact hx
            · exact u0 (by omega)
          · by_cases e : i = 1
            · have := e1 e
              rw [hx] at this
              exact of_decide_eq_true this.symm
            · exact u1 (by omega)
          · have e : i = 2 := by omega
            rw [← e2 e]; exact hx)
        have HF0 := (show Hid (x = false → mays g0 g1 g2 = false) from hf0)
        clear hs hm b3 e0 e1 e2 hf0 HU hCL
        go_wp2_with (first | (refine wpList_load_mid rfl 39 (.tmp 12) rfl b (off + i * 523) rfl CL _ hrg Try.underlying39 rfl hl1 ?_) | (refine wpList_store_row rfl 39 (.tmp 4) (.tmp 13) rfl wr.heap.size CL.toArray rfl rfl 39 Z hnew hl2 hold hone ?_; rw [hW3]) | (refine wpList_load_row rfl 39 (.tmp 4) rfl wr.heap.size rfl 39 CL.toArray (0, 0) _ hbx Try.underlying39 rfl hl2 ?_))
        go_at_call 17
        refine c13.mono ?_
        rintro e w4 ⟨rfl, b4⟩
        have c := (HX.out w4 (chain HB3.out b4)).2
        have HB4 := (show Hid (Below wr.heap.size wr w4) from chain HB3.out b4)
        clear c13 hrg hbx hl1 hl2 hone hold hW3 b4 hnew
        go_wp2_with (fail)
        refine c.mono ?_
        rintro e w5 ⟨rfl, b5⟩
        have HB5 := (show Hid (Below w.heap.size w w5) from chain HB.out (chain HB4.out b5))
        clear c b5 hme hcf
        cases x
        · go_wp2_with (fail)
          go_ret
          exact ⟨by rw [HM.out, HF0.out (by trivial)]; rfl, HB5.out⟩
        · go_wp2_with (fail)
          go_roundw
          case rel => exact ⟨i + 1, by go_num, by omega, HN.out (by trivial), HB5⟩
          case measure => simp [intOf]; omega
      · obtain rfl : i = 3 := by omega
        have HT := (show Hid (r = true) from by
          show _ = _
          obtain ⟨u0, u1, u2⟩ := HU.out
          rw [HM.out]
          unfold mays
          rw [u0 (by omega), u1 (by omega), u2 (by omega)]
          rfl)
        go_wp2_with (fail)
        go_ret
        exact ⟨by rw [HT.out]; rfl, HB.out⟩
end Go.Proofs.Ytmmlibehihknbaa.ir
