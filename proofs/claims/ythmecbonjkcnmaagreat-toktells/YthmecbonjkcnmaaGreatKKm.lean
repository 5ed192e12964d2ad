/-
  Contracts over this program: ids of names behind others (tok.named).
-/
import Derived.Test.YthmecbonjkcnmaaGreatM15
import Derived.Test.YthmecbonjkcnmaaGreatM01
namespace Go.Proofs.YthmecbonjkcnmaaGreat.tk
open Go.ChangeShapes Go.WideShapes Go.ChangeAt Go.RowKit
open cf (Cf Cp cv CfAt CBox cfE cbox_new)
open mg (Row In)
set_option linter.unusedVariables false
set_option maxRecDepth 100000

abbrev zv (x : Int) : Value := .int .i64 x
theorem info3 : (Tryz.prog.info? 3).map (fun i => (i.zero, i.size, i.bytes)) = some (some (.int .i64 0), 1, 8) := by kernel_rfl
theorem below_alloc' (w : World) (o : Obj) : Below w.heap.size w (w.alloc o) := (Below.refl _ _).alloc (Nat.le_refl _) o
/-- ids that the call made -/
def Ids (w : World) (B : Nat) (v : Value) (l : List Int) : Prop := w.ownsRow B 3 1 v l.length (l.map zv)
def nameIds (c : Cf) (l : List Int) : List Int := l.map fun x => 256 + (c.ms.length : Int) + x
/-- what changes: one row, new blocks -/
structure Chr (ob : Option Nat) (w w' : World) : Prop where
  os : w'.os = w.os
  tape : w'.tape = w.tape
  output : w'.output = w.output
  size : w.heap.size ≤ w'.heap.size
  block : ∀ k, k < w.heap.size → ob ≠ some k → w'.heap[k]? = w.heap[k]?
def IdsOut (B : Nat) (v : Value) (l : List Int) (W : World) (e : Ending) (w' : World) : Prop := ∃ v', e = .returned v' ∧ Ids w' B v' l ∧ Chr v.ownBlock W w' ∧ (v'.ownBlock = v.ownBlock ∨ ∃ k, v'.ownBlock = some k ∧ W.heap.size ≤ k)
def Same (w : World) (v v' : Value) : Prop := v'.ownBlock = v.ownBlock ∨ ∃ k, v'.ownBlock = some k ∧ w.heap.size ≤ k
theorem Chr.refl (ob : Option Nat) (w : World) : Chr ob w w := ⟨rfl, rfl, rfl, Nat.le_refl _, fun _ _ _ => rfl⟩
theorem Chr.trans {v v' : Value} {w w1 w2 : World} (h : Chr v.ownBlock w w1) (k : Chr v'.ownBlock w1 w2) (hs : Same w v v') : Chr v.ownBlock w w2 :=
  ⟨k.os.trans h.os, k.tape.trans h.tape, k.output.trans h.output, Nat.le_trans h.size k.size, fun b h1 h2 => by
    rw [k.block b (Nat.lt_of_lt_of_le h1 h.size) (fun e => ?_), h.block b h1 h2]
    rcases hs with e1 | ⟨k', e1, e2⟩
    · exact h2 (e1.symm.trans e)
    · rw [e1] at e; cases e; omega⟩
theorem Chr.below {ob : Option Nat} {w w' : World} (b : Below w.heap.size w w') : Chr ob w w' := ⟨b.os, b.tape, b.output, b.size, fun k hk _ => b.block k hk⟩
theorem Same.trans {w w1 : World} {v v' v'' : Value} (h : Same w v v') (k : Same w1 v' v'') (hs : w.heap.size ≤ w1.heap.size) : Same w v v'' := by
  rcases k with e | ⟨b, e, e2⟩
  · rcases h with e1 | ⟨b, e1, e2⟩
    · exact .inl (e.trans e1)
    · exact .inr ⟨b, e.trans e1, e2⟩
  · exact .inr ⟨b, e, by omega⟩
/-- a list that grows -/
structure Gw (B : Nat) (v : Value) (w w' : World) (v' : Value) (l : List Int) : Prop where
  ids : Ids w' B v' l
  ch : Chr v.ownBlock w w'
  same : Same w v v'
theorem Gw.more {B : Nat} {v : Value} {w w' w2 : World} {v' : Value} {l : List Int} (h : Gw B v w w' v' l) {x : Int} {g' cap' : Nat} (ho : w2.ownsRow B 3 1 (.slice (some ⟨g', 0, none⟩) (l.length + 1) cap') (l.length + 1) (l.map zv ++ [zv x])) (hg : (w'.alloc (.cells #[zv x] 3)).grownBy w2 v'.ownBlock) (hn : some g' = v'.ownBlock ∨ (w'.alloc (.cells #[zv x] 3)).heap.size ≤ g') : Gw B v w w2 (.slice (some ⟨g', 0, none⟩) (l.length + 1) cap') (l ++ [x]) := by
  have hs := hg.size
  rw [World.size_alloc] at hs hn
  have sm : Same w' v' (.slice (some ⟨g', 0, none⟩) (l.length + 1) cap') := by
    rcases hn with e | e
    · exact .inl e
    · exact .inr ⟨g', rfl, by omega⟩
  refine ⟨by simpa [Ids] using ho, h.ch.trans (v' := v') ⟨hg.os, hg.tape, hg.output, by omega, fun k hk hne => ?_⟩ h.same, h.same.trans sm h.ch.size⟩
  rw [hg.block k (by rw [World.size_alloc]; omega) (fun e => hne e.symm)]
  exact (below_alloc' w' _).block k hk
set_option maxHeartbeats 2000000 in
theorem named_any (c : Cf) (p : Cp) (names : List Int) (hn : names.length ≤ 64) (hnb : ∀ x ∈ names, 0 ≤ x ∧ x ≤ 1000) (hm : c.ms.length ≤ 1024) (go : Option Addr) (gc : Nat) (B : Nat) (W : World) (hB : B ≤ W.heap.size) (hrow : Row (fun b => b < B) W mg.iv go gc names) (v : Value) (l : List Int) (hv : Ids W B v l) (hl : l.length ≤ 300000) :
    Calls Tryz.prog 24 #[v, .agg (cv c p), .slice go names.length gc] W (IdsOut B v (l ++ nameIds c names) W) := by
  obtain ⟨ov, oc, rfl, ho1, ho2⟩ := ow.form hv
  have hb1 := below_alloc' W (.cells (cv c p) 34)
  obtain ⟨w1, HW1⟩ : ∃ w1, Hid (w1 = W.alloc (.cells (cv c p) 34)) := ⟨_, rfl⟩
  have hbx : w1.heap[W.heap.size]? = some (.cells (cv c p) 34 (0, 0)) := by rw [HW1.out]; exact World.alloc_heap_new W _
  have b1 : Below W.heap.size W w1 := by rw [HW1.out]; exact hb1
  have hz : W.heap.size < w1.heap.size := (Array.getElem?_eq_some_iff.1 hbx).1
  have HB1 := (show Hid (Below W.heap.size W w1) from b1)
  have HCX := (show Hid (∀ W', Chr (Value.slice ov l.length oc).ownBlock w1 W' → W'.cell? ⟨W.heap.size, 9, none⟩ = some (.slice p.mo c.ms.length p.mc)) from fun W' h => by
    rw [Lib.cell_of_heap ((h.block _ hz (fun e => by have := (ow.lt hv e).2; omega)).trans hbx)]; rfl)
  have HRW := (show Hid (∀ W', Chr (Value.slice ov l.length oc).ownBlock w1 W' → Row (fun b => b < B) W' mg.iv go gc names) from fun W' h => hrow.carry (fun b hb => by
    have hbW : b < W.heap.size := Nat.lt_of_lt_of_le hb hB
    exact (h.block b (Nat.lt_of_lt_of_le hbW b1.size) (fun e => by have := (ow.lt hv e).1; omega)).trans (b1.block b hbW)) (fun _ h => h))
  have HST := (show Hid (Gw B (.slice ov l.length oc) w1 w1 (.slice ov l.length oc) l) from ⟨ow.later hv b1, Chr.refl _ _, .inl rfl⟩)
  have HNB := (show Hid (∀ x ∈ names, 0 ≤ x ∧ x ≤ 1000) from hnb)
  have HBS := (show Hid (B ≤ w1.heap.size) from Nat.le_trans hB b1.size)
  have hgc := hrow.fit
  have hgt := hrow.top
  have z1 : IntKind.i64.wrap (256 + (c.ms.length : Int)) = 256 + (c.ms.length : Int) := IntWalk.i64_in _ (by omega)
  unfold cv at HW1
  unfold cv
  clear hb1 hbx b1 hrow hv hnb
  go_enter Tryz.func24, Tryz.ntmps24
  go_wp2_with (fail)
  rw [← HW1.out]
  clear HW1
  go_loopw [0, 11] (fun y z wr => ∃ (i : Nat) (k : List Int) (gy : Option Addr) (cy : Nat), y = .slice gy k.length cy ∧ z = .int .i64 i ∧ i ≤ names.length ∧ Hid (k = l ++ nameIds c (names.take i)) ∧ Hid (Gw B (.slice ov l.length oc) w1 wr (.slice gy k.length cy) k)) (fun _ z _ => names.length - (intOf z).toNat)
  case atStart => exact ⟨0, l, ov, oc, rfl, rfl, by omega, by show _ = _; simp [nameIds], HST⟩
  case round =>
    obtain ⟨i, k, gy, cy, rfl, rfl, hi, HK, HG⟩ := hrel
    clear HST
    by_cases hin : i < names.length
    · obtain ⟨b, off, rfl, hb, hc⟩ := (HRW.out wr HG.out.ch).lie i hin
      have k9 := HCX.out wr HG.out.ch
      have hx := HNB.out names[i] (List.getElem_mem hin)
      have HNX := (show Hid (l ++ nameIds c (names.take (i + 1)) = k ++ [256 + (c.ms.length : Int) + names[i]]) from by
        show _ = _
        rw [HK.out, List.take_succ_eq_append_getElem hin]
        unfold nameIds
        rw [List.map_append, List.append_assoc]
        rfl)
      have hkl : k.length ≤ 400000 := by
        rw [HK.out]
        simp [nameIds]
        omega
      generalize names[i] = x at *
      have z2 : IntKind.i64.wrap (256 + (c.ms.length : Int) + x) = 256 + (c.ms.length : Int) + x := IntWalk.i64_in _ (by omega)
      clear HK
      go_wp2_with (at_builtin; refine ow.wpList_append (by rfl) (.tmp 15) (.tmp 22) 32 (by rfl) 3 _ 1 8 Tryz.underlying32 info3 (by rfl) (by decide) (by decide) B (.slice gy k.length cy) k.length (k.map zv) wr.heap.size [zv (256 + (c.ms.length : Int) + x)] (by rfl) (by rfl) (by exact ow.later HG.out.ids (below_alloc' _ _)) (by rfl) (by exact ow.new1 wr _ 3) (by exact ow.one1 _ rfl) (by omega) (by have := HBS.out; have := HG.out.ch.size; rw [World.size_alloc]; omega) ?_; intro g' cap' w6 ho hg hnw)
      have HN := (show Hid (Gw B (.slice ov l.length oc) w1 w6 (.slice (some ⟨g', 0, none⟩) (k.length + 1) cap') (k ++ [256 + (c.ms.length : Int) + x])) from HG.out.more ho hg hnw)
      clear ho hg hnw HG k9 hc
      go_roundw
      case rel => exact ⟨i + 1, k ++ [256 + (c.ms.length : Int) + x], some ⟨g', 0, none⟩, cap', by simp, by go_num, by omega, by show _ = _; rw [HNX.out], by show Gw _ _ _ _ _ _; rw [show (k ++ [256 + (c.ms.length : Int) + x]).length = k.length + 1 by simp]; exact HN.out⟩
      case measure => simp [intOf]; omega
    · have hie : i = names.length := by omega
      subst hie
      have HKE := (show Hid (k = l ++ nameIds c names) from by have := HK.out; rw [List.take_length] at this; exact this)
      go_wp2_with (fail)
      go_ret
      refine ⟨_, rfl, by rw [← HKE.out]; exact HG.out.ids, ?_, ?_⟩
      · exact (Chr.below (ob := (Value.slice ov l.length oc).ownBlock) HB1.out).trans (v' := .slice ov l.length oc) HG.out.ch (.inl rfl)
      · exact (Same.trans (.inl rfl : Same W (.slice ov l.length oc) (.slice ov l.length oc)) HG.out.same HB1.out.size)
end Go.Proofs.YthmecbonjkcnmaaGreat.tk
