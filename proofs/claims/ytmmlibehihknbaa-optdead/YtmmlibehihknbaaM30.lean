/-
  Texts put together: Contracts over this program: the document's Right at any number of stages (fretsawref19). Contracts over this program: the document's Right (fretsawref19) at any stages, walked.
-/
import Derived.Test.YtmmlibehihknbaaM20
import Derived.Test.YtmmlibehihknbaaKSh
import Derived.Test.YtmmlibehihknbaaM22
import Derived.Test.YtmmlibehihknbaaM36
import Derived.Test.YtmmlibehihknbaaM01
import Derived.Test.YtmmlibehihknbaaM23
namespace Go.Proofs.Ytmmlibehihknbaa.ir
open Go.ChangeShapes Go.WideShapes Go.ChangeAt Go.RowKit
open mg (Row iv IntsV chain below_alloc Mg Mgs)
open tr (Mc Mp mv MAt)
set_option linter.unusedVariables false
set_option maxRecDepth 100000

theorem load_if_mid {P : Program} {ops : Array Oper} {rest : List Oper} {op : Oper} {a : Act} {w : World} {Q : Exit → Act → World → Prop} (hw : Region.wanted op (yielded ops a.tmps) = true) (ty : TypeId) (x : Operand) (ho : op.op = .load ty x)
    (b o : Nat) (hx : a.eval x = .pointer (some ⟨b, o, none⟩)) (cs : List Value) (d : TypeDesc) (hc : w.rangeAt b o cs)
    (hu : P.underlying ty = some d) (hd : d.isRow = true) (hi : (P.info? ty).map (·.size) = some cs.length)
    (h : wpList P ops Q rest (a.put op.dst (.agg cs.toArray)) w) : wpList P ops Q (op :: rest) a w :=
  wpList_step fun K hK => by rw [if_pos hw]; exact wp_load_mid ty x ho b o hx cs d hc hu hd hi (hK _ _ h)
theorem range_sub {w : World} {b o : Nat} (L M R : List Value) (h : w.rangeAt b o (L ++ (M ++ R))) : w.rangeAt b (o + L.length) M := by
  intro j v hj
  have hlt := (List.getElem?_eq_some_iff.1 hj).1
  have := h (L.length + j) v (by rw [List.getElem?_append_right (by omega), Nat.add_sub_cancel_left, List.getElem?_append_left hlt]; exact hj)
  rw [← Nat.add_assoc] at this
  exact this
section
variable {w : World} {b o : Nat} {g : Sg} {p : Sp}
theorem row_cs (h : w.rangeAt b o (svL g p)) (k : SgAt w g p) : w.rangeAt b (o + 5) p.cs.toList := by
  have := range_sub (.int .i64 g.kind :: g.mc) p.cs.toList (mapL g.mp ++ [p.vm, p.vd, p.vb, p.va]) h
  rw [List.length_cons, k.mc] at this
  exact this
theorem row_mp (h : w.rangeAt b o (svL g p)) (k : SgAt w g p) : w.rangeAt b (o + 263) (mapL g.mp) := by
  have := range_sub (w := w) (b := b) (o := o) (.int .i64 g.kind :: (g.mc ++ p.cs.toList)) (mapL g.mp) [p.vm, p.vd, p.vb, p.va] (by simpa [svL] using h)
  have e := k.d.size
  rw [List.length_cons, List.length_append, k.mc, Array.length_toList, e] at this
  exact this
theorem row_last (h : w.rangeAt b o (svL g p)) (k : SgAt w g p) : w.cell? ⟨b, o + 519, none⟩ = some p.vm ∧ w.cell? ⟨b, o + 520, none⟩ = some p.vd ∧ w.cell? ⟨b, o + 521, none⟩ = some p.vb ∧ w.cell? ⟨b, o + 522, none⟩ = some p.va := by
  have := range_sub (w := w) (b := b) (o := o) (.int .i64 g.kind :: (g.mc ++ (p.cs.toList ++ mapL g.mp))) [p.vm, p.vd, p.vb, p.va] [] (by simpa [svL] using h)
  have e := k.d.size
  rw [List.length_cons, List.length_append, List.length_append, k.mc, Array.length_toList, e, mapL_len] at this
  exact ⟨this 0 _ rfl, this 1 _ rfl, this 2 _ rfl, this 3 _ rfl⟩
end
theorem mc_cells {w : World} {b o : Nat} {m : Mc} {q : Mp} (h : w.rangeAt b o (mv m q).toList) : w.cell? ⟨b, o, none⟩ = some (.slice q.no m.next.length q.nc) ∧ w.cell? ⟨b, o + 1, none⟩ = some (.slice q.po m.put.length q.pc) ∧ w.cell? ⟨b, o + 2, none⟩ = some (.slice q.eo m.fin.length q.ec) ∧ w.cell? ⟨b, o + 3, none⟩ = some (.slice q.xo m.txt.length q.xc) :=
  ⟨h 0 _ rfl, h 1 _ rfl, h 2 _ rfl, h 3 _ rfl⟩
/-- what makes a row of stages right -/
def Good (l : List Sm) (k : Nat) (x0 x1 x2 : Sm) : Prop := (∀ j (hj : j < l.length), j < k → l[j].g.kind = 1 ∧ tr.right l[j].m = true) ∧ x0.g.kind = 2 ∧ df.right x0.g.d = true ∧ x1.g.kind = 3 ∧ x2.g.kind = 4 ∧ mg.errOf x1.g.ms = 0 ∧ hp.numB 0 x1.g.ms.length x1.g.dr = true ∧ areIds x2.g.bf = true ∧ areIds x2.g.af = true
theorem newE_0 (l : List Mg) (d : List Int) : hp.newE l d = 0 ↔ mg.errOf l = 0 ∧ hp.numB 0 l.length d = true := by
  unfold hp.newE
  by_cases h : mg.errOf l = 0
  · rw [if_neg (by rw [h]; simp)]
    by_cases h2 : hp.numB 0 l.length d = true
    · rw [if_pos h2]; simp [h, h2]
    · rw [if_neg h2]; simp [h2]
  · rw [if_pos h]; simp [h]
theorem good_of {l : List Sm} {k : Nat} {x0 x1 x2 : Sm} (hk : k ≤ 4) (hl : l.length = k + 3) (e0 : l[k]? = some x0) (e1 : l[k + 1]? = some x1) (e2 : l[k + 2]? = some x2) : rightL l = true ↔ Good l k x0 x1 x2 := by
  have g0 : kindN l k = x0.g.kind := by unfold kindN; rw [e0]; rfl
  have g1 : kindN l (k + 1) = x1.g.kind := by unfold kindN; rw [e1]; rfl
  have g2 : kindN l (k + 2) = x2.g.kind := by unfold kindN; rw [e2]; rfl
  have m0 : x0 ∈ l := List.mem_of_getElem? e0
  have m1 : x1 ∈ l := List.mem_of_getElem? e1
  have m2 : x2 ∈ l := List.mem_of_getElem? e2
  have hlk : l.length - 3 = k := by omega
  constructor
  · intro h
    unfold rightL at h
    rw [Bool.and_eq_true, List.all_eq_true] at h
    obtain ⟨ho, hm⟩ := h
    unfold orderedL at ho
    rw [hlk] at ho
    simp only [Bool.and_eq_true, decide_eq_true_eq] at ho
    obtain ⟨_, h3, h4⟩ := ho
    unfold ends at h4
    simp only [Bool.and_eq_true, decide_eq_true_eq] at h4
    obtain ⟨⟨k0, k1⟩, k2⟩ := h4
    rw [g0] at k0
    rw [g1] at k1
    rw [g2] at k2
    have r0 := hm x0 m0
    have r1 := hm x1 m1
    have r2 := hm x2 m2
    unfold mayOf at r0 r1 r2
    rw [if_neg (by omega), if_pos k0] at r0
    rw [if_neg (by omega), if_neg (by omega), if_pos k1, decide_eq_true_eq, newE_0] at r1
    rw [if_neg (by omega), if_neg (by omega), if_neg (by omega), Bool.and_eq_true] at r2
    refine ⟨fun j hj hjk => ?_, k0, r0, k1, k2, r1.1, r1.2, r2.1, r2.2⟩
    unfold maps at h3
    simp at h3
    have a := h3 j hjk
    rw [kindN_at hj] at a
    have r := hm l[j] (List.getElem_mem _)
    unfold mayOf at r
    rw [if_pos a] at r
    exact ⟨a, r⟩
  · rintro ⟨h1, k0, r0, k1, k2, c1, c2, c3, c4⟩
    unfold rightL
    rw [Bool.and_eq_true, List.all_eq_true]
    constructor
    · unfold orderedL
      rw [hlk, decide_eq_true (by omega), decide_eq_true (by omega), mapsU (fun j hj => by rw [kindN_at (by omega)]; exact (h1 j (by omega) hj).1)]
      unfold ends
      rw [g0, g1, g2, k0, k1, k2]
      rfl
    · intro x hx
      obtain ⟨j, hj, rfl⟩ := List.mem_iff_getElem.1 hx
      by_cases a : j < k
      · obtain ⟨p, q⟩ := h1 j hj a
        unfold mayOf
        rw [if_pos p]
        exact q
      · by_cases b : j = k
        · subst b
          rw [List.getElem?_eq_getElem hj] at e0
          rw [Option.some.inj e0]
          unfold mayOf
          rw [if_neg (by omega), if_pos k0]
          exact r0
        · by_cases c : j = k + 1
          · subst c
            rw [List.getElem?_eq_getElem hj] at e1
            rw [Option.some.inj e1]
            unfold mayOf
            rw [if_neg (by omega), if_neg (by omega), if_pos k1, decide_eq_true_eq, newE_0]
            exact ⟨c1, c2⟩
          · have : j = k + 2 := by omega
            subst this
            rw [List.getElem?_eq_getElem hj] at e2
            rw [Option.some.inj e2]
            unfold mayOf
            rw [if_neg (by omega), if_neg (by omega), if_neg (by omega), c3, c4]
            rfl
theorem rright_few (o : Option Addr) (cap : Nat) (l : List Sm) (w : World) (hl : ¬ (3 ≤ l.length ∧ l.length ≤ 7)) (hc : l.length ≤ 9223372036854775807) : Calls Try.prog 7 #[.slice o l.length cap] w fun e w' => e = .returned (.bool (rightL l)) ∧ Below w.heap.size w w' := by
  have HR := (show Hid (rightL l = false) from by
    show _ = _
    unfold rightL orderedL
    by_cases h : 3 ≤ l.length
    · rw [decide_eq_false (p := l.length ≤ 7) (by omega)]; simp
    · rw [decide_eq_false h]; simp)
  rw [HR.out]
  generalize l.length = n at *
  by_cases h : n < 3
  · have f2 : decide ((n : Int) < 3) = true := decide_eq_true (by omega)
    go_enter Try.func7, Try.ntmps7
    go_wp2_with (fail)
    go_ret
    exact ⟨rfl, Below.refl _ _⟩
  · have f2 : decide ((n : Int) < 3) = false := decide_eq_false (by omega)
    have f4 : decide ((7 : Int) < (n : Int)) = true := decide_eq_true (by omega)
    go_enter Try.func7, Try.ntmps7
    go_wp2_with (fail)
    go_ret
    exact ⟨rfl, Below.refl _ _⟩
end Go.Proofs.Ytmmlibehihknbaa.ir

namespace Go.Proofs.Ytmmlibehihknbaa.ir
open Go.ChangeShapes Go.WideShapes Go.ChangeAt Go.RowKit
open mg (Row iv IntsV chain below_alloc Mg Mgs)
open tr (Mc Mp mv MAt)
set_option linter.unusedVariables false
set_option maxRecDepth 100000

/-- the last three stages where they lie -/
structure Lst (w : World) (b off k k1 k2 : Nat) (x0 x1 x2 : Sm) : Prop where
  r0 : w.rangeAt b (off + k * 523) (svL x0.g x0.p)
  r1 : w.rangeAt b (off + k1 * 523) (svL x1.g x1.p)
  r2 : w.rangeAt b (off + k2 * 523) (svL x2.g x2.p)
  s0 : SmAt w x0
  s1 : SmAt w x1
  s2 : SmAt w x2
set_option maxHeartbeats 4000000 in
theorem rright_many (b off cap n k k1 k2 : Nat) (hk : k ≤ 4) (h0 : n = k + 3) (h1 : k1 = k + 1) (h2 : k2 = k + 2) (l : List Sm) (hl : l.length = n) (w : World) (h : Gs w (some ⟨b, off, none⟩) cap l) : Calls Try.prog 7 #[.slice (some ⟨b, off, none⟩) n cap] w fun e w' => e = .returned (.bool (rightL l)) ∧ Below w.heap.size w w' := by
  have hc1 := h.fit
  have hc2 := h.top
  rw [hl] at hc1
  have HS := (show Hid (∀ W, Below w.heap.size w W → ∀ i (hi : i < l.length), W.rangeAt b (off + i * 523) (svL l[i].g l[i].p) ∧ SmAt W l[i]) from fun W k i hi => by
    obtain ⟨b', off', e, _, hr, hs⟩ := (h.later k).lie i hi
    simp at e
    obtain ⟨rfl, rfl⟩ := e
    exact ⟨hr, hs⟩)
  obtain ⟨x0, e0⟩ : ∃ x0, l[k]? = some x0 := ⟨_, List.getElem?_eq_getElem (by omega)⟩
  obtain ⟨x1, e1⟩ : ∃ x1, l[k1]? = some x1 := ⟨_, List.getElem?_eq_getElem (by omega)⟩
  obtain ⟨x2, e2⟩ : ∃ x2, l[k2]? = some x2 := ⟨_, List.getElem?_eq_getElem (by omega)⟩
  have HT := (show Hid (∀ W, Below w.heap.size w W → Lst W b off k k1 k2 x0 x1 x2) from fun W c => by
    have a0 := HS.out W c k (by omega)
    have a1 := HS.out W c k1 (by omega)
    have a2 := HS.out W c k2 (by omega)
    rw [List.getElem?_eq_getElem (by omega)] at e0 e1 e2
    rw [Option.some.inj e0] at a0
    rw [Option.some.inj e1] at a1
    rw [Option.some.inj e2] at a2
    exact ⟨a0.1, a1.1, a2.1, a0.2, a1.2, a2.2⟩)
  obtain ⟨r, hr⟩ : ∃ r, r = rightL l := ⟨_, rfl⟩
  have HG := (show Hid (r = true ↔ Good l k x0 x1 x2) from by
    show _ ↔ _
    rw [hr]
    subst h1 h2
    exact good_of hk (by omega) e0 e1 e2)
  have HL := (show Hid (l.length = n) from hl)
  rw [← hr]
  obtain ⟨Z, hZ⟩ : ∃ Z, Z = z39.toArray := ⟨_, rfl⟩
  have hzero : ∀ w, (zeroValue 39).run Try.prog w = .ok (.agg Z) w := by rw [hZ]; exact zero39
  have hzs : Z.size = 523 := by rw [hZ, List.size_toArray]; exact z39_len
  have f0 : ((n : Nat) : Int) - 3 = (k : Int) := by omega
  have f1 : ((n : Nat) : Int) - 2 = (k1 : Int) := by omega
  have f2 : ((n : Nat) : Int) - 1 = (k2 : Int) := by omega
  have g1 : decide ((n : Int) < 3) = false := decide_eq_false (by omega)
  have g2 : decide ((7 : Int) < (n : Int)) = false := decide_eq_false (by omega)
  have hkn : k < n := by omega
  have hkn1 : k1 < n := by omega
  have hkn2 : k2 < n := by omega
  clear h hr hZ hl h0 h1 h2 e0 e1 e2
  go_enter Try.func7, Try.ntmps7
  go_wp2_with (fail)
  go_loopw [19] (fun y wr => ∃ i : Nat, y = .int .i64 (i : Int) ∧ i ≤ n ∧ Hid (∀ j (hj : j < l.length), j < k → j < i → l[j].g.kind = 1 ∧ tr.right l[j].m = true) ∧ Hid (Below w.heap.size w wr)) (fun y _ => n - (intOf y).toNat)
  case atStart => exact ⟨0, rfl, by omega, fun j hj _ h => by omega, Below.refl _ _⟩
  case round =>
    obtain ⟨i, rfl, hi, HU, HB⟩ := hrel
    by_cases hend : i < n
    · have hil : i < l.length := by rw [HL.out]; exact hend
      obtain ⟨hrg, hsm⟩ := HS.out wr HB.out i hil
      have HA2 := (show Hid (∀ y : Bool, (i < k → l[i].g.kind = 1 ∧ tr.right l[i].m = true) → ∀ j (hj : j < l.length), j < k → j < i + 1 → l[j].g.kind = 1 ∧ tr.right l[j].m = true) from fun _ e j hj hjk hj2 => by
        by_cases q : j = i
        · subst q; exact e hjk
        · exact HU.out j hj hjk (by omega))
      have HA3 := (show Hid (r = true → i < k → l[i].g.kind = 1 ∧ tr.right l[i].m = true) from fun hr h => (HG.out.1 hr).1 i hil h)
      clear HU
      generalize l[i] = x at *
      have hs := hsm.s
      obtain ⟨W3, hW3, hbx, b3⟩ := stage_new wr Z hs
      have hl1 := info39c hs
      have hl2 := info39a hs
      have hone := hs.all
      have hold : Z.size = (svL x.g x.p).toArray.size := by rw [hzs, List.size_toArray, hs.len]
      have hnew := World.alloc_heap_new wr (.cells Z 39)
      have q0 := hbx.kind
      have hmc := hbx.rmc (hs.later b3)
      rw [hsm.e] at hmc
      obtain ⟨m0, m1, m2, m3⟩ := mc_cells hmc
      have HB3 := (show Hid (Below w.heap.size w W3) from chain HB.out b3)
      have hM3 := hsm.m.later b3
      by_cases hik : i < k
      · have fk : decide ((i : Int) < (k : Int)) = true := decide_eq_true (by omega)
        by_cases he : x.g.kind = 1
        · obtain ⟨y, hy⟩ : ∃ y, y = tr.right x.m := ⟨_, rfl⟩
          have c18 : Calls Try.prog 18 #[.agg #[.slice x.q.no x.m.next.length x.q.nc, .slice x.q.po x.m.put.length x.q.pc, .slice x.q.eo x.m.fin.length x.q.ec, .slice x.q.xo x.m.txt.length x.q.xc]] W3 fun e w' => e = .returned (.bool y) ∧ Below W3.heap.size W3 w' := tr.rright_any x.m y hy x.q W3 hM3
          have HN := (show Hid (y = true → ∀ j (hj : j < l.length), j < k → j < i + 1 → l[j].g.kind = 1 ∧ tr.right l[j].m = true) from fun e => HA2.out y fun _ => ⟨he, by rw [← hy]; exact e⟩)
          have HF := (show Hid (y = false → r = false) from fun e => by
            by_cases hr : r = true
            · have := (HA3.out hr hik).2
              rw [← hy, e] at this
              exact absurd this (by decide)
            · simpa using hr)
          clear HA2 HA3 hy
          generalize x.m.next.length = z0 at *
          generalize x.m.put.length = z1 at *
          generalize x.m.fin.length = z2 at *
          generalize x.m.txt.length = z3 at *
          rw [he] at q0
          generalize hCL : svL x.g x.p = CL at *
          clear hs hsm b3 hCL hbx he hmc hM3
          go_upto_region 7 with (first | (refine wpList_load_mid rfl 39 (.tmp 22) rfl b (off + i * 523) rfl CL _ hrg Try.underlying39 rfl hl1 ?_) | (refine wpList_store_row rfl 39 (.tmp 5) (.tmp 23) rfl wr.heap.size CL.toArray rfl rfl 39 Z hnew hl2 hold hone ?_; rw [hW3]))
          go_wp2_with (fail)
          go_at_call 18
          refine c18.mono ?_
          rintro e w4 ⟨rfl, b4⟩
          have HB4 := (show Hid (Below w.heap.size w w4) from chain HB3.out b4)
          clear c18 b4 m0 m1 m2 m3 q0 hrg hW3 hnew
          cases y
          · go_wp2_with (fail)
            go_ret
            exact ⟨by rw [HF.out (by trivial)]; rfl, HB4.out⟩
          · go_wp2_with (fail)
            go_roundw
            case rel => exact ⟨i + 1, by go_num, by omega, HN.out (by trivial), HB4⟩
            case measure => simp [intOf]; omega
        · have HF := (show Hid (r = false) from by
            by_cases hr : r = true
            · exact absurd (HA3.out hr hik).1 he
            · show _ = _; simpa using hr)
          clear HA2 HA3
          generalize hCL : svL x.g x.p = CL at *
          generalize x.g.kind = z at *
          have hne : (z == 1) = false := beq_eq_false_iff_ne.2 he
          clear hs hsm b3 hCL hbx hmc hM3 m0 m1 m2 m3
          go_upto_region 7 with (first | (refine wpList_load_mid rfl 39 (.tmp 22) rfl b (off + i * 523) rfl CL _ hrg Try.underlying39 rfl hl1 ?_) | (refine wpList_store_row rfl 39 (.tmp 5) (.tmp 23) rfl wr.heap.size CL.toArray rfl rfl 39 Z hnew hl2 hold hone ?_; rw [hW3]))
          go_wp2_with (fail)
          go_ret
          exact ⟨by rw [HF.out]; rfl, HB3.out⟩
      · have fk : decide ((i : Int) < (k : Int)) = false := decide_eq_false (by omega)
        have HN := (show Hid (∀ j (hj : j < l.length), j < k → j < i + 1 → l[j].g.kind = 1 ∧ tr.right l[j].m = true) from HA2.out true fun h => absurd h hik)
        clear HA2 HA3
        generalize hCL : svL x.g x.p = CL at *
        clear hs hsm b3 hCL hbx hmc hM3 m0 m1 m2 m3
        go_upto_region 7 with (first | (refine wpList_load_mid rfl 39 (.tmp 22) rfl b (off + i * 523) rfl CL _ hrg Try.underlying39 rfl hl1 ?_) | (refine wpList_store_row rfl 39 (.tmp 5) (.tmp 23) rfl wr.heap.size CL.toArray rfl rfl 39 Z hnew hl2 hold hone ?_; rw [hW3]))
        go_wp2_with (fail)
        go_roundw
        case rel => exact ⟨i + 1, by go_num, by omega, HN, HB3⟩
        case measure => simp [intOf]; omega
    · have HA := (show Hid (∀ j (hj : j < l.length), j < k → l[j].g.kind = 1 ∧ tr.right l[j].m = true) from fun j hj hjk => HU.out j hj hjk (by omega))
      have hie : i = n := by omega
      clear HU hi
      have HX : ∀ {q : Prop}, (Good l k x0 x1 x2 → q) → ¬ q → Hid (r = false) := fun a b => by
        by_cases hr : r = true
        · exact absurd (a (HG.out.1 hr)) b
        · show _ = _; simpa using hr
      have hL := HT.out wr HB.out
      have q0 := kind_of hL.r0
      have q1 := kind_of hL.r1
      have q2 := kind_of hL.r2
      by_cases he0 : x0.g.kind = 2
      · rw [he0] at q0
        have rcs := row_cs hL.r0 hL.s0.s
        have i1 := info36c x0.p.cs hL.s0.s.d.size
        obtain ⟨x, hx⟩ : ∃ x, x = df.right x0.g.d := ⟨_, rfl⟩
        have c19 := df.rright_any x0.g.d x hx _ _ _ _ _ wr hL.s0.s.d
        rw [show (Value.agg x0.p.cs) = .agg x0.p.cs.toList.toArray by simp] at c19
        have HF := (show Hid (x = false → r = false) from fun e => (HX (q := df.right x0.g.d = true) (fun g => g.2.2.1) (by rw [← hx, e]; decide)).out)
        have HR08 := (show Hid (x = true → df.right x0.g.d = true) from fun e => by rw [← hx]; exact e)
        generalize x0.p.cs.toList = K at *
        have g19 : x0.g.kind = 2 := he0
        have l1 := row_last hL.r1 hL.s1.s
        have l2 := row_last hL.r2 hL.s2.s
        clear hx
        go_upto_region 10 with (fail)
        go_wp2_with (refine load_if_mid (by rfl) 36 (.tmp 52) rfl b (off + k * 523 + 5) rfl K _ rcs Try.underlying36 rfl i1 ?_)
        go_at_call 19
        refine c19.mono ?_
        rintro e w4 ⟨rfl, b4⟩
        have HB4 := (show Hid (Below w.heap.size w w4) from chain HB.out b4)
        clear c19 hL rcs q0 q1 q2 l1 l2 b4
        have hL := HT.out w4 HB4.out
        have q1 := kind_of hL.r1
        have q2 := kind_of hL.r2
        cases x
        · have HF2 := (show Hid (r = false) from HF.out (by trivial))
          clear HX hL HF
          go_wp2_with (fail)
          go_ret
          exact ⟨by rw [HF2.out]; rfl, HB4.out⟩
        · by_cases he1 : x1.g.kind = 3
          · rw [he1] at q1
            by_cases he2 : x2.g.kind = 4
            · rw [he2] at q2
              have hs := hL.s1.s
              have hrg := hL.r1
              obtain ⟨W5, hW5, hbx, b5⟩ := stage_new w4 Z hs
              have hl1 := info39c hs
              have hl2 := info39a hs
              have hone := hs.all
              have hold : Z.size = (svL x1.g x1.p).toArray.size := by rw [hzs, List.size_toArray, hs.len]
              have hnew := World.alloc_heap_new w4 (.cells Z 39)
              have hs5 := hs.later b5
              obtain ⟨m1, m2, -, -⟩ := hbx.last hs5
              have HB5 := (show Hid (Below w.heap.size w W5) from chain HB4.out b5)
              have c20 := mg.rtexts_any x1.g.ms x1.p.vm W5 hs5.ms
              unfold mg.TextsOut at c20
              have HMS := (show Hid (∀ W, Below w.heap.size w W → SmAt W x1 ∧ SmAt W x2 ∧ W.rangeAt b (off + k2 * 523) (svL x2.g x2.p)) from fun W c => ⟨(HT.out W c).s1, (HT.out W c).s2, (HT.out W c).r2⟩)
              have HBX := (show Hid (SBox W5 w4.heap.size x1.g x1.p) from hbx)
              obtain ⟨vo, vc, evm, hv1, hv2, _⟩ := hs5.ms.form
              rw [evm] at m1 c20
              obtain ⟨ee, hee⟩ : ∃ ee, ee = mg.errOf x1.g.ms := ⟨_, rfl⟩
              rw [← hee] at c20
              have HEE := (show Hid (ee = mg.errOf x1.g.ms) from hee)
              obtain ⟨nm, hnm⟩ : ∃ nm, nm = x1.g.ms.length := ⟨_, rfl⟩
              have HNM := (show Hid (nm = x1.g.ms.length) from hnm)
              rw [← hnm] at m1 c20 hv1
              have HVM := (show Hid (x1.p.vm = .slice vo nm vc) from by show _ = _; rw [evm, hnm])
              generalize hCL : svL x1.g x1.p = CL at *
              clear hL hs hbx hs5 hCL evm hee hnm b5 m2
              go_upto_region 13 with (first | (refine wpList_load_mid rfl 39 (.tmp 78) rfl b (off + k1 * 523) rfl CL _ hrg Try.underlying39 rfl hl1 ?_) | (refine wpList_store_row rfl 39 (.tmp 6) (.tmp 79) rfl w4.heap.size CL.toArray rfl rfl 39 Z hnew hl2 hold hone ?_; rw [hW5]))
              go_wp2_with (fail)
              go_at_call 20
              refine c20.mono ?_
              rintro e w6 ⟨v', rfl, _, b6⟩
              have HB6 := (show Hid (Below w.heap.size w w6) from chain HB5.out b6)
              have hb6 := HBX.out.later b6
              obtain ⟨z1, z2, z3⟩ := HMS.out w6 HB6.out
              obtain ⟨m1', m2', -, -⟩ := hb6.last z1.s
              rw [HVM.out] at m1'
              obtain ⟨dO, dc, edr, hd1⟩ := z1.s.dr
              rw [edr] at m2'
              have hdf := hd1.fit
              have hdt := hd1.top
              have HDR := (show Hid (x1.p.vd = .slice dO x1.g.dr.length dc) from edr)
              generalize x1.g.dr.length = nd at *
              clear c20 m1 hrg hW5 hnew hl1 hl2 hone hold b6 edr hd1 hb6 z1 z2 z3 q1 q2
              by_cases hez : ee = 0
              · have hnm4 : nm ≤ 1024 := by
                  rw [HNM.out]
                  exact (mg.ok_run (HEE.out ▸ hez)).1
                obtain ⟨y, hy⟩ : ∃ y, y = hp.numB 0 nm x1.g.dr := ⟨_, rfl⟩
                have H21 := (show Hid (∀ W, Below w.heap.size w W → Calls Try.prog 21 #[.slice dO nd dc, .int .i64 (nm : Int)] W fun e w' => e = .returned (.bool y) ∧ Below W.heap.size W w') from fun W c => by
                  have := hp.drop_any x1.g.dr nm hnm4 x1.p.vd W (HMS.out W c).1.s.dr
                  rw [HDR.out, ← hy] at this
                  exact this)
                have HY := (show Hid (y = false → r = false) from fun e => (HX (q := hp.numB 0 x1.g.ms.length x1.g.dr = true) (fun g => g.2.2.2.2.2.2.1) (by rw [← HNM.out, ← hy, e]; decide)).out)
                have HY2 := (show Hid (y = true → hp.numB 0 x1.g.ms.length x1.g.dr = true) from fun e => by rw [← HNM.out, ← hy]; exact e)
                have c21 := H21.out w6 HB6.out
                have HE0 := (show Hid (mg.errOf x1.g.ms = 0) from by show _ = _; rw [← HEE.out]; exact hez)
                subst hez
                clear hy HEE
                have HFA := (show Hid (∀ W, Below w.heap.size w W → (W.cell? ⟨b, off + k2 * 523 + 521, none⟩ = some x2.p.vb ∧ W.cell? ⟨b, off + k2 * 523 + 522, none⟩ = some x2.p.va) ∧ Calls Try.prog 22 #[x2.p.vb] W (fun e w' => e = .returned (.bool (areIds x2.g.bf)) ∧ Below W.heap.size W w') ∧ Calls Try.prog 22 #[x2.p.va] W (fun e w' => e = .returned (.bool (areIds x2.g.af)) ∧ Below W.heap.size W w')) from fun W c => by
                  obtain ⟨_, z2, z3⟩ := HMS.out W c
                  obtain ⟨_, _, t1, t2⟩ := row_last z3 z2.s
                  exact ⟨⟨t1, t2⟩, frame_any _ _ rfl _ W z2.s.bf, frame_any _ _ rfl _ W z2.s.af⟩)
                have HZ1 := (show Hid (areIds x2.g.bf = false → r = false) from fun e => (HX (q := areIds x2.g.bf = true) (fun g => g.2.2.2.2.2.2.2.1) (by rw [e]; decide)).out)
                have HZ2 := (show Hid (areIds x2.g.af = false → r = false) from fun e => (HX (q := areIds x2.g.af = true) (fun g => g.2.2.2.2.2.2.2.2) (by rw [e]; decide)).out)
                have HGD := (show Hid (y = true → areIds x2.g.bf = true → areIds x2.g.af = true → r = true) from fun e1 e2 e3 => HG.out.2 ⟨HA.out, g19, HR08.out (by trivial), he1, he2, HE0.out, HY2.out e1, e2, e3⟩)
                generalize areIds x2.g.bf = u at *
                generalize areIds x2.g.af = v at *
                generalize x2.p.vb = vb at *
                generalize x2.p.va = va at *
                clear HX HF HA HR08 HE0 HY2 he1 he2 g19 HMS
                go_wp2_with (fail)
                go_at_call 21
                refine c21.mono ?_
                rintro e w7 ⟨rfl, b7⟩
                have HB7 := (show Hid (Below w.heap.size w w7) from chain HB6.out b7)
                obtain ⟨⟨t1, t2⟩, d1, _⟩ := HFA.out w7 HB7.out
                clear c21 H21 m1' m2' b7
                cases y
                · have HF2 := (show Hid (r = false) from HY.out (by trivial))
                  clear d1 t1 t2
                  go_wp2_with (fail)
                  go_ret
                  exact ⟨by rw [HF2.out]; rfl, HB7.out⟩
                · go_wp2_with (fail)
                  go_at_call 22
                  refine d1.mono ?_
                  rintro e w8 ⟨rfl, b8⟩
                  have HB8 := (show Hid (Below w.heap.size w w8) from chain HB7.out b8)
                  obtain ⟨⟨t3, t4⟩, _, d2⟩ := HFA.out w8 HB8.out
                  clear d1 t1 t2 b8
                  cases u
                  · have HF2 := (show Hid (r = false) from HZ1.out (by trivial))
                    clear d2 t3 t4
                    go_wp2_with (fail)
                    go_ret
                    exact ⟨by rw [HF2.out]; rfl, HB8.out⟩
                  · go_wp2_with (fail)
                    go_at_call 22
                    refine d2.mono ?_
                    rintro e w9 ⟨rfl, b9⟩
                    have HB9 := (show Hid (Below w.heap.size w w9) from chain HB8.out b9)
                    have HF2 := (show Hid (r = v) from by
                      show _ = _
                      cases v
                      · exact HZ2.out (by trivial)
                      · exact HGD.out (by trivial) (by trivial) (by trivial))
                    clear d2 t3 t4 b9
                    go_wp2_with (fail)
                    go_ret
                    exact ⟨by rw [HF2.out]; rfl, HB9.out⟩
              · have HF2 := HX (q := mg.errOf x1.g.ms = 0) (fun g => g.2.2.2.2.2.1) (by rw [← HEE.out]; exact hez)
                have hne : ((ee : Int) == 0) = false := beq_eq_false_iff_ne.2 (by omega)
                clear HX HF HEE
                go_wp2_with (fail)
                go_ret
                exact ⟨by rw [HF2.out]; rfl, HB6.out⟩
            · have HF2 := HX (q := x2.g.kind = 4) (fun g => g.2.2.2.2.1) he2
              generalize x2.g.kind = z at *
              have hne : (z == 4) = false := beq_eq_false_iff_ne.2 he2
              clear hL HX HF
              go_wp2_with (fail)
              go_ret
              exact ⟨by rw [HF2.out]; rfl, HB4.out⟩
          · have HF2 := HX (q := x1.g.kind = 3) (fun g => g.2.2.2.1) he1
            generalize x1.g.kind = z at *
            have hne : (z == 3) = false := beq_eq_false_iff_ne.2 he1
            clear hL HX HF
            go_wp2_with (fail)
            go_ret
            exact ⟨by rw [HF2.out]; rfl, HB4.out⟩
      · have HF := HX (q := x0.g.kind = 2) (fun g => g.2.1) he0
        generalize x0.g.kind = z at *
        have hne : (z == 2) = false := beq_eq_false_iff_ne.2 he0
        clear hL HX q1 q2
        go_wp2_with (fail)
        go_ret
        exact ⟨by rw [HF.out]; rfl, HB.out⟩
theorem rright_all (o : Option Addr) (cap : Nat) (l : List Sm) (w : World) (h : Gs w o cap l) : Calls Try.prog 7 #[.slice o l.length cap] w fun e w' => e = .returned (.bool (rightL l)) ∧ Below w.heap.size w w' := by
  by_cases hl : 3 ≤ l.length ∧ l.length ≤ 7
  · obtain ⟨b, off, rfl, _, _⟩ := h.row (by omega)
    obtain ⟨k, hk⟩ : ∃ k, l.length = k + 3 := ⟨l.length - 3, by omega⟩
    exact rright_many b off cap l.length k (k + 1) (k + 2) (by omega) hk rfl rfl l rfl w h
  · exact rright_few o cap l w hl (by have := h.fit; have := h.top; omega)
end Go.Proofs.Ytmmlibehihknbaa.ir
