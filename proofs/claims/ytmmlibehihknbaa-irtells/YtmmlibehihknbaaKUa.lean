/-
  Contracts over this program: the document's Right at any number of stages (fretsawref19).
-/
import Derived.Test.YtmmlibehihknbaaM20
import Derived.Test.YtmmlibehihknbaaKSh
import Derived.Test.YtmmlibehihknbaaM23
import Derived.Test.YtmmlibehihknbaaKPDn
import Derived.Test.YtmmlibehihknbaaM01
import Derived.Test.YtmmlibehihknbaaM24
namespace Go.Proofs.Ytmmlibehihknbaa.ir
open Go.ChangeShapes Go.WideShapes Go.ChangeAt Go.RowKit
open mg (Row iv IntsV chain below_alloc Mg Mgs)
open tr (Mc Mp mv MAt)
set_option linter.unusedVariables false
set_option maxRecDepth 100000

theorem load_if_mid {P : Program} {ops : Array Oper} {rest : List Oper} {op : Oper} {a : Act} {w : World} {Q : Exit → Act → World → Prop} (hw : Region.wanted op (yielded ops a.tmps) = true) (ty : TypeId) (x : Operand) (ho : op.op = .load ty x)
    (b o : Nat) (hx : a.eval x = .pointer (some ⟨b, o, none⟩)) (cs : List Value) (d : TypeDesc) (hc : w.rangeAt b o cs)
    (hu : P.underlying ty = some d) (hd : d.isRow = true) (hi : (P.info? ty).map (·.size) = some cs.length)
    (h : wpList P ops Q rest (a.put op.dst (.agg cs.toArray)) w) : wpList P ops Q (op :: rest) a w :=
  wpList_step fun K hK => by rw [if_pos hw]; exact wp_load_mid ty x ho b o hx cs d hc hu hd hi (hK _ _ h)
theorem range_sub {w : World} {b o : Nat} (L M R : List Value) (h : w.rangeAt b o (L ++ (M ++ R))) : w.rangeAt b (o + L.length) M := by
  intro j v hj
  have hlt := (List.getElem?_eq_some_iff.1 hj).1
  have := h (L.length + j) v (by rw [List.getElem?_append_right (by omega), Nat.add_sub_cancel_left, List.getElem?_append_left hlt]; exact hj)
  rw [← Nat.add_assoc] at this
  exact this
section
variable {w : World} {b o : Nat} {g : Sg} {p : Sp}
theorem row_cs (h : w.rangeAt b o (svL g p)) (k : SgAt w g p) : w.rangeAt b (o + 5) p.cs.toList := by
  have := range_sub (.int .i64 g.kind :: g.mc) p.cs.toList (mapL g.mp ++ [p.vm, p.vd, p.vb, p.va]) h
  rw [List.length_cons, k.mc] at this
  exact this
theorem row_mp (h : w.rangeAt b o (svL g p)) (k : SgAt w g p) : w.rangeAt b (o + 263) (mapL g.mp) := by
  have := range_sub (w := w) (b := b) (o := o) (.int .i64 g.kind :: (g.mc ++ p.cs.toList)) (mapL g.mp) [p.vm, p.vd, p.vb, p.va] (by simpa [svL] using h)
  have e := k.d.size
  rw [List.length_cons, List.length_append, k.mc, Array.length_toList, e] at this
  exact this
theorem row_last (h : w.rangeAt b o (svL g p)) (k : SgAt w g p) : w.cell? ⟨b, o + 519, none⟩ = some p.vm ∧ w.cell? ⟨b, o + 520, none⟩ = some p.vd ∧ w.cell? ⟨b, o + 521, none⟩ = some p.vb ∧ w.cell? ⟨b, o + 522, none⟩ = some p.va := by
  have := range_sub (w := w) (b := b) (o := o) (.int .i64 g.kind :: (g.mc ++ (p.cs.toList ++ mapL g.mp))) [p.vm, p.vd, p.vb, p.va] [] (by simpa [svL] using h)
  have e := k.d.size
  rw [List.length_cons, List.length_append, List.length_append, k.mc, Array.length_toList, e, mapL_len] at this
  exact ⟨this 0 _ rfl, this 1 _ rfl, this 2 _ rfl, this 3 _ rfl⟩
end
theorem mc_cells {w : World} {b o : Nat} {m : Mc} {q : Mp} (h : w.rangeAt b o (mv m q).toList) : w.cell? ⟨b, o, none⟩ = some (.slice q.no m.next.length q.nc) ∧ w.cell? ⟨b, o + 1, none⟩ = some (.slice q.po m.put.length q.pc) ∧ w.cell? ⟨b, o + 2, none⟩ = some (.slice q.eo m.fin.length q.ec) ∧ w.cell? ⟨b, o + 3, none⟩ = some (.slice q.xo m.txt.length q.xc) :=
  ⟨h 0 _ rfl, h 1 _ rfl, h 2 _ rfl, h 3 _ rfl⟩
/-- what makes a row of stages right -/
def Good (l : List Sm) (k : Nat) (x0 x1 x2 : Sm) : Prop := (∀ j (hj : j < l.length), j < k → l[j].g.kind = 1 ∧ tr.right l[j].m = true) ∧ x0.g.kind = 2 ∧ df.right x0.g.d = true ∧ x1.g.kind = 3 ∧ x2.g.kind = 4 ∧ mg.errOf x1.g.ms = 0 ∧ hp.numB 0 x1.g.ms.length x1.g.dr = true ∧ areIds x2.g.bf = true ∧ areIds x2.g.af = true
theorem newE_0 (l : List Mg) (d : List Int) : hp.newE l d = 0 ↔ mg.errOf l = 0 ∧ hp.numB 0 l.length d = true := by
  unfold hp.newE
  by_cases h : mg.errOf l = 0
  · rw [if_neg (by rw [h]; simp)]
    by_cases h2 : hp.numB 0 l.length d = true
    · rw [if_pos h2]; simp [h, h2]
    · rw [if_neg h2]; simp [h2]
  · rw [if_pos h]; simp [h]
theorem good_of {l : List Sm} {k : Nat} {x0 x1 x2 : Sm} (hk : k ≤ 4) (hl : l.length = k + 3) (e0 : l[k]? = some x0) (e1 : l[k + 1]? = some x1) (e2 : l[k + 2]? = some x2) : rightL l = true ↔ Good l k x0 x1 x2 := by
  have g0 : kindN l k = x0.g.kind := by unfold kindN; rw [e0]; rfl
  have g1 : kindN l (k + 1) = x1.g.kind := by unfold kindN; rw [e1]; rfl
  have g2 : kindN l (k + 2) = x2.g.kind := by unfold kindN; rw [e2]; rfl
  have m0 : x0 ∈ l := List.mem_of_getElem? e0
  have m1 : x1 ∈ l := List.mem_of_getElem? e1
  have m2 : x2 ∈ l := List.mem_of_getElem? e2
  have hlk : l.length - 3 = k := by omega
  constructor
  · intro h
    unfold rightL at h
    rw [Bool.and_eq_true, List.all_eq_true] at h
    obtain ⟨ho, hm⟩ := h
    unfold orderedL at ho
    rw [hlk] at ho
    simp only [Bool.and_eq_true, decide_eq_true_eq] at ho
    obtain ⟨_, h3, h4⟩ := ho
    unfold ends at h4
    simp only [Bool.and_eq_true, decide_eq_true_eq] at h4
    obtain ⟨⟨k0, k1⟩, k2⟩ := h4
    rw [g0] at k0
    rw [g1] at k1
    rw [g2] at k2
    have r0 := hm x0 m0
    have r1 := hm x1 m1
    have r2 := hm x2 m2
    unfold mayOf at r0 r1 r2
    rw [if_neg (by omega), if_pos k0] at r0
    rw [if_neg (by omega), if_neg (by omega), if_pos k1, decide_eq_true_eq, newE_0] at r1
    rw [if_neg (by omega), if_neg (by omega), if_neg (by omega), Bool.and_eq_true] at r2
    refine ⟨fun j hj hjk => ?_, k0, r0, k1, k2, r1.1, r1.2, r2.1, r2.2⟩
    unfold maps at h3
    simp at h3
    have a := h3 j hjk
    rw [kindN_at hj] at a
    have r := hm l[j] (List.getElem_mem _)
    unfold mayOf at r
    rw [if_pos a] at r
    exact ⟨a, r⟩
  · rintro ⟨h1, k0, r0, k1, k2, c1, c2, c3, c4⟩
    unfold rightL
    rw [Bool.and_eq_true, List.all_eq_true]
    constructor
    · unfold orderedL
      rw [hlk, decide_eq_true (by omega), decide_eq_true (by omega), mapsU (fun j hj => by rw [kindN_at (by omega)]; exact (h1 j (by omega) hj).1)]
      unfold ends
      rw [g0, g1, g2, k0, k1, k2]
      rfl
    · intro x hx
      obtain ⟨j, hj, rfl⟩ := List.mem_iff_getElem.1 hx
      by_cases a : j < k
      · obtain ⟨p, q⟩ := h1 j hj a
        unfold mayOf
        rw [if_pos p]
        exact q
      · by_cases b : j = k
        · subst b
          rw [List.getElem?_eq_getElem hj] at e0
          rw [Option.some.inj e0]
          unfold mayOf
          rw [if_neg (by omega), if_pos k0]
          exact r0
        · by_cases c : j = k + 1
          · subst c
            rw [List.getElem?_eq_getElem hj] at e1
            rw [Option.some.inj e1]
            unfold mayOf
            rw [if_neg (by omega), if_neg (by omega), if_pos k1, decide_eq_true_eq, newE_0]
            exact ⟨c1, c2⟩
          · have : j = k + 2 := by omega
            subst this
            rw [List.getElem?_eq_getElem hj] at e2
            rw [Option.some.inj e2]
            unfold mayOf
            rw [if_neg (by omega), if_neg (by omega), if_neg (by omega), c3, c4]
            rfl
theorem rright_few (o : Option Addr) (cap : Nat) (l : List Sm) (w : World) (hl : ¬ (3 ≤ l.length ∧ l.length ≤ 7)) (hc : l.length ≤ 9223372036854775807) : Calls Try.prog 7 #[.slice o l.length cap] w fun e w' => e = .returned (.bool (rightL l)) ∧ Below w.heap.size w w' := by
  have HR := (show Hid (rightL l = false) from by
    show _ = _
    unfold rightL orderedL
    by_cases h : 3 ≤ l.length
    · rw [decide_eq_false (p := l.length ≤ 7) (by omega)]; simp
    · rw [decide_eq_false h]; simp)
  rw [HR.out]
  generalize l.length = n at *
  by_cases h : n < 3
  · have f2 : decide ((n : Int) < 3) = true := decide_eq_true (by omega)
    go_enter Try.func7, Try.ntmps7
    go_wp2_with (fail)
    go_ret
    exact ⟨rfl, Below.refl _ _⟩
  · have f2 : decide ((n : Int) < 3) = false := decide_eq_false (by omega)
    have f4 : decide ((7 : Int) < (n : Int)) = true := decide_eq_true (by omega)
    go_enter Try.func7, Try.ntmps7
    go_wp2_with (fail)
    go_ret
    exact ⟨rfl, Below.refl _ _⟩
end Go.Proofs.Ytmmlibehihknbaa.ir
