/-
  Plain and memory: a stage, how it lies in memory; contracts over this program: ir.stepOf, and whether a stage may be.
-/
import Derived.Test.YtmmlibehihknbaaM17
import Derived.Test.YtmmlibehihknbaaKPPd
import Derived.Test.YtmmlibehihknbaaM04
import Derived.Deep.MidRow
namespace Go.Proofs.Ytmmlibehihknbaa.ir
open Go.ChangeShapes Go.WideShapes Go.ChangeAt Go.RowKit
open mg (Row In iv IntsV chain below_alloc Mg Mgs)
open df (Dfa DAt)
set_option linter.unusedVariables false
set_option maxRecDepth 100000

structure Sg where
  kind : Int
  mc : List Value
  d : Dfa
  mp : Nat → Nat
  ms : List Mg
  dr : List Int
  bf : List Int
  af : List Int
/-- where a stage's parts lie -/
structure Sp where
  cs : Array Value
  o : Option Addr
  cap : Nat
  ao : Option Addr
  acap : Nat
  vm : Value
  vd : Value
  vb : Value
  va : Value
def mapL (mp : Nat → Nat) : List Value := (List.range 256).map fun b => Value.int .u8 (mp b : Nat)
theorem mapL_len (mp : Nat → Nat) : (mapL mp).length = 256 := by simp [mapL]
theorem mapL_at (mp : Nat → Nat) (b : Nat) (h : b < 256) : (mapL mp)[b]? = some (.int .u8 (mp b : Nat)) := by simp [mapL, h]
def svL (g : Sg) (p : Sp) : List Value := .int .i64 g.kind :: (g.mc ++ (p.cs.toList ++ (mapL g.mp ++ [p.vm, p.vd, p.vb, p.va])))
structure SgAt (w : World) (g : Sg) (p : Sp) : Prop where
  mc : g.mc.length = 4
  one : ∀ v ∈ g.mc, v.oneCell' = true
  d : DAt (df.In w) w g.d p.cs p.o p.cap p.ao p.acap
  mp : ∀ b, g.mp b < 256
  ms : Mgs w p.vm g.ms
  dr : IntsV w p.vd g.dr
  bf : IntsV w p.vb g.bf
  af : IntsV w p.va g.af
theorem SgAt.later {w w' : World} {g : Sg} {p : Sp} (h : SgAt w g p) (b : Below w.heap.size w w') : SgAt w' g p := ⟨h.mc, h.one, h.d.later b, h.mp, h.ms.later b, h.dr.later b, h.bf.later b, h.af.later b⟩
theorem SgAt.len {w : World} {g : Sg} {p : Sp} (h : SgAt w g p) : (svL g p).length = 523 := by
  have h1 := h.d.size
  simp [svL, h.mc, mapL_len, h1]
theorem ints_one {w : World} {v : Value} {l : List Int} (h : IntsV w v l) : v.oneCell' = true := by
  obtain ⟨o, c, rfl, _⟩ := h
  rfl
theorem mgs_one {w : World} {v : Value} {l : List Mg} (h : Mgs w v l) : v.oneCell' = true := by
  obtain ⟨o, c, rfl, _⟩ := h.form
  rfl
theorem d_one {P : Nat → Prop} {w : World} {d : Dfa} {cs : Array Value} {o ao : Option Addr} {cap acap : Nat} (h : DAt P w d cs o cap ao acap) : ∀ v ∈ cs.toList, v.oneCell' = true := by
  intro v hv
  obtain ⟨i, hi, e⟩ := List.mem_iff_getElem.1 hv
  have hs := h.size
  have hi2 : i < cs.size := by simpa using hi
  have hv2 : cs[i]? = some v := by rw [Array.getElem?_eq_getElem hi2]; simpa using e
  by_cases h1 : i < 256
  · have := h.cl i h1
    rw [hv2] at this
    rw [Option.some.inj this]; rfl
  · by_cases h2 : i = 256
    · subst h2
      have := h.nx
      rw [hv2] at this
      rw [Option.some.inj this]; rfl
    · have h3 : i = 257 := by omega
      subst h3
      have := h.ac
      rw [hv2] at this
      rw [Option.some.inj this]; rfl
theorem SgAt.ones {w : World} {g : Sg} {p : Sp} (h : SgAt w g p) : ∀ v ∈ svL g p, v.oneCell' = true := by
  intro v hv
  unfold svL at hv
  rcases List.mem_cons.1 hv with rfl | hv
  · rfl
  rcases List.mem_append.1 hv with hv | hv
  · exact h.one v hv
  rcases List.mem_append.1 hv with hv | hv
  · exact d_one h.d v hv
  rcases List.mem_append.1 hv with hv | hv
  · obtain ⟨b, _, rfl⟩ := List.mem_map.1 hv
    rfl
  · simp at hv
    rcases hv with rfl | rfl | rfl | rfl
    · exact mgs_one h.ms
    · exact ints_one h.dr
    · exact ints_one h.bf
    · exact ints_one h.af
theorem range_mid {w : World} {b : Nat} {t : TypeId} {fr : Nat × Nat} (L M R : List Value) (h : w.heap[b]? = some (.cells (L ++ (M ++ R)).toArray t fr)) : w.rangeAt b L.length M := by
  intro j v hj
  rw [cell_of_row w b (L.length + j) _ t fr h]
  have hlt := (List.getElem?_eq_some_iff.1 hj).1
  simp only [List.getElem?_toArray]
  rw [List.getElem?_append_right (by omega), Nat.add_sub_cancel_left, List.getElem?_append_left hlt]
  exact hj
/-- a stage in a block of its own -/
def SBox (w : World) (b : Nat) (g : Sg) (p : Sp) : Prop := w.heap[b]? = some (.cells (svL g p).toArray 39 (0, 0))
theorem SBox.lt {w : World} {b : Nat} {g : Sg} {p : Sp} (h : SBox w b g p) : b < w.heap.size := (Array.getElem?_eq_some_iff.1 h).1
theorem SBox.later {w w' : World} {b : Nat} {g : Sg} {p : Sp} (h : SBox w b g p) (k : Below w.heap.size w w') : SBox w' b g p := (k.block b h.lt).trans h
section
variable {w : World} {b : Nat} {g : Sg} {p : Sp}
theorem SBox.kind (h : SBox w b g p) : w.cell? ⟨b, 0, none⟩ = some (.int .i64 g.kind) := by rw [cell_of_row w b 0 _ _ _ h]; rfl
theorem SBox.rmc (h : SBox w b g p) (k : SgAt w g p) : w.rangeAt b 1 g.mc := range_mid [.int .i64 g.kind] g.mc _ h
theorem SBox.rcs (h : SBox w b g p) (k : SgAt w g p) : w.rangeAt b 5 p.cs.toList := by
  have := range_mid (w := w) (b := b) (t := 39) (fr := (0, 0)) (.int .i64 g.kind :: g.mc) p.cs.toList (mapL g.mp ++ [p.vm, p.vd, p.vb, p.va]) h
  rw [List.length_cons, k.mc] at this
  exact this
theorem SBox.rmp (h : SBox w b g p) (k : SgAt w g p) : w.rangeAt b 263 (mapL g.mp) := by
  have := range_mid (w := w) (b := b) (t := 39) (fr := (0, 0)) (.int .i64 g.kind :: (g.mc ++ p.cs.toList)) (mapL g.mp) [p.vm, p.vd, p.vb, p.va] (by rw [h]; simp [svL])
  have e := k.d.size
  rw [List.length_cons, List.length_append, k.mc, Array.length_toList, e] at this
  exact this
theorem SBox.last (h : SBox w b g p) (k : SgAt w g p) : w.cell? ⟨b, 519, none⟩ = some p.vm ∧ w.cell? ⟨b, 520, none⟩ = some p.vd ∧ w.cell? ⟨b, 521, none⟩ = some p.vb ∧ w.cell? ⟨b, 522, none⟩ = some p.va := by
  have := range_mid (w := w) (b := b) (t := 39) (fr := (0, 0)) (.int .i64 g.kind :: (g.mc ++ (p.cs.toList ++ mapL g.mp))) [p.vm, p.vd, p.vb, p.va] [] (by rw [h]; simp [svL])
  have e := k.d.size
  rw [List.length_cons, List.length_append, List.length_append, k.mc, Array.length_toList, e, mapL_len] at this
  exact ⟨this 0 _ rfl, this 1 _ rfl, this 2 _ rfl, this 3 _ rfl⟩
end
theorem fold_at (b : Nat) : ∀ (l : List Value) (k : Nat) (Z : Array Value) (i : Nat), ((l.zipIdx k).foldl (fun (acc : Array Value) (p : Value × Nat) => acc.setIfInBounds (b + p.2) p.1) Z)[i]? = if b + k ≤ i ∧ i < b + k + l.length ∧ i < Z.size then l[i - (b + k)]? else Z[i]?
  | [], k, Z, i => by
    rw [if_neg (by simp; omega)]
    rfl
  | c :: l, k, Z, i => by
    rw [List.zipIdx_cons, List.foldl_cons, fold_at b l (k + 1) _ i, Array.size_setIfInBounds]
    by_cases h1 : b + (k + 1) ≤ i ∧ i < b + (k + 1) + l.length ∧ i < Z.size
    · rw [if_pos h1, if_pos (by simp; omega), show i - (b + k) = (i - (b + (k + 1))) + 1 by omega, List.getElem?_cons_succ]
    · rw [if_neg h1, Array.getElem?_setIfInBounds]
      by_cases h2 : b + k = i
      · subst h2
        by_cases h3 : b + k < Z.size
        · rw [if_pos rfl, if_pos h3, if_pos (by simp; omega), Nat.sub_self]; rfl
        · rw [if_pos rfl, if_neg h3, if_neg (by simp; omega), Array.getElem?_eq_none (by omega)]
      · rw [if_neg h2]
        by_cases h3 : b + k ≤ i ∧ i < b + k + (c :: l).length ∧ i < Z.size
        · exfalso; simp at h3; omega
        · rw [if_neg h3]
/-- the zero of a splitter -/
def z68 : Array Value := (List.replicate 256 (Value.int .u8 0) ++ ([Value.slice none 0 0, .slice none 0 0] ++ List.replicate 256 (Value.int .u8 0))).toArray
theorem z68_size : z68.size = 514 := by unfold z68; simp
theorem built_fill68 (parts : List (Nat × Value)) : Try.prog.built 76 parts = Instr.fill (#[(0, 258), (258, 256)][·]?) z68 parts := by kernel_rfl
theorem fold_size (b : Nat) : ∀ (l : List Value) (k : Nat) (Z : Array Value), ((l.zipIdx k).foldl (fun (acc : Array Value) (p : Value × Nat) => acc.setIfInBounds (b + p.2) p.1) Z).size = Z.size
  | [], k, Z => rfl
  | c :: l, k, Z => by rw [List.zipIdx_cons, List.foldl_cons, fold_size b l (k + 1), Array.size_setIfInBounds]
theorem built76 (cs : List Value) (hcs : cs.length = 258) (mp : List Value) (hmp : mp.length = 256) : Try.prog.built 76 [(0, .agg cs.toArray), (1, .agg mp.toArray)] = some (cs ++ mp).toArray := by
  rw [built_fill68]
  have hz := z68_size
  obtain ⟨Y, hY⟩ : ∃ Y, Y = (cs.zipIdx 0).foldl (fun (acc : Array Value) (p : Value × Nat) => acc.setIfInBounds (0 + p.2) p.1) z68 := ⟨_, rfl⟩
  obtain ⟨X, hX⟩ : ∃ X, X = (mp.zipIdx 0).foldl (fun (acc : Array Value) (p : Value × Nat) => acc.setIfInBounds (258 + p.2) p.1) Y := ⟨_, rfl⟩
  have hYs : Y.size = 514 := by rw [hY, fold_size]; exact hz
  have hXs : X.size = 514 := by rw [hX, fold_size]; exact hYs
  have e1 : Instr.fill (#[(0, 258), (258, 256)][·]?) z68 [(0, .agg cs.toArray), (1, .agg mp.toArray)] = some X := by
    have hY2 : Array.foldl (fun (cs : Array Value) (x : Value × Nat) => cs.setIfInBounds x.snd x.fst) z68 cs.toArray.zipIdx 0 258 = Y := by
      rw [hY]
      simp [hcs]
    have hX2 : Array.foldl (fun (cs : Array Value) (x : Value × Nat) => cs.setIfInBounds (258 + x.snd) x.fst) Y mp.toArray.zipIdx 0 256 = X := by
      rw [hX]
      simp [hmp]
    simp [Instr.fill, Value.cells, hcs, hmp, hz, hY2, hYs, hX2]
  rw [e1]
  congr 1
  apply Array.ext_getElem?
  intro i
  rw [hX, fold_at, hYs, hY, fold_at, hz]
  simp only [List.getElem?_toArray]
  by_cases h1 : i < 258
  · rw [if_neg (by omega), if_pos (by omega), List.getElem?_append_left (by omega)]
    rfl
  · rw [List.getElem?_append_right (by omega), hcs]
    by_cases h2 : i < 514
    · rw [if_pos (by omega)]
    · rw [if_neg (by omega), if_neg (by omega), List.getElem?_eq_none (by omega), Array.getElem?_eq_none (by omega)]
end Go.Proofs.Ytmmlibehihknbaa.ir
