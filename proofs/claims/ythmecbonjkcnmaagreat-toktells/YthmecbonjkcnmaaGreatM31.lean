/-
  Texts put together: The library's contract for a strings.Builder's String, laid at this program; copyCheck and WriteString walked anew; a builder in a world that has grown. Contracts over this program: so many empty texts behind others (tok.written); what ids write, in plain words. Contracts over this program: what ids write (tok.Text, tok.Show).
-/
import Derived.Shelf.Strings.BuilderK
import Derived.Test.YthmecbonjkcnmaaGreatRows
import Derived.WalkKit
import Derived.BigCall
import Derived.Test.YthmecbonjkcnmaaGreatM15
import Derived.Lib.AppendZeros
namespace Go.Proofs.YthmecbonjkcnmaaGreat.bw
open Go.Shelf Go.RowKit
set_option linter.unusedVariables false

def ren : Go.Shelf.Ren := ⟨fun | 169 => 37 | n => n, fun | 37 => 66 | 5 => 5 | 70 => 65 | 9 => 9 | 0 => 0 | 72 => 68 | 127 => 104 | 3 => 3 | n => n, fun | n => n⟩

theorem extra : Builder.Extra Tryz.prog ren := {
  sizeBuilder := by kernel_rfl
  liesBuilder := by kernel_rfl
  t5 := Tryz.underlying5
  a5 := Tryz.isAgg5
  z5 := Tryz.sizeOf5
  v5 := Tryz.zeroValue5
  infoByte := by kernel_rfl
  cellsByte := by kernel_rfl
  sizeByte := by kernel_rfl
  neB5 := by decide }

theorem lays169 : Go.Proofs.Lays.n169 Tryz.prog ren := {
  mixed := by kernel_rfl
  f169 := Tryz.func37.trans (congrArg some (by kernel_rfl))
  t0 := Tryz.underlying0
  a0 := Tryz.isAgg0
  z0 := Tryz.sizeOf0
  v0 := Tryz.zeroValue0
  t3 := Tryz.underlying3
  a3 := Tryz.isAgg3
  z3 := Tryz.sizeOf3
  v3 := Tryz.zeroValue3
  t9 := Tryz.underlying9
  a9 := Tryz.isAgg9
  z9 := Tryz.sizeOf9
  v9 := Tryz.zeroValue9
  t37 := Tryz.underlying66
  a37 := Tryz.isAgg66
  z37 := Tryz.sizeOf66
  v37 := Tryz.zeroValue66
  t70 := Tryz.underlying65
  a70 := Tryz.isAgg65
  z70 := Tryz.sizeOf65
  v70 := Tryz.zeroValue65
  t72 := Tryz.underlying68
  a72 := Tryz.isAgg68
  z72 := Tryz.sizeOf68
  v72 := Tryz.zeroValue68
  t127 := Tryz.underlying104
  a127 := Tryz.isAgg104
  z127 := Tryz.sizeOf104
  v127 := Tryz.zeroValue104 }

/-- the text that was built -/
theorem string_any (B b : Nat) (l : List UInt8) (w : World) (h : Lib.IsBuilderF 68 5 B b (Lib.byteCells l) w) (hBw : B ≤ w.heap.size) :
    Calls Tryz.prog 37 #[.pointer (some ⟨b, 0, none⟩)] w fun e w' => e = .returned (.string ⟨l.toArray⟩) ∧ Lib.IsBuilderF 68 5 B b (Lib.byteCells l) w' ∧ Below B w w' :=
  (Any.Builder_String_any_k lays169 extra B b l w h hBw).mono fun e w' h => ⟨h.1, h.2.1, h.2.2.1⟩

set_option maxRecDepth 100000 in
theorem check_fresh (b : Nat) (w : World) (h0 : w.cell? ⟨b, 0, none⟩ = some (.pointer none)) (hsh : w.shape? b = some (68, 2)) (hfz : w.frozen? ⟨b, 0, none⟩ = false) :
    Calls Tryz.prog 58 #[.pointer (some ⟨b, 0, none⟩)] w fun e w' => e = .returned (.tuple #[]) ∧ w' = w.setCell ⟨b, 0, none⟩ (.pointer (some ⟨b, 0, none⟩)) := by
  obtain ⟨j, hj, hjs⟩ := Option.map_eq_some_iff.1 extra.sizeBuilder
  have c1 := Lib.run_to_unsafe w ⟨b, 0, none⟩ Tryz.underlying65 Tryz.underlying147 hj (by rw [hjs]; decide) hsh (Nat.zero_lt_succ 1)
  have c2 := Lib.run_from_unsafe w ⟨b, 0, none⟩ Tryz.underlying147 Tryz.underlying65 hj hsh extra.liesBuilder
  have c3 : (callFunc 83 #[.pointer (some ⟨b, 0, none⟩)]).run Tryz.prog w = .ok (.value (.pointer (some ⟨b, 0, none⟩))) w := by
    rw [run_callFunc_extern Tryz.func83 (by kernel_rfl) (by kernel_rfl) (by kernel_rfl) (e := Extern.AbiNoEscape.same) (by kernel_rfl), Lib.run_noEscape]
    rfl
  clear hj hjs
  go_enter Tryz.func58, Tryz.ntmps58
  go_wp2
  go_end0
  exact ⟨rfl, rfl⟩
theorem check_used (b : Nat) (w : World) (h0 : w.cell? ⟨b, 0, none⟩ = some (.pointer (some ⟨b, 0, none⟩))) :
    Calls Tryz.prog 58 #[.pointer (some ⟨b, 0, none⟩)] w fun e w' => e = .returned (.tuple #[]) ∧ w' = w := by
  obtain ⟨j, hj, hjs⟩ := Option.map_eq_some_iff.1 extra.sizeBuilder
  have c1 := Lib.run_neq_ptr_same w (P := Tryz.prog) (tp := 65) (te := 68) ⟨b, 0, none⟩ Tryz.underlying65 hj
  clear hj hjs
  go_enter Tryz.func58, Tryz.ntmps58
  go_wp2
  go_end0
  exact ⟨rfl, rfl⟩

theorem check (B b : Nat) (bs : List Value) (w : World) (h : Lib.IsBuilderF 68 5 B b bs w) :
    Calls Tryz.prog 58 #[.pointer (some ⟨b, 0, none⟩)] w fun e w' => e = .returned (.tuple #[]) ∧ Lib.BuilderAtF 68 5 B b (.pointer (some ⟨b, 0, none⟩)) bs w' ∧ Below B w w' ∧ Lib.OthersKept 5 (some b) w w' := by
  rcases h with h | h
  · refine (check_fresh b w h.cell0 h.shape h.frozen0).mono ?_
    rintro e w' ⟨rfl, rfl⟩
    exact ⟨rfl, h.used _, (Below.refl B w).setCell (p := ⟨b, 0, none⟩) h.1 _, (Lib.OthersKept.refl _ _ w).setCell ⟨b, 0, none⟩ rfl _⟩
  · refine (check_used b w h.cell0).mono ?_
    rintro e w' ⟨rfl, rfl⟩
    exact ⟨rfl, h, Below.refl B _, Lib.OthersKept.refl _ _ _⟩

theorem info5 : (Tryz.prog.info? 5).map (fun i => (i.zero, i.size, i.bytes)) = some (some (.int .u8 0), 1, 1) := by kernel_rfl

/-- a builder whose row has been appended to: once the new row is stored it holds what was put in, and nothing else has changed -/
theorem stored {B b : Nat} {bs : List Value} {w1 : World} (h : Lib.BuilderAtF 68 5 B b (.pointer (some ⟨b, 0, none⟩)) bs w1) (hBw : B ≤ w1.heap.size) :
    ∃ v, w1.cell? ⟨b, 1, none⟩ = some v ∧ w1.ownsRowF B 5 1 v bs.length bs ∧
      ∀ (v' : Value) (w2 : World) (more : List Value), w2.ownsRowF B 5 1 v' (bs ++ more).length (bs ++ more) → w1.grownBy w2 v.ownBlock →
        (∃ a n c, v' = .slice a n c) ∧ (w2.cell? ⟨b, 1, none⟩ = some v ∧ w2.frozen? ⟨b, 1, none⟩ = false) ∧
        Lib.IsBuilderF 68 5 B b (bs ++ more) (w2.setCell ⟨b, 1, none⟩ v') ∧ Below B w1 (w2.setCell ⟨b, 1, none⟩ v') ∧ Lib.OthersKept 5 (some b) w1 (w2.setCell ⟨b, 1, none⟩ v') := by
  obtain ⟨hB, v, blk, own, ne⟩ := h
  refine ⟨v, by rw [Lib.cell_of_heap blk]; rfl, own, fun v' w2 more own2 gr => ?_⟩
  have blk2 : w2.heap[b]? = some (.cells #[.pointer (some ⟨b, 0, none⟩), v] 68 (0, 0)) :=
    (gr.block b (Array.getElem?_eq_some_iff.1 blk).1 (Ne.symm ne)).trans blk
  refine ⟨?_, ⟨by rw [Lib.cell_of_heap blk2]; rfl, Lib.frozen_of_heap blk2 1⟩, .inr (Lib.BuilderAtF.put hB blk2 own2 extra.neB5), ?_, ?_⟩
  · rcases own2.2 with ⟨e, _⟩ | ⟨_, _, _, _, e, _⟩ <;> exact ⟨_, _, _, e⟩
  · exact ((Below.refl B w1).grown gr hBw fun k hk => (own.lt k hk).1).setCell (p := ⟨b, 1, none⟩) hB _
  · exact ((Lib.OthersKept.refl 5 (some b) w1).grown gr (Lib.ownsRowF_kind own)).setCell ⟨b, 1, none⟩ rfl _

set_option maxHeartbeats 2000000 in
set_option maxRecDepth 100000 in
/-- a text goes in behind what the builder holds -/
theorem writeString (B b : Nat) (bs : List Value) (s : ByteArray) (w : World) (h : Lib.IsBuilderF 68 5 B b bs w) (hlen : bs.length + s.size ≤ 140737488355328) (hBw : B ≤ w.heap.size) :
    Calls Tryz.prog 36 #[.pointer (some ⟨b, 0, none⟩), .string s] w fun e w' => e = .returned (.tuple #[.int .i64 s.size, .nilIface]) ∧ Lib.IsBuilderF 68 5 B b (bs ++ Lib.strCells s) w' ∧ Below B w w' ∧ Lib.OthersKept 5 (some b) w w' := by
  obtain ⟨i0, hi, hz0, hz1, hz2⟩ := info_parts info5
  have hmax : bs.length + s.size ≤ maxLen := by unfold maxLen; omega
  go_enter Tryz.func36, Tryz.ntmps36
  go_wp2_with (go_at_call 58; refine (check B b bs _ h).mono ?_)
  rintro e w1 ⟨rfl, at1, below1, kept1⟩
  have room := Nat.le_trans hBw below1.size
  obtain ⟨v, c1, own, next⟩ := stored at1 room
  go_wp2_with (at_builtin; refine Lib.wpList_append_own_stringF _ rfl _ _ 66 9 rfl B 5 i0 Tryz.underlying66 Tryz.underlying9 hi hz0 hz1 hz2 _ _ _ rfl own s rfl hmax (by omega) room ?_)
  intro v' w2 own2 gr _
  obtain ⟨⟨a, n, c, rfl⟩, ⟨c2, f2⟩, is2, below2, kept2⟩ := next v' w2 (Lib.strCells s) (by rw [List.length_append, Lib.strCells_length]; exact own2) gr
  go_wp2
  go_ret2
  exact ⟨rfl, is2, below1.trans below2, kept1.trans kept2⟩

/-- a builder stands in a world that has grown -/
theorem later {B b : Nat} {bs : List Value} {w w' : World} (h : Lib.IsBuilderF 68 5 B b bs w) (hb : Below w.heap.size w w') : Lib.IsBuilderF 68 5 B b bs w' := by
  have one : ∀ p, Lib.BuilderAtF 68 5 B b p bs w → Lib.BuilderAtF 68 5 B b p bs w' := by
    rintro p ⟨hB, v, hbk, hown, hne⟩
    have hlt : b < w.heap.size := (Array.getElem?_eq_some_iff.1 hbk).1
    refine ⟨hB, v, by rw [hb.block b hlt]; exact hbk, ?_, hne⟩
    refine ⟨hown.1, ?_⟩
    rcases hown.2 with h | ⟨g, cap, cur, fz, hv, hg1, hg, rest⟩
    · exact .inl h
    · exact .inr ⟨g, cap, cur, fz, hv, hg1, by rw [hb.block g (Array.getElem?_eq_some_iff.1 hg).1]; exact hg, rest⟩
  exact h.elim (fun x => .inl (one _ x)) (fun x => .inr (one _ x))

theorem strCells_list (s : ByteArray) : Lib.strCells s = Lib.byteCells s.data.toList := by
  simp [Lib.strCells, Lib.byteCells]
theorem byteCells_length (l : List UInt8) : (Lib.byteCells l).length = l.length := by simp [Lib.byteCells]

def WriteIs (B b : Nat) (l : List UInt8) (s : ByteArray) : Prop := ∀ w, Lib.IsBuilderF 68 5 B b (Lib.byteCells l) w → B ≤ w.heap.size → Calls Tryz.prog 36 #[.pointer (some ⟨b, 0, none⟩), .string s] w fun e w' => e = .returned (.tuple #[.int .i64 s.size, .nilIface]) ∧ Lib.IsBuilderF 68 5 B b (Lib.byteCells (l ++ s.data.toList)) w' ∧ Below B w w' ∧ Lib.OthersKept 5 (some b) w w'
theorem write_any (B b : Nat) (l : List UInt8) (s : ByteArray) (hlen : l.length + s.size ≤ 140737488355328) : WriteIs B b l s := by
  intro w h hBw
  refine (writeString B b (Lib.byteCells l) s w h (by rw [byteCells_length]; exact hlen) hBw).mono ?_
  rintro e w' ⟨rfl, h1, h2⟩
  exact ⟨rfl, by rw [Lib.byteCells_append, ← strCells_list]; exact h1, h2⟩
theorem at_later {B b : Nat} {p : Value} {bs : List Value} {w w' : World} (h : Lib.BuilderAtF 68 5 B b p bs w) (hb : Below w.heap.size w w') : Lib.BuilderAtF 68 5 B b p bs w' := by
  obtain ⟨hB, v, hbk, hown, hne⟩ := h
  have hlt : b < w.heap.size := (Array.getElem?_eq_some_iff.1 hbk).1
  refine ⟨hB, v, by rw [hb.block b hlt]; exact hbk, ?_, hne⟩
  refine ⟨hown.1, ?_⟩
  rcases hown.2 with h | ⟨g, cap, cur, fz, hv, hg1, hg, rest⟩
  · exact .inl h
  · exact .inr ⟨g, cap, cur, fz, hv, hg1, by rw [hb.block g (Array.getElem?_eq_some_iff.1 hg).1]; exact hg, rest⟩
end Go.Proofs.YthmecbonjkcnmaaGreat.bw

namespace Go.Proofs.YthmecbonjkcnmaaGreat.tw
open Go.ChangeShapes Go.WideShapes Go.ChangeAt Go.RowKit Go.Shelf
open cf (Cf Cp cv CfAt CBox cfE cbox_new)
open mg (Row RowV IntsV StrsV In chain below_alloc Mgs errOf textsOf TextsOut atI InR cat AllIn)
set_option linter.unusedVariables false

def e0 : ByteArray := ⟨#[]⟩
theorem zc (x : Value) (m : Nat) : Builtin.zeroCells #[x] m = (List.replicate m x).toArray := by
  apply Array.ext'
  apply List.ext_getElem
  · simp [Builtin.zeroCells]
  · intro i h1 h2
    simp [Builtin.zeroCells, Nat.mod_one]
theorem zeros_own {w : World} (base n m : Nat) (v : Value) (xs : List Value) (hown : w.ownsRow base 9 1 v n xs) (hv : v ≠ .slice none 0 0) (hm : n + m ≤ 1000000) (hb : base ≤ w.heap.size) :
    ∃ v' w', (Builtin.append_ #[31, 3] 31 #[v, .int .i64 (m : Int)]).run Tryz.prog w = .ok v' w' ∧ w'.ownsRow base 9 1 v' (n + m) (xs ++ List.replicate m (.string e0)) ∧ w.grownBy w' v.ownBlock := by
  obtain ⟨i0, hi, hz, hz1, hz2⟩ := info_parts mg.info9
  have hw : IntKind.i64.wrap (m : Int) = m := by rw [IntKind.wrap_i64]; omega
  have hneg : ¬ ((m : Int) < 0) := by omega
  have h48i : ¬ (281474976710656 < (m : Int) * ((i0.bytes : Nat) : Int)) := by rw [hz2]; omega
  have hlen : (xs ++ List.replicate m (Value.string e0)).length = (n + m) * 1 := by rw [List.length_append, hown.1, List.length_replicate]; omega
  rcases hown.2 with ⟨rfl, _⟩ | ⟨g, cap, cur, rfl, hbg, hg, hnc, hcm, hcs, htake⟩
  · exact absurd rfl hv
  · have hzz : Builtin.zeroCells (Value.string ⟨#[]⟩).cells m = (List.replicate m (Value.string e0)).toArray := zc _ m
    by_cases hroom : n + m ≤ cap
    · have hst := run_storeCells_at Tryz.prog g (n * 1) 9 (List.replicate m (Value.string e0)) 0 cur w hg (by rw [List.length_replicate, hcs]; omega) (fun u hu => by rw [List.eq_of_mem_replicate hu]; rfl)
      simp only [Nat.add_zero] at hst
      have hr : (Builtin.append_ #[31, 3] 31 #[.slice (some ⟨g, 0, none⟩) n cap, .int .i64 (m : Int)]).run Tryz.prog w = .ok (.slice (some ⟨g, 0, none⟩) (n + m) cap) (w.setRow g (cur.toList.take (n * 1) ++ List.replicate m (Value.string e0) ++ cur.toList.drop (n * 1 + m)).toArray) := by
        rcases Nat.eq_zero_or_pos m with rfl | hpos
        · simp [Builtin.append_, run_underlying Tryz.underlying31, run_underlying Tryz.underlying3, sizeOf, typeInfo, zeroValue, hi, hz, hz1, asInt, asIntOf, show IntKind.i64.wrap 0 = 0 from rfl, hnc, Addr.add_lit]
          simp at hst
          simp [hst, Result.andThen]
        · have hns : ¬ (m = 0) := by omega
          simp [Builtin.append_, run_underlying Tryz.underlying31, run_underlying Tryz.underlying3, sizeOf, typeInfo, zeroValue, hi, hz, hz1, asInt, asIntOf, hw, hneg, h48i, hns, hroom, hzz, Addr.add_lit]
          simp at hst
          simp [hst, Result.andThen]
      refine ⟨_, _, hr, ⟨hlen, .inr ⟨g, cap, _, rfl, hbg, setRow_heap w g cur _ 9 _ hg, hroom, hcm, ?_, ?_⟩⟩, ⟨rfl, rfl, rfl, by simp, fun k _ hk => setRow_other w g k _ (fun e => hk (by simp [Value.ownBlock, e]))⟩⟩
      · simp only [List.size_toArray, List.length_append, List.length_take, List.length_drop, Array.length_toList, List.length_replicate]
        omega
      · rw [htake, ← hlen]
        exact List.take_left
    · have hr : (Builtin.append_ #[31, 3] 31 #[.slice (some ⟨g, 0, none⟩) n cap, .int .i64 (m : Int)]).run Tryz.prog w = .ok (.slice (some ⟨w.heap.size, 0, none⟩) (n + m) (grownCap w (n + m) cap 9)) (w.drew.alloc (.cells (xs.toArray ++ (List.replicate m (Value.string e0)).toArray ++ Builtin.zeroCells (Value.string e0).cells (grownCap w (n + m) cap 9 - (n + m))) 9)) := by
        have hns : ¬ (m = 0) := by omega
        have holds : ∀ j u, xs[j]? = some u → w.cell? ((⟨g, 0, none⟩ : Addr).add j) = some u := hown.cells (g := g) rfl
        have hfo := run_firstCells_some (P := Tryz.prog) w.drew 1 n ⟨g, 0, none⟩ n cap xs hown.1 (by simpa using holds)
        have h63' : ¬ (9223372036854775807 < ((n : Int) + (m : Int))) := by omega
        have h48' : ¬ (281474976710656 < Builtin.nextslicecap (n + m) cap * i0.bytes) := by
          have := growslice_fits (need := n + m) (old := cap) (bytes := i0.bytes) (by omega) (by rw [hz2]; omega)
          omega
        simp [Builtin.append_, run_underlying Tryz.underlying31, run_underlying Tryz.underlying3, sizeOf, typeInfo, zeroValue, hi, hz, hz1, asInt, asIntOf, hw, hneg, h48i, hns, hroom, h63', h48', Question.forced, hfo, hzz, newRow, grownCap]
        rfl
      have hge := grownCap_ge w (n + m) cap 9
      refine ⟨_, _, hr, ⟨hlen, .inr ⟨w.heap.size, _, _, rfl, hb, heap_alloc_new w.drew _, hge, grownCap_le_maxLen w (n + m) cap 9 (by unfold maxLen; omega), ?_, ?_⟩⟩, ⟨rfl, rfl, rfl, by simp, fun k hk _ => heap_alloc_old w.drew _ hk⟩⟩
      · have hxl := hown.1
        simp only [Array.size_append, List.size_toArray, size_zeroCells, List.length_replicate, show (Value.string e0).cells.size = 1 from rfl]
        omega
      · simp only [Array.toList_append, List.append_assoc]
        rw [← List.append_assoc, ← hlen]
        exact List.take_left

/-- what each id writes -/
def tsF (c : Cf) : List ByteArray := textsOf c.ms ++ List.replicate c.ns.length e0
theorem merges_ok {c : Cf} (h : cfE c = 0) : errOf c.ms = 0 := by
  rw [cf.cfE_eq] at h
  by_cases h1 : cf.passE c.ps ≠ 0
  · rw [if_pos h1] at h; exact absurd h h1
  · rw [if_neg h1] at h
    by_cases h2 : cf.splitE c.t ≠ 0
    · rw [if_pos h2] at h; exact absurd h h2
    · rw [if_neg h2] at h
      by_cases h3 : errOf c.ms ≠ 0
      · rw [if_pos h3] at h; exact absurd h h3
      · omega
theorem names_few {c : Cf} (h : cfE c = 0) : c.ns.length ≤ 64 := by
  rw [cf.cfE_eq] at h
  by_cases h1 : cf.passE c.ps ≠ 0
  · rw [if_pos h1] at h; exact absurd h h1
  · rw [if_neg h1] at h
    by_cases h2 : cf.splitE c.t ≠ 0
    · rw [if_pos h2] at h; exact absurd h h2
    · rw [if_neg h2] at h
      by_cases h3 : errOf c.ms ≠ 0
      · rw [if_pos h3] at h; exact absurd h h3
      · rw [if_neg h3] at h
        unfold cf.rest at h
        by_cases h4 : cf.LastOk c
        · exact h4.1.1
        · rw [if_neg h4] at h; cases h
theorem tsF_len {c : Cf} (h : cfE c = 0) : (tsF c).length = 256 + c.ms.length + c.ns.length := by
  unfold tsF
  rw [List.length_append, List.length_replicate, (mg.fine (merges_ok h)).len]
theorem tsF_size {c : Cf} (h : cfE c = 0) : ∀ t ∈ tsF c, t.size ≤ 64 := fun t ht => by
  rcases List.mem_append.1 ht with h1 | h1
  · exact ((mg.fine (merges_ok h)).size t h1).2
  · rw [List.eq_of_mem_replicate h1]; decide
set_option maxHeartbeats 1000000 in
set_option maxRecDepth 100000 in
theorem written_any (c : Cf) (p : Cp) (w : World) (hv : CfAt w c p) (h0 : cfE c = 0) : Calls Tryz.prog 35 #[.agg (cv c p)] w fun e w' => ∃ v, e = .returned v ∧ StrsV w' v (tsF c) ∧ Below w.heap.size w w' := by
  obtain ⟨wA, hwA⟩ : ∃ wA, wA = w.alloc (.cells (cv c p) 34) := ⟨_, rfl⟩
  have B0 : Below w.heap.size w wA := by rw [hwA]; exact below_alloc _ _
  have hX : CBox wA w.heap.size c p := by rw [hwA]; exact cbox_new w c p
  have c27 := mg.texts_any c.ms _ wA (hv.later B0).ms
  have k9 := hX.c9
  have HX := (show Hid (CBox wA w.heap.size c p) from hX)
  have hfew := names_few h0
  have hm := merges_ok h0
  have HF := (show Hid _ from mg.fine hm)
  have hml := (mg.ok_run hm).1
  rw [hwA] at k9
  clear hv hX
  go_enter Tryz.func35, Tryz.ntmps35
  go_wp2_with (fail)
  rw [← hwA]
  clear hwA k9
  go_at_call 57
  refine c27.mono ?_
  rintro e w1 ⟨v1, rfl, ho, b1⟩
  have k10 := (HX.out.later b1).c10
  have hvn : v1 ≠ .slice none 0 0 := fun e => by
    subst e
    have h1 := HF.out.len
    rcases ho.2 with ⟨_, h2⟩ | ⟨g, cap, cur, h2, _⟩
    · omega
    · cases h2
  have h1 := HF.out.len
  obtain ⟨v2, w2, happ, ho2, hg2⟩ := zeros_own (w := w1) wA.heap.size (textsOf c.ms).length c.ns.length v1 _ ho hvn (by omega) b1.size
  have b2 : Below wA.heap.size wA w2 := b1.trans ⟨hg2.os, hg2.tape, hg2.output, hg2.size, fun k hk => hg2.block k (by have := b1.size; omega) (fun e => by
    have := (ow.lt ho e.symm).1
    omega)⟩
  go_wp2_with (at_builtin; refine Lib.wpList_append_run _ rfl (.tmp 11) (.tmp 14) 31 3 rfl v1 (.int .i64 (c.ns.length : Int)) rfl rfl v2 w2 happ ?_)
  go_ret
  refine ⟨v2, rfl, RowV.own (B := wA.heap.size) (e := 9) ?_, chain B0 b2⟩
  unfold tsF
  rw [List.length_append, List.length_replicate, List.map_append, List.map_replicate]
  exact ho2
end Go.Proofs.YthmecbonjkcnmaaGreat.tw

namespace Go.Proofs.YthmecbonjkcnmaaGreat.tw
open Go.ChangeShapes Go.WideShapes Go.ChangeAt Go.RowKit Go.Shelf
open cf (Cf Cp cv CfAt CBox cfE cbox_new)
open mg (Row RowV IntsV StrsV In chain below_alloc Mgs errOf textsOf TextsOut atI InR cat AllIn)
set_option linter.unusedVariables false

def inB (c : Cf) (x : Int) : Bool := decide (0 ≤ x ∧ x < ((tsF c).length : Int))
def okB (c : Cf) (ids : List Int) : Bool := ids.all (inB c)
def outB (c : Cf) (ids : List Int) : ByteArray := ⟨(cat (tsF c) ids).toArray⟩
def Txt (c : Cf) (ids : List Int) (r : Nat) (t : ByteArray) : Prop :=
  (cfE c ≠ 0 ∧ r = cfE c ∧ t = e0) ∨ (cfE c = 0 ∧ 262144 < ids.length ∧ r = 2 ∧ t = e0) ∨ (cfE c = 0 ∧ ids.length ≤ 262144 ∧ okB c ids = false ∧ r = 1 ∧ t = e0) ∨ (cfE c = 0 ∧ ids.length ≤ 262144 ∧ okB c ids = true ∧ r = 0 ∧ t = outB c ids)
theorem Txt.one {c : Cf} {ids : List Int} {r r' : Nat} {t t' : ByteArray} (h : Txt c ids r t) (k : Txt c ids r' t') : r' = r ∧ t' = t := by
  rcases h with ⟨a, rfl, rfl⟩ | ⟨a, b, rfl, rfl⟩ | ⟨a, b, d, rfl, rfl⟩ | ⟨a, b, d, rfl, rfl⟩ <;> rcases k with ⟨a', rfl, rfl⟩ | ⟨a', b', rfl, rfl⟩ | ⟨a', b', d', rfl, rfl⟩ | ⟨a', b', d', rfl, rfl⟩
  all_goals first | exact ⟨rfl, rfl⟩ | omega | (rw [d] at d'; cases d')
theorem cat_take {ts : List ByteArray} {ids : List Int} {i : Nat} (h : i < ids.length) : cat ts (ids.take (i + 1)) = cat ts (ids.take i) ++ (atI ts ids[i]).data.toList := by
  unfold cat
  rw [List.take_succ_eq_append_getElem h, List.flatMap_append]
  simp
theorem cat_size {ts : List ByteArray} (h : ∀ t ∈ ts, t.size ≤ 64) : ∀ ids : List Int, (cat ts ids).length ≤ 64 * ids.length := by
  intro ids
  induction ids with
  | nil => simp [cat]
  | cons x l ih =>
    have h1 : (atI ts x).size ≤ 64 := by
      unfold atI
      rw [List.getD_eq_getElem?_getD]
      cases hx : ts[x.toNat]? with
      | none => decide
      | some t => exact h t (List.mem_of_getElem? hx)
    have h2 : (cat ts (x :: l)).length = (atI ts x).size + (cat ts l).length := by
      unfold cat
      rw [List.flatMap_cons, List.length_append, Array.length_toList]; rfl
    rw [h2, List.length_cons]
    omega
theorem okB_bad {c : Cf} {ids : List Int} {i : Nat} (h : i < ids.length) (hb : inB c ids[i] = false) : okB c ids = false := by
  unfold okB
  rw [List.all_eq_false]
  exact ⟨ids[i], List.getElem_mem h, by rw [hb]; simp⟩
def TextOut (c : Cf) (ids : List Int) (w : World) (e : Ending) (w' : World) : Prop := ∃ (r : Nat) (t : ByteArray), e = .returned (.tuple #[.string t, .int .i64 (r : Int)]) ∧ Txt c ids r t ∧ Below w.heap.size w w'
theorem info34 (c : Cf) (p : Cp) : (Tryz.prog.info? 34).map (·.size) = some (cv c p).size := by
  rw [show (cv c p).size = 13 from rfl]; kernel_rfl
set_option maxHeartbeats 2000000 in
set_option maxRecDepth 100000 in
theorem text_any (c : Cf) (p : Cp) (ids : List Int) (v : Value) (w : World) (hc : CfAt w c p) (hv : IntsV w v ids) : Calls Tryz.prog 15 #[.agg (cv c p), v] w (TextOut c ids w) := by
  obtain ⟨wA, hwA⟩ : ∃ wA, wA = w.alloc (.cells (cv c p) 34) := ⟨_, rfl⟩
  have B0 : Below w.heap.size w wA := by rw [hwA]; exact below_alloc _ _
  have hX0 : (w.alloc (.cells (cv c p) 34)).heap[w.heap.size]? = some (.cells (cv c p) 34 (0, 0)) := cbox_new w c p
  have HX := (show Hid (CBox wA w.heap.size c p) from by rw [hwA]; exact cbox_new w c p)
  have hi34 := info34 c p
  obtain ⟨o, cap, rfl, hrow⟩ := hv
  have HR := (show Hid (Row (In wA) wA mg.iv o cap ids) from hrow.later B0)
  have HC := (show Hid (CfAt wA c p) from hc.later B0)
  have f1 := hrow.fit
  have f2 := hrow.top
  have c9 := cf.right_any c p wA (hc.later B0) _ rfl
  clear hc hrow
  go_enter Tryz.func15, Tryz.ntmps15
  go_wp2_with (first | (refine wpList_load_row rfl 34 (.tmp 2) rfl w.heap.size rfl 34 (cv c p) (0, 0) _ hX0 Tryz.underlying34 rfl hi34 ?_))
  rw [← hwA]
  clear hwA hX0
  go_at_call 34
  refine c9.mono ?_
  rintro e w1 ⟨rfl, b1⟩
  clear c9
  by_cases h0 : cfE c = 0
  · rw [h0]
    by_cases hlong : 262144 < ids.length
    · have HO := (show Hid (TextOut c ids w (.returned (.tuple #[.string e0, .int .i64 2])) w1) from ⟨2, e0, rfl, .inr (.inl ⟨h0, hlong, rfl, rfl⟩), chain B0 b1⟩)
      clear h0
      go_wp2_with (fail)
      go_ret2
      exact HO.out
    · have hX1 : w1.heap[w.heap.size]? = some (.cells (cv c p) 34 (0, 0)) := HX.out.later b1
      have c10 := written_any c p w1 (HC.out.later b1) h0
      have HS := (show Hid (∀ t ∈ tsF c, t.size ≤ 64) from tsF_size h0)
      have HT0 := (show Hid (cfE c = 0) from h0)
      clear h0
      go_wp2_with (first | (refine wpList_load_row rfl 34 (.tmp 2) rfl w.heap.size rfl 34 (cv c p) (0, 0) _ hX1 Tryz.underlying34 rfl hi34 ?_))
      go_at_call 35
      refine c10.mono ?_
      rintro e w2 ⟨_, rfl, ⟨o7, cap7, rfl, hrow7⟩, b2⟩
      have HR2 := (show Hid (Row (In w2) w2 mg.iv o cap ids) from (HR.out.later b1).later b2)
      have HR7 := (show Hid (Row (In w2) w2 Value.string o7 cap7 (tsF c)) from hrow7)
      have g1 := hrow7.fit
      have g2 := hrow7.top
      obtain ⟨ts, hts⟩ : ∃ ts, ts = tsF c := ⟨_, rfl⟩
      have HTS := (show Hid (ts = tsF c) from hts)
      rw [← hts] at HR7 HS g1 ⊢
      obtain ⟨nt, hnt⟩ : ∃ nt, nt = ts.length := ⟨_, rfl⟩
      have HNT := (show Hid (nt = ts.length) from hnt)
      rw [← hnt] at g1 ⊢
      have hb12 : Below w.heap.size w w2 := chain (chain B0 b1) b2
      clear hrow7 hts hnt c10 hX1 b1 b2 B0
      go_wp2_with (fail)
      go_loopw [23] (fun y wr => ∃ i : Nat, y = .int .i64 (i : Int) ∧ i ≤ ids.length ∧ Lib.IsBuilderF 68 5 w2.heap.size w2.heap.size (Lib.byteCells (cat ts (ids.take i))) wr ∧ Below w2.heap.size w2 wr ∧ Hid ((ids.take i).all (inB c) = true)) (fun y _ => ids.length - (intOf y).toNat)
      case atStart => exact ⟨0, rfl, by omega, Lib.IsBuilderF.of (Lib.fresh_isBuilder 68 5 w2), (Below.refl _ w2).alloc (Nat.le_refl _) _, rfl⟩
      case round =>
        obtain ⟨i, rfl, hi, hI, hB, HO⟩ := hrel
        have hsz : w2.heap.size ≤ wr.heap.size := hB.size
        by_cases hlt : i < ids.length
        · obtain ⟨b, off, rfl, _, kx⟩ := (HR2.out.later hB).lie i hlt
          have HBAD := (show Hid (inB c ids[i] = false → TextOut c ids w (.returned (.tuple #[.string e0, .int .i64 1])) wr) from fun hb => ⟨1, e0, rfl, .inr (.inr (.inl ⟨HT0.out, by omega, okB_bad hlt hb, rfl, rfl⟩)), chain hb12 hB⟩)
          have HINB := (show Hid (∀ x, inB c x = decide (0 ≤ x ∧ x < (nt : Int))) from fun x => by unfold inB; rw [HNT.out, HTS.out])
          have HCT := (show Hid (cat ts (ids.take (i + 1)) = cat ts (ids.take i) ++ (atI ts ids[i]).data.toList) from cat_take hlt)
          have HAT := (show Hid (inB c ids[i] = true → (ids.take (i + 1)).all (inB c) = true) from fun h => by
            rw [List.take_succ_eq_append_getElem hlt, List.all_append, HO.out]
            simp [h])
          have HCS := (show Hid ((cat ts (ids.take i)).length ≤ 64 * ids.length) from by
            have h1 := cat_size HS.out (ids.take i)
            have h2 : (ids.take i).length ≤ ids.length := by rw [List.length_take]; omega
            show _ ≤ _
            omega)
          have kx2 : wr.cell? ⟨b, off + i, none⟩ = some (.int .i64 ids[i]) := kx
          generalize ids[i] = x at *
          clear kx
          by_cases hneg : x < 0
          · have HF := (show Hid _ from HBAD.out (by rw [HINB.out]; exact decide_eq_false (by omega)))
            have hb : decide (x < 0) = true := decide_eq_true hneg
            clear HBAD HINB HCT HAT HCS
            go_wp2_with (fail)
            go_ret2
            exact HF.out
          · obtain ⟨k, rfl⟩ := Int.eq_ofNat_of_zero_le (show 0 ≤ x by omega)
            by_cases hge : nt ≤ k
            · have HF := (show Hid _ from HBAD.out (by rw [HINB.out]; exact decide_eq_false (by omega)))
              clear HBAD HINB HCT HAT HCS hneg
              go_wp2_with (fail)
              go_ret2
              exact HF.out
            · have hk : k < ts.length := by rw [← HNT.out]; omega
              obtain ⟨b7, off7, rfl, _, kt⟩ := (HR7.out.later hB).lie k hk
              have ha : atI ts (k : Int) = ts[k] := by unfold atI; rw [List.getD_eq_getElem?_getD]; simp [hk]
              have hs64 := HS.out ts[k] (List.getElem_mem hk)
              rw [ha] at HCT
              have HA2 := (show Hid _ from HAT.out (by rw [HINB.out]; exact decide_eq_true (by omega)))
              generalize ts[k] = t at *
              have c11 := bw.write_any w2.heap.size w2.heap.size (cat ts (ids.take i)) t (by have := HCS.out; omega)
              clear HBAD HINB HAT HCS hneg ha
              have hkn : k < nt := by omega
              clear hge
              go_wp2_with (fail)
              go_at_call 36
              refine (c11 wr hI hsz).mono ?_
              rintro e w3 ⟨rfl, hI3, b3, _⟩
              go_wp2_with (fail)
              go_roundw
              case rel => exact ⟨i + 1, by go_num, by omega, (by rw [HCT.out]; exact hI3), hB.trans b3, HA2⟩
              case measure => simp [intOf]; omega
        · obtain rfl : i = ids.length := by omega
          have hall := HO.out
          rw [List.take_length] at hall hI
          have HF := (show Hid (∀ w', Below w2.heap.size wr w' → TextOut c ids w (.returned (.tuple #[.string ⟨(cat ts ids).toArray⟩, .int .i64 0])) w') from fun w' b => ⟨0, _, rfl, .inr (.inr (.inr ⟨HT0.out, by omega, hall, rfl, by unfold outB; rw [HTS.out]⟩)), chain hb12 (hB.trans b)⟩)
          have c12 := bw.string_any w2.heap.size w2.heap.size (cat ts ids) wr hI hsz
          clear hall
          go_wp2_with (fail)
          go_at_call 37
          refine c12.mono ?_
          rintro e w3 ⟨rfl, _, b3⟩
          go_wp2_with (fail)
          go_ret2
          exact HF.out w3 b3
  · have HO := (show Hid (TextOut c ids w (.returned (.tuple #[.string e0, .int .i64 (cfE c : Int)])) w1) from ⟨cfE c, e0, rfl, .inl ⟨h0, rfl, rfl⟩, chain B0 b1⟩)
    have hb1 : (((cfE c : Nat) : Int) == 0) = false := by rw [beq_eq_false_iff_ne]; omega
    have hb2 : (((cfE c : Nat) : Int) != 0) = true := by rw [bne_iff_ne]; omega
    generalize cfE c = r at *
    go_wp2_with (fail)
    go_ret2
    exact HO.out
end Go.Proofs.YthmecbonjkcnmaaGreat.tw
