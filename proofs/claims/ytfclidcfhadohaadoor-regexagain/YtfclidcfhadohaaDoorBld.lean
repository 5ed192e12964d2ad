/-
  The library's contract for a strings.Builder's String, laid at this program; copyCheck and WriteString walked anew; a builder in a world that has grown.
-/
import Derived.Shelf.Strings.BuilderK
import Derived.Test.YtfclidcfhadohaaDoorRows
import Derived.WalkKit
import Derived.BigCall
namespace Go.Proofs.YtfclidcfhadohaaDoor.bld
open Go.Shelf Go.RowKit
set_option linter.unusedVariables false

def ren : Go.Shelf.Ren := ⟨fun | 169 => 14 | n => n, fun | 37 => 40 | 5 => 5 | 70 => 39 | 9 => 9 | 0 => 0 | 72 => 42 | 127 => 62 | 3 => 3 | n => n, fun | n => n⟩

theorem extra : Builder.Extra Tryd.prog ren := {
  sizeBuilder := by kernel_rfl
  liesBuilder := by kernel_rfl
  t5 := Tryd.underlying5
  a5 := Tryd.isAgg5
  z5 := Tryd.sizeOf5
  v5 := Tryd.zeroValue5
  infoByte := by kernel_rfl
  cellsByte := by kernel_rfl
  sizeByte := by kernel_rfl
  neB5 := by decide }

theorem lays169 : Go.Proofs.Lays.n169 Tryd.prog ren := {
  mixed := by kernel_rfl
  f169 := Tryd.func14.trans (congrArg some (by kernel_rfl))
  t0 := Tryd.underlying0
  a0 := Tryd.isAgg0
  z0 := Tryd.sizeOf0
  v0 := Tryd.zeroValue0
  t3 := Tryd.underlying3
  a3 := Tryd.isAgg3
  z3 := Tryd.sizeOf3
  v3 := Tryd.zeroValue3
  t9 := Tryd.underlying9
  a9 := Tryd.isAgg9
  z9 := Tryd.sizeOf9
  v9 := Tryd.zeroValue9
  t37 := Tryd.underlying40
  a37 := Tryd.isAgg40
  z37 := Tryd.sizeOf40
  v37 := Tryd.zeroValue40
  t70 := Tryd.underlying39
  a70 := Tryd.isAgg39
  z70 := Tryd.sizeOf39
  v70 := Tryd.zeroValue39
  t72 := Tryd.underlying42
  a72 := Tryd.isAgg42
  z72 := Tryd.sizeOf42
  v72 := Tryd.zeroValue42
  t127 := Tryd.underlying62
  a127 := Tryd.isAgg62
  z127 := Tryd.sizeOf62
  v127 := Tryd.zeroValue62 }

/-- the text that was built -/
theorem string_any (B b : Nat) (l : List UInt8) (w : World) (h : Lib.IsBuilderF 42 5 B b (Lib.byteCells l) w) (hBw : B ≤ w.heap.size) :
    Calls Tryd.prog 14 #[.pointer (some ⟨b, 0, none⟩)] w fun e w' => e = .returned (.string ⟨l.toArray⟩) ∧ Lib.IsBuilderF 42 5 B b (Lib.byteCells l) w' ∧ Below B w w' :=
  (Any.Builder_String_any_k lays169 extra B b l w h hBw).mono fun e w' h => ⟨h.1, h.2.1, h.2.2.1⟩

set_option maxRecDepth 100000 in
theorem check_fresh (b : Nat) (w : World) (h0 : w.cell? ⟨b, 0, none⟩ = some (.pointer none)) (hsh : w.shape? b = some (42, 2)) (hfz : w.frozen? ⟨b, 0, none⟩ = false) :
    Calls Tryd.prog 34 #[.pointer (some ⟨b, 0, none⟩)] w fun e w' => e = .returned (.tuple #[]) ∧ w' = w.setCell ⟨b, 0, none⟩ (.pointer (some ⟨b, 0, none⟩)) := by
  obtain ⟨j, hj, hjs⟩ := Option.map_eq_some_iff.1 extra.sizeBuilder
  have c1 := Lib.run_to_unsafe w ⟨b, 0, none⟩ Tryd.underlying39 Tryd.underlying80 hj (by rw [hjs]; decide) hsh (Nat.zero_lt_succ 1)
  have c2 := Lib.run_from_unsafe w ⟨b, 0, none⟩ Tryd.underlying80 Tryd.underlying39 hj hsh extra.liesBuilder
  have c3 : (callFunc 52 #[.pointer (some ⟨b, 0, none⟩)]).run Tryd.prog w = .ok (.value (.pointer (some ⟨b, 0, none⟩))) w := by
    rw [run_callFunc_extern Tryd.func52 (by kernel_rfl) (by kernel_rfl) (by kernel_rfl) (e := Extern.AbiNoEscape.same) (by kernel_rfl), Lib.run_noEscape]
    rfl
  clear hj hjs
  go_enter Tryd.func34, Tryd.ntmps34
  go_wp2
  go_end0
  exact ⟨rfl, rfl⟩
theorem check_used (b : Nat) (w : World) (h0 : w.cell? ⟨b, 0, none⟩ = some (.pointer (some ⟨b, 0, none⟩))) :
    Calls Tryd.prog 34 #[.pointer (some ⟨b, 0, none⟩)] w fun e w' => e = .returned (.tuple #[]) ∧ w' = w := by
  obtain ⟨j, hj, hjs⟩ := Option.map_eq_some_iff.1 extra.sizeBuilder
  have c1 := Lib.run_neq_ptr_same w (P := Tryd.prog) (tp := 39) (te := 42) ⟨b, 0, none⟩ Tryd.underlying39 hj
  clear hj hjs
  go_enter Tryd.func34, Tryd.ntmps34
  go_wp2
  go_end0
  exact ⟨rfl, rfl⟩

theorem check (B b : Nat) (bs : List Value) (w : World) (h : Lib.IsBuilderF 42 5 B b bs w) :
    Calls Tryd.prog 34 #[.pointer (some ⟨b, 0, none⟩)] w fun e w' => e = .returned (.tuple #[]) ∧ Lib.BuilderAtF 42 5 B b (.pointer (some ⟨b, 0, none⟩)) bs w' ∧ Below B w w' ∧ Lib.OthersKept 5 (some b) w w' := by
  rcases h with h | h
  · refine (check_fresh b w h.cell0 h.shape h.frozen0).mono ?_
    rintro e w' ⟨rfl, rfl⟩
    exact ⟨rfl, h.used _, (Below.refl B w).setCell (p := ⟨b, 0, none⟩) h.1 _, (Lib.OthersKept.refl _ _ w).setCell ⟨b, 0, none⟩ rfl _⟩
  · refine (check_used b w h.cell0).mono ?_
    rintro e w' ⟨rfl, rfl⟩
    exact ⟨rfl, h, Below.refl B _, Lib.OthersKept.refl _ _ _⟩

theorem info5 : (Tryd.prog.info? 5).map (fun i => (i.zero, i.size, i.bytes)) = some (some (.int .u8 0), 1, 1) := by kernel_rfl

/-- a builder whose row has been appended to: once the new row is stored it holds what was put in, and nothing else has changed -/
theorem stored {B b : Nat} {bs : List Value} {w1 : World} (h : Lib.BuilderAtF 42 5 B b (.pointer (some ⟨b, 0, none⟩)) bs w1) (hBw : B ≤ w1.heap.size) :
    ∃ v, w1.cell? ⟨b, 1, none⟩ = some v ∧ w1.ownsRowF B 5 1 v bs.length bs ∧
      ∀ (v' : Value) (w2 : World) (more : List Value), w2.ownsRowF B 5 1 v' (bs ++ more).length (bs ++ more) → w1.grownBy w2 v.ownBlock →
        (∃ a n c, v' = .slice a n c) ∧ (w2.cell? ⟨b, 1, none⟩ = some v ∧ w2.frozen? ⟨b, 1, none⟩ = false) ∧
        Lib.IsBuilderF 42 5 B b (bs ++ more) (w2.setCell ⟨b, 1, none⟩ v') ∧ Below B w1 (w2.setCell ⟨b, 1, none⟩ v') ∧ Lib.OthersKept 5 (some b) w1 (w2.setCell ⟨b, 1, none⟩ v') := by
  obtain ⟨hB, v, blk, own, ne⟩ := h
  refine ⟨v, by rw [Lib.cell_of_heap blk]; rfl, own, fun v' w2 more own2 gr => ?_⟩
  have blk2 : w2.heap[b]? = some (.cells #[.pointer (some ⟨b, 0, none⟩), v] 42 (0, 0)) :=
    (gr.block b (Array.getElem?_eq_some_iff.1 blk).1 (Ne.symm ne)).trans blk
  refine ⟨?_, ⟨by rw [Lib.cell_of_heap blk2]; rfl, Lib.frozen_of_heap blk2 1⟩, .inr (Lib.BuilderAtF.put hB blk2 own2 extra.neB5), ?_, ?_⟩
  · rcases own2.2 with ⟨e, _⟩ | ⟨_, _, _, _, e, _⟩ <;> exact ⟨_, _, _, e⟩
  · exact ((Below.refl B w1).grown gr hBw fun k hk => (own.lt k hk).1).setCell (p := ⟨b, 1, none⟩) hB _
  · exact ((Lib.OthersKept.refl 5 (some b) w1).grown gr (Lib.ownsRowF_kind own)).setCell ⟨b, 1, none⟩ rfl _

set_option maxHeartbeats 2000000 in
set_option maxRecDepth 100000 in
/-- a text goes in behind what the builder holds -/
theorem writeString (B b : Nat) (bs : List Value) (s : ByteArray) (w : World) (h : Lib.IsBuilderF 42 5 B b bs w) (hlen : bs.length + s.size ≤ 140737488355328) (hBw : B ≤ w.heap.size) :
    Calls Tryd.prog 21 #[.pointer (some ⟨b, 0, none⟩), .string s] w fun e w' => e = .returned (.tuple #[.int .i64 s.size, .nilIface]) ∧ Lib.IsBuilderF 42 5 B b (bs ++ Lib.strCells s) w' ∧ Below B w w' ∧ Lib.OthersKept 5 (some b) w w' := by
  obtain ⟨i0, hi, hz0, hz1, hz2⟩ := info_parts info5
  have hmax : bs.length + s.size ≤ maxLen := by unfold maxLen; omega
  go_enter Tryd.func21, Tryd.ntmps21
  go_wp2_with (go_at_call 34; refine (check B b bs _ h).mono ?_)
  rintro e w1 ⟨rfl, at1, below1, kept1⟩
  have room := Nat.le_trans hBw below1.size
  obtain ⟨v, c1, own, next⟩ := stored at1 room
  go_wp2_with (at_builtin; refine Lib.wpList_append_own_stringF _ rfl _ _ 40 9 rfl B 5 i0 Tryd.underlying40 Tryd.underlying9 hi hz0 hz1 hz2 _ _ _ rfl own s rfl hmax (by omega) room ?_)
  intro v' w2 own2 gr _
  obtain ⟨⟨a, n, c, rfl⟩, ⟨c2, f2⟩, is2, below2, kept2⟩ := next v' w2 (Lib.strCells s) (by rw [List.length_append, Lib.strCells_length]; exact own2) gr
  go_wp2
  go_ret2
  exact ⟨rfl, is2, below1.trans below2, kept1.trans kept2⟩

/-- a builder stands in a world that has grown -/
theorem later {B b : Nat} {bs : List Value} {w w' : World} (h : Lib.IsBuilderF 42 5 B b bs w) (hb : Below w.heap.size w w') : Lib.IsBuilderF 42 5 B b bs w' := by
  have one : ∀ p, Lib.BuilderAtF 42 5 B b p bs w → Lib.BuilderAtF 42 5 B b p bs w' := by
    rintro p ⟨hB, v, hbk, hown, hne⟩
    have hlt : b < w.heap.size := (Array.getElem?_eq_some_iff.1 hbk).1
    refine ⟨hB, v, by rw [hb.block b hlt]; exact hbk, ?_, hne⟩
    refine ⟨hown.1, ?_⟩
    rcases hown.2 with h | ⟨g, cap, cur, fz, hv, hg1, hg, rest⟩
    · exact .inl h
    · exact .inr ⟨g, cap, cur, fz, hv, hg1, by rw [hb.block g (Array.getElem?_eq_some_iff.1 hg).1]; exact hg, rest⟩
  exact h.elim (fun x => .inl (one _ x)) (fun x => .inr (one _ x))

theorem strCells_list (s : ByteArray) : Lib.strCells s = Lib.byteCells s.data.toList := by
  simp [Lib.strCells, Lib.byteCells]
theorem byteCells_length (l : List UInt8) : (Lib.byteCells l).length = l.length := by simp [Lib.byteCells]

def WriteIs (B b : Nat) (l : List UInt8) (s : ByteArray) : Prop := ∀ w, Lib.IsBuilderF 42 5 B b (Lib.byteCells l) w → B ≤ w.heap.size → Calls Tryd.prog 21 #[.pointer (some ⟨b, 0, none⟩), .string s] w fun e w' => e = .returned (.tuple #[.int .i64 s.size, .nilIface]) ∧ Lib.IsBuilderF 42 5 B b (Lib.byteCells (l ++ s.data.toList)) w' ∧ Below B w w' ∧ Lib.OthersKept 5 (some b) w w'
theorem write_any (B b : Nat) (l : List UInt8) (s : ByteArray) (hlen : l.length + s.size ≤ 140737488355328) : WriteIs B b l s := by
  intro w h hBw
  refine (writeString B b (Lib.byteCells l) s w h (by rw [byteCells_length]; exact hlen) hBw).mono ?_
  rintro e w' ⟨rfl, h1, h2⟩
  exact ⟨rfl, by rw [Lib.byteCells_append, ← strCells_list]; exact h1, h2⟩
theorem at_later {B b : Nat} {p : Value} {bs : List Value} {w w' : World} (h : Lib.BuilderAtF 42 5 B b p bs w) (hb : Below w.heap.size w w') : Lib.BuilderAtF 42 5 B b p bs w' := by
  obtain ⟨hB, v, hbk, hown, hne⟩ := h
  have hlt : b < w.heap.size := (Array.getElem?_eq_some_iff.1 hbk).1
  refine ⟨hB, v, by rw [hb.block b hlt]; exact hbk, ?_, hne⟩
  refine ⟨hown.1, ?_⟩
  rcases hown.2 with h | ⟨g, cap, cur, fz, hv, hg1, hg, rest⟩
  · exact .inl h
  · exact .inr ⟨g, cap, cur, fz, hv, hg1, by rw [hb.block g (Array.getElem?_eq_some_iff.1 hg).1]; exact hg, rest⟩
set_option maxHeartbeats 2000000 in
set_option maxRecDepth 100000 in
/-- a byte goes in behind what the builder holds -/
theorem writeByte (B b : Nat) (bs : List Value) (c : Int) (w : World) (h : Lib.IsBuilderF 42 5 B b bs w) (hlen : bs.length + 1 ≤ 140737488355328) (hBw : B ≤ w.heap.size) :
    Calls Tryd.prog 24 #[.pointer (some ⟨b, 0, none⟩), .int .u8 c] w fun e w' => e = .returned .nilIface ∧ Lib.IsBuilderF 42 5 B b (bs ++ [.int .u8 c]) w' ∧ Below B w w' := by
  obtain ⟨i0, hi, hz0, hz1, hz2⟩ := info_parts info5
  go_enter Tryd.func24, Tryd.ntmps24
  go_wp2_with (go_at_call 34; refine (check B b bs _ h).mono ?_)
  rintro e w1 ⟨rfl, at1, below1, kept1⟩
  have room := Nat.le_trans hBw below1.size
  have ha : Below w1.heap.size w1 (w1.alloc (.cells #[.int .u8 c] 5)) := (Below.refl _ _).alloc (Nat.le_refl _) _
  have room2 : B ≤ (w1.alloc (.cells #[.int .u8 c] 5)).heap.size := Nat.le_trans room ha.size
  have below1' : Below B w (w1.alloc (.cells #[.int .u8 c] 5)) := below1.alloc room _
  obtain ⟨v, c1, own, next⟩ := stored (at_later at1 ha) room2
  have c1' : w1.cell? ⟨b, 1, none⟩ = some v := by
    obtain ⟨_, v2, hbk, _⟩ := at1
    have hlt : b < w1.heap.size := (Array.getElem?_eq_some_iff.1 hbk).1
    rw [← ha.cell (p := ⟨b, 1, none⟩) hlt]
    exact c1
  go_wp2_with (at_builtin; refine wpList_append_ownF _ rfl _ _ 40 rfl B 5 i0 (.int .u8 0) 1 1 Tryd.underlying40 hi hz0 hz1 hz2 rfl (by decide) _ _ _ rfl own ⟨w1.heap.size, 0, none⟩ 1 1 [.int .u8 c] rfl rfl ?c1 ?c2 ?c3 ?c4 ?c5 ?_)
  case c1 =>
    intro j u hj
    match j, hj with
    | 0, hj => simp at hj; subst hj; simp [Addr.add]
  case c2 => intro u hu; simp at hu; subst hu; rfl
  case c3 => unfold maxLen; omega
  case c4 => omega
  case c5 => exact room2
  intro v' w2 own2 gr _
  obtain ⟨⟨a, n, cc, rfl⟩, ⟨c2, f2⟩, is2, below2, kept2⟩ := next v' w2 [.int .u8 c] (by rw [List.length_append]; exact own2) gr
  go_wp2
  go_ret
  exact ⟨rfl, is2, below1'.trans below2⟩
end Go.Proofs.YtfclidcfhadohaaDoor.bld
