/-
  Contracts over this program: the texts of ids, one behind the other (the document's Join).
-/
import Derived.Test.YtciphckjjbinbaaMo
import Derived.Lib.AppendStr
import Derived.Lib.ConvBytes
namespace Go.Proofs.Ytciphckjjbinbaa.mg
open Go.ChangeShapes Go.WideShapes Go.ChangeAt Go.RowKit Go.Shelf Go.Maps
set_option linter.unusedVariables false

theorem info5 : (Try.prog.info? 5).map (fun i => (i.zero, i.size, i.bytes)) = some (some (.int .u8 0), 1, 1) := by kernel_rfl
theorem list_len (s : ByteArray) : s.data.toList.length = s.size := by cases s; simp [ByteArray.size]
/-- a row of bytes that the call owns, in blocks from B on -/
def Buf (B : Nat) (v : Value) (xs : List UInt8) (w : World) : Prop := w.ownsRow B 5 1 v xs.length (Lib.byteCells xs) ∧ B ≤ w.heap.size
theorem strCells_list (s : ByteArray) : Lib.strCells s = Lib.byteCells s.data.toList := rfl
theorem byteCells_one (l : List UInt8) (b : UInt8) : Lib.byteCells (l ++ [b]) = Lib.byteCells l ++ [.int .u8 (b.toNat : Int)] := by simp [Lib.byteCells]
theorem own_form {W : World} {B e sz n : Nat} {v : Value} {xs : List Value} (h : W.ownsRow B e sz v n xs) : ∃ g cap, v = .slice g n cap ∧ n ≤ cap ∧ cap ≤ 9223372036854775807 := by
  rcases h.2 with ⟨rfl, rfl⟩ | ⟨gg, cap, cur, rfl, hb, _, h1, h2, _⟩
  · exact ⟨_, _, rfl, Nat.le_refl _, by omega⟩
  · exact ⟨_, _, rfl, h1, by unfold maxLen at h2; omega⟩
theorem own_keep {W W' : World} {B e sz n : Nat} {v : Value} {xs : List Value} (h : W.ownsRow B e sz v n xs) (hh : ∀ g, v.ownBlock = some g → W'.heap[g]? = W.heap[g]?) : W'.ownsRow B e sz v n xs := by
  refine ⟨h.1, ?_⟩
  rcases h.2 with h0 | ⟨g, cap, cur, rfl, hb, hg, hr⟩
  · exact .inl h0
  · exact .inr ⟨g, cap, cur, rfl, hb, (hh g rfl).trans hg, hr⟩
theorem Buf.later {B : Nat} {v : Value} {xs : List UInt8} {w w' : World} (h : Buf B v xs w) (b : Below w.heap.size w w') : Buf B v xs w' :=
  ⟨own_keep h.1 fun g eg => b.block g (h.1.lt g eg).2, Nat.le_trans h.2 b.size⟩
theorem Buf.form {B : Nat} {v : Value} {xs : List UInt8} {w : World} (h : Buf B v xs w) : ∃ g cap, v = .slice g xs.length cap ∧ xs.length ≤ cap ∧ cap ≤ 9223372036854775807 := own_form h.1
theorem Buf.grown {B : Nat} {v : Value} {xs : List UInt8} {w w' : World} (h : Buf B v xs w) (hg : w.grownBy w' v.ownBlock) : Below B w w' := (Below.refl _ _).grown hg h.2 (fun k hk => (h.1.lt k hk).1)
/-- 'out = append(out, text...)' -/
theorem Buf.text {ops : Array Oper} {rest : List Oper} {o : Oper} {a : Act} {Q : Exit → Act → World → Prop} {w : World} (hgd : o.guard = none) (sl x : Operand)
    (ho : o.op = .call { callee := .builtin .append, args := #[sl, x], argTypes := #[50, 9] })
    (B : Nat) (v : Value) (xs : List UInt8) (hs : a.eval sl = v) (hb : Buf B v xs w) (s : ByteArray) (hx : a.eval x = .string s) (hlen : xs.length + s.size ≤ 140737488355328)
    (h : ∀ v' w', Buf B v' (xs ++ s.data.toList) w' → Below B w w' → wpList Try.prog ops Q rest (a.put o.dst v') w') : wpList Try.prog ops Q (o :: rest) a w := by
  obtain ⟨i0, hi0, hz0, hz1, hz2⟩ := info_parts info5
  refine Lib.wpList_append_own_string w hgd sl x 50 9 ho B 5 i0 Try.underlying50 Try.underlying9 hi0 hz0 hz1 hz2 v xs.length (Lib.byteCells xs) hs hb.1 s hx (by unfold maxLen; omega) hlen hb.2 ?_
  intro v' w' ho' hg _
  refine h v' w' ⟨?_, Nat.le_trans hb.2 hg.size⟩ (hb.grown hg)
  rw [Lib.byteCells_append, ← strCells_list, List.length_append, list_len]
  exact ho'
theorem Buf.conv {w : World} {B : Nat} {v : Value} {out : List UInt8} (h : Buf B v out w) : Sem.run Try.prog (convert 50 9 v) w = .ok (.string ⟨out.toArray⟩) w := by
  rcases h.1.2 with ⟨rfl, h0⟩ | ⟨g, cap, cur, rfl, hb, hg, hn, hc, hs, ht⟩
  · have e : out = [] := List.length_eq_zero_iff.1 h0
    subst e
    exact run_convert_bytes_nil w 50 5 Try.underlying50 Try.underlying5 0 0 9 Try.underlying9
  · refine run_convert_bytes_back w 50 9 5 ⟨g, 0, none⟩ cap out Try.underlying50 Try.underlying5 Try.underlying9 fun j hj => ?_
    have hplain : (⟨g, 0, none⟩ : Addr).add j = ⟨g, j, none⟩ := by unfold Addr.add; simp; omega
    rw [hplain, World.ownsRow.cellAt h.1 j (by omega)]
    simp [Lib.byteCells, hj]
abbrev bs (l : List UInt8) : ByteArray := ⟨l.toArray⟩
theorem bs_size (l : List UInt8) : (bs l).size = l.length := by simp [ByteArray.size]
theorem cat_snoc (ts : List ByteArray) (l : List Int) (x : Int) : cat ts (l ++ [x]) = cat ts l ++ (atI ts x).data.toList := by simp [cat]
theorem cat_len (ts : List ByteArray) (h : ∀ t ∈ ts, t.size ≤ 64) (l : List Int) : (cat ts l).length ≤ l.length * 64 := by
  induction l with
  | nil => simp [cat]
  | cons x l ih =>
    have e : cat ts (x :: l) = (atI ts x).data.toList ++ cat ts l := by simp [cat]
    rw [e, List.length_append, list_len, List.length_cons]
    have : (atI ts x).size ≤ 64 := by
      unfold atI
      rw [List.getD_eq_getElem?_getD]
      cases e : ts[x.toNat]? with
      | none => simp [ByteArray.size]
      | some t => exact h t (List.mem_of_getElem? e)
    omega
theorem bstart {B : Nat} {v : Value} {xs : List UInt8} {W : World} (h : Buf B v xs W) : ∃ (g : Option Addr) (cap : Nat), v = .slice g xs.length cap ∧ xs.length ≤ cap ∧ cap ≤ 9223372036854775807 ∧ Hid (Buf B (.slice g xs.length cap) xs W) := by
  obtain ⟨g, c, e, h1, h2⟩ := h.form
  subst e
  exact ⟨g, c, rfl, h1, h2, h⟩
set_option maxHeartbeats 2000000 in
set_option maxRecDepth 100000 in
theorem joinT_any (ts : List ByteArray) (h64 : ∀ t ∈ ts, t.size ≤ 64) (ids : List Int) (hids : AllIn ts.length ids) (hl : ids.length ≤ 100000) (v vs : Value) (w : World) (hv : StrsV w v ts) (hs : IntsV w vs ids) : Calls Try.prog 19 #[v, vs] w fun e w' => e = .returned (.string (bs (cat ts ids))) ∧ Below w.heap.size w w' := by
  obtain ⟨o, cap, rfl, hrt⟩ := hv
  obtain ⟨o', cap', rfl, hri⟩ := hs
  have t1 := hrt.fit
  have t2 := hrt.top
  have i1 := hri.fit
  have i2 := hri.top
  have HT : Hid (Row (In w) w Value.string o cap ts) := hrt
  have HI : Hid (Row (In w) w iv o' cap' ids) := hri
  have B0 : Buf w.heap.size (.slice (some ⟨w.heap.size, 0, none⟩) 0 0) [] (w.alloc (.cells #[] 5)) := ⟨World.ownsRow_made (e := 5) (size := 1) w #[] 0 (Nat.le_refl _) (Nat.zero_le _) rfl, by simp⟩
  have BB0 := below_alloc w (.cells #[] 5)
  clear hrt hri
  go_enter Try.func19, Try.ntmps19
  go_wp2_with (fail)
  generalize w.alloc (.cells #[] 5) = w1 at *
  go_loopw [11, 5] (fun y x wr => ∃ (i n : Nat) (g : Option Addr) (c : Nat) (xs : List UInt8), y = .int .i64 i ∧ x = .slice g n c ∧ i ≤ ids.length ∧ n ≤ c ∧ c ≤ 9223372036854775807 ∧ n ≤ 6400000 ∧ Hid (n = xs.length) ∧ Hid (xs = cat ts (ids.take i)) ∧ Hid (Buf w.heap.size (.slice g n c) xs wr) ∧ Below w.heap.size w wr) (fun y _ _ => ids.length - (intOf y).toNat)
  case atStart => exact ⟨0, 0, _, 0, [], rfl, rfl, by omega, by omega, by omega, by omega, rfl, by show _ = _; rw [List.take_zero]; rfl, B0, BB0⟩
  case round =>
    clear B0 BB0
    obtain ⟨i, n, g, c, xs, rfl, rfl, hi, n1, n2, n3, HN, HX, HB, hB⟩ := hrel
    by_cases hend : i < ids.length
    · obtain ⟨b, off, rfl, hb, hc⟩ := HI.out.lie i hend
      have k1 := (hB.cell (p := ⟨b, off + i, none⟩) hb).trans hc
      have hin := hids ids[i] (List.getElem_mem _)
      obtain ⟨x1, hx1⟩ : ∃ x1 : Nat, ids[i] = (x1 : Int) := ⟨ids[i].toNat, by have := hin.1; omega⟩
      have hx2 : x1 < ts.length := by have := hin.2; omega
      obtain ⟨b2, off2, rfl, hb2, hc2⟩ := HT.out.lie x1 hx2
      have k2 := (hB.cell (p := ⟨b2, off2 + x1, none⟩) hb2).trans hc2
      have HNX : Hid (xs ++ ts[x1].data.toList = cat ts (ids.take (i + 1))) := by
        show _ = _
        rw [List.take_add_one, List.getElem?_eq_getElem hend, HX.out]
        show _ = cat ts (ids.take i ++ [ids[i]])
        rw [cat_snoc, hx1]
        unfold atI
        rw [List.getD_eq_getElem?_getD]
        simp [hx2]
      have h64' := h64 ts[x1] (List.getElem_mem _)
      have hcl := cat_len ts h64 (ids.take (i + 1))
      rw [← HNX.out, List.length_append, list_len, List.length_take] at hcl
      have hn4 : xs.length + ts[x1].size ≤ 6400000 := by omega
      have HN4 : Hid (xs.length + ts[x1].size ≤ 6400000) := hn4
      rw [hx1] at k1
      generalize ts[x1] = t at *
      have HBB := HB
      clear hc hc2 hin hx1 hcl HB hn4
      go_wp2_with (at_builtin; refine Buf.text (by rfl) (.tmp 15) (.tmp 19) (by rfl) w.heap.size (.slice g n c) xs (by rfl) (by exact HBB.out) t (by rfl) (by have := HN4.out; omega) ?_; intro v4 w4 hb4 c4)
      obtain ⟨g5, c5, e5, h51, h52, h53⟩ := bstart hb4
      subst e5
      go_wp2_with (fail)
      go_roundw
      case rel => exact ⟨i + 1, (xs ++ t.data.toList).length, g5, c5, _, by go_num, rfl, by omega, h51, h52, by rw [List.length_append, list_len]; exact HN4.out, rfl, HNX.out, h53, hB.trans c4⟩
      case measure => simp [intOf]; omega
    · have hcv := HB.out.conv
      have HE : Hid (xs = cat ts ids) := by show _ = _; rw [HX.out, List.take_of_length_le (by omega)]
      clear HX HB
      go_wp2_with (fail)
      go_ret
      exact ⟨by rw [← HE.out]; rfl, hB⟩
end Go.Proofs.Ytciphckjjbinbaa.mg
