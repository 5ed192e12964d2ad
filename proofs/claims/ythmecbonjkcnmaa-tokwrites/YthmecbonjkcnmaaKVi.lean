/-
  Contracts of the two ways to make a text well-formed (utf.Fix, the document's Fix), over this program, for texts of at most 2^45 bytes.
-/
import Derived.Test.YthmecbonjkcnmaaM01
import Derived.Test.YthmecbonjkcnmaaKVh
import Derived.Laws.IdiomStrings
namespace Go.Proofs.Ythmecbonjkcnmaa.chars
open Go.ChangeShapes Go.WideShapes Go.ChangeAt Go.RowKit
set_option linter.unusedVariables false

def FixIs (s t : ByteArray) : Prop := ∀ w, Calls Try.prog 13 #[.string s] w fun e w' => e = .returned (.string t) ∧ Below w.heap.size w w'
def RFixIs (s t : ByteArray) : Prop := ∀ w, Calls Try.prog 8 #[.string s] w fun e w' => e = .returned (.string t) ∧ Below w.heap.size w w'

set_option maxHeartbeats 4000000 in
set_option maxRecDepth 1000000 in
theorem fix_any (s : ByteArray) (hs : s.size ≤ 35184372088832) : FixIs s ⟨(fix s.data.toList).toArray⟩ := by
  intro w
  go_enter Try.func13, Try.ntmps13
  go_wp2
  go_loopw [] (fun wr => ∃ (pos : Nat) (acc : List UInt8), pos ≤ s.size ∧ Lib.IsBuilderF 47 5 w.heap.size w.heap.size (Lib.byteCells acc) wr ∧ wr.heap[w.heap.size + 1]? = some (.stringIter s pos) ∧ Below w.heap.size w wr ∧ Hid (acc ++ fix (s.data.toList.drop pos) = fix s.data.toList) ∧ acc.length ≤ 4 * pos) (fun wr => s.size - wr.iterPos (w.heap.size + 1))
  case atStart =>
    refine ⟨0, [], by omega, (Lib.IsBuilderF.of (Lib.fresh_isBuilder 47 5 w)).alloc _, ?_, ((Below.refl _ w).alloc (Nat.le_refl _) _).alloc (by simp) _, rfl, by simp⟩
    have := World.iter_heap (w.alloc (.cells #[.pointer none, .slice none 0 0] 47)) s 0
    simpa using this
  case round =>
    obtain ⟨pos, acc, hps, hI, hit, hbw, HA, hal⟩ := hrel
    have hsz : w.heap.size + 1 < wr.heap.size := (Array.getElem?_eq_some_iff.1 hit).1
    by_cases hp : pos < s.size
    · obtain ⟨c, n, hd, hn1, hn4, hend, hc, h9, h10, hisC, hf, hcnt, hv⟩ := place s pos (by omega) hp
      have hnx : ∀ ty, (Instr.next (.pointer (some ⟨w.heap.size + 1, 0, none⟩)) true ty).run Try.prog wr = _ := fun ty => Lib.run_next_any_at wr (w.heap.size + 1) s pos ty hit hp
      rw [hd] at hnx
      simp only [] at hnx
      have hI2 := hI.iterAt hit (pos + n)
      have hit2 := Lib.iterAt_heap wr (w.heap.size + 1) s pos (pos + n) hit
      have hbw2 := Lib.below_iterAt hbw (k := w.heap.size + 1) (by omega) s (pos + n)
      have hsz2 : w.heap.size ≤ (wr.iterAt (w.heap.size + 1) s (pos + n)).heap.size := by rw [Lib.iterAt_size]; omega
      have HE : Hid ((acc ++ enc c) ++ fix (s.data.toList.drop (pos + n)) = fix s.data.toList) := by
        show _ = _
        rw [← HA.out, hf, List.append_assoc]
      have hl4 := enc_length (c : Int)
      clear hd h9 h10 hisC hf hcnt hv
      go_wp2_with (go_at_call 29; refine (bld.writeRune w.heap.size w.heap.size _ _ (by omega) (by omega) _ hI2 (by rw [Lib.byteCells_length]; omega) hsz2).mono ?_)
      rintro e W1 ⟨rfl, h1, b1, k1⟩
      go_wp2
      go_roundw
      case rel =>
        refine ⟨pos + n, acc ++ enc c, by omega, ?_, k1.iter hit2 (by omega), hbw2.trans b1, HE, by rw [List.length_append]; omega⟩
        rw [Lib.byteCells_append, Lib.byteCells_encodeRune]; exact h1
      case measure =>
        simp only [World.iterPos, k1.iter hit2 (by omega), hit]
        omega
    · have hnx : ∀ ty, (Instr.next (.pointer (some ⟨w.heap.size + 1, 0, none⟩)) true ty).run Try.prog wr = _ := fun ty => Lib.run_next_end_at wr (w.heap.size + 1) s pos ty hit hp
      have HE : Hid (fix s.data.toList = acc) := by
        show _ = _
        rw [← HA.out, drop_end s pos hp, fix_nil, List.append_nil]
      go_wp2_with (go_at_call 12; refine (bld.string_any w.heap.size w.heap.size acc _ hI (by omega)).mono ?_)
      rintro e W1 ⟨rfl, b1⟩
      go_wp2
      go_ret
      exact ⟨by rw [HE.out]; rfl, hbw.trans b1⟩

theorem owns_below {B : Nat} {e : TypeId} {v : Value} {n : Nat} {xs : List Value} {w w' : World} (h : w.ownsRowF B e 1 v n xs) (hb : Below w.heap.size w w') : w'.ownsRowF B e 1 v n xs := by
  refine ⟨h.1, ?_⟩
  rcases h.2 with hn | ⟨g, cap, cur, fz, hv, hbg, hg, rest⟩
  · exact .inl hn
  · have hlt : g < w.heap.size := (Array.getElem?_eq_some_iff.1 hg).1
    exact .inr ⟨g, cap, cur, fz, hv, hbg, (hb.block g hlt).trans hg, rest⟩

theorem alloc_last (w : World) (o : Obj) : (w.alloc o).heap[w.heap.size]? = some o := by
  show (w.heap.push o)[w.heap.size]? = _
  simp

theorem conv_own {B : Nat} {v : Value} {acc : List UInt8} {w : World} (h : w.ownsRowF B 5 1 v acc.length (Lib.byteCells acc)) :
    Sem.run Try.prog (convert 45 9 v) w = .ok (.string ⟨acc.toArray⟩) w := by
  rcases h.2 with ⟨rfl, h0⟩ | ⟨g, cap, cur, fz, rfl, _, hg, _, hcap, _, hcs, htk⟩
  · have : acc = [] := List.length_eq_zero_iff.1 h0
    subst this
    exact run_convert_bytes_nil w 45 5 Try.underlying45 Try.underlying5 0 0 9 Try.underlying9
  · refine run_convert_bytes_back w 45 9 5 ⟨g, 0, none⟩ cap acc Try.underlying45 Try.underlying5 Try.underlying9 fun j hj => ?_
    have hplain : (⟨g, 0, none⟩ : Addr).add j = ⟨g, j, none⟩ := by unfold Addr.add; simp; omega
    have hj2 : j < cur.toList.length := by simp; omega
    have e : cur.toList[j]? = some (.int .u8 (acc[j].toNat : Int)) := by
      have h1 : (cur.toList.take (acc.length * 1))[j]? = (Lib.byteCells acc)[j]? := by rw [htk]
      rw [List.getElem?_take_of_lt (by omega)] at h1
      rw [h1]
      simp [Lib.byteCells, hj]
    rw [hplain]
    rw [Array.getElem?_toList] at e
    simp [World.cell?, hg, e]

theorem info5 : (Try.prog.info? 5).map (fun i => (i.zero, i.size, i.bytes)) = some (some (.int .u8 0), 1, 1) := by kernel_rfl

set_option maxHeartbeats 4000000 in
set_option maxRecDepth 1000000 in
theorem rfix_any (s : ByteArray) (hs : s.size ≤ 35184372088832) : RFixIs s ⟨(fix s.data.toList).toArray⟩ := by
  intro w
  obtain ⟨i0, hi, hz0, hz1, hz2⟩ := info_parts info5
  go_enter Try.func8, Try.ntmps8
  go_wp2
  go_loopw [3, 4] (fun u v wr => ∃ (pos : Nat) (acc : List UInt8), v = .int .i64 pos ∧ pos ≤ s.size ∧ wr.ownsRowF w.heap.size 5 1 u acc.length (Lib.byteCells acc) ∧ Below w.heap.size w wr ∧ Hid (acc ++ fix (s.data.toList.drop pos) = fix s.data.toList) ∧ acc.length ≤ 4 * pos) (fun _ v _ => s.size - (intOf v).toNat)
  case atStart =>
    refine ⟨0, [], rfl, by omega, ?_, ?_, rfl, by simp⟩
    · exact ⟨rfl, .inr ⟨w.heap.size, 0, #[], (0, 0), rfl, Nat.le_refl _, alloc_last w _, Nat.zero_le _, Nat.le_refl _, Nat.zero_le _, rfl, rfl⟩⟩
    · exact (Below.refl _ w).alloc (Nat.le_refl _) _
  case round =>
    obtain ⟨pos, acc, rfl, hps, hown, hB, HA, hal⟩ := hrel
    by_cases hp : pos < s.size
    · obtain ⟨c, n, hd, hn1, hn4, hend, hc, h9, h10, hisC, hf, hcnt, hv⟩ := place s pos (by omega) hp
      have HE : Hid ((acc ++ enc c) ++ fix (s.data.toList.drop (pos + n)) = fix s.data.toList) := by
        show _ = _
        rw [← HA.out, hf, List.append_assoc]
      have hl4 := enc_length (c : Int)
      obtain ⟨t, ht⟩ : ∃ t : ByteArray, t.data.toList = enc c := ⟨⟨(enc c).toArray⟩, by simp⟩
      have hp18 := put_is c hisC t ht.symm
      have hpz : t.size = (enc c).length := by rw [← ht]; simp
      have hz4 : 1 ≤ t.size ∧ t.size ≤ 4 := by omega
      have HT : Hid (Lib.strCells t = Lib.byteCells (enc c) ∧ t.size = (enc c).length) := ⟨by rw [Lib.strCells_eq, ht], hpz⟩
      clear hd h9 hisC hf hcnt hv ht hpz hl4
      go_wp2_with (first | (go_at_call 20; refine (h10 _).mono ?_; rintro e w1 ⟨rfl, b1⟩) | (go_at_call 21; refine (hp18 _).mono ?_; rintro e w2 ⟨rfl, b2⟩) | (at_builtin; refine Lib.wpList_append_own_stringF _ rfl _ _ 45 9 rfl w.heap.size 5 i0 Try.underlying45 Try.underlying9 hi hz0 hz1 hz2 _ _ _ rfl (owns_below (owns_below hown b1) b2) t rfl ?c3 ?c4 ?c5 ?_))
      case c3 => unfold maxLen; omega
      case c4 => omega
      case c5 => have := hB.size; have := b1.size; have := b2.size; omega
      intro v' w3 hown' hgrow _
      go_wp2
      have hB2 := (hB.trans (b1.mono hB.size)).trans (b2.mono (by have := hB.size; have := b1.size; omega))
      have hB3 := hB2.grown hgrow (by have := hB2.size; omega) (fun k hk => ((owns_below (owns_below hown b1) b2).lt k hk).1)
      go_roundw
      case rel =>
        refine ⟨pos + n, acc ++ enc c, by go_num, by omega, ?_, hB3, HE, by rw [List.length_append, ← HT.out.2]; omega⟩
        rw [Lib.byteCells_append, List.length_append, ← HT.out.1, ← HT.out.2]; exact hown'
      case measure => simp [intOf]; omega
    · have HE : Hid (fix s.data.toList = acc) := by
        show _ = _
        rw [← HA.out, drop_end s pos hp, fix_nil, List.append_nil]
      have hcv := conv_own hown
      go_wp2
      go_ret
      exact ⟨by rw [HE.out]; rfl, hB⟩

theorem bytes_ext {s t : ByteArray} (h : s.data.toList = t.data.toList) : s = t := by
  cases s; cases t; congr 1; exact Array.toList_inj.1 h
theorem fix_is (s t : ByteArray) (h : s.size ≤ 35184372088832) (ht : t.data.toList = fix s.data.toList) : FixIs s t := by
  have e : (⟨(fix s.data.toList).toArray⟩ : ByteArray) = t := bytes_ext (by rw [ht])
  rw [← e]; exact fix_any s h
theorem rfix_is (s t : ByteArray) (h : s.size ≤ 35184372088832) (ht : t.data.toList = fix s.data.toList) : RFixIs s t := by
  have e : (⟨(fix s.data.toList).toArray⟩ : ByteArray) = t := bytes_ext (by rw [ht])
  rw [← e]; exact rfix_any s h
theorem size_list (s : ByteArray) : s.data.toList.length = s.size := by simp
theorem fix_size (s t : ByteArray) (ht : t.data.toList = fix s.data.toList) : t.size ≤ 4 * s.size := by
  rw [← size_list, ← size_list, ht]
  exact fix_length _ _ (Nat.le_refl _)
theorem count_size (l : List UInt8) : ∀ n, l.length ≤ n → count l ≤ l.length := by
  intro n
  induction n generalizing l with
  | zero =>
    intro hl
    have : l = [] := List.length_eq_zero_iff.1 (by omega)
    subst this
    exact Nat.le_refl _
  | succ n ih =>
    intro hl
    by_cases h : l = []
    · subst h; exact Nat.le_refl _
    · have w := dec_width l h
      have := ih (l.drop (dec l).2) (by rw [List.length_drop]; omega)
      rw [count_step l h]
      rw [List.length_drop] at this
      omega
end Go.Proofs.Ythmecbonjkcnmaa.chars
