/-
  Contracts over this program: a set's bytes (set.Bytes, the document's), ranges (set.Range, the document's).
-/
import Derived.Test.YtfclidcfhadohaaDoorJoin
import Derived.Lib.BufSteps
import Derived.Laws.BytesArg
namespace Go.Proofs.YtfclidcfhadohaaDoor.sp
open Go.Proofs.YtfclidcfhadohaaDoor.st
open Go.ChangeShapes Go.WideShapes Go.ChangeAt Go.RowKit
set_option linter.unusedVariables false

theorem info5 : (Tryd.prog.info? 5).map (fun i => (i.zero, i.size, i.bytes)) = some (some (.int .u8 0), 1, 1) := by kernel_rfl
theorem cells_one {n : Nat} (h : n < 256) : Lib.byteCells [UInt8.ofNat n] = [.int .u8 (n : Int)] := by
  simp [Lib.byteCells, Nat.mod_eq_of_lt h]
theorem owns_below {B : Nat} {e : TypeId} {k : Nat} {v : Value} {n : Nat} {xs : List Value} {w w' : World} (h : w.ownsRowF B e k v n xs) (hb : Below w.heap.size w w') : w'.ownsRowF B e k v n xs :=
  h.kept (row := none) ⟨hb.os, hb.tape, hb.output, hb.size, fun k hk _ => hb.block k hk⟩ (by cases v.ownBlock <;> simp)
theorem buf_below {B : Nat} {v : Value} {n : Nat} {xs : List Value} {W0 w w' : World} (h : Lib.OwnBuf B 5 v n xs W0 w) (hb : Below w.heap.size w w') : Lib.OwnBuf B 5 v n xs W0 w' :=
  ⟨owns_below h.1 hb, h.2.1.trans (hb.mono h.2.2), Nat.le_trans h.2.2 hb.size⟩
theorem conv_own {B : Nat} {v : Value} {acc : List UInt8} {w : World} (h : w.ownsRowF B 5 1 v acc.length (Lib.byteCells acc)) :
    Sem.run Tryd.prog (convert 40 9 v) w = .ok (.string ⟨acc.toArray⟩) w := by
  rcases h.2 with ⟨rfl, h0⟩ | ⟨g, cap, cur, fz, rfl, _, hg, _, hcap, _, hcs, htk⟩
  · have : acc = [] := List.length_eq_zero_iff.1 h0
    subst this
    exact run_convert_bytes_nil w 40 5 Tryd.underlying40 Tryd.underlying5 0 0 9 Tryd.underlying9
  · refine run_convert_bytes_back w 40 9 5 ⟨g, 0, none⟩ cap acc Tryd.underlying40 Tryd.underlying5 Tryd.underlying9 fun j hj => ?_
    have hplain : (⟨g, 0, none⟩ : Addr).add j = ⟨g, j, none⟩ := by unfold Addr.add; simp; omega
    have hj2 : j < cur.toList.length := by simp; omega
    have e : cur.toList[j]? = some (.int .u8 (acc[j].toNat : Int)) := by
      have h1 : (cur.toList.take (acc.length * 1))[j]? = (Lib.byteCells acc)[j]? := by rw [htk]
      rw [List.getElem?_take_of_lt (by omega)] at h1
      rw [h1]
      simp [Lib.byteCells, hj]
    rw [hplain]
    rw [Array.getElem?_toList] at e
    simp [World.cell?, hg, e]

/-- the text of a set's bytes below a number -/
def upto (q : Q4) (i : Nat) : List UInt8 := ((List.range i).filter (has q)).map UInt8.ofNat
def text (q : Q4) : ByteArray := ⟨(upto q 256).toArray⟩
theorem upto_in {q : Q4} {i : Nat} (h : has q i = true) : upto q (i + 1) = upto q i ++ [UInt8.ofNat i] := by
  unfold upto
  rw [List.range_succ, List.filter_append, List.map_append]
  simp [h]
theorem upto_out {q : Q4} {i : Nat} (h : has q i = false) : upto q (i + 1) = upto q i := by
  unfold upto
  rw [List.range_succ, List.filter_append, List.map_append]
  simp [h]
theorem upto_length (q : Q4) (i : Nat) : (upto q i).length ≤ i := by
  unfold upto
  have := List.length_filter_le (has q) (List.range i)
  simpa using this
theorem codes_text (q : Q4) : codes (text q) = mem q := by
  show ((upto q 256).map UInt8.toNat) = _
  unfold upto mem
  rw [List.map_map]
  have : ∀ l : List Nat, (∀ n ∈ l, n < 256) → l.map (UInt8.toNat ∘ UInt8.ofNat) = l := by
    intro l hl
    induction l with
    | nil => rfl
    | cons x l ih =>
      rw [List.map_cons, ih (fun n hn => hl n (by simp [hn]))]
      have := hl x (by simp)
      simp [Nat.mod_eq_of_lt this]
  exact this _ fun n hn => by simpa using (List.mem_filter.1 hn).1
theorem text_size (q : Q4) : (text q).size = cnt q := by
  have := codes_length (text q)
  rw [codes_text] at this
  exact this.symm

def BytesIs (q : Q4) (t : ByteArray) : Prop := ∀ w, Calls Tryd.prog 38 #[.agg #[.int .u64 q.a, .int .u64 q.b, .int .u64 q.c, .int .u64 q.d]] w fun e w' => e = .returned (.string t) ∧ Below w.heap.size w w'
def RBytesIs (q : Q4) (t : ByteArray) : Prop := ∀ w, Calls Tryd.prog 42 #[.agg #[.int .u64 q.a, .int .u64 q.b, .int .u64 q.c, .int .u64 q.d]] w fun e w' => e = .returned (.string t) ∧ Below w.heap.size w w'

set_option maxHeartbeats 1000000 in
set_option maxRecDepth 100000 in
theorem bytes_any (q : Q4) (hq : Fits q) (t : ByteArray) (ht : t = text q) : BytesIs q t := by
  intro w
  have HT : Hid (t = text q) := ht
  clear ht
  obtain ⟨i0, hi0, hz0, hz1, hz2⟩ := info_parts info5
  obtain ⟨w0, hw0⟩ : ∃ w0, w0 = w.alloc (.cells #[.int .u64 q.a, .int .u64 q.b, .int .u64 q.c, .int .u64 q.d] 25) := ⟨_, rfl⟩
  have hB0 : Below w.heap.size w w0 := by rw [hw0]; exact (Below.refl _ _).alloc (Nat.le_refl _) _
  have hs0 : w0.heap.size = w.heap.size + 1 := by rw [hw0]; simp
  have hk0 : Blk w0 w.heap.size q := by rw [hw0]; exact blk_new w q
  go_enter Tryd.func38, Tryd.ntmps38
  go_wp2
  go_loopw [3, 5] (fun u x wr => ∃ (i : Nat), x = .int .i64 i ∧ i ≤ 256 ∧ Lib.OwnBuf (w.heap.size + 1) 5 u (upto q i).length (Lib.byteCells (upto q i)) w0 wr) (fun _ x _ => 256 - (intOf x).toNat)
  case atStart => exact ⟨0, rfl, by omega, by rw [← hw0]; exact ⟨⟨rfl, .inl ⟨rfl, rfl⟩⟩, Below.refl _ _, by omega⟩⟩
  case round =>
    obtain ⟨i, rfl, hi, hbuf⟩ := hrel
    have hul := upto_length q i
    have hk : Blk wr w.heap.size q := by unfold Blk; rw [hbuf.2.1.block _ (by omega)]; exact hk0
    by_cases hin : i < 256
    · have c0 := hk.c0
      have c1 := hk.c1
      have c2 := hk.c2
      have c3 := hk.c3
      by_cases hh : has q i = true
      · have hp := has_any q hq i hin true hh.symm
        have HU : Hid (Lib.byteCells (upto q (i + 1)) = Lib.byteCells (upto q i) ++ [.int .u8 (i : Int)] ∧ (upto q (i + 1)).length = (upto q i).length + 1) := by
          show _ ∧ _
          rw [upto_in hh, Lib.byteCells_append, cells_one hin]
          simp
        clear hh
        go_wp2_with (first | (go_at_call 56; refine (hp _).mono ?_; rintro e w1 ⟨rfl, b1⟩; have hbuf1 := buf_below hbuf b1) | (at_builtin; refine Lib.wpList_append_byte rfl _ _ 40 rfl (w.heap.size + 1) 5 i0 Tryd.underlying40 hi0 hz0 hz1 hz2 _ _ _ rfl w0 _ _ (by exact hbuf1) rfl (by omega) ?_; intro v' w' hb'))
        go_roundw
        case rel => exact ⟨i + 1, by go_num, by omega, by rw [HU.out.1, HU.out.2]; exact hb'⟩
        case measure => simp [intOf]; omega
      · have hf : has q i = false := by simpa using hh
        have hp := has_any q hq i hin false hf.symm
        have HU : Hid (upto q (i + 1) = upto q i) := upto_out hf
        clear hh hf
        go_wp2_with (first | (go_at_call 56; refine (hp _).mono ?_; rintro e w1 ⟨rfl, b1⟩; have hbuf1 := buf_below hbuf b1))
        go_roundw
        case rel => exact ⟨i + 1, by go_num, by omega, by rw [HU.out]; exact hbuf1⟩
        case measure => simp [intOf]; omega
    · have hE : i = 256 := by omega
      subst hE
      have hcv := conv_own hbuf.1
      go_wp2
      go_ret
      exact ⟨by rw [HT.out]; rfl, hB0.trans (hbuf.2.1.mono (by omega))⟩

set_option maxHeartbeats 1000000 in
set_option maxRecDepth 100000 in
theorem rbytes_any (q : Q4) (hq : Fits q) (t : ByteArray) (ht : t = text q) : RBytesIs q t := by
  intro w
  have HT : Hid (t = text q) := ht
  clear ht
  obtain ⟨i0, hi0, hz0, hz1, hz2⟩ := info_parts info5
  obtain ⟨w0, hw0⟩ : ∃ w0, w0 = w.alloc (.cells #[.int .u64 q.a, .int .u64 q.b, .int .u64 q.c, .int .u64 q.d] 25) := ⟨_, rfl⟩
  have hB0 : Below w.heap.size w w0 := by rw [hw0]; exact (Below.refl _ _).alloc (Nat.le_refl _) _
  have hs0 : w0.heap.size = w.heap.size + 1 := by rw [hw0]; simp
  have hk0 : Blk w0 w.heap.size q := by rw [hw0]; exact blk_new w q
  go_enter Tryd.func42, Tryd.ntmps42
  go_wp2
  go_loopw [3, 4] (fun u x wr => ∃ (i : Nat), x = .int .i64 i ∧ i ≤ 256 ∧ Lib.OwnBuf (w.heap.size + 1) 5 u (upto q i).length (Lib.byteCells (upto q i)) w0 wr) (fun _ x _ => 256 - (intOf x).toNat)
  case atStart =>
    refine ⟨0, rfl, by omega, ?_⟩
    rw [← hw0]
    exact ⟨⟨rfl, .inr ⟨w.heap.size + 1, 0, #[], (0, 0), rfl, Nat.le_refl _, by rw [← hs0]; exact heap_alloc_new w0 _, Nat.zero_le _, Nat.le_refl _, Nat.zero_le _, rfl, rfl⟩⟩, (Below.refl _ w0).alloc (by omega) _, by simp; omega⟩
  case round =>
    obtain ⟨i, rfl, hi, hbuf⟩ := hrel
    have hul := upto_length q i
    have hk : Blk wr w.heap.size q := by unfold Blk; rw [hbuf.2.1.block _ (by omega)]; exact hk0
    by_cases hin : i < 256
    · have c0 := hk.c0
      have c1 := hk.c1
      have c2 := hk.c2
      have c3 := hk.c3
      by_cases hh : has q i = true
      · have hp := rhas_any q hq i hin true hh.symm
        have HU : Hid (Lib.byteCells (upto q (i + 1)) = Lib.byteCells (upto q i) ++ [.int .u8 (i : Int)] ∧ (upto q (i + 1)).length = (upto q i).length + 1) := by
          show _ ∧ _
          rw [upto_in hh, Lib.byteCells_append, cells_one hin]
          simp
        clear hh
        go_wp2_with (first | (go_at_call 58; refine (hp _).mono ?_; rintro e w1 ⟨rfl, b1⟩; have hbuf1 := buf_below hbuf b1) | (at_builtin; refine Lib.wpList_append_byte rfl _ _ 40 rfl (w.heap.size + 1) 5 i0 Tryd.underlying40 hi0 hz0 hz1 hz2 _ _ _ rfl w0 _ _ (by exact hbuf1) rfl (by omega) ?_; intro v' w' hb'))
        go_roundw
        case rel => exact ⟨i + 1, by go_num, by omega, by rw [HU.out.1, HU.out.2]; exact hb'⟩
        case measure => simp [intOf]; omega
      · have hf : has q i = false := by simpa using hh
        have hp := rhas_any q hq i hin false hf.symm
        have HU : Hid (upto q (i + 1) = upto q i) := upto_out hf
        clear hh hf
        go_wp2_with (first | (go_at_call 58; refine (hp _).mono ?_; rintro e w1 ⟨rfl, b1⟩; have hbuf1 := buf_below hbuf b1))
        go_roundw
        case rel => exact ⟨i + 1, by go_num, by omega, by rw [HU.out]; exact hbuf1⟩
        case measure => simp [intOf]; omega
    · have hE : i = 256 := by omega
      subst hE
      have hcv := conv_own hbuf.1
      go_wp2
      go_ret
      exact ⟨by rw [HT.out]; rfl, hB0.trans (hbuf.2.1.mono (by omega))⟩
end Go.Proofs.YtfclidcfhadohaaDoor.sp
