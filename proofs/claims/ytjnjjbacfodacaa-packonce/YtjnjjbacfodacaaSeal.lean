/-
  Contracts over this program: sections written and sealed (pack.sealed), and put (pack.Put).
-/
import Derived.Test.YtjnjjbacfodacaaBld
import Derived.Test.YtjnjjbacfodacaaRise
namespace Go.Proofs.Ytjnjjbacfodacaa.pk
open Go.ChangeShapes Go.WideShapes Go.ChangeAt Go.RowKit
set_option linter.unusedVariables false

theorem fresh (w : World) : Lib.IsBuilderF 61 5 w.heap.size w.heap.size (Lib.byteCells []) (w.alloc (.cells #[.pointer none, .slice none 0 0] 61)) := Lib.IsBuilderF.of (Lib.fresh_isBuilder 61 5 w)

theorem secs_drop (l : List Sec) (i : Nat) (h : i < l.length) : secs (l.drop i) = (num.digs (nth l i).kind ++ (num.digs (nth l i).body.size ++ (nth l i).body.data.toList)) ++ secs (l.drop (i + 1)) := by
  rw [drop_nth l i h, secs, secBytes]

/-- the block of one section -/
def One (w : World) (g : Nat) (x : Sec) : Prop := w.heap[g]? = some (.cells #[.int .u64 x.kind, .string x.body] 40 (0, 0))
theorem One.lt {w : World} {g : Nat} {x : Sec} (h : One w g x) : g < w.heap.size := (Array.getElem?_eq_some_iff.1 h).1
theorem One.later {w w' : World} {g : Nat} {x : Sec} (h : One w g x) (b : Below w.heap.size w w') : One w' g x := by unfold One; rw [b.block g h.lt]; exact h
theorem One.kept {w w' : World} {g b : Nat} {x : Sec} (h : One w g x) (hk : Lib.OthersKept 5 (some b) w w') (hne : g ≠ b) : One w' g x := hk g _ h (by simpa using hne) (by intro c fz e; simp at e)
theorem One.cell0 {w : World} {g : Nat} {x : Sec} (h : One w g x) : w.cell? ⟨g, 0, none⟩ = some (.int .u64 x.kind) := by rw [Lib.cell_of_heap h]; rfl
theorem One.cell1 {w : World} {g : Nat} {x : Sec} (h : One w g x) : w.cell? ⟨g, 1, none⟩ = some (.string x.body) := by rw [Lib.cell_of_heap h]; rfl
theorem One.new (w : World) (x : Sec) : One (w.alloc (.cells #[.int .u64 x.kind, .string x.body] 40)) w.heap.size x := heap_alloc_new w _

def SealedIs (l : List Sec) (t : ByteArray) : Prop := ∀ v w, Secs w v l → Calls Try.prog 20 #[v] w fun e w' => e = .returned (.string t) ∧ Below w.heap.size w w'

theorem text_of (l : List UInt8) : (⟨l.toArray⟩ : ByteArray).data.toList = l := by simp

/-- what is written, step by step -/
theorem write_step (B b : Nat) (acc : List UInt8) (t : ByteArray) (l : List UInt8) (ht : t.data.toList = l) (hlen : acc.length + l.length ≤ 140737488355328) : ∀ w, Lib.IsBuilderF 61 5 B b (Lib.byteCells acc) w → B ≤ w.heap.size → Calls Try.prog 34 #[.pointer (some ⟨b, 0, none⟩), .string t] w fun e w' => e = .returned (.tuple #[.int .i64 t.size, .nilIface]) ∧ Lib.IsBuilderF 61 5 B b (Lib.byteCells (acc ++ l)) w' ∧ Below B w w' ∧ Lib.OthersKept 5 (some b) w w' := by
  have h := bld.write_any B b acc t (by rw [← num.size_list, ht]; exact hlen)
  unfold bld.WriteIs at h
  rw [ht] at h
  exact h

/-- the value of a list, empty or not -/
theorem Secs.form {w : World} {v : Value} {l : List Sec} (h : Secs w v l) : ∃ a cap, v = .slice a l.length cap ∧ l.length ≤ 9223372036854775807 ∧ ∀ i, i < l.length → ∃ b off, a = some ⟨b, off, none⟩ ∧ l.length ≤ cap ∧ b < w.heap.size ∧ w.cell? ⟨b, off + i * 2, none⟩ = some (.int .u64 (nth l i).kind) ∧ w.cell? ⟨b, off + i * 2 + 1, none⟩ = some (.string (nth l i).body) := by
  rcases h with ⟨rfl, a, cap, rfl⟩ | ⟨b, off, cap, rfl, hl, hm, hlt, hc⟩
  · exact ⟨a, cap, rfl, by simp, fun i hi => by simp at hi⟩
  · exact ⟨_, cap, rfl, by omega, fun i hi => ⟨b, off, rfl, hl, hlt, (hc i hi).1, (hc i hi).2⟩⟩

theorem built (B b : Nat) (l : List UInt8) (s : ByteArray) (hs : s.data.toList = l) (w : World) (h : Lib.IsBuilderF 61 5 B b (Lib.byteCells l) w) (hBw : B ≤ w.heap.size) :
    Calls Try.prog 39 #[.pointer (some ⟨b, 0, none⟩)] w fun e w' => e = .returned (.string s) ∧ Lib.IsBuilderF 61 5 B b (Lib.byteCells l) w' ∧ Below B w w' := by
  have e : (⟨l.toArray⟩ : ByteArray) = s := num.bytes_ext (by rw [hs])
  rw [← e]
  exact bld.string_any B b l w h hBw

theorem block_lt {B b : Nat} {bs : List Value} {w : World} (h : Lib.IsBuilderF 61 5 B b bs w) : b < w.heap.size := by
  rcases h with ⟨_, v, hb, _⟩ | ⟨_, v, hb, _⟩
  · exact (Array.getElem?_eq_some_iff.1 hb).1
  · exact (Array.getElem?_eq_some_iff.1 hb).1

theorem alloc_le (w : World) (o : Obj) (B : Nat) (h : B ≤ w.heap.size) : B ≤ (w.alloc o).heap.size := by simp; omega

set_option maxHeartbeats 2000000 in
set_option maxRecDepth 100000 in
theorem sealed_any (l : List Sec) (hl : ∀ x ∈ l, Fits x) (h64 : l.length ≤ 64) (htot : total l ≤ 8388608) (t : ByteArray) (ht : t.data.toList = sealed (core l)) : SealedIs l t := by
  intro v w hv
  have hsl := secs_length l hl
  have hdl := num.digs_length l.length (by omega)
  have hcl : (core l).length ≤ 10000000 := by
    unfold core
    rw [List.length_append, List.length_append]
    show 5 + _ ≤ _
    omega
  clear hsl htot
  obtain ⟨d, hd⟩ := num.text (num.digs l.length)
  have p35 := num.put_is l.length (by omega) d hd
  have q1 := write_step w.heap.size w.heap.size [] ⟨#[70, 83, 65, 87, 1]⟩ magic rfl (by decide)
  have q2 := write_step w.heap.size w.heap.size magic d (num.digs l.length) hd (by show 5 + _ ≤ _; omega)
  rw [List.nil_append] at q1
  have hf := fresh w
  have hal := alloc_le w (.cells #[.pointer none, .slice none 0 0] 61) w.heap.size (Nat.le_refl _)
  have hBal : Below w.heap.size w (w.alloc (.cells #[.pointer none, .slice none 0 0] 61)) := (Below.refl _ _).alloc (Nat.le_refl _) _
  clear hd hdl
  obtain ⟨a, cap, rfl, hl63, hc⟩ := hv.form
  clear hv
  go_enter Try.func20, Try.ntmps20
  go_wp2_with (first | (go_at_call 34; with_reducible refine (q1 _ hf hal).mono ?_; rintro e w1 ⟨rfl, f1, b1, k1⟩) | (go_at_call 35; refine (p35 _).mono ?_; rintro e w2 ⟨rfl, b2⟩; have f2 := bld.later f1 b2) | (go_at_call 34; with_reducible refine (q2 _ f2 (Nat.le_trans hal (Nat.le_trans b1.size b2.size))).mono ?_; rintro e w3 ⟨rfl, f3, b3, k3⟩))
  have HB3 : Below w.heap.size w w3 := ((hBal.trans b1).trans (b2.mono (Nat.le_trans hal b1.size))).trans b3
  have HA3 : Hid ((magic ++ num.digs l.length) ++ secs (l.drop 0) = core l) := by
    show _ = _
    rw [List.drop_zero, List.append_assoc]
    rfl
  clear q1 q2 p35 k1 k3 f2 f1 hf b1 b2 b3
  go_loopw [14] (fun x wr => ∃ (i : Nat) (acc : List UInt8), x = .int .i64 i ∧ i ≤ l.length ∧ Lib.IsBuilderF 61 5 w.heap.size w.heap.size (Lib.byteCells acc) wr ∧ Below w.heap.size w wr ∧ Hid (acc ++ secs (l.drop i) = core l)) (fun x _ => l.length - (intOf x).toNat)
  case atStart => exact ⟨0, _, rfl, by omega, f3, HB3, HA3⟩
  case round =>
    clear HA3 HB3 f3
    obtain ⟨i, acc, rfl, hi, hbld, hB, HA⟩ := hrel
    have hal : acc.length ≤ 10000000 := by
      have h1 := congrArg List.length HA.out
      rw [List.length_append] at h1
      omega
    have hblt := block_lt hbld
    have hBs := hB.size
    by_cases hend : i < l.length
    · obtain ⟨b, off, rfl, hcap, hlt, hc1, hc2⟩ := hc i hend
      rw [← hB.cell (p := ⟨b, off + i * 2, none⟩) hlt] at hc1
      rw [← hB.cell (p := ⟨b, off + i * 2 + 1, none⟩) hlt] at hc2
      have hfx := hl _ (nth_mem l i hend)
      have HN := secs_drop l i hend
      generalize nth l i = x at *
      obtain ⟨dk, hdk⟩ := num.text (num.digs x.kind)
      obtain ⟨ds, hds⟩ := num.text (num.digs x.body.size)
      have hk10 := num.digs_length x.kind hfx.1
      have hb10 := num.digs_length x.body.size (by have := hfx.2; omega)
      have p1 := num.put_is x.kind hfx.1 dk hdk
      have p2 := num.putText_any x.body ds hfx.2 hds
      have r1 := write_step w.heap.size w.heap.size acc dk (num.digs x.kind) hdk (by omega)
      have r2 := write_step w.heap.size w.heap.size (acc ++ num.digs x.kind) (ds ++ x.body) (num.digs x.body.size ++ x.body.data.toList) (by rw [list_append, hds]) (by
        have h1 := congrArg List.length HA.out
        rw [List.length_append, HN, List.length_append, List.length_append] at h1
        rw [List.length_append]
        omega)
      have HE : Hid (((acc ++ num.digs x.kind) ++ (num.digs x.body.size ++ x.body.data.toList)) ++ secs (l.drop (i + 1)) = core l) := by
        show _ = _
        rw [← HA.out, HN]
        simp only [List.append_assoc]
      generalize ds ++ x.body = u at *
      generalize num.digs x.kind = K at *
      generalize num.digs x.body.size ++ x.body.data.toList = T at *
      have hf0 := hbld.alloc (.cells #[.int .u64 x.kind, .string x.body] 40)
      have ho0 := One.new wr x
      have hs0 := alloc_le wr (.cells #[.int .u64 x.kind, .string x.body] 40) w.heap.size (by omega)
      have hB0 := hB.alloc hBs (.cells #[.int .u64 x.kind, .string x.body] 40)
      have hne : wr.heap.size ≠ w.heap.size := by omega
      clear hc HA HN hdk hds hk10 hb10
      go_wp2_with (first | (go_at_call 35; refine (p1 _).mono ?_; rintro e w1 ⟨rfl, b1⟩; have f1 := bld.later hf0 b1; have o1 := One.later ho0 b1) | (go_at_call 34; with_reducible refine (r1 _ f1 (Nat.le_trans hs0 b1.size)).mono ?_; rintro e w2 ⟨rfl, f2, b2, k2⟩; have o2 := o1.kept k2 hne; have c2 := o2.cell1) | (go_at_call 36; refine (p2 _).mono ?_; rintro e w3 ⟨rfl, b3⟩; have f3 := bld.later f2 b3) | (go_at_call 34; with_reducible refine (r2 _ f3 (Nat.le_trans (Nat.le_trans hs0 b1.size) (Nat.le_trans b2.size b3.size))).mono ?_; rintro e w4 ⟨rfl, f4, b4, k4⟩))
      go_roundw
      case rel => exact ⟨i + 1, _, by go_num, by omega, f4, (((hB0.trans (b1.mono hs0)).trans b2).trans (b3.mono (Nat.le_trans (Nat.le_trans hs0 b1.size) b2.size))).trans b4, HE⟩
      case measure => simp [intOf]; omega
    · have HE : Hid (acc = core l) := by
        show _ = _
        rw [← HA.out, List.drop_eq_nil_of_le (by omega), secs, List.append_nil]
      obtain ⟨s, hs⟩ := num.text acc
      have hss : s.size ≤ 10000000 := by rw [← num.size_list, hs]; exact hal
      obtain ⟨n, hn⟩ : ∃ n, n = crc.crc 0 s := ⟨_, rfl⟩
      have p38 := crc.of_is s n (by omega) hn
      have hn32 : n < 4294967296 := by rw [hn]; exact crc.crc_lt 0 s
      obtain ⟨f, hf⟩ := num.text (num.four n)
      have p37 := num.putFour_is n hn32 f hf
      have q39 := built w.heap.size w.heap.size acc s hs
      have r3 := write_step w.heap.size w.heap.size acc f (num.four n) hf (by show _ + 4 ≤ _; omega)
      have q39b := built w.heap.size w.heap.size (acc ++ num.four n) t (by
        have e : n = csum (core l) := by
          rw [hn, crc.crc, hs, HE.out]
          rfl
        rw [ht, sealed, HE.out, e])
      clear hn hn32 hf hs HE HA hc
      have hBs : w.heap.size ≤ wr.heap.size := hBs
      go_wp2_with (first | (go_at_call 39; with_reducible refine (q39 _ hbld hBs).mono ?_; rintro e w1 ⟨rfl, f1, b1⟩) | (go_at_call 38; refine (p38 _).mono ?_; rintro e w2 ⟨rfl, b2⟩; have f2 := bld.later f1 b2) | (go_at_call 37; refine (p37 _).mono ?_; rintro e w3 ⟨rfl, b3⟩; have f3 := bld.later f2 b3) | (go_at_call 34; with_reducible refine (r3 _ f3 (Nat.le_trans hBs (Nat.le_trans b1.size (Nat.le_trans b2.size b3.size)))).mono ?_; rintro e w4 ⟨rfl, f4, b4, k4⟩) | (go_at_call 39; with_reducible refine (q39b _ f4 (Nat.le_trans hBs (Nat.le_trans b1.size (Nat.le_trans b2.size (Nat.le_trans b3.size b4.size))))).mono ?_; rintro e w5 ⟨rfl, f5, b5⟩))
      go_ret
      exact ⟨rfl, ((((hB.trans b1).trans (b2.mono (Nat.le_trans hBs b1.size))).trans (b3.mono (Nat.le_trans hBs (Nat.le_trans b1.size b2.size)))).trans b4).trans b5⟩
end Go.Proofs.Ytjnjjbacfodacaa.pk
