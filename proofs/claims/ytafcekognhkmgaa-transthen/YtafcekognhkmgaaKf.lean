/-
  Contracts over this program: what is put (maker.put), whether there is too much (maker.full).
-/
import Derived.Test.YtafcekognhkmgaaKe
namespace Go.Proofs.Ytafcekognhkmgaa.mk
open Go.ChangeShapes Go.WideShapes Go.ChangeAt Go.RowKit Go.Shelf Go.Maps
open tr
set_option linter.unusedVariables false

theorem byteCells_take (xs : List UInt8) (m : Nat) : Lib.byteCells (xs.take m) = (Lib.byteCells xs).take m := by simp [Lib.byteCells]
theorem Buf.cut {B : Nat} {o : Option Addr} {n cap : Nat} {xs : List UInt8} {w : World} (h : Buf B (.slice o n cap) xs w) (m : Nat) (hm : m ≤ xs.length) : Buf B (.slice o m cap) (xs.take m) w := by
  obtain ⟨hx, hr⟩ := h.1
  have hl : (xs.take m).length = m := by rw [List.length_take]; omega
  refine ⟨⟨by rw [byteCells_take, List.length_take, hx, hl]; omega, ?_⟩, h.2⟩
  rcases hr with ⟨e, h0⟩ | ⟨g, c, cur, e, hb, hg, h1, h2, h3, h4⟩
  · cases e
    have : m = 0 := by omega
    subst this
    exact .inl ⟨rfl, by rw [hl]⟩
  · cases e
    refine .inr ⟨g, cap, cur, by rw [hl], hb, hg, by rw [hl]; omega, h2, h3, ?_⟩
    rw [hl, byteCells_take, ← h4, List.take_take]
    congr 1
    omega
theorem Buf.cell {B : Nat} {o : Option Addr} {n cap : Nat} {xs : List UInt8} {w : World} (h : Buf B (.slice o n cap) xs w) (i : Nat) (hi : i < xs.length) : ∃ g, o = some ⟨g, 0, none⟩ ∧ w.cell? ⟨g, i, none⟩ = some (.int .u8 (xs[i].toNat : Int)) := by
  rcases h.1.2 with ⟨e, h0⟩ | ⟨g, c, cur, e, hb, hg, h1, h2, h3, h4⟩
  · omega
  · cases e
    refine ⟨g, rfl, ?_⟩
    rw [World.ownsRow.cellAt h.1 i (by simpa [Lib.byteCells] using hi)]
    simp [Lib.byteCells, hi]
def PutOut (B kb : Nat) (f0 f1 : Value) (q : Kv) (d : Kq) (xs : List UInt8) (b : UInt8) (W : World) (e : Ending) (W' : World) : Prop :=
  ∃ (i : Nat) (odd : Bool) (t : ByteArray) (v3 : Value) (lg : Nat) (txs : List ByteArray), e = .returned (.int .i64 ((2 * i + odd.toNat : Nat) : Int)) ∧ t.data.toList ++ (if odd = true then [b] else []) = xs ∧ txs[i]? = some t ∧ (txs = d.txs ∨ (t ∉ d.txs ∧ txs = d.txs ++ [t])) ∧ KI B kb f0 f1 { q with v3 := v3, lg := lg } { d with txs := txs } W' ∧ W.heap.size ≤ W'.heap.size ∧ W'.os = W.os ∧ W'.tape = W.tape ∧ W'.output = W.output ∧ (∀ g, g < W.heap.size → g ≠ kb → g ≠ q.tm → q.v3.ownBlock ≠ some g → W'.heap[g]? = W.heap[g]?) ∧ (v3.ownBlock = q.v3.ownBlock ∨ ∀ g, v3.ownBlock = some g → W.heap.size ≤ g)
set_option maxHeartbeats 2000000 in
set_option maxRecDepth 100000 in
theorem put_any {B kb : Nat} {f0 f1 : Value} {q : Kv} {d : Kq} {W : World} (k : KI B kb f0 f1 q d W) {B2 : Nat} {v : Value} {xs : List UInt8} (hb : Buf B2 v xs W) (hx : xs.length ≤ 50000000) (hn : d.txs.length ≤ 900000) (b : UInt8) :
    Calls Try.prog 73 #[.pointer (some ⟨kb, 0, none⟩), v, .int .u8 (b.toNat : Int)] W (PutOut B kb f0 f1 q d xs b W) := by
  obtain ⟨vg, vc, rfl, v1, v2⟩ := hb.form
  have plain : (xs = [] ∨ ∃ h : 0 < xs.length, xs[xs.length - 1] ≠ b) → Calls Try.prog 73 #[.pointer (some ⟨kb, 0, none⟩), .slice vg xs.length vc, .int .u8 (b.toNat : Int)] W (PutOut B kb f0 f1 q d xs b W) := by
    intro hc
    have c74 := text_any k hb hx hn
    have HX : Hid ((bs xs).data.toList = xs) := rfl
    rcases hc with h0 | ⟨h1, h2⟩
    · subst h0
      have c74 : Calls Try.prog 74 #[.pointer (some ⟨kb, 0, none⟩), .slice vg 0 vc] W (TxtOut B kb f0 f1 q d (bs []) W) := text_any k hb hx hn
      show Calls Try.prog 73 #[.pointer (some ⟨kb, 0, none⟩), .slice vg 0 vc, .int .u8 (b.toNat : Int)] W (PutOut B kb f0 f1 q d [] b W)
      clear hb hx v1
      go_enter Try.func73, Try.ntmps73
      go_wp2_with (fail)
      go_at_call 74
      refine c74.mono ?_
      rintro e w1 ⟨i, v3, lg, txs, rfl, ht, h1, h2, h3, h4, h5, h6, h7⟩
      have hil : i < 1000000 := by
        have := (List.getElem?_eq_some_iff.1 ht).1
        rcases h1 with e | ⟨_, e⟩
        · rw [e] at this; omega
        · rw [e, List.length_append] at this; simp at this; omega
      have HH := (show Hid _ from h7)
      clear h7 c74
      go_wp2_with (fail)
      go_ret
      exact ⟨i, false, bs [], v3, lg, txs, by show Ending.returned (.int .i64 (2 * (i : Int))) = _; simp, by simp, ht, h1, h2, h3, h4, h5, h6, HH.out⟩
    · obtain ⟨g, rfl, hc⟩ := Buf.cell hb (xs.length - 1) (by omega)
      have hne : ¬ (xs[xs.length - 1].toNat : Int) = (b.toNat : Int) := fun e => h2 (UInt8.toNat_inj.1 (by omega))
      have f1' : ((xs[xs.length - 1].toNat : Int) == (b.toNat : Int)) = false := beq_eq_false_iff_ne.2 hne
      have hw : IntKind.i64.wrap ((xs.length : Int) - 1) = ((xs.length - 1 : Nat) : Int) := by
        rw [show (xs.length : Int) - 1 = ((xs.length - 1 : Nat) : Int) by omega]
        exact IntWalk.i64_in _ (by omega)
      have hx8 := xs[xs.length - 1].toNat_lt
      have hm1 : xs.length - 1 < xs.length := by omega
      generalize xs[xs.length - 1].toNat = cc at *
      clear hb h2 hne
      generalize hmm : xs.length - 1 = mm at *
      have HMM := (show Hid _ from hmm)
      clear hmm
      go_enter Try.func73, Try.ntmps73
      go_wp2_with (fail)
      go_at_call 74
      refine c74.mono ?_
      rintro e w1 ⟨i, v3, lg, txs, rfl, ht, h1, h2, h3, h4, h5, h6, h7⟩
      have hil : i < 1000000 := by
        have := (List.getElem?_eq_some_iff.1 ht).1
        rcases h1 with e | ⟨_, e⟩
        · rw [e] at this; omega
        · rw [e, List.length_append] at this; simp at this; omega
      have HH := (show Hid _ from h7)
      clear h7 c74
      go_wp2_with (fail)
      go_ret
      exact ⟨i, false, bs xs, v3, lg, txs, by show Ending.returned (.int .i64 (2 * (i : Int))) = _; simp, by simp, ht, h1, h2, h3, h4, h5, h6, HH.out⟩
  by_cases h0 : xs = []
  · exact plain (.inl h0)
  have hpos : 0 < xs.length := List.length_pos_iff.2 h0
  by_cases hlast : xs[xs.length - 1] = b
  case neg => exact plain (.inr ⟨hpos, hlast⟩)
  have c74 := text_any k (Buf.cut hb (xs.length - 1) (by omega)) (by rw [List.length_take]; omega) hn
  obtain ⟨g, rfl, hc⟩ := Buf.cell hb (xs.length - 1) (by omega)
  rw [hlast] at hc
  have f1' : ((b.toNat : Int) == (b.toNat : Int)) = true := beq_iff_eq.2 rfl
  have hw : IntKind.i64.wrap ((xs.length : Int) - 1) = ((xs.length - 1 : Nat) : Int) := by
    rw [show (xs.length : Int) - 1 = ((xs.length - 1 : Nat) : Int) by omega]
    exact IntWalk.i64_in _ (by omega)
  have hm1 : xs.length - 1 < xs.length := by omega
  have HX : Hid ((bs (xs.take (xs.length - 1))).data.toList ++ [b] = xs) := by
    show xs.take (xs.length - 1) ++ [b] = xs
    conv => rhs; rw [← List.take_append_drop (xs.length - 1) xs]
    congr 1
    rw [List.drop_eq_getElem_cons hm1, hlast, List.drop_eq_nil_of_le (by omega)]
  generalize bs (xs.take (xs.length - 1)) = t at *
  clear plain hb hlast h0
  generalize hmm : xs.length - 1 = mm at *
  have HMM := (show Hid _ from hmm)
  clear hmm
  go_enter Try.func73, Try.ntmps73
  go_wp2_with (fail)
  go_at_call 74
  refine c74.mono ?_
  rintro e w1 ⟨i, v3, lg, txs, rfl, ht, h1, h2, h3, h4, h5, h6, h7⟩
  have hil : i < 1000000 := by
    have := (List.getElem?_eq_some_iff.1 ht).1
    rcases h1 with e | ⟨_, e⟩
    · rw [e] at this; omega
    · rw [e, List.length_append] at this; simp at this; omega
  have HH := (show Hid _ from h7)
  clear h7 c74
  go_wp2_with (fail)
  go_ret
  exact ⟨i, true, t, v3, lg, txs, by show Ending.returned (.int .i64 (2 * (i : Int) + 1)) = _; simp, HX.out, ht, h1, h2, h3, h4, h5, h6, HH.out⟩

def fullB (q : Kv) (d : Kq) : Bool := decide (1200 < d.sts.length) || decide (4096 < d.txs.length) || decide (4096 < q.lg)
set_option maxHeartbeats 1000000 in
set_option maxRecDepth 100000 in
theorem full_any {B kb : Nat} {f0 f1 : Value} {q : Kv} {d : Kq} {W : World} (k : KI B kb f0 f1 q d W) (r : Bool) (hr : r = fullB q d) :
    Calls Try.prog 62 #[.pointer (some ⟨kb, 0, none⟩)] W fun e W' => e = .returned (.bool r) ∧ W' = W := by
  have c2 := k.c2
  have c5 := k.c5
  have c9 := k.c9
  obtain ⟨g2, n2, hs, a1, a2⟩ := ow.form k.os
  obtain ⟨g9, n9, ht, a3, a4⟩ := ow.form k.o3
  rw [hs] at c2
  rw [ht] at c9
  have HR : Hid (r = (decide ((1200 : Int) < (d.sts.length : Int)) || (decide ((4096 : Int) < (d.txs.length : Int)) || decide ((4096 : Int) < (q.lg : Int))))) := by
    show _ = _
    rw [hr]
    unfold fullB
    rw [Bool.or_assoc]
    congr 1
    · exact decide_eq_decide.2 (by omega)
    · congr 1
      · exact decide_eq_decide.2 (by omega)
      · exact decide_eq_decide.2 (by omega)
  clear k hr hs ht
  by_cases h1 : (1200 : Int) < (d.sts.length : Int)
  · rw [decide_eq_true h1, Bool.true_or] at HR
    have f1 : 1200 < d.sts.length := by omega
    clear h1
    go_enter Try.func62, Try.ntmps62
    go_wp2_with (fail)
    go_ret
    exact ⟨by rw [HR.out]; rfl, rfl⟩
  · rw [decide_eq_false h1, Bool.false_or] at HR
    have f1 : ¬ 1200 < d.sts.length := by omega
    clear h1
    by_cases h2 : (4096 : Int) < (d.txs.length : Int)
    · rw [decide_eq_true h2, Bool.true_or] at HR
      have f2 : 4096 < d.txs.length := by omega
      clear h2
      go_enter Try.func62, Try.ntmps62
      go_wp2_with (fail)
      go_ret
      exact ⟨by rw [HR.out]; rfl, rfl⟩
    · rw [decide_eq_false h2, Bool.false_or] at HR
      have f2 : ¬ 4096 < d.txs.length := by omega
      clear h2
      go_enter Try.func62, Try.ntmps62
      go_wp2_with (fail)
      go_ret
      exact ⟨by rw [HR.out]; simp; omega, rfl⟩
end Go.Proofs.Ytafcekognhkmgaa.mk
