/-
  Texts put together: Over this program: what is being made (maker[string]) in memory, and what is kept and changed of it. Contracts over this program: a text's number (maker.text), what is put (maker.put). Contracts over this program: what is put (maker.put), whether there is too much (maker.full).
-/
import Derived.Test.YtlmodfeiphffcaaKKg
namespace Go.Proofs.Ytlmodfeiphffcaa.ms
open Go.ChangeShapes Go.WideShapes Go.ChangeAt Go.RowKit Go.Shelf Go.Maps
open tr
open mk (Kv kcells svs rcs MapN mapN_nil map_keep own_ne own_cells law9 zero3 OkT kt key9 kt_inj look83 info9)
set_option linter.unusedVariables false

structure Kq where
  sts : List ByteArray
  txs : List ByteArray
  r0 : List (Nat × List Int)
  r1 : List (Nat × List Int)
  fn : List Nat
structure KI (B kb : Nat) (f0 f1 : Value) (q : Kv) (d : Kq) (W : World) : Prop where
  box : W.heap[kb]? = some (.cells (kcells f0 f1 q) 103 (0, 0))
  os : W.ownsRow B 9 1 q.sv d.sts.length (svs d.sts)
  o0 : W.ownsRow B 23 1 q.v0 d.r0.length (rcs d.r0)
  o1 : W.ownsRow B 23 1 q.v1 d.r1.length (rcs d.r1)
  o2 : W.ownsRow B 3 1 q.v2 d.fn.length (icl d.fn)
  o3 : W.ownsRow B 9 1 q.v3 d.txs.length (svs d.txs)
  mn : ∃ D, W.ownsMap Try.prog 9 (plainElem (H := Unit) Try.prog 3) q.nm d.sts.length D ∧ MapN kt OkT d.sts D
  mt : ∃ D, W.ownsMap Try.prog 9 (plainElem (H := Unit) Try.prog 3) q.tm d.txs.length D ∧ MapN kt OkT d.txs D
  i0 : ∀ x ∈ d.r0, IRow W x.1 x.2
  i1 : ∀ x ∈ d.r1, IRow W x.1 x.2
  nt : q.nm ≠ q.tm
  n01 : ∀ g, q.v0.ownBlock = some g → q.v1.ownBlock ≠ some g
  n2 : ∀ x ∈ d.r0 ++ d.r1, q.v2.ownBlock ≠ some x.1
  s3 : ∀ g, q.sv.ownBlock = some g → q.v3.ownBlock ≠ some g
  bk : B ≤ kb
  bn : B ≤ q.nm
  bt : B ≤ q.tm
  br : ∀ x ∈ d.r0 ++ d.r1, B ≤ x.1
  ls : ∀ s ∈ d.sts, OkT s
  lt : ∀ t ∈ d.txs, OkT t ∧ t.size ≤ q.lg
  lx : q.lg = 0 ∨ ∃ t ∈ d.txs, t.size = q.lg
section
variable {B kb : Nat} {f0 f1 : Value} {q : Kv} {d : Kq} {W W' : World}
theorem KI.kl (k : KI B kb f0 f1 q d W) : kb < W.heap.size := (Array.getElem?_eq_some_iff.1 k.box).1
theorem KI.nobj (k : KI B kb f0 f1 q d W) : ∃ es clock, W.heap[q.nm]? = some (.map es clock) := by
  obtain ⟨D, ⟨es, clock, hb, _⟩, _⟩ := k.mn
  exact ⟨es, clock, hb⟩
theorem KI.tobj (k : KI B kb f0 f1 q d W) : ∃ es clock, W.heap[q.tm]? = some (.map es clock) := by
  obtain ⟨D, ⟨es, clock, hb, _⟩, _⟩ := k.mt
  exact ⟨es, clock, hb⟩
/-- the blocks that belong to it -/
def Fp (kb : Nat) (q : Kv) (d : Kq) (g : Nat) : Prop := g = kb ∨ g = q.nm ∨ g = q.tm ∨ q.sv.ownBlock = some g ∨ q.v0.ownBlock = some g ∨ q.v1.ownBlock = some g ∨ q.v2.ownBlock = some g ∨ q.v3.ownBlock = some g ∨ ∃ x ∈ d.r0 ++ d.r1, x.1 = g
theorem KI.fp (k : KI B kb f0 f1 q d W) {g : Nat} (h : Fp kb q d g) : B ≤ g ∧ g < W.heap.size := by
  rcases h with rfl | rfl | rfl | h | h | h | h | h | ⟨x, hx, rfl⟩
  · exact ⟨k.bk, k.kl⟩
  · obtain ⟨es, c, h⟩ := k.nobj; exact ⟨k.bn, (Array.getElem?_eq_some_iff.1 h).1⟩
  · obtain ⟨es, c, h⟩ := k.tobj; exact ⟨k.bt, (Array.getElem?_eq_some_iff.1 h).1⟩
  · exact ow.lt k.os h
  · exact ow.lt k.o0 h
  · exact ow.lt k.o1 h
  · exact ow.lt k.o2 h
  · exact ow.lt k.o3 h
  · refine ⟨k.br x hx, ?_⟩
    rcases List.mem_append.1 hx with h | h
    · exact (k.i0 x h).lt
    · exact (k.i1 x h).lt
theorem KI.keep (k : KI B kb f0 f1 q d W) (hh : ∀ g, Fp kb q d g → W'.heap[g]? = W.heap[g]?) : KI B kb f0 f1 q d W' := by
  obtain ⟨D1, m1, m2⟩ := k.mn
  obtain ⟨D2, m3, m4⟩ := k.mt
  exact ⟨(hh kb (.inl rfl)).trans k.box, ow.keep k.os fun g e => hh g (.inr (.inr (.inr (.inl e)))), ow.keep k.o0 fun g e => hh g (.inr (.inr (.inr (.inr (.inl e))))), ow.keep k.o1 fun g e => hh g (.inr (.inr (.inr (.inr (.inr (.inl e)))))), ow.keep k.o2 fun g e => hh g (.inr (.inr (.inr (.inr (.inr (.inr (.inl e))))))), ow.keep k.o3 fun g e => hh g (.inr (.inr (.inr (.inr (.inr (.inr (.inr (.inl e)))))))), ⟨D1, map_keep m1 (hh _ (.inr (.inl rfl))), m2⟩, ⟨D2, map_keep m3 (hh _ (.inr (.inr (.inl rfl)))), m4⟩,
    fun x hx => (k.i0 x hx).keep (hh _ (.inr (.inr (.inr (.inr (.inr (.inr (.inr (.inr ⟨x, List.mem_append_left _ hx, rfl⟩))))))))), fun x hx => (k.i1 x hx).keep (hh _ (.inr (.inr (.inr (.inr (.inr (.inr (.inr (.inr ⟨x, List.mem_append_right _ hx, rfl⟩))))))))), k.nt, k.n01, k.n2, k.s3, k.bk, k.bn, k.bt, k.br, k.ls, k.lt, k.lx⟩
theorem KI.later (k : KI B kb f0 f1 q d W) (c : Below W.heap.size W W') : KI B kb f0 f1 q d W' := k.keep fun g hg => c.block g (k.fp hg).2
/-- what is not cells of the type 103, no map, and no row of this type -/
theorem KI.cells (k : KI B kb f0 f1 q d W) {g : Nat} {cs : Array Value} {T : TypeId} {fr : Nat × Nat} (hg : W.heap[g]? = some (.cells cs T fr)) : g ≠ q.nm ∧ g ≠ q.tm ∧ (T ≠ 103 → g ≠ kb) := by
  obtain ⟨e1, c1, h1⟩ := k.nobj
  obtain ⟨e2, c2, h2⟩ := k.tobj
  refine ⟨fun e => ?_, fun e => ?_, fun hT e => ?_⟩
  · rw [e, h1] at hg; cases hg
  · rw [e, h2] at hg; cases hg
  · rw [e, k.box] at hg
    cases hg
    exact hT rfl
end
end Go.Proofs.Ytlmodfeiphffcaa.ms

namespace Go.Proofs.Ytlmodfeiphffcaa.ms
open Go.ChangeShapes Go.WideShapes Go.ChangeAt Go.RowKit Go.Shelf Go.Maps
open tr
open mk (Kv kcells svs rcs MapN mapN_nil map_keep own_ne own_cells law9 zero3 OkT kt key9 kt_inj look83 info9)
set_option linter.unusedVariables false

section
variable {B kb : Nat} {f0 f1 : Value} {q : Kv} {d : Kq} {W W' : World}
theorem KI.c0 (k : KI B kb f0 f1 q d W) : W.cell? ⟨kb, 0, none⟩ = some f0 := by rw [Lib.cell_of_heap k.box]; rfl
theorem KI.c1 (k : KI B kb f0 f1 q d W) : W.cell? ⟨kb, 1, none⟩ = some f1 := by rw [Lib.cell_of_heap k.box]; rfl
theorem KI.c2 (k : KI B kb f0 f1 q d W) : W.cell? ⟨kb, 2, none⟩ = some q.sv := by rw [Lib.cell_of_heap k.box]; rfl
theorem KI.c3 (k : KI B kb f0 f1 q d W) : W.cell? ⟨kb, 3, none⟩ = some (.map (some q.nm)) := by rw [Lib.cell_of_heap k.box]; rfl
theorem KI.c4 (k : KI B kb f0 f1 q d W) : W.cell? ⟨kb, 4, none⟩ = some (.map (some q.tm)) := by rw [Lib.cell_of_heap k.box]; rfl
theorem KI.c5 (k : KI B kb f0 f1 q d W) : W.cell? ⟨kb, 5, none⟩ = some (.int .i64 (q.lg : Int)) := by rw [Lib.cell_of_heap k.box]; rfl
theorem KI.c6 (k : KI B kb f0 f1 q d W) : W.cell? ⟨kb, 6, none⟩ = some q.v0 := by rw [Lib.cell_of_heap k.box]; rfl
theorem KI.c7 (k : KI B kb f0 f1 q d W) : W.cell? ⟨kb, 7, none⟩ = some q.v1 := by rw [Lib.cell_of_heap k.box]; rfl
theorem KI.c8 (k : KI B kb f0 f1 q d W) : W.cell? ⟨kb, 8, none⟩ = some q.v2 := by rw [Lib.cell_of_heap k.box]; rfl
theorem KI.c9 (k : KI B kb f0 f1 q d W) : W.cell? ⟨kb, 9, none⟩ = some q.v3 := by rw [Lib.cell_of_heap k.box]; rfl
theorem KI.fz (k : KI B kb f0 f1 q d W) (i : Nat) : W.frozen? ⟨kb, i, none⟩ = false := Lib.frozen_of_heap k.box i
/-- a text more -/
theorem KI.text (k : KI B kb f0 f1 q d W) {v3 : Value} {lg : Nat} {t : ByteArray} (ht : OkT t) (hlg : q.lg ≤ lg) (htl : t.size ≤ lg) (hle : lg = q.lg ∨ lg = t.size)
    (hh : ∀ g, g < W.heap.size → g ≠ kb → g ≠ q.tm → q.v3.ownBlock ≠ some g → W'.heap[g]? = W.heap[g]?)
    (hk : W'.heap[kb]? = some (.cells (kcells f0 f1 { q with v3 := v3, lg := lg }) 103 (0, 0)))
    (ho : W'.ownsRow B 9 1 v3 (d.txs ++ [t]).length (svs (d.txs ++ [t])))
    (hm : ∃ D, W'.ownsMap Try.prog 9 (plainElem (H := Unit) Try.prog 3) q.tm (d.txs ++ [t]).length D ∧ MapN kt OkT (d.txs ++ [t]) D)
    (hw : v3.ownBlock = q.v3.ownBlock ∨ ∀ g, v3.ownBlock = some g → W.heap.size ≤ g) :
    KI B kb f0 f1 { q with v3 := v3, lg := lg } { d with txs := d.txs ++ [t] } W' := by
  have row : ∀ {e sz n : Nat} {v : Value} {xs : List Value}, W.ownsRow B e sz v n xs → e ≠ 103 → (∀ g, v.ownBlock = some g → q.v3.ownBlock ≠ some g) → W'.ownsRow B e sz v n xs := fun h h1 h2 => ow.keep h fun g eg => by
    obtain ⟨cs, hc⟩ := own_cells h eg
    have := k.cells hc
    exact hh g (ow.lt h eg).2 (this.2.2 h1) this.2.1 (h2 g eg)
  have ir : ∀ {g : Nat} {l : List Int}, IRow W g l → IRow W' g l := fun h => h.keep (by
    have := k.cells h
    exact hh _ h.lt (this.2.2 (by decide)) this.2.1 (fun e => ow.type k.o3 h (by decide) e.symm))
  obtain ⟨D1, m1, m2⟩ := k.mn
  obtain ⟨es, c, hn⟩ := k.nobj
  have hnk : q.nm ≠ kb := fun e => by rw [e, k.box] at hn; cases hn
  have hn3 : q.v3.ownBlock ≠ some q.nm := fun e => ow.kind k.o3 hn rfl e.symm
  refine ⟨hk, row k.os (by decide) k.s3, row k.o0 (by decide) (own_ne k.o0 k.o3 (by decide)), row k.o1 (by decide) (own_ne k.o1 k.o3 (by decide)), row k.o2 (by decide) (own_ne k.o2 k.o3 (by decide)), ho, ⟨D1, map_keep m1 (hh _ (Array.getElem?_eq_some_iff.1 hn).1 hnk k.nt hn3), m2⟩, hm, fun x hx => ir (k.i0 x hx), fun x hx => ir (k.i1 x hx), k.nt, k.n01, k.n2, fun g eg => ?_, k.bk, k.bn, k.bt, k.br, k.ls, fun x hx => ?_, ?_⟩
  · rcases hw with e | e
    · show v3.ownBlock ≠ some g
      rw [e]; exact k.s3 g eg
    · intro e2
      have := e g e2
      have := (ow.lt k.os eg).2
      omega
  · rcases List.mem_append.1 hx with h | h
    · exact ⟨(k.lt x h).1, Nat.le_trans (k.lt x h).2 hlg⟩
    · rw [List.mem_singleton.1 h]; exact ⟨ht, htl⟩
  · rcases hle with e | e
    · rcases k.lx with h | ⟨x, hx, h⟩
      · exact .inl (e.trans h)
      · exact .inr ⟨x, List.mem_append_left _ hx, h.trans e.symm⟩
    · exact .inr ⟨t, List.mem_append_right _ (List.mem_singleton.2 rfl), e.symm⟩
end
/-- what a text's number hands back -/
def TxtOut (B kb : Nat) (f0 f1 : Value) (q : Kv) (d : Kq) (t : ByteArray) (W : World) (e : Ending) (W' : World) : Prop :=
  ∃ (i : Nat) (v3 : Value) (lg : Nat) (txs : List ByteArray), e = .returned (.int .i64 (i : Int)) ∧ txs[i]? = some t ∧ (txs = d.txs ∨ (t ∉ d.txs ∧ txs = d.txs ++ [t])) ∧ KI B kb f0 f1 { q with v3 := v3, lg := lg } { d with txs := txs } W' ∧ W.heap.size ≤ W'.heap.size ∧ W'.os = W.os ∧ W'.tape = W.tape ∧ W'.output = W.output ∧ (∀ g, g < W.heap.size → g ≠ kb → g ≠ q.tm → q.v3.ownBlock ≠ some g → W'.heap[g]? = W.heap[g]?) ∧ (v3.ownBlock = q.v3.ownBlock ∨ ∀ g, v3.ownBlock = some g → W.heap.size ≤ g)
set_option maxHeartbeats 4000000 in
set_option maxRecDepth 100000 in
theorem text_any {B kb : Nat} {f0 f1 : Value} {q : Kv} {d : Kq} {W : World} (k : KI B kb f0 f1 q d W) {B2 : Nat} {v : Value} {xs : List UInt8} (hb : Buf B2 v xs W) (hx : xs.length ≤ 50000000) (hn : d.txs.length ≤ 900000) :
    Calls Try.prog 69 #[.pointer (some ⟨kb, 0, none⟩), v] W (TxtOut B kb f0 f1 q d (bs xs) W) := by
  have hsz := bs_size xs
  have ht : OkT (bs xs) := by unfold OkT; omega
  have c4 := k.c4
  have hcv : ∀ n, Sem.run Try.prog (convert 51 9 v) (W.drewN n) = .ok (.string (bs xs)) (W.drewN n) := fun n => Buf.conv (w := W.drewN n) hb
  obtain ⟨D, hD, hMN⟩ := k.mt
  have hlk := fun n => look83 (W := W.drewN n) (map_keep (W := W) (W' := W.drewN n) hD rfl) (bs xs) ht
  obtain ⟨c, _, hc⟩ := hlk 0
  have hlk2 : ∀ n, (Instr.lookup 83 (.map (some q.tm)) (.string (bs xs)) true).run Try.prog (W.drewN n) = .ok (.tuple #[.int .i64 c, .bool (Maps.has D (kt (bs xs)))]) (W.drewN n) := fun n => by
    obtain ⟨c', h1, h2⟩ := hlk n
    rw [hc] at h2
    simp only [DataW.lit.injEq, Lit.int.injEq, true_and] at h2
    rw [h1, h2]
  obtain ⟨vg, vc, rfl, v1, v2⟩ := hb.form
  by_cases hin : bs xs ∈ d.txs
  · obtain ⟨i, hi⟩ := List.mem_iff_getElem?.1 hin
    have hci := hMN.at' i _ hi
    rw [hc] at hci
    simp only [DataW.lit.injEq, Lit.int.injEq, true_and] at hci
    subst hci
    have HI := (show Hid _ from hi)
    rw [(hMN.has _ ht).2 hin] at hlk2
    clear hlk hc hin hi
    generalize bs xs = t at *
    go_enter Try.func69, Try.ntmps69
    go_wp2_with (fail)
    go_quiet (fail)
    go_wp2_with (fail)
    go_ret
    exact ⟨i, q.v3, q.lg, d.txs, rfl, HI.out, .inl rfl, k.later (below_drewN (Below.refl _ _) _), Nat.le_refl _, rfl, rfl, rfl, (fun _ _ _ _ _ => rfl), .inl rfl⟩
  · rw [show Maps.has D (kt (bs xs)) = false from Bool.eq_false_iff.2 (fun h => hin ((hMN.has _ ht).1 h))] at hlk2
    clear hlk hc
    have HK := (show Hid _ from k)
    have HNI := (show Hid _ from hin)
    have HMN := (show Hid _ from hMN)
    have HD : Hid (W.ownsMap Try.prog 9 (plainElem (H := Unit) Try.prog 3) q.tm d.txs.length D) := hD
    have HTD : Hid (Tidy D) := hD.tidy law9
    have HB := (show Hid _ from hb)
    have hc32 := fun n => fresh_any (w := W.drewN n) (B := B2) (v := .slice vg xs.length vc) (out := xs) hb (by omega)
    have hkey := key9 (bs xs) ht
    have HT := (show Hid _ from ht)
    obtain ⟨g3, c3', hv3, b31, b32⟩ := ow.form k.o3
    have c9 := k.c9
    rw [hv3] at c9
    clear k hin hMN hD hb ht
    generalize bs xs = t at *
    go_enter Try.func69, Try.ntmps69
    go_wp2_with (fail)
    go_quiet (fail)
    have HA1 := (show Hid (∀ w1, Below W.heap.size W w1 → KI B kb f0 f1 q d w1 ∧ w1.ownsMap Try.prog 9 (plainElem (H := Unit) Try.prog 3) q.tm d.txs.length D ∧ kb ≠ q.tm ∧ q.v3.ownBlock ≠ some q.tm ∧ q.v3.ownBlock ≠ some kb ∧ B ≤ w1.heap.size) from fun w1 b1 => by
      have K1 := HK.out.later b1
      refine ⟨K1, map_keep (W := W) HD.out (b1.block q.tm (HK.out.fp (.inr (.inr (.inl rfl)))).2), fun e => ?_, fun e => ?_, fun e => ow.type K1.o3 K1.box (by decide) e.symm, Nat.le_trans K1.bk (Nat.le_of_lt K1.kl)⟩
      · obtain ⟨es, c, h⟩ := K1.tobj
        rw [← e, K1.box] at h
        cases h
      · obtain ⟨es, c, h⟩ := K1.tobj
        exact ow.kind K1.o3 h rfl e.symm)
    go_wp2_with (first | (go_at_call 30; refine (hc32 _).mono ?_; rintro e w1 ⟨rfl, b1⟩; have b1' : Below W.heap.size W w1 := ⟨b1.os, b1.tape, b1.output, b1.size, b1.block⟩; obtain ⟨K1, hD1, htn, h3t, h3k, hB1⟩ := HA1.out w1 b1'; have c41 := K1.c4; have HK1 := (show Hid _ from K1); clear K1) | (at_mapUpdate; refine wpList_mapUpdate_own _ rfl _ _ _ 83 rfl 9 3 law9 Try.underlying83 _ q.tm d.txs.length D rfl hD1 (by unfold maxLen; omega) _ _ _ rfl rfl hkey _ [] (plainElem_int Try.underlying3 (WalkArith.wf_i64 (by omega))) ?_; intro w2 hD2 hg2; have x2 := (hg2.block kb HK1.out.kl (fun e => htn (Option.some.inj e))).trans HK1.out.box; have c92 : w2.cell? ⟨kb, 9, none⟩ = some (.slice g3 d.txs.length c3') := by { rw [Lib.cell_of_heap x2, ← hv3]; rfl }; have o32 := ow.keep HK1.out.o3 (W' := w2) (fun g eg => hg2.block g (ow.lt HK1.out.o3 eg).2 (fun e => h3t (by rw [← Option.some.inj e]; exact eg))); rw [hv3] at o32; have HO := (show Hid _ from ow.later o32 (below_alloc w2 (.cells #[.string t] 9))); have HN2 := (show Hid _ from ow.new1 w2 (.string t) 9); have hBw : B ≤ (w2.alloc (.cells #[.string t] 9)).heap.size := Nat.le_trans hB1 (Nat.le_trans hg2.size (below_alloc w2 _).size); clear hD1 o32) | (at_builtin; refine ow.wpList_append (by rfl) (.tmp 39) (.tmp 41) 24 (by rfl) 9 (.string ⟨#[]⟩) 1 16 Try.underlying24 info9 (by rfl) (by decide) (by decide) B (.slice g3 d.txs.length c3') d.txs.length (svs d.txs) w2.heap.size [.string t] (by rfl) (by rfl) (by exact HO.out) (by rfl) (by exact HN2.out) (by exact ow.one1 _ rfl) (by omega) (by exact hBw) ?_; intro g' cap' w3 ho hgr hw3; have x3 : w3.heap[kb]? = some (.cells (kcells f0 f1 q) 103 (0, 0)) := (hgr.block kb (Nat.lt_of_lt_of_le (Array.getElem?_eq_some_iff.1 x2).1 (below_alloc w2 _).size) (fun e => h3k (by rw [hv3]; exact e.symm))).trans (((below_alloc w2 _).block kb (Array.getElem?_eq_some_iff.1 x2).1).trans x2); have y9 : w3.cell? ⟨kb, 9, none⟩ = some (.slice g3 d.txs.length c3') := by { rw [Lib.cell_of_heap x3, ← hv3]; rfl }; have y5 : w3.cell? ⟨kb, 5, none⟩ = some (.int .i64 (q.lg : Int)) := by { rw [Lib.cell_of_heap x3]; rfl }; have z9 : w3.frozen? ⟨kb, 9, none⟩ = false := Lib.frozen_of_heap x3 9; have z5 : w3.frozen? ⟨kb, 5, none⟩ = false := Lib.frozen_of_heap x3 5))
    have e5 : (max (q.lg : Int) (xs.length : Int)) = ((max q.lg xs.length : Nat) : Int) := by omega
    rw [e5]
    have hh : ∀ g, g < W.heap.size → g ≠ kb → g ≠ q.tm → q.v3.ownBlock ≠ some g → ((w3.setCell ⟨kb, 9, none⟩ (.slice (some ⟨g', 0, none⟩) (d.txs.length + 1) cap')).setCell ⟨kb, 5, none⟩ (.int .i64 ((max q.lg xs.length : Nat) : Int))).heap[g]? = W.heap[g]? := fun g h1 h2 h3 h4 => by
      have l1 := Nat.lt_of_lt_of_le h1 b1'.size
      have l2 := Nat.lt_of_lt_of_le l1 hg2.size
      rw [Below.heap_setCell _ _ _ _ h2, Below.heap_setCell _ _ _ _ h2, hgr.block g (Nat.lt_of_lt_of_le l2 (below_alloc w2 _).size) (fun e => h4 (by rw [hv3]; exact e.symm)), (below_alloc w2 _).block g l2, hg2.block g l1 (fun e => h3 (Option.some.inj e)), b1'.block g h1]
    have hsz3 : W.heap.size ≤ w3.heap.size := Nat.le_trans b1'.size (Nat.le_trans hg2.size (Nat.le_trans (below_alloc w2 _).size hgr.size))
    have hown : ((w3.setCell ⟨kb, 9, none⟩ (.slice (some ⟨g', 0, none⟩) (d.txs.length + 1) cap')).setCell ⟨kb, 5, none⟩ (.int .i64 ((max q.lg xs.length : Nat) : Int))).ownsRow B 9 1 (.slice (some ⟨g', 0, none⟩) (d.txs.length + 1) cap') (d.txs ++ [t]).length (svs (d.txs ++ [t])) := by
      have e : svs (d.txs ++ [t]) = svs d.txs ++ [.string t] := by simp [svs]
      rw [e, List.length_append]
      exact ow.keep ho fun g eg => by
        have hne : g ≠ kb := fun e => by subst e; exact ow.type ho x3 (by decide) eg.symm
        rw [Below.heap_setCell _ _ _ _ hne, Below.heap_setCell _ _ _ _ hne]
    have hmap : ∃ D', ((w3.setCell ⟨kb, 9, none⟩ (.slice (some ⟨g', 0, none⟩) (d.txs.length + 1) cap')).setCell ⟨kb, 5, none⟩ (.int .i64 ((max q.lg xs.length : Nat) : Int))).ownsMap Try.prog 9 (plainElem (H := Unit) Try.prog 3) q.tm (d.txs ++ [t]).length D' ∧ MapN kt OkT (d.txs ++ [t]) D' := by
      refine ⟨_, ?_, HMN.out.put HTD.out kt_inj (fun x hx => (HK.out.lt x hx).1) HT.out (law9.key hkey) HNI.out⟩
      rw [List.length_append]
      have hD2' := hD2
      obtain ⟨es, c, hb2, _⟩ := hD2'
      have lt2 := (Array.getElem?_eq_some_iff.1 hb2).1
      refine map_keep (W := w2) hD2 ?_
      rw [Below.heap_setCell _ _ _ _ htn.symm, Below.heap_setCell _ _ _ _ htn.symm, hgr.block q.tm (Nat.lt_of_lt_of_le lt2 (below_alloc w2 _).size) (fun e => h3t (by rw [hv3]; exact e.symm)), (below_alloc w2 _).block q.tm lt2]
    have hbox : ((w3.setCell ⟨kb, 9, none⟩ (.slice (some ⟨g', 0, none⟩) (d.txs.length + 1) cap')).setCell ⟨kb, 5, none⟩ (.int .i64 ((max q.lg xs.length : Nat) : Int))).heap[kb]? = some (.cells (kcells f0 f1 { q with v3 := .slice (some ⟨g', 0, none⟩) (d.txs.length + 1) cap', lg := max q.lg xs.length }) 103 (0, 0)) := by
      rw [set_heap _ _ _ _ 5 _ (set_heap _ _ _ _ 9 _ x3)]
      rfl
    have hwh : (Value.slice (some ⟨g', 0, none⟩) (d.txs.length + 1) cap').ownBlock = q.v3.ownBlock ∨ ∀ g, (Value.slice (some ⟨g', 0, none⟩) (d.txs.length + 1) cap').ownBlock = some g → W.heap.size ≤ g := by
      rcases hw3 with e | e
      · exact .inl (by rw [hv3]; exact e)
      · refine .inr fun g eg => ?_
        simp [Value.ownBlock] at eg
        have := (below_alloc w2 (.cells #[.string t] 9)).size
        have := hg2.size
        have := b1'.size
        omega
    go_ret
    exact ⟨d.txs.length, .slice (some ⟨g', 0, none⟩) (d.txs.length + 1) cap', max q.lg xs.length, d.txs ++ [t], rfl, by rw [List.getElem?_append_right (Nat.le_refl _)]; simp, .inr ⟨HNI.out, rfl⟩, HK.out.text HT.out (by omega) (by omega) (by omega) hh hbox hown hmap hwh, by simpa [World.setCell] using hsz3, hgr.os.trans (hg2.os.trans b1'.os), hgr.tape.trans (hg2.tape.trans b1'.tape), hgr.output.trans (hg2.output.trans b1'.output), hh, hwh⟩
end Go.Proofs.Ytlmodfeiphffcaa.ms

namespace Go.Proofs.Ytlmodfeiphffcaa.ms
open Go.ChangeShapes Go.WideShapes Go.ChangeAt Go.RowKit Go.Shelf Go.Maps
open tr
open mk (Kv kcells svs rcs MapN mapN_nil map_keep own_ne own_cells law9 zero3 OkT kt key9 kt_inj look83 info9)
set_option linter.unusedVariables false

theorem byteCells_take (xs : List UInt8) (m : Nat) : Lib.byteCells (xs.take m) = (Lib.byteCells xs).take m := by simp [Lib.byteCells]
theorem Buf.cut {B : Nat} {o : Option Addr} {n cap : Nat} {xs : List UInt8} {w : World} (h : Buf B (.slice o n cap) xs w) (m : Nat) (hm : m ≤ xs.length) : Buf B (.slice o m cap) (xs.take m) w := by
  obtain ⟨hx, hr⟩ := h.1
  have hl : (xs.take m).length = m := by rw [List.length_take]; omega
  refine ⟨⟨by rw [byteCells_take, List.length_take, hx, hl]; omega, ?_⟩, h.2⟩
  rcases hr with ⟨e, h0⟩ | ⟨g, c, cur, e, hb, hg, h1, h2, h3, h4⟩
  · cases e
    have : m = 0 := by omega
    subst this
    exact .inl ⟨rfl, by rw [hl]⟩
  · cases e
    refine .inr ⟨g, cap, cur, by rw [hl], hb, hg, by rw [hl]; omega, h2, h3, ?_⟩
    rw [hl, byteCells_take, ← h4, List.take_take]
    congr 1
    omega
theorem Buf.cell {B : Nat} {o : Option Addr} {n cap : Nat} {xs : List UInt8} {w : World} (h : Buf B (.slice o n cap) xs w) (i : Nat) (hi : i < xs.length) : ∃ g, o = some ⟨g, 0, none⟩ ∧ w.cell? ⟨g, i, none⟩ = some (.int .u8 (xs[i].toNat : Int)) := by
  rcases h.1.2 with ⟨e, h0⟩ | ⟨g, c, cur, e, hb, hg, h1, h2, h3, h4⟩
  · omega
  · cases e
    refine ⟨g, rfl, ?_⟩
    rw [World.ownsRow.cellAt h.1 i (by simpa [Lib.byteCells] using hi)]
    simp [Lib.byteCells, hi]
def PutOut (B kb : Nat) (f0 f1 : Value) (q : Kv) (d : Kq) (xs : List UInt8) (b : UInt8) (W : World) (e : Ending) (W' : World) : Prop :=
  ∃ (i : Nat) (odd : Bool) (t : ByteArray) (v3 : Value) (lg : Nat) (txs : List ByteArray), e = .returned (.int .i64 ((2 * i + odd.toNat : Nat) : Int)) ∧ (t.data.toList ++ (if odd = true then [b] else []) = xs ∧ (odd = false → xs.getLast? ≠ some b)) ∧ txs[i]? = some t ∧ (txs = d.txs ∨ (t ∉ d.txs ∧ txs = d.txs ++ [t])) ∧ KI B kb f0 f1 { q with v3 := v3, lg := lg } { d with txs := txs } W' ∧ W.heap.size ≤ W'.heap.size ∧ W'.os = W.os ∧ W'.tape = W.tape ∧ W'.output = W.output ∧ (∀ g, g < W.heap.size → g ≠ kb → g ≠ q.tm → q.v3.ownBlock ≠ some g → W'.heap[g]? = W.heap[g]?) ∧ (v3.ownBlock = q.v3.ownBlock ∨ ∀ g, v3.ownBlock = some g → W.heap.size ≤ g)
set_option maxHeartbeats 2000000 in
set_option maxRecDepth 100000 in
theorem put_any {B kb : Nat} {f0 f1 : Value} {q : Kv} {d : Kq} {W : World} (k : KI B kb f0 f1 q d W) {B2 : Nat} {v : Value} {xs : List UInt8} (hb : Buf B2 v xs W) (hx : xs.length ≤ 50000000) (hn : d.txs.length ≤ 900000) (b : UInt8) :
    Calls Try.prog 68 #[.pointer (some ⟨kb, 0, none⟩), v, .int .u8 (b.toNat : Int)] W (PutOut B kb f0 f1 q d xs b W) := by
  obtain ⟨vg, vc, rfl, v1, v2⟩ := hb.form
  have plain : (xs = [] ∨ ∃ h : 0 < xs.length, xs[xs.length - 1] ≠ b) → Calls Try.prog 68 #[.pointer (some ⟨kb, 0, none⟩), .slice vg xs.length vc, .int .u8 (b.toNat : Int)] W (PutOut B kb f0 f1 q d xs b W) := by
    intro hc
    have c74 := text_any k hb hx hn
    have HX : Hid ((bs xs).data.toList = xs) := rfl
    have HL : Hid (xs.getLast? ≠ some b) := show xs.getLast? ≠ some b from by
      rcases hc with h0 | ⟨h1, h2⟩
      · rw [h0]; simp
      · rw [List.getLast?_eq_getElem?, List.getElem?_eq_getElem (by omega)]
        exact fun e => h2 (Option.some.inj e)
    rcases hc with h0 | ⟨h1, h2⟩
    · subst h0
      have c74 : Calls Try.prog 69 #[.pointer (some ⟨kb, 0, none⟩), .slice vg 0 vc] W (TxtOut B kb f0 f1 q d (bs []) W) := text_any k hb hx hn
      show Calls Try.prog 68 #[.pointer (some ⟨kb, 0, none⟩), .slice vg 0 vc, .int .u8 (b.toNat : Int)] W (PutOut B kb f0 f1 q d [] b W)
      clear hb hx v1
      go_enter Try.func68, Try.ntmps68
      go_wp2_with (fail)
      go_at_call 69
      refine c74.mono ?_
      rintro e w1 ⟨i, v3, lg, txs, rfl, ht, h1, h2, h3, h4, h5, h6, h7⟩
      have hil : i < 1000000 := by
        have := (List.getElem?_eq_some_iff.1 ht).1
        rcases h1 with e | ⟨_, e⟩
        · rw [e] at this; omega
        · rw [e, List.length_append] at this; simp at this; omega
      have HH := (show Hid _ from h7)
      clear h7 c74
      go_wp2_with (fail)
      go_ret
      exact ⟨i, false, bs [], v3, lg, txs, by show Ending.returned (.int .i64 (2 * (i : Int))) = _; simp, ⟨by simp, fun _ => HL.out⟩, ht, h1, h2, h3, h4, h5, h6, HH.out⟩
    · obtain ⟨g, rfl, hc⟩ := Buf.cell hb (xs.length - 1) (by omega)
      have hne : ¬ (xs[xs.length - 1].toNat : Int) = (b.toNat : Int) := fun e => h2 (UInt8.toNat_inj.1 (by omega))
      have f1' : ((xs[xs.length - 1].toNat : Int) == (b.toNat : Int)) = false := beq_eq_false_iff_ne.2 hne
      have hw : IntKind.i64.wrap ((xs.length : Int) - 1) = ((xs.length - 1 : Nat) : Int) := by
        rw [show (xs.length : Int) - 1 = ((xs.length - 1 : Nat) : Int) by omega]
        exact IntWalk.i64_in _ (by omega)
      have hx8 := xs[xs.length - 1].toNat_lt
      have hm1 : xs.length - 1 < xs.length := by omega
      generalize xs[xs.length - 1].toNat = cc at *
      clear hb h2 hne
      generalize hmm : xs.length - 1 = mm at *
      have HMM := (show Hid _ from hmm)
      clear hmm
      go_enter Try.func68, Try.ntmps68
      go_wp2_with (fail)
      go_at_call 69
      refine c74.mono ?_
      rintro e w1 ⟨i, v3, lg, txs, rfl, ht, h1, h2, h3, h4, h5, h6, h7⟩
      have hil : i < 1000000 := by
        have := (List.getElem?_eq_some_iff.1 ht).1
        rcases h1 with e | ⟨_, e⟩
        · rw [e] at this; omega
        · rw [e, List.length_append] at this; simp at this; omega
      have HH := (show Hid _ from h7)
      clear h7 c74
      go_wp2_with (fail)
      go_ret
      exact ⟨i, false, bs xs, v3, lg, txs, by show Ending.returned (.int .i64 (2 * (i : Int))) = _; simp, ⟨by simp, fun _ => HL.out⟩, ht, h1, h2, h3, h4, h5, h6, HH.out⟩
  by_cases h0 : xs = []
  · exact plain (.inl h0)
  have hpos : 0 < xs.length := List.length_pos_iff.2 h0
  by_cases hlast : xs[xs.length - 1] = b
  case neg => exact plain (.inr ⟨hpos, hlast⟩)
  have c74 := text_any k (Buf.cut hb (xs.length - 1) (by omega)) (by rw [List.length_take]; omega) hn
  obtain ⟨g, rfl, hc⟩ := Buf.cell hb (xs.length - 1) (by omega)
  rw [hlast] at hc
  have f1' : ((b.toNat : Int) == (b.toNat : Int)) = true := beq_iff_eq.2 rfl
  have hw : IntKind.i64.wrap ((xs.length : Int) - 1) = ((xs.length - 1 : Nat) : Int) := by
    rw [show (xs.length : Int) - 1 = ((xs.length - 1 : Nat) : Int) by omega]
    exact IntWalk.i64_in _ (by omega)
  have hm1 : xs.length - 1 < xs.length := by omega
  have HX : Hid ((bs (xs.take (xs.length - 1))).data.toList ++ [b] = xs) := by
    show xs.take (xs.length - 1) ++ [b] = xs
    conv => rhs; rw [← List.take_append_drop (xs.length - 1) xs]
    congr 1
    rw [List.drop_eq_getElem_cons hm1, hlast, List.drop_eq_nil_of_le (by omega)]
  generalize bs (xs.take (xs.length - 1)) = t at *
  clear plain hb hlast h0
  generalize hmm : xs.length - 1 = mm at *
  have HMM := (show Hid _ from hmm)
  clear hmm
  go_enter Try.func68, Try.ntmps68
  go_wp2_with (fail)
  go_at_call 69
  refine c74.mono ?_
  rintro e w1 ⟨i, v3, lg, txs, rfl, ht, h1, h2, h3, h4, h5, h6, h7⟩
  have hil : i < 1000000 := by
    have := (List.getElem?_eq_some_iff.1 ht).1
    rcases h1 with e | ⟨_, e⟩
    · rw [e] at this; omega
    · rw [e, List.length_append] at this; simp at this; omega
  have HH := (show Hid _ from h7)
  clear h7 c74
  go_wp2_with (fail)
  go_ret
  exact ⟨i, true, t, v3, lg, txs, by show Ending.returned (.int .i64 (2 * (i : Int) + 1)) = _; simp, ⟨HX.out, fun e => by cases e⟩, ht, h1, h2, h3, h4, h5, h6, HH.out⟩

def fullB (q : Kv) (d : Kq) : Bool := decide (1200 < d.sts.length) || decide (4096 < d.txs.length) || decide (4096 < q.lg)
set_option maxHeartbeats 1000000 in
set_option maxRecDepth 100000 in
theorem full_any {B kb : Nat} {f0 f1 : Value} {q : Kv} {d : Kq} {W : World} (k : KI B kb f0 f1 q d W) (r : Bool) (hr : r = fullB q d) :
    Calls Try.prog 56 #[.pointer (some ⟨kb, 0, none⟩)] W fun e W' => e = .returned (.bool r) ∧ W' = W := by
  have c2 := k.c2
  have c5 := k.c5
  have c9 := k.c9
  obtain ⟨g2, n2, hs, a1, a2⟩ := ow.form k.os
  obtain ⟨g9, n9, ht, a3, a4⟩ := ow.form k.o3
  rw [hs] at c2
  rw [ht] at c9
  have HR : Hid (r = (decide ((1200 : Int) < (d.sts.length : Int)) || (decide ((4096 : Int) < (d.txs.length : Int)) || decide ((4096 : Int) < (q.lg : Int))))) := by
    show _ = _
    rw [hr]
    unfold fullB
    rw [Bool.or_assoc]
    congr 1
    · exact decide_eq_decide.2 (by omega)
    · congr 1
      · exact decide_eq_decide.2 (by omega)
      · exact decide_eq_decide.2 (by omega)
  clear k hr hs ht
  by_cases h1 : (1200 : Int) < (d.sts.length : Int)
  · rw [decide_eq_true h1, Bool.true_or] at HR
    have f1 : 1200 < d.sts.length := by omega
    clear h1
    go_enter Try.func56, Try.ntmps56
    go_wp2_with (fail)
    go_ret
    exact ⟨by rw [HR.out]; rfl, rfl⟩
  · rw [decide_eq_false h1, Bool.false_or] at HR
    have f1 : ¬ 1200 < d.sts.length := by omega
    clear h1
    by_cases h2 : (4096 : Int) < (d.txs.length : Int)
    · rw [decide_eq_true h2, Bool.true_or] at HR
      have f2 : 4096 < d.txs.length := by omega
      clear h2
      go_enter Try.func56, Try.ntmps56
      go_wp2_with (fail)
      go_ret
      exact ⟨by rw [HR.out]; rfl, rfl⟩
    · rw [decide_eq_false h2, Bool.false_or] at HR
      have f2 : ¬ 4096 < d.txs.length := by omega
      clear h2
      go_enter Try.func56, Try.ntmps56
      go_wp2_with (fail)
      go_ret
      exact ⟨by rw [HR.out]; simp; omega, rfl⟩
end Go.Proofs.Ytlmodfeiphffcaa.ms
