/-
  Contracts over this program: a state's number (maker[string].state).
-/
import Derived.Test.YtlmodfeiphffcaaM05
namespace Go.Proofs.Ytlmodfeiphffcaa.ms
open Go.ChangeShapes Go.WideShapes Go.ChangeAt Go.RowKit Go.Shelf Go.Maps
open tr
open mk (Kv kcells svs rcs MapN mapN_nil map_keep own_ne own_cells law9 zero3 OkT kt key9 kt_inj look83 info9)
set_option linter.unusedVariables false

section
variable {B kb : Nat} {f0 f1 : Value} {q : Kv} {d : Kq} {W W' : World}
/-- a state more -/
theorem KI.state (k : KI B kb f0 f1 q d W) {sv : Value} {s : ByteArray} (hs : OkT s)
    (hh : ∀ g, g < W.heap.size → g ≠ kb → g ≠ q.nm → q.sv.ownBlock ≠ some g → W'.heap[g]? = W.heap[g]?)
    (hk : W'.heap[kb]? = some (.cells (kcells f0 f1 { q with sv := sv }) 103 (0, 0)))
    (ho : W'.ownsRow B 9 1 sv (d.sts ++ [s]).length (svs (d.sts ++ [s])))
    (hm : ∃ D, W'.ownsMap Try.prog 9 (plainElem (H := Unit) Try.prog 3) q.nm (d.sts ++ [s]).length D ∧ MapN kt OkT (d.sts ++ [s]) D)
    (hw : sv.ownBlock = q.sv.ownBlock ∨ ∀ g, sv.ownBlock = some g → W.heap.size ≤ g) :
    KI B kb f0 f1 { q with sv := sv } { d with sts := d.sts ++ [s] } W' := by
  have row : ∀ {e sz n : Nat} {v : Value} {xs : List Value}, W.ownsRow B e sz v n xs → e ≠ 103 → (∀ g, v.ownBlock = some g → q.sv.ownBlock ≠ some g) → W'.ownsRow B e sz v n xs := fun h h1 h2 => ow.keep h fun g eg => by
    obtain ⟨cs, hc⟩ := own_cells h eg
    have := k.cells hc
    exact hh g (ow.lt h eg).2 (this.2.2 h1) this.1 (h2 g eg)
  have ir : ∀ {g : Nat} {l : List Int}, IRow W g l → IRow W' g l := fun h => h.keep (by
    have := k.cells h
    exact hh _ h.lt (this.2.2 (by decide)) this.1 (fun e => ow.type k.os h (by decide) e.symm))
  obtain ⟨D1, m1, m2⟩ := k.mt
  obtain ⟨es, c, hn⟩ := k.tobj
  have hnk : q.tm ≠ kb := fun e => by rw [e, k.box] at hn; cases hn
  have hn3 : q.sv.ownBlock ≠ some q.tm := fun e => ow.kind k.os hn rfl e.symm
  refine ⟨hk, ho, row k.o0 (by decide) (own_ne k.o0 k.os (by decide)), row k.o1 (by decide) (own_ne k.o1 k.os (by decide)), row k.o2 (by decide) (own_ne k.o2 k.os (by decide)), row k.o3 (by decide) (fun g e1 e2 => k.s3 g e2 e1), hm, ⟨D1, map_keep m1 (hh _ (Array.getElem?_eq_some_iff.1 hn).1 hnk k.nt.symm hn3), m2⟩, fun x hx => ir (k.i0 x hx), fun x hx => ir (k.i1 x hx), k.nt, k.n01, k.n2, fun g eg e3 => ?_, k.bk, k.bn, k.bt, k.br, fun x hx => ?_, k.lt, k.lx⟩
  · rcases hw with e | e
    · exact k.s3 g (e ▸ eg) e3
    · have := e g eg
      have := (ow.lt k.o3 e3).2
      omega
  · rcases List.mem_append.1 hx with h | h
    · exact k.ls x h
    · rw [List.mem_singleton.1 h]; exact hs
end
def StOut (B kb : Nat) (f0 f1 : Value) (q : Kv) (d : Kq) (s : ByteArray) (W : World) (e : Ending) (W' : World) : Prop :=
  ∃ (i : Nat) (sv : Value) (sts : List ByteArray), e = .returned (.int .i64 (i : Int)) ∧ sts[i]? = some s ∧ (sts = d.sts ∨ (s ∉ d.sts ∧ sts = d.sts ++ [s])) ∧ KI B kb f0 f1 { q with sv := sv } { d with sts := sts } W' ∧ W.heap.size ≤ W'.heap.size ∧ W'.os = W.os ∧ W'.tape = W.tape ∧ W'.output = W.output ∧ (∀ g, g < W.heap.size → g ≠ kb → g ≠ q.nm → q.sv.ownBlock ≠ some g → W'.heap[g]? = W.heap[g]?) ∧ (sv.ownBlock = q.sv.ownBlock ∨ ∀ g, sv.ownBlock = some g → W.heap.size ≤ g)
set_option maxHeartbeats 4000000 in
set_option maxRecDepth 100000 in
theorem state_any {B kb : Nat} {f0 f1 : Value} {q : Kv} {d : Kq} {W : World} (k : KI B kb f0 f1 q d W) (s : ByteArray) (hs : OkT s) (hn : d.sts.length ≤ 900000) :
    Calls Try.prog 54 #[.pointer (some ⟨kb, 0, none⟩), .string s] W (StOut B kb f0 f1 q d s W) := by
  have c3 := k.c3
  obtain ⟨D, hD, hMN⟩ := k.mn
  have hlk := fun n => look83 (W := W.drewN n) (map_keep (W := W) (W' := W.drewN n) hD rfl) s hs
  obtain ⟨c, _, hc⟩ := hlk 0
  have hlk2 : ∀ n, (Instr.lookup 83 (.map (some q.nm)) (.string s) true).run Try.prog (W.drewN n) = .ok (.tuple #[.int .i64 c, .bool (Maps.has D (kt s))]) (W.drewN n) := fun n => by
    obtain ⟨c', h1, h2⟩ := hlk n
    rw [hc] at h2
    simp only [DataW.lit.injEq, Lit.int.injEq, true_and] at h2
    rw [h1, h2]
  by_cases hin : s ∈ d.sts
  · obtain ⟨i, hi⟩ := List.mem_iff_getElem?.1 hin
    have hci := hMN.at' i _ hi
    rw [hc] at hci
    simp only [DataW.lit.injEq, Lit.int.injEq, true_and] at hci
    subst hci
    have HI := (show Hid _ from hi)
    rw [(hMN.has _ hs).2 hin] at hlk2
    have HK := (show Hid _ from k)
    have hl0 := hlk2 0
    rw [show W.drewN 0 = W from rfl] at hl0
    clear hlk hc hin hi k hD hMN hlk2
    go_enter Try.func54, Try.ntmps54
    go_wp2_with (fail)
    go_ret
    exact ⟨i, q.sv, d.sts, rfl, HI.out, .inl rfl, HK.out, Nat.le_refl _, rfl, rfl, rfl, (fun _ _ _ _ _ => rfl), .inl rfl⟩
  · rw [show Maps.has D (kt s) = false from Bool.eq_false_iff.2 (fun h => hin ((hMN.has _ hs).1 h))] at hlk2
    have HK := (show Hid _ from k)
    have HNI := (show Hid _ from hin)
    have HMN := (show Hid _ from hMN)
    have HD : Hid (W.ownsMap Try.prog 9 (plainElem (H := Unit) Try.prog 3) q.nm d.sts.length D) := hD
    have HTD : Hid (Tidy D) := hD.tidy law9
    have hkey := key9 s hs
    have HSS := (show Hid _ from hs)
    obtain ⟨g2, c2', hv2, b31, b32⟩ := ow.form k.os
    have c2 := k.c2
    rw [hv2] at c2
    have hl0 := hlk2 0
    rw [show W.drewN 0 = W from rfl] at hl0
    clear hlk hc hin k hD hMN hs hlk2
    have HA1 := (show Hid (∀ w1, Below W.heap.size W w1 → KI B kb f0 f1 q d w1 ∧ w1.ownsMap Try.prog 9 (plainElem (H := Unit) Try.prog 3) q.nm d.sts.length D ∧ kb ≠ q.nm ∧ q.sv.ownBlock ≠ some q.nm ∧ q.sv.ownBlock ≠ some kb ∧ B ≤ w1.heap.size) from fun w1 b1 => by
      have K1 := HK.out.later b1
      refine ⟨K1, map_keep (W := W) HD.out (b1.block q.nm (HK.out.fp (.inr (.inl rfl))).2), fun e => ?_, fun e => ?_, fun e => ow.type K1.os K1.box (by decide) e.symm, Nat.le_trans K1.bk (Nat.le_of_lt K1.kl)⟩
      · obtain ⟨es, c, h⟩ := K1.nobj
        rw [← e, K1.box] at h
        cases h
      · obtain ⟨es, c, h⟩ := K1.nobj
        exact ow.kind K1.os h rfl e.symm)
    have b1 : Below W.heap.size W W := Below.refl _ _
    obtain ⟨K1, hD1, htn, h3t, h3k, hB1⟩ := HA1.out W b1
    have HK1 := (show Hid _ from K1)
    clear K1 HA1
    go_enter Try.func54, Try.ntmps54
    go_wp2_with (first | (at_mapUpdate; refine wpList_mapUpdate_own _ rfl _ _ _ 83 rfl 9 3 law9 Try.underlying83 _ q.nm d.sts.length D rfl hD1 (by unfold maxLen; omega) _ _ _ rfl rfl hkey _ [] (plainElem_int Try.underlying3 (WalkArith.wf_i64 (by omega))) ?_; intro w2 hD2 hg2; have x2 := (hg2.block kb HK1.out.kl (fun e => htn (Option.some.inj e))).trans HK1.out.box; have c22 : w2.cell? ⟨kb, 2, none⟩ = some (.slice g2 d.sts.length c2') := by { rw [Lib.cell_of_heap x2, ← hv2]; rfl }; have o22 := ow.keep HK1.out.os (W' := w2) (fun g eg => hg2.block g (ow.lt HK1.out.os eg).2 (fun e => h3t (by rw [← Option.some.inj e]; exact eg))); rw [hv2] at o22; have HO := (show Hid _ from ow.later o22 (below_alloc w2 (.cells #[.string s] 9))); have HN2 := (show Hid _ from ow.new1 w2 (.string s) 9); have hBw : B ≤ (w2.alloc (.cells #[.string s] 9)).heap.size := Nat.le_trans hB1 (Nat.le_trans hg2.size (below_alloc w2 _).size); clear hD1 o22) | (at_builtin; refine ow.wpList_append (by rfl) (.tmp 33) (.tmp 35) 24 (by rfl) 9 (.string ⟨#[]⟩) 1 16 Try.underlying24 info9 (by rfl) (by decide) (by decide) B (.slice g2 d.sts.length c2') d.sts.length (svs d.sts) w2.heap.size [.string s] (by rfl) (by rfl) (by exact HO.out) (by rfl) (by exact HN2.out) (by exact ow.one1 _ rfl) (by omega) (by exact hBw) ?_; intro g' cap' w3 ho hgr hw3; have x3 : w3.heap[kb]? = some (.cells (kcells f0 f1 q) 103 (0, 0)) := (hgr.block kb (Nat.lt_of_lt_of_le (Array.getElem?_eq_some_iff.1 x2).1 (below_alloc w2 _).size) (fun e => h3k (by rw [hv2]; exact e.symm))).trans (((below_alloc w2 _).block kb (Array.getElem?_eq_some_iff.1 x2).1).trans x2); have y2 : w3.cell? ⟨kb, 2, none⟩ = some (.slice g2 d.sts.length c2') := by { rw [Lib.cell_of_heap x3, ← hv2]; rfl }; have z2 : w3.frozen? ⟨kb, 2, none⟩ = false := Lib.frozen_of_heap x3 2))
    have hh : ∀ g, g < W.heap.size → g ≠ kb → g ≠ q.nm → q.sv.ownBlock ≠ some g → (w3.setCell ⟨kb, 2, none⟩ (.slice (some ⟨g', 0, none⟩) (d.sts.length + 1) cap')).heap[g]? = W.heap[g]? := fun g h1 h2 h3 h4 => by
      have l1 := Nat.lt_of_lt_of_le h1 b1.size
      have l2 := Nat.lt_of_lt_of_le l1 hg2.size
      rw [Below.heap_setCell _ _ _ _ h2, hgr.block g (Nat.lt_of_lt_of_le l2 (below_alloc w2 _).size) (fun e => h4 (by rw [hv2]; exact e.symm)), (below_alloc w2 _).block g l2, hg2.block g l1 (fun e => h3 (Option.some.inj e)), b1.block g h1]
    have hsz3 : W.heap.size ≤ w3.heap.size := Nat.le_trans b1.size (Nat.le_trans hg2.size (Nat.le_trans (below_alloc w2 _).size hgr.size))
    have hown : (w3.setCell ⟨kb, 2, none⟩ (.slice (some ⟨g', 0, none⟩) (d.sts.length + 1) cap')).ownsRow B 9 1 (.slice (some ⟨g', 0, none⟩) (d.sts.length + 1) cap') (d.sts ++ [s]).length (svs (d.sts ++ [s])) := by
      have e : svs (d.sts ++ [s]) = svs d.sts ++ [.string s] := by simp [svs]
      rw [e, List.length_append]
      exact ow.keep ho fun g eg => by
        have hne : g ≠ kb := fun e => by subst e; exact ow.type ho x3 (by decide) eg.symm
        rw [Below.heap_setCell _ _ _ _ hne]
    have hmap : ∃ D', (w3.setCell ⟨kb, 2, none⟩ (.slice (some ⟨g', 0, none⟩) (d.sts.length + 1) cap')).ownsMap Try.prog 9 (plainElem (H := Unit) Try.prog 3) q.nm (d.sts ++ [s]).length D' ∧ MapN kt OkT (d.sts ++ [s]) D' := by
      refine ⟨_, ?_, HMN.out.put HTD.out kt_inj HK.out.ls HSS.out (law9.key hkey) HNI.out⟩
      rw [List.length_append]
      have hD2' := hD2
      obtain ⟨es, c, hb2, _⟩ := hD2'
      have lt2 := (Array.getElem?_eq_some_iff.1 hb2).1
      refine map_keep (W := w2) hD2 ?_
      rw [Below.heap_setCell _ _ _ _ htn.symm, hgr.block q.nm (Nat.lt_of_lt_of_le lt2 (below_alloc w2 _).size) (fun e => h3t (by rw [hv2]; exact e.symm)), (below_alloc w2 _).block q.nm lt2]
    have hbox : (w3.setCell ⟨kb, 2, none⟩ (.slice (some ⟨g', 0, none⟩) (d.sts.length + 1) cap')).heap[kb]? = some (.cells (kcells f0 f1 { q with sv := .slice (some ⟨g', 0, none⟩) (d.sts.length + 1) cap' }) 103 (0, 0)) := by
      rw [set_heap _ _ _ _ 2 _ x3]
      rfl
    have hwh : (Value.slice (some ⟨g', 0, none⟩) (d.sts.length + 1) cap').ownBlock = q.sv.ownBlock ∨ ∀ g, (Value.slice (some ⟨g', 0, none⟩) (d.sts.length + 1) cap').ownBlock = some g → W.heap.size ≤ g := by
      rcases hw3 with e | e
      · exact .inl (by rw [hv2]; exact e)
      · refine .inr fun g eg => ?_
        simp [Value.ownBlock] at eg
        have := (below_alloc w2 (.cells #[.string s] 9)).size
        have := hg2.size
        have := b1.size
        omega
    go_ret
    exact ⟨d.sts.length, .slice (some ⟨g', 0, none⟩) (d.sts.length + 1) cap', d.sts ++ [s], rfl, by rw [List.getElem?_append_right (Nat.le_refl _)]; simp, .inr ⟨HNI.out, rfl⟩, HK.out.state HSS.out hh hbox hown hmap hwh, by simpa [World.setCell] using hsz3, hgr.os.trans (hg2.os.trans b1.os), hgr.tape.trans (hg2.tape.trans b1.tape), hgr.output.trans (hg2.output.trans b1.output), hh, hwh⟩
end Go.Proofs.Ytlmodfeiphffcaa.ms
