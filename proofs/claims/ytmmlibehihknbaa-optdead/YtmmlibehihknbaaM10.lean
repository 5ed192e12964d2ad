/-
  Texts put together: Contracts over this program: the ids that are left (row.ids). Over this program: the signs of a text: plain; one sign more in memory. Contracts over this program: a row begins with the bytes of a text (row.fill).
-/
import Derived.Test.YtmmlibehihknbaaM09
import Derived.Test.YtmmlibehihknbaaM03
import Derived.Test.YtmmlibehihknbaaKMo
namespace Go.Proofs.Ytmmlibehihknbaa.en
open Go.ChangeShapes Go.WideShapes Go.ChangeAt Go.RowKit Go.Shelf Go.Maps
open mg (Mg iv OkM I64 below_alloc chain rk nx joinAt joinAt_len joinAt_get app app_some app_none IntsV RowV)
open pp (Pr plt Pil cs2)
open hp (RMap Heap Mv own_keep)
set_option linter.unusedVariables false
set_option maxRecDepth 100000

theorem app_pos (K : List Mg) (ids : List Int) (h : 0 < ids.length) : 0 < (app K ids).length :=
  mg.app_ind K (fun ids out => 0 < ids.length → 0 < out.length) (fun _ _ h => h) (fun ids k r out h h2 h3 => h2 (by have := joinAt_len ids k r (mg.nx_some h).1; have := (mg.nx_some h).1; omega)) ids h
def IdsOut (W : World) (ids : List Int) (e : Ending) (W' : World) : Prop := ∃ v, e = .returned v ∧ W'.ownsRow W.heap.size 3 1 v ids.length (ids.map iv) ∧ Below W.heap.size W W'
/-- the next place: none at the end -/
def plI (ps : List Nat) (i : Nat) : Int := if i < ps.length then (pl ps i : Int) else -1
theorem plI_next (ps : List Nat) (i : Nat) : nextOf ps i = plI ps (i + 1) := rfl
theorem own_start {W : World} {B n : Nat} {v : Value} {xs : List Value} (h : W.ownsRow B 3 1 v n xs) : ∃ g c, v = .slice g n c ∧ n ≤ c ∧ c ≤ 9223372036854775807 ∧ Hid (W.ownsRow B 3 1 (.slice g n c) n xs) := by
  obtain ⟨g, c, rfl, h1, h2⟩ := ow.form h
  exact ⟨g, c, rfl, h1, h2, h⟩
set_option maxHeartbeats 4000000 in
theorem ids_any {W : World} {B rb mb : Nat} {vs vp : Value} {K : List Mg} {S : List Sg} {L : List Pr} {ps : List Nat} {ids : List Int} (h : Rw W B rb mb vs vp K S L) (hn : S.length ≤ 900000) (H : Lk S ps ids) (hf : 0 < ps.length → pl ps 0 = 0) (hp : 0 < S.length → 0 < ps.length) (hpl : ps.length ≤ S.length) :
    Calls Try.prog 94 #[.pointer (some ⟨rb, 0, none⟩)] W (IdsOut W ids) := by
  by_cases hz : S.length = 0
  · have e : ids = [] := List.length_eq_zero_iff.1 (by have := H.len; omega)
    subst e
    have hc := h.c1
    have hv : ∃ o cap, vs = .slice o 0 cap ∧ cap ≤ 9223372036854775807 := by
      obtain ⟨o, c, e, e1, e2⟩ := ow.form h.sg
      rw [hz] at e
      exact ⟨o, c, e, e2⟩
    obtain ⟨o, cap, rfl, hcap⟩ := hv
    clear h
    go_enter Try.func94, Try.ntmps94
    go_wp2_with (fail)
    go_ret
    exact ⟨_, rfl, ow.nil _ _ _ _, Below.refl _ _⟩
  · obtain ⟨gs, cap, rfl⟩ := h.full (by omega)
    have hc := h.c1
    obtain ⟨o, c, e, c1, c2⟩ := ow.form h.sg
    cases e
    have HR := (show Hid (Rw W B rb mb (.slice (some ⟨gs, 0, none⟩) S.length cap) vp K S L) from h)
    have hps : 0 < ps.length := hp (by omega)
    have hn0 : ((S.length : Int) == 0) = false := beq_eq_false_iff_ne.2 (by omega)
    have H0 := (show Hid ((0 : Int) = plI ps 0) from by show _ = _; unfold plI; rw [if_pos hps, hf hps]; rfl)
    have HLK := (show Hid (Lk S ps ids) from H)
    clear h H hf hp hz
    go_enter Try.func94, Try.ntmps94
    go_wp2_with (fail)
    clear hc
    go_loopg [3, 4] ps.length (fun k y z wr => ∃ (i : Nat) (g : Option Addr) (cc : Nat) (a : Int), y = .slice g i cc ∧ z = .int .i64 a ∧ i ≤ ps.length ∧ i ≤ cc ∧ cc ≤ 9223372036854775807 ∧ Hid (k = ps.length - i) ∧ Hid (a = plI ps i) ∧ Hid (wr.ownsRow W.heap.size 3 1 (.slice g i cc) i ((ids.take i).map iv)) ∧ Hid (Below W.heap.size W wr))
    case atStart => exact ⟨0, none, 0, 0, rfl, rfl, by omega, by omega, by omega, by show _ = _; omega, H0, by rw [List.take_zero]; exact ow.nil _ _ _ _, Below.refl _ _⟩
    case round =>
      obtain ⟨i, g, cc, a, rfl, rfl, hil, ic, cm, HKK, HA, HO, HB⟩ := hrel
      have b1 := (HB.out.cell (p := ⟨rb, 1, none⟩) HR.out.lt).trans HR.out.c1
      have hlen := HLK.out.len
      by_cases hend : i < ps.length
      · have ea : a = (pl ps i : Int) := by rw [HA.out]; unfold plI; rw [if_pos hend]
        subst ea
        obtain ⟨s, hs, e1, -, e2⟩ := HLK.out.at' i hend
        have hb := HLK.out.bnd i hend
        obtain ⟨k0, -, k2, -, -, -, -, -⟩ := HR.out.sign hs
        have gl := (HR.out.sg.lt gs rfl).2
        have k0 := (HB.out.cell (p := ⟨gs, pl ps i * 4, none⟩) gl).trans k0
        have k2 := (HB.out.cell (p := ⟨gs, pl ps i * 4 + 2, none⟩) gl).trans k2
        rw [e2] at k2
        generalize hN : nextOf ps i = nxt at *
        have HN := (show Hid (nxt = plI ps (i + 1)) from by show _ = _; rw [← hN, plI_next])
        have hx : ids.take (i + 1) = ids.take i ++ [s.id] := by
          rw [List.take_add_one, List.getElem?_eq_getElem (by omega)]
          have : ids.getD i 0 = ids[i] := by rw [List.getD_eq_getElem?_getD, List.getElem?_eq_getElem (by omega)]; rfl
          rw [← e1, this]
          rfl
        have HX := (show Hid ((ids.take (i + 1)).map iv = (ids.take i).map iv ++ [iv s.id]) from by show _ = _; rw [hx, List.map_append]; rfl)
        generalize s.id = xid at *
        generalize pl ps i = pp' at *
        have hne : ((pp' : Int) != -1) = true := bne_iff_ne.2 (by omega)
        have ba := below_alloc wr (.cells #[iv xid] 3)
        have HO1 := (show Hid ((wr.alloc (.cells #[iv xid] 3)).ownsRow W.heap.size 3 1 (.slice g i cc) i ((ids.take i).map iv)) from HO.out.alloc _)
        have b1a := (ba.cell (p := ⟨rb, 1, none⟩) (Nat.lt_of_lt_of_le HR.out.lt HB.out.size)).trans b1
        have HBA := (show Hid (W.heap.size ≤ (wr.alloc (.cells #[iv xid] 3)).heap.size) from Nat.le_trans HB.out.size ba.size)
        have HGL := (show Hid (gs < W.heap.size ∧ rb < W.heap.size) from ⟨gl, HR.out.lt⟩)
        have HBA2 := (show Hid (Below W.heap.size W (wr.alloc (.cells #[iv xid] 3))) from HB.out.trans (ba.mono HB.out.size))
        clear hs e1 e2 hN hx HA HO
        go_wp2_with (at_builtin; refine ow.wpList_append (by rfl) (.tmp 21) (.tmp 30) 25 (by rfl) 3 (.int .i64 0) 1 8 Try.underlying25 mg.info3 rfl (by omega) (by omega) W.heap.size (.slice g i cc) i ((ids.take i).map iv) wr.heap.size [iv xid] (by rfl) (by rfl) HO1.out rfl (ow.new1 wr _ 3) (ow.one1 _ rfl) (by omega) HBA.out ?_; intro g' cap' w2 h1 h2 h3; have B2 := (show Hid (Below W.heap.size W w2) from HBA2.out.grown h2 HBA2.out.size (fun k hk => (ow.lt HO1.out hk).1)); have u1 := (B2.out.cell (p := ⟨rb, 1, none⟩) HGL.out.2).trans HR.out.c1; have u2 := (B2.out.cell (p := ⟨gs, pp' * 4 + 2, none⟩) HGL.out.1).trans (((HB.out.cell (p := ⟨gs, pp' * 4 + 2, none⟩) HGL.out.1).symm).trans k2))
        obtain ⟨l1, l2⟩ : i + 1 ≤ cap' ∧ cap' ≤ 9223372036854775807 := by
          obtain ⟨_, _, e, q1, q2⟩ := ow.form h1
          cases e
          exact ⟨q1, q2⟩
        go_roundg (ps.length - (i + 1))
        case rel => exact ⟨i + 1, _, cap', nxt, rfl, rfl, by omega, l1, l2, rfl, HN, by rw [HX.out]; exact h1, B2⟩
        case measure => have := HKK.out; omega
      · have ea : a = -1 := by rw [HA.out]; unfold plI; rw [if_neg hend]
        subst ea
        have HF := (show Hid (IdsOut W ids (.returned (.slice g i cc)) wr) from by
          have o := HO.out
          rw [List.take_of_length_le (by omega)] at o
          have e : i = ids.length := by omega
          exact ⟨_, rfl, by rw [← e]; exact o, HB.out⟩)
        clear HA HO
        go_wp2_with (fail)
        go_ret
        exact HF.out
end Go.Proofs.Ytmmlibehihknbaa.en

namespace Go.Proofs.Ytmmlibehihknbaa.en
open Go.ChangeShapes Go.WideShapes Go.ChangeAt Go.RowKit Go.Shelf Go.Maps
open mg (Mg iv OkM I64 below_alloc chain rk nx joinAt joinAt_len joinAt_get app app_some app_none IntsV RowV idsOf idsOf_len idsOf_at)
open pp (Pr plt Pil cs2)
open hp (RMap Heap Mv own_keep)
set_option linter.unusedVariables false
set_option maxRecDepth 100000

def sgn (s : ByteArray) (i : Nat) : Sg := { id := (idsOf s).getD i 0, before := (i : Int) - 1, after := (i : Int) + 1, rank := 0 }
def part (s : ByteArray) (i : Nat) : List Sg := (List.range i).map (sgn s)
theorem part_len (s : ByteArray) (i : Nat) : (part s i).length = i := by simp [part]
theorem part_succ (s : ByteArray) (i : Nat) : part s (i + 1) = part s i ++ [sgn s i] := by simp [part, List.range_succ]
theorem part_at (s : ByteArray) (n i : Nat) (h : i < n) : (part s n)[i]? = some (sgn s i) := by simp [part, h]
def S0 (s : ByteArray) : List Sg := if 0 < s.size then (part s s.size).set (s.size - 1) { sgn s (s.size - 1) with after := -1 } else []
theorem S0_len (s : ByteArray) : (S0 s).length = s.size := by
  unfold S0
  split
  · simp [part_len]
  · simp; omega
theorem range_pl (n i : Nat) (h : i < n) : pl (List.range n) i = i := by
  unfold pl
  rw [List.getD_eq_getElem?_getD, List.getElem?_eq_getElem (by simpa using h)]
  simp
theorem S0_at (s : ByteArray) (i : Nat) (h : i < s.size) : (S0 s)[i]? = some { sgn s i with after := nextOf (List.range s.size) i } := by
  unfold S0
  rw [if_pos (by omega), set_at _ _ _ _ (by rw [part_len]; omega)]
  unfold nextOf
  simp only [List.length_range]
  by_cases e : s.size - 1 = i
  · rw [if_pos e, if_neg (by omega), e]
  · rw [if_neg e, if_pos (by omega), part_at _ _ _ h, range_pl _ _ (by omega)]
    rfl
theorem half0 (K : List Mg) (s : ByteArray) : Half K (S0 s) (List.range s.size) (idsOf s) [] (fun j => 0 ≤ j) := by
  refine ⟨⟨by simp [idsOf_len], fun i j h1 h2 => ?_, fun i hi => ?_, fun i hi => ?_⟩, fun i _ h => absurd (Nat.zero_le _) h, fun p z hz hd => ?_, fun i _ h => absurd (Nat.zero_le _) h, fun x hx => (by cases hx), fun h => range_pl _ _ (by simpa using h)⟩
  · simp at h2
    rw [range_pl _ _ (by omega), range_pl _ _ h2]
    exact h1
  · simp at hi
    rw [range_pl _ _ hi, S0_len]
    exact hi
  · simp at hi
    refine ⟨_, by rw [range_pl _ _ hi, S0_at s i hi], rfl, ?_, rfl⟩
    unfold prevOf
    split
    · rename_i e; subst e; rfl
    · rw [range_pl _ _ (by omega)]
      simp only [sgn]
      omega
  · exfalso
    have := (List.getElem?_eq_some_iff.1 hz).1
    rw [S0_len] at this
    exact hd p (by simpa using this) (range_pl _ _ this)
theorem allSm (s : ByteArray) : AllSm (idsOf s) := fun i hi => by
  rw [idsOf_len] at hi
  rw [idsOf_at s i hi]
  have := s[i].toNat_lt
  unfold Sm
  omega
theorem info162 : (Try.prog.info? 162).map (fun i => (i.zero, i.size, i.bytes)) = some (some (.agg #[.int .i64 0, .int .i64 0, .int .i64 0, .int .i64 0]), 4, 32) := by kernel_rfl
abbrev v4 (x : Sg) : Array Value := #[.int .i64 x.id, .int .i64 x.before, .int .i64 x.after, .int .i64 x.rank]
theorem new4 (W : World) (x : Sg) (t : TypeId) : ∀ j u, [Value.int .i64 x.id, .int .i64 x.before, .int .i64 x.after, .int .i64 x.rank][j]? = some u → (W.alloc (.cells (v4 x) t)).cell? ((⟨W.heap.size, 0, none⟩ : Addr).add j) = some u := fun j u hx => by
  rw [show ((⟨W.heap.size, 0, none⟩ : Addr).add j) = ⟨W.heap.size, j, none⟩ by unfold Addr.add; simp; omega, Lib.cell_of_heap (World.alloc_heap_new W _)]
  rw [← hx]
  simp
theorem one4 (x : Sg) : ∀ u ∈ [Value.int .i64 x.id, .int .i64 x.before, .int .i64 x.after, .int .i64 x.rank], u.oneCell' = true := fun u hu => by
  simp at hu
  rcases hu with rfl | rfl | rfl | rfl <;> rfl
/-- a sign more, and the row's cell -/
theorem Rw.more {w w2 : World} {B rb mb g cap : Nat} {vs vp : Value} {K : List Mg} {S : List Sg} {L : List Pr} {x : Sg} (h : Rw w B rb mb vs vp K S L)
    (ho : w2.ownsRow B 162 4 (.slice (some ⟨g, 0, none⟩) (S.length + 1) cap) (S.length + 1) (cs4 S ++ [.int .i64 x.id, .int .i64 x.before, .int .i64 x.after, .int .i64 x.rank])) (hg : (w.alloc (.cells (v4 x) 162)).grownBy w2 vs.ownBlock) (hw : some g = vs.ownBlock ∨ (w.alloc (.cells (v4 x) 162)).heap.size ≤ g) :
    Rw (w2.setCell ⟨rb, 1, none⟩ (.slice (some ⟨g, 0, none⟩) (S.length + 1) cap)) B rb mb (.slice (some ⟨g, 0, none⟩) (S.length + 1) cap) vp K (S ++ [x]) L ∧ Ch B w (w2.setCell ⟨rb, 1, none⟩ (.slice (some ⟨g, 0, none⟩) (S.length + 1) cap)) ∧ w2.cell? ⟨rb, 1, none⟩ = some vs ∧ w2.frozen? ⟨rb, 1, none⟩ = false := by
  have ba := (Below.refl w.heap.size w).alloc (Nat.le_refl _) (.cells (v4 x) 162)
  have kept : ∀ k, k < w.heap.size → some k ≠ vs.ownBlock → w2.heap[k]? = w.heap[k]? := fun k hk hne => (hg.block k (Nat.lt_of_lt_of_le hk ba.size) hne).trans (ba.block k hk)
  have hb2 := (kept rb h.lt h.ns).trans h.box
  have hbg : rb ≠ g := by
    intro e
    subst e
    rcases hw with e | e
    · exact h.ns e
    · have := h.lt; have := ba.size; omega
  have oth : ∀ k, k ≠ rb → (w2.setCell ⟨rb, 1, none⟩ (.slice (some ⟨g, 0, none⟩) (S.length + 1) cap)).heap[k]? = w2.heap[k]? := fun k hk => Below.heap_setCell _ _ _ _ hk
  have bx := heap_setCell_same w2 rb 1 _ 160 (.slice (some ⟨g, 0, none⟩) (S.length + 1) cap) hb2
  refine ⟨⟨by rw [bx]; rfl, ?_, own_keep h.prs fun k eg => ?_, h.map.keep ((oth mb h.nm).trans (kept mb h.map.lt h.nsm)), h.bb⟩, ⟨hg.os.trans ba.os, hg.tape.trans ba.tape, hg.output.trans ba.output, ?_, fun k hk => ?_, fun k ob h0 h1 h2 _ => ?_⟩, by rw [Lib.cell_of_heap hb2]; rfl, Lib.frozen_of_heap hb2 1⟩
  · have := own_keep ho (W' := w2.setCell ⟨rb, 1, none⟩ (.slice (some ⟨g, 0, none⟩) (S.length + 1) cap)) fun k e => oth k (by intro e'; subst e'; cases e; exact hbg rfl)
    rw [cs4_app, List.length_append]
    exact this
  · have hk := (h.prs.lt k eg).2
    exact (oth k (fun e => h.np (by rw [← e, eg]))).trans (kept k hk (fun e => h.nsp e.symm eg))
  · rw [World.size_setCell]; exact Nat.le_trans ba.size hg.size
  · have hbb := h.bb
    have hkw : k < w.heap.size := by have := h.lt; omega
    exact (oth k (by omega)).trans (kept k hkw (fun e => by have := (h.sg.lt k e.symm).1; omega))
  · have hk := (Array.getElem?_eq_some_iff.1 h0).1
    refine (oth k (fun e => ?_)).trans ((kept k hk (fun e => ?_)).trans h0)
    · subst e; rw [h.box] at h0; cases h0; exact h1 _ _ rfl
    · obtain ⟨cs, hcs⟩ := own_cells h.sg e.symm
      rw [hcs] at h0; cases h0; exact h2 _ _ rfl
/-- no sign is left: the row is used again -/
theorem Rw.none {w : World} {B rb mb : Nat} {o : Option Addr} {n cap : Nat} {vp : Value} {K : List Mg} {S : List Sg} {L : List Pr} (h : Rw w B rb mb (.slice o n cap) vp K S L) : Rw (w.setCell ⟨rb, 1, .none⟩ (.slice o 0 cap)) B rb mb (.slice o 0 cap) vp K [] L ∧ Ch B w (w.setCell ⟨rb, 1, .none⟩ (.slice o 0 cap)) := by
  have oth : ∀ k, k ≠ rb → (w.setCell ⟨rb, 1, .none⟩ (.slice o 0 cap)).heap[k]? = w.heap[k]? := fun k hk => Below.heap_setCell _ _ _ _ hk
  have bx := heap_setCell_same w rb 1 _ 160 (.slice o 0 cap) h.box
  refine ⟨⟨by rw [bx]; rfl, ?_, own_keep h.prs fun k eg => oth k (fun e => h.np (by rw [← e, eg])), h.map.keep (oth mb h.nm), h.bb⟩, rfl, rfl, rfl, by rw [World.size_setCell]; exact Nat.le_refl _, fun k hk => oth k (by have := h.bb; omega), fun k ob h0 h1 _ _ => ?_⟩
  · refine ⟨rfl, ?_⟩
    rcases h.sg.2 with ⟨e, h0⟩ | ⟨g, cp, cur, e, hb, hg, h1, h2, h3, h4⟩
    · cases e
      exact .inl ⟨rfl, rfl⟩
    · cases e
      refine .inr ⟨g, cap, cur, rfl, hb, (oth g (fun e => h.ns (by rw [← e]; rfl))).trans hg, Nat.zero_le _, h2, h3, by simp [cs4]⟩
  · refine (oth k (fun e => ?_)).trans h0
    subst e; rw [h.box] at h0; cases h0; exact h1 _ _ rfl
end Go.Proofs.Ytmmlibehihknbaa.en

namespace Go.Proofs.Ytmmlibehihknbaa.en
open Go.ChangeShapes Go.WideShapes Go.ChangeAt Go.RowKit Go.Shelf Go.Maps
open mg (Mg iv OkM I64 below_alloc chain rk nx joinAt joinAt_len joinAt_get app app_some app_none IntsV RowV idsOf idsOf_len idsOf_at)
open pp (Pr plt Pil cs2)
open hp (RMap Heap Mv own_keep)
set_option linter.unusedVariables false
set_option maxRecDepth 100000

def FillOut (W : World) (B rb mb : Nat) (K : List Mg) (s : ByteArray) (e : Ending) (W' : World) : Prop :=
  ∃ vs' vp' S L, e = .returned (.tuple #[]) ∧ Rw W' B rb mb vs' vp' K S L ∧ Inv K S (List.range s.size) (idsOf s) L ∧ Heap plt L ∧ L.length ≤ s.size ∧ S.length = s.size ∧ Ch B W W'
theorem Half.mono {K : List Mg} {S : List Sg} {ps : List Nat} {ids : List Int} {L : List Pr} {X Y : Nat → Prop} (h : Half K S ps ids L X) (hXY : ∀ j, X j → Y j) : Half K S ps ids L Y :=
  ⟨h.lk, fun i hi hn => h.rank i hi (fun hx => hn (hXY i hx)), h.dead, fun i hi hn => h.pile i hi (fun hx => hn (hXY i hx)), h.pok, h.first⟩
set_option maxHeartbeats 4000000 in
theorem fill_any {W : World} {B rb mb : Nat} {vs vp : Value} {K : List Mg} {So : List Sg} (h : Rw W B rb mb vs vp K So []) (hB : B ≤ W.heap.size) (hK : K.length ≤ 1024) (s : ByteArray) (hs : s.size ≤ 300000) :
    Calls Try.prog 92 #[.pointer (some ⟨rb, 0, none⟩), .string s] W (FillOut W B rb mb K s) := by
  obtain ⟨o, cap, hv, o1, o2⟩ := ow.form h.sg
  subst hv
  have hc1 := h.c1
  have hf1 := h.fz 1
  obtain ⟨R1, C1⟩ := h.none
  have HR1 := (show Hid _ from R1)
  have HC1 := (show Hid (Ch B W (W.setCell ⟨rb, 1, none⟩ (.slice o 0 cap))) from C1)
  clear h R1 C1
  generalize So.length = no at *
  go_enter Try.func92, Try.ntmps92
  go_wp2_with (fail)
  generalize W.setCell ⟨rb, 1, none⟩ (.slice o 0 cap) = w1 at *
  clear hc1 hf1
  go_loopw [16] (fun y wr => ∃ (i : Nat) (vs : Value), y = .int .i64 i ∧ i ≤ s.size ∧ Hid (Rw wr B rb mb vs vp K (part s i) []) ∧ Hid (Ch B W wr)) (fun y _ => s.size - (intOf y).toNat)
  case atStart => exact ⟨0, _, rfl, by omega, HR1, HC1⟩
  case round =>
    clear HR1 HC1
    obtain ⟨i, vs, rfl, hil, HR, HC⟩ := hrel
    by_cases hend : i < s.size
    · have hc1 := HR.out.c1
      have hf1 := HR.out.fz 1
      have h256 : s[i].toNat < 256 := s[i].toNat_lt
      have HX := (show Hid (sgn s i = { id := (s[i].toNat : Int), before := (i : Int) - 1, after := (i : Int) + 1, rank := 0 }) from by show _ = _; unfold sgn; rw [idsOf_at s i hend])
      have ba := below_alloc wr (.cells #[.int .i64 (s[i].toNat : Int), .int .i64 ((i : Int) - 1), .int .i64 ((i : Int) + 1), .int .i64 0] 162)
      have HBw : Hid (B ≤ (wr.alloc (.cells #[.int .i64 (s[i].toNat : Int), .int .i64 ((i : Int) - 1), .int .i64 ((i : Int) + 1), .int .i64 0] 162)).drew.heap.size) := Nat.le_trans hB (Nat.le_trans HC.out.size ba.size)
      have hc2 := (ba.cell (p := ⟨rb, 1, none⟩) HR.out.lt).trans hc1
      have HO : Hid ((wr.alloc (.cells #[.int .i64 (s[i].toNat : Int), .int .i64 ((i : Int) - 1), .int .i64 ((i : Int) + 1), .int .i64 0] 162)).drew.ownsRow B 162 4 vs i (cs4 (part s i))) := by
        have := (HR.out.sg.alloc (.cells #[.int .i64 (s[i].toNat : Int), .int .i64 ((i : Int) - 1), .int .i64 ((i : Int) + 1), .int .i64 0] 162)).drew
        rw [part_len] at this
        exact this
      have HN : Hid (∀ j u, [Value.int .i64 (s[i].toNat : Int), .int .i64 ((i : Int) - 1), .int .i64 ((i : Int) + 1), .int .i64 0][j]? = some u → (wr.alloc (.cells #[.int .i64 (s[i].toNat : Int), .int .i64 ((i : Int) - 1), .int .i64 ((i : Int) + 1), .int .i64 0] 162)).drew.cell? ((⟨wr.heap.size, 0, none⟩ : Addr).add j) = some u) := new4 wr { id := (s[i].toNat : Int), before := (i : Int) - 1, after := (i : Int) + 1, rank := 0 } 162
      have HM : Hid (∀ (g cp : Nat) (w2 : World), w2.ownsRow B 162 4 (.slice (some ⟨g, 0, none⟩) (i + 1) cp) (i + 1) (cs4 (part s i) ++ [.int .i64 (s[i].toNat : Int), .int .i64 ((i : Int) - 1), .int .i64 ((i : Int) + 1), .int .i64 0]) → (wr.alloc (.cells #[.int .i64 (s[i].toNat : Int), .int .i64 ((i : Int) - 1), .int .i64 ((i : Int) + 1), .int .i64 0] 162)).drew.grownBy w2 vs.ownBlock → (some g = vs.ownBlock ∨ (wr.alloc (.cells #[.int .i64 (s[i].toNat : Int), .int .i64 ((i : Int) - 1), .int .i64 ((i : Int) + 1), .int .i64 0] 162)).drew.heap.size ≤ g) → Rw (w2.setCell ⟨rb, 1, none⟩ (.slice (some ⟨g, 0, none⟩) (i + 1) cp)) B rb mb (.slice (some ⟨g, 0, none⟩) (i + 1) cp) vp K (part s (i + 1)) [] ∧ Ch B wr (w2.setCell ⟨rb, 1, none⟩ (.slice (some ⟨g, 0, none⟩) (i + 1) cp)) ∧ w2.cell? ⟨rb, 1, none⟩ = some vs ∧ w2.frozen? ⟨rb, 1, none⟩ = false) := fun g cp w2 a1 a2 a3 => by
        have := HR.out.more (w2 := w2) (g := g) (cap := cp) (x := { id := (s[i].toNat : Int), before := (i : Int) - 1, after := (i : Int) + 1, rank := 0 }) (by rw [part_len]; exact a1) ⟨a2.os, a2.tape, a2.output, a2.size, a2.block⟩ a3
        rw [part_len] at this
        rw [part_succ, HX.out]
        exact this
      generalize hb0 : s[i].toNat = b0 at *
      clear ba
      have hw0 : IntKind.i64.wrap (b0 : Int) = (b0 : Int) := IntWalk.i64_in _ (by omega)
      have hw1 : IntKind.i64.wrap ((i : Int) - 1) = (i : Int) - 1 := IntWalk.i64_in _ (by omega)
      have hw2 : IntKind.i64.wrap ((i : Int) + 1) = (i : Int) + 1 := IntWalk.i64_in _ (by omega)
      go_wp2_with (fail)
      go_region_law (refine ow.step_append (by rfl) (.tmp 23) (.tmp 33) 155 (by rfl) 162 (.agg #[.int .i64 0, .int .i64 0, .int .i64 0, .int .i64 0]) 4 32 Try.underlying155 info162 rfl (by omega) (by omega) B vs i (cs4 (part s i)) wr.heap.size [.int .i64 (b0 : Int), .int .i64 ((i : Int) - 1), .int .i64 ((i : Int) + 1), .int .i64 0] (by rfl) (by rfl) HO.out rfl HN.out (one4 { id := (b0 : Int), before := (i : Int) - 1, after := (i : Int) + 1, rank := 0 }) (by omega) HBw.out ?_; intro g' cap' w2 h1 h2 h3; obtain ⟨p1, p2, p3, p4⟩ := HM.out g' cap' w2 h1 h2 h3)
      all_goals (
        have HC3 := (show Hid (Ch B W (w2.setCell ⟨rb, 1, none⟩ (.slice (some ⟨g', 0, none⟩) (i + 1) cap'))) from HC.out.trans p2)
        have HP1 := (show Hid _ from p1)
        clear HO HN HM HBw HX p1 p2 p3 p4 h1 h2 h3 hc1 hc2 hf1 hw0 hw1 hw2 hb0 h256
        go_wp2_with (fail)
        go_roundw
        case rel => exact ⟨i + 1, _, by go_num, by omega, HP1, HC3⟩
        case measure => simp [intOf]; omega)
    · have e : i = s.size := by omega
      subst e
      rcases hn0 : s.size with _ | n
      · have e0 : S0 s = [] := by unfold S0; rw [if_neg (by omega)]
        obtain ⟨o', cap', hv, q1, q2⟩ := ow.form HR.out.sg
        rw [part_len, hn0] at hv q1
        subst hv
        have hc1 := HR.out.c1
        have HR2 := (show Hid (Rw wr B rb mb (.slice o' 0 cap') vp K (S0 s) []) from by
          have := HR.out
          rw [hn0] at this
          rw [e0]
          exact this)
        have HC2 := HC
        have HN0 := (show Hid (s.size = 0) from hn0)
        have hz : decide (0 < s.size) = false := decide_eq_false (by omega)
        have hz2 : ¬ 0 < s.size := by omega
        clear HR HC e0 hil hend hn0
        go_wp2_with (fail)
        go_loopw [55] (fun y wz => y = .int .i64 0 ∧ Hid (Rw wz B rb mb (.slice o' 0 cap') vp K (S0 s) []) ∧ Hid (Ch B W wz)) (fun y _ => 0)
        case atStart => exact ⟨rfl, HR2, HC2⟩
        case round =>
          clear HR2 HC2
          obtain ⟨rfl, HR, HC⟩ := hrel
          have HF := (show Hid (FillOut W B rb mb K s (.returned (.tuple #[])) wr) from ⟨_, vp, S0 s, [], rfl, HR.out, (half0 K s).inv (fun x hx hx2 => by have := HN0.out; simp at hx; omega), Heap.nil, by simp, S0_len s, HC.out⟩)
          clear HR HC
          go_wp2_with (fail)
          first | go_end0 | refine bodyPost_ret (results_none rfl _ _ _) rfl ?_
          exact HF.out
      · have HN0 := (show Hid (s.size = n + 1) from hn0)
        have hnn : n + 1 ≤ 300000 := by omega
        have R0 := HR.out
        rw [hn0] at R0
        obtain ⟨gs, cap', hv⟩ := R0.full (by rw [part_len]; omega)
        rw [part_len] at hv
        subst hv
        have hpn := part_at s (n + 1) n (by omega)
        obtain ⟨k0, k1, k2, k3, kf, -, q1, q2⟩ := R0.sign hpn
        have kf2 := kf (n * 4 + 2)
        have hc1 := R0.c1
        obtain ⟨R2, C2⟩ := R0.put (n * 4 + 2) (.int .i64 (-1)) (S' := S0 s) (by rw [S0_len, part_len, hn0]) (by
          rw [(cs4_set _ n _ hpn (-1)).2.2.1]
          unfold S0
          rw [if_pos (by omega), hn0]
          rfl)
        have HR2 := (show Hid (Rw (wr.setCell ⟨gs, n * 4 + 2, none⟩ (.int .i64 (-1))) B rb mb (.slice (some ⟨gs, 0, none⟩) (n + 1) cap') vp K (S0 s) []) from R2)
        have HC2 := (show Hid (Ch B W (wr.setCell ⟨gs, n * 4 + 2, none⟩ (.int .i64 (-1)))) from HC.out.trans C2)
        have hc2 := R2.c1
        have hz2 : 0 < s.size := by omega
        have hsw : IntKind.i64.wrap ((s.size : Int) - 1) = (n : Int) := by rw [hn0, show ((n + 1 : Nat) : Int) - 1 = (n : Int) by omega]; exact IntWalk.i64_in _ (by omega)
        clear HR HC hil hend hn0 R0 R2 C2 k0 k1 k3 kf hpn
        go_wp2_with (fail)
        rw [show (((n + 1 : Nat)) : Int) = (n : Int) + 1 from rfl]
        go_loopw [55] (fun y wz => ∃ (j : Nat) (vp' : Value) (S' : List Sg) (L' : List Pr), y = .int .i64 j ∧ j ≤ n + 1 ∧ Hid (Rw wz B rb mb (.slice (some ⟨gs, 0, none⟩) (n + 1) cap') vp' K S' L') ∧ Hid (Half K S' (List.range s.size) (idsOf s) L' (fun x => j ≤ x)) ∧ Hid (Heap plt L') ∧ Hid (L'.length ≤ j) ∧ Hid (S'.length = s.size) ∧ Hid (Ch B W wz)) (fun y _ => n + 1 - (intOf y).toNat)
        case atStart => exact ⟨0, vp, S0 s, [], rfl, by omega, HR2, half0 K s, Heap.nil, by show _ ≤ _; simp, S0_len s, HC2⟩
        case round =>
          clear HR2 HC2
          obtain ⟨j, vp2, S2, L2, rfl, hj, HR, HH, HP, HL, HN, HC⟩ := hrel
          by_cases he2 : j < n + 1
          · have he3 : j < s.size := by rw [HN0.out]; exact he2
            have c38 := look_alive HR.out (Nat.le_trans hB HC.out.size) HP.out (by have := HL.out; omega) (by rw [HN.out]; omega) hK HH.out (allSm s) (i := j) (by simpa using he3)
            rw [range_pl _ _ he3] at c38
            clear he3
            go_wp2_with (go_at_call 98; refine c38.mono ?_; rintro e w3 ⟨vp3, S3, L3, rfl, r3, H3, q3, l3, n3, ch3⟩)
            go_roundw
            case rel => exact ⟨j + 1, vp3, S3, L3, by go_num, by omega, r3, H3.mono (fun x hx => by have := hx.1; have := hx.2; omega), q3, by show _ ≤ _; have := HL.out; omega, n3.trans HN.out, HC.out.trans ch3⟩
            case measure => simp [intOf]; omega
          · have HF := (show Hid (FillOut W B rb mb K s (.returned (.tuple #[])) wr) from ⟨_, vp2, S2, L2, rfl, HR.out, HH.out.inv (fun x hx hx2 => by have := HN0.out; simp at hx; omega), HP.out, by have := HN0.out; have := HL.out; omega, HN.out, HC.out⟩)
            clear HR HH HP HL HN HC
            go_wp2_with (fail)
            first | go_end0 | refine bodyPost_ret (results_none rfl _ _ _) rfl ?_
            exact HF.out
end Go.Proofs.Ytmmlibehihknbaa.en
