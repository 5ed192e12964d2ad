/-
  Contracts over this program: newRewriter, the walk.
-/
import Derived.Test.YtlmodfeiphffcaaM15
namespace Go.Proofs.Ytlmodfeiphffcaa.wr
open Go.ChangeShapes Go.WideShapes Go.ChangeAt Go.RowKit Go.Shelf Go.Maps
open tr
open mk (law9 OkT kt key9 kt_inj map_keep)
open ru (Ru Rus nth)
open ru.rw (waits whole)
set_option linter.unusedVariables false
set_option maxRecDepth 100000

theorem nw_start (w : World) (lv : Value) (l : List Ru) (h : Rus w lv l) : Nw w.heap.size (w.heap.size + 2) l lv w.heap.size (w.heap.size + 1) 0 (.map []) (((w.alloc (.map #[] 0)).alloc (.map #[] 0)).alloc (.cells #[lv, .map (some w.heap.size), .map (some (w.heap.size + 1))] 98)) := by
  have s1 : (w.alloc (.map #[] 0)).heap.size = w.heap.size + 1 := by simp
  have s2 : ((w.alloc (.map #[] 0)).alloc (.map #[] 0)).heap.size = w.heap.size + 2 := by simp
  have m1 : (w.alloc (.map #[] 0)).ownsMap Try.prog 9 RS w.heap.size 0 (.map []) := World.ownsMap_made _ _ _ _
  have m2 : ((w.alloc (.map #[] 0)).alloc (.map #[] 0)).ownsMap Try.prog 9 RF (w.alloc (.map #[] 0)).heap.size 0 (.map []) := World.ownsMap_made _ _ _ _
  rw [s1] at m2
  have b : Below w.heap.size w (((w.alloc (.map #[] 0)).alloc (.map #[] 0)).alloc (.cells #[lv, .map (some w.heap.size), .map (some (w.heap.size + 1))] 98)) := ru.chain (ru.chain (below_alloc w _) (below_alloc _ _)) (below_alloc _ _)
  refine ⟨?_, ⟨w, h, rfl, b⟩, (m1.alloc _).alloc _, ⟨_, m2.alloc _, ?_⟩, by omega, by omega, by omega, by omega⟩
  · have := World.alloc_heap_new ((w.alloc (.map #[] 0)).alloc (.map #[] 0)) (.cells #[lv, .map (some w.heap.size), .map (some (w.heap.size + 1))] 98)
    rw [s2] at this
    exact this
  · exact ⟨List.nodup_nil, (fun u hu => by cases hu), (fun u hu => ⟨(fun h => by simp [Maps.has] at h), (fun h => by cases h)⟩), (fun u hu => by cases hu)⟩
theorem st_start : IsSt [] (.map []) := IsSt.none (fun u hu => rfl)
def NewRw (l : List Ru) (lv : Value) (w : World) (e : Ending) (W : World) : Prop := ∃ rb sm fm, e = .returned (.pointer (some ⟨rb, 0, none⟩)) ∧ Rw w.heap.size rb l lv sm fm W ∧ Below w.heap.size w W
theorem once_take {l : List Ru} (hg : ru.Good l) {i : Nat} (hi : i < l.length) : ∀ r' ∈ l.take i, r'.f ≠ (nth l i).f := by
  intro r' hr e
  have h1 : (l.map Ru.f).Nodup := hg.2.2
  have h2 := List.take_append_drop i l
  rw [← h2, ru.drop_nth l i hi, List.map_append, List.nodup_append] at h1
  exact h1.2.2 _ (List.mem_map.2 ⟨r', hr, rfl⟩) _ (List.mem_map.2 ⟨nth l i, List.mem_cons_self, rfl⟩) e
theorem rus_form {w : World} {lv : Value} {l : List Ru} (h : Rus w lv l) : ∃ o cap, lv = .slice o l.length cap := by
  rcases h with ⟨rfl, a, cap, rfl⟩ | ⟨b, off, cap, rfl, _⟩
  · exact ⟨a, cap, rfl⟩
  · exact ⟨_, cap, rfl⟩
theorem rus_at {w : World} {o : Option Addr} {cap : Nat} {l : List Ru} (h : Rus w (.slice o l.length cap) l) {i : Nat} (hi : i < l.length) : ∃ b off, o = some ⟨b, off, none⟩ ∧ b < w.heap.size ∧ w.cell? ⟨b, off + i * 2, none⟩ = some (.string (nth l i).fr) ∧ w.cell? ⟨b, off + i * 2 + 1, none⟩ = some (.string (nth l i).to) := by
  rcases h with ⟨rfl, _⟩ | ⟨b, off, cap', e, h1, h2, h3, h4⟩
  · simp at hi
  · obtain ⟨rfl, _, rfl⟩ : o = some ⟨b, off, none⟩ ∧ l.length = l.length ∧ cap = cap' := by simpa using e
    exact ⟨b, off, rfl, h3, h4 i hi⟩
/-- the block of what a text is, filled -/
theorem set3 {W : World} {g : Nat} {a b c u v : Value} (h : W.heap[g]? = some (.cells #[a, b, c] 100 (0, 0))) : ((W.setCell ⟨g, 1, none⟩ u).setCell ⟨g, 2, none⟩ v).heap[g]? = some (.cells #[a, u, v] 100 (0, 0)) := by
  simp [World.setCell, Array.getElem?_modify, h]
theorem set1' {W : World} {g : Nat} {a b c u : Value} (h : W.heap[g]? = some (.cells #[a, b, c] 100 (0, 0))) : (W.setCell ⟨g, 1, none⟩ u).heap[g]? = some (.cells #[a, u, c] 100 (0, 0)) := by
  simp [World.setCell, Array.getElem?_modify, h]
theorem set1 {W : World} {g : Nat} {a b c u : Value} (h : W.heap[g]? = some (.cells #[a, b, c] 100 (0, 0))) : (W.setCell ⟨g, 0, none⟩ u).heap[g]? = some (.cells #[u, b, c] 100 (0, 0)) := by
  simp [World.setCell, Array.getElem?_modify, h]
theorem Nw.set {B rb : Nat} {l : List Ru} {lv : Value} {sm fm n : Nat} {D : DataW Unit} {W : World} (h : Nw B rb l lv sm fm n D W) {ib : Nat} {cs : Array Value} {fr : Nat × Nat} (hi : W.heap[ib]? = some (.cells cs 100 fr)) (hb : B ≤ ib) (k : Nat) (v : Value) : Nw B rb l lv sm fm n D (W.setCell ⟨ib, k, none⟩ v) := by
  obtain ⟨w0, r1, r2, r3⟩ := h.rus
  obtain ⟨D', f1, f2⟩ := h.fl
  have n1 : rb ≠ ib := fun e => by have := h.box; rw [e, hi] at this; cases this
  have n2 : sm ≠ ib := fun e => by obtain ⟨es, c, h1, _⟩ := h.st; rw [e, hi] at h1; cases h1
  have n3 : fm ≠ ib := fun e => by obtain ⟨es, c, h1, _⟩ := f1; rw [e, hi] at h1; cases h1
  have bl : Below B W (W.setCell ⟨ib, k, none⟩ v) := ⟨rfl, rfl, rfl, by simp, fun g hg => Below.heap_setCell _ _ _ _ (by show g ≠ ib; omega)⟩
  exact ⟨(Below.heap_setCell _ _ _ _ n1).trans h.box, ⟨w0, r1, r2, r3.trans bl⟩, map_same h.st (Below.heap_setCell _ _ _ _ n2), ⟨D', map_same f1 (Below.heap_setCell _ _ _ _ n3), f2⟩, h.bb, h.bs, h.bf, h.ne⟩
theorem below_set {B : Nat} {w W : World} (h : Below B w W) {ib : Nat} (hb : B ≤ ib) (k : Nat) (v : Value) : Below B w (W.setCell ⟨ib, k, none⟩ v) :=
  ⟨h.os, h.tape, h.output, by simpa using h.size, fun g hg => (Below.heap_setCell _ _ _ _ (by show g ≠ ib; omega)).trans (h.block g hg)⟩
theorem below_grown {B sm : Nat} {w W W' : World} (h : Below B w W) (hs : B ≤ sm) (hB : B ≤ W.heap.size) (hg : W.grownBy W' (some sm)) : Below B w W' :=
  ⟨hg.os.trans h.os, hg.tape.trans h.tape, hg.output.trans h.output, Nat.le_trans h.size hg.size, fun g hk => (hg.block g (by omega) (fun e => by have := Option.some.inj e; omega)).trans (h.block g hk)⟩
theorem map_obj {R : Value → Option (DataW Unit × List MemPlace)} {W : World} {b n : Nat} {D : DataW Unit} (h : W.ownsMap Try.prog 9 R b n D) {g : Nat} {cs : Array Value} {T : TypeId} {fr : Nat × Nat} (hg : W.heap[g]? = some (.cells cs T fr)) : g ≠ b := fun e => by
  obtain ⟨es, c, h1, _⟩ := h
  rw [e, h1] at hg
  cases hg
set_option maxHeartbeats 8000000 in
theorem newrw_any (l : List Ru) (hg : ru.Good l) (lv : Value) (w : World) (hR : Rus w lv l) : Calls Try.prog 33 #[lv] w (NewRw l lv w) := by
  have HN0 := (show Hid (Nw w.heap.size (w.heap.size + 2) l lv w.heap.size (w.heap.size + 1) 0 (.map []) (((w.alloc (.map #[] 0)).alloc (.map #[] 0)).alloc (.cells #[lv, .map (some w.heap.size), .map (some (w.heap.size + 1))] 98))) from nw_start w lv l hR)
  have hm1 := make95n
  have hm2 := make96n
  have hl64 := hg.1
  have B0 : Below w.heap.size w (((w.alloc (.map #[] 0)).alloc (.map #[] 0)).alloc (.cells #[lv, .map (some w.heap.size), .map (some (w.heap.size + 1))] 98)) := ru.chain (ru.chain (below_alloc w _) (below_alloc _ _)) (below_alloc _ _)
  obtain ⟨o, cap, rfl⟩ := rus_form hR
  have HG := (show Hid (ru.Good l) from hg)
  clear hR hg
  go_enter Try.func33, Try.ntmps33
  go_wp2_with (fail)
  obtain ⟨rb, HRB⟩ : ∃ rb, Hid (rb = w.heap.size + 2) := ⟨_, rfl⟩
  obtain ⟨sm, HSM⟩ : ∃ sm, Hid (sm = w.heap.size) := ⟨_, rfl⟩
  obtain ⟨fm, HFM⟩ : ∃ fm, Hid (fm = w.heap.size + 1) := ⟨_, rfl⟩
  rw [show w.heap.size + 1 + 1 = rb from by rw [HRB.out]]
  go_loopw [16] (fun y wr => ∃ (i n : Nat) (D : DataW Unit), y = .int .i64 (i : Int) ∧ i ≤ l.length ∧ n ≤ 17 * i ∧ Hid (Nw w.heap.size rb l (.slice o l.length cap) sm fm n D wr) ∧ Hid (IsSt (l.take i) D) ∧ Below w.heap.size w wr) (fun y _ => l.length - (intOf y).toNat)
  case atStart => exact ⟨0, 0, .map [], rfl, by omega, by omega, by rw [HRB.out, HSM.out, HFM.out]; exact HN0, by rw [List.take_zero]; exact st_start, B0⟩
  case round =>
    clear HN0 B0 hm1 hm2
    obtain ⟨i, n, D, rfl, hil, hn, HN, HS, hB⟩ := hrel
    by_cases hlt : i < l.length
    · obtain ⟨b, off, ho, hbl, h0, h1⟩ := rus_at HN.out.rules hlt
      obtain ⟨p1, p2, p3⟩ := HG.out.pos (ru.nth_mem l i hlt)
      have ht := ru.take_nth l i hlt
      have hnew := once_take HG.out hlt
      have HT := (show Hid (l.take (i + 1) = l.take i ++ [nth l i]) from ht)
      have hk := HS.out
      generalize hr : nth l i = r at *
      obtain ⟨fr, to⟩ := r
      have hfl := list_len fr
      have HF : Hid (fr.data.toList = Ru.f ⟨fr, to⟩) := show _ = _ from rfl
      have hfs : fr.size ≤ 16 := by rw [← hfl]; exact p2
      have hts : to.size ≤ 32 := by rw [← list_len to]; exact p3
      have hOk : OkT fr := by unfold OkT; omega
      have HOK := (show Hid (OkT fr) from hOk)
      have HNEW := (show Hid (∀ r' ∈ l.take i, r'.f ≠ Ru.f ⟨fr, to⟩) from hnew)
      -- the rule's own block
      obtain ⟨w1, HW1⟩ : ∃ w1, Hid (w1 = wr.alloc (.cells #[.string fr, .string to] 39)) := ⟨_, rfl⟩
      obtain ⟨ob, HOB⟩ : ∃ ob, Hid (ob = wr.heap.size) := ⟨_, rfl⟩
      have b1 : Below wr.heap.size wr w1 := by rw [HW1.out]; exact below_alloc wr _
      have N1 := HN.out.later b1
      have HO1 : Hid (w1.heap[ob]? = some (.cells #[.string fr, .string to] 39 (0, 0))) := show _ = _ from by rw [HOB.out, HW1.out]; exact World.alloc_heap_new wr _
      have B1 : Below w.heap.size w w1 := hB.trans (b1.mono hB.size)
      obtain ⟨x0, y0, t0, HX0, hat⟩ : ∃ (x0 y0 : Bool) (t0 : List UInt8), Hid (x0 = waits (l.take i) fr.data.toList) ∧ D.atKey (kt fr) (eS false false []) = eS x0 y0 t0 := ⟨_, _, _, rfl, HS.out fr hOk⟩
      have bz := below_alloc w1 (.cells #[.bool false, .bool false, .string ⟨#[]⟩] 100)
      have hlk0 := N1.look fr hOk hat
      have hlk1 := (N1.later (Below.drew (Below.refl _ w1))).look fr hOk hat
      have hlk2 := (N1.later (Below.drew bz)).look fr hOk hat
      have d1 := N1.c1
      have d2 := (N1.later bz).c1
      have o1 : w1.cell? ⟨ob, 0, none⟩ = some (.string fr) := by rw [Lib.cell_of_heap HO1.out]; rfl
      have hol := (Array.getElem?_eq_some_iff.1 HO1.out).1
      have o2 : (w1.alloc (.cells #[.bool false, .bool false, .string ⟨#[]⟩] 100)).cell? ⟨ob, 0, none⟩ = some (.string fr) := (bz.cell (p := ⟨ob, 0, none⟩) hol).trans o1
      have HN1 := (show Hid (Nw w.heap.size rb l (.slice o l.length cap) sm fm n D w1) from N1)
      generalize tr.bs t0 = tt0 at *
      have hOB := HOB.out
      have hW1 := HW1.out
      clear hr ht hnew hk p1 p2 p3 N1 hat bz
      rw [ho]
      have HOO : Hid (o = some ⟨b, off, none⟩) := ho
      clear ho
      go_wp2_with (fail)
      rw [← hW1, ← hOB]
      clear hW1 hOB h0 h1
      go_region
      all_goals
        obtain ⟨w2, HW2⟩ : ∃ w2, Hid (w2 = (w1.alloc (.cells #[.bool x0, .bool y0, .string tt0] 100)).drew) := ⟨_, rfl⟩
        obtain ⟨ib, HIB⟩ : ∃ ib, Hid (ib = w1.heap.size) := ⟨_, rfl⟩
        rw [← HW2.out, ← HIB.out]
        have b2 : Below w1.heap.size w1 w2 := by rw [HW2.out]; exact Below.drew (below_alloc w1 _)
        have HN2 := (show Hid (Nw w.heap.size rb l (.slice o l.length cap) sm fm n D w2) from HN1.out.later b2)
        have HI2 := (show Hid (w2.heap[ib]? = some (.cells #[.bool x0, .bool y0, .string tt0] 100 (0, 0))) from by show _ = _; rw [HIB.out, HW2.out]; exact World.alloc_heap_new w1 _)
        have HO2 := (show Hid (w2.heap[ob]? = some (.cells #[.string fr, .string to] 39 (0, 0))) from (b2.block ob hol).trans HO1.out)
        have HB2 := (show Hid (Below w.heap.size w w2) from B1.trans (b2.mono B1.size))
        have q0 : w2.cell? ⟨ob, 1, none⟩ = some (.string to) := by rw [Lib.cell_of_heap HO2.out]; rfl
        have q1 : w2.cell? ⟨ib, 1, none⟩ = some (.bool y0) := by rw [Lib.cell_of_heap HI2.out]; rfl
        have q2 : w2.cell? ⟨ib, 2, none⟩ = some (.string tt0) := by rw [Lib.cell_of_heap HI2.out]; rfl
        have q3 : w2.frozen? ⟨ib, 1, none⟩ = false := Lib.frozen_of_heap HI2.out 1
        have q4 : w2.frozen? ⟨ib, 2, none⟩ = false := Lib.frozen_of_heap HI2.out 2
        have hne : ob ≠ ib := fun e => by have := HO2.out; rw [e, HI2.out] at this; cases this
        have q5 : (w2.setCell ⟨ib, 1, none⟩ (.bool true)).cell? ⟨ob, 1, none⟩ = some (.string to) := by rw [Lib.cell_of_heap ((Below.heap_setCell _ _ _ _ hne).trans HO2.out)]; rfl
        have HNE := (show Hid (ob ≠ ib) from hne)
        clear hne
        have HIBB := (show Hid (w.heap.size ≤ ib) from by show _ ≤ _; rw [HIB.out]; exact B1.size)
        clear hlk0 hlk1 hlk2 d1 d2 o1 o2 hol HN1 HO1 B1 b2 b1 HW2 HIB HW1 HOB HN hB
        go_wp2_with (fail)
        go_region
        obtain ⟨w3, HW3⟩ : ∃ w3, Hid (w3 = ((w2.setCell ⟨ib, 1, none⟩ (.bool true)).setCell ⟨ib, 2, none⟩ (.string to)).drew) := ⟨_, rfl⟩
        rw [← HW3.out]
        have k1 := set1' (u := .bool true) HI2.out
        have HN3 := (show Hid (Nw w.heap.size rb l (.slice o l.length cap) sm fm n D w3) from by
          show Nw _ _ _ _ _ _ _ _ _
          rw [HW3.out]
          exact ((HN2.out.set HI2.out HIBB.out 1 (.bool true)).set k1 HIBB.out 2 (.string to)).later (Below.drew (Below.refl _ _)))
        have HI3 := (show Hid (w3.heap[ib]? = some (.cells #[.bool x0, .bool true, .string to] 100 (0, 0))) from by show _ = _; rw [HW3.out]; exact set3 HI2.out)
        have HO3 := (show Hid (w3.heap[ob]? = some (.cells #[.string fr, .string to] 39 (0, 0))) from by show _ = _; rw [HW3.out]; exact (Below.heap_setCell _ _ _ _ HNE.out).trans ((Below.heap_setCell _ _ _ _ HNE.out).trans HO2.out))
        have HB3 := (show Hid (Below w.heap.size w w3) from by show Below _ _ _; rw [HW3.out]; exact (below_set (below_set HB2.out HIBB.out 1 _) HIBB.out 2 _).drew)
        clear HW3 HN2 HI2 HO2 HB2 q0 q1 q2 q3 q4 q5 k1
        have d1 := HN3.out.c1
        have o1 : w3.cell? ⟨ob, 0, none⟩ = some (.string fr) := by rw [Lib.cell_of_heap HO3.out]; rfl
        have i0 : w3.cell? ⟨ib, 0, none⟩ = some (.bool x0) := by rw [Lib.cell_of_heap HI3.out]; rfl
        have i1 : w3.cell? ⟨ib, 1, none⟩ = some (.bool true) := by rw [Lib.cell_of_heap HI3.out]; rfl
        have i2 : w3.cell? ⟨ib, 2, none⟩ = some (.string to) := by rw [Lib.cell_of_heap HI3.out]; rfl
        obtain ⟨w4, hup, N4, g4⟩ := (HN3.out.later (Below.drew (Below.refl _ w3))).upd (by omega) fr HOK.out x0 true to
        have HN4 := (show Hid (Nw w.heap.size rb l (.slice o l.length cap) sm fm (n + 1) (D.put (kt fr) (eS x0 true to.data.toList)) w4) from N4)
        have HP4 := (show Hid (IsPa (l.take i) ⟨fr, to⟩ 0 (D.put (kt fr) (eS x0 true to.data.toList))) from by
          show IsPa _ _ _ _
          rw [HX0.out]
          exact HS.out.start (HN3.out.st.tidy law9) fr HOK.out rfl HNEW.out trivial)
        have HO4 := (show Hid (w4.heap[ob]? = some (.cells #[.string fr, .string to] 39 (0, 0))) from (g4.block ob (Array.getElem?_eq_some_iff.1 HO3.out).1 (fun e => map_obj HN3.out.st HO3.out (Option.some.inj e))).trans HO3.out)
        have HB4 := (show Hid (Below w.heap.size w w4) from below_grown HB3.out.drew HN3.out.bs HN3.out.hb g4)
        clear N4 g4
        generalize D.put (kt fr) (eS x0 true to.data.toList) = D4 at *
        go_wp2_with (fail)
        go_region
        have o4 : w4.cell? ⟨ob, 0, none⟩ = some (.string fr) := by rw [Lib.cell_of_heap HO4.out]; rfl
        clear d1 o1 i0 i1 i2 hup HN3 HI3 HO3 HB3 HNE HX0 HNEW
        go_wp2_with (fail)
        go_loopw [41] (fun y wq => ∃ (m n : Nat) (D : DataW Unit), y = .int .i64 (m : Int) ∧ m ≤ fr.size ∧ n ≤ 17 * i + 1 + m ∧ Hid (Nw w.heap.size rb l (.slice o l.length cap) sm fm n D wq) ∧ Hid (IsPa (l.take i) ⟨fr, to⟩ m D) ∧ Hid (wq.heap[ob]? = some (.cells #[.string fr, .string to] 39 (0, 0))) ∧ Hid (Below w.heap.size w wq)) (fun y _ => fr.size - (intOf y).toNat)
        case atStart => exact ⟨0, n + 1, D4, rfl, by omega, by omega, HN4, HP4, HO4, HB4⟩
        case round =>
          clear HN4 HP4 HO4 HB4 o4
          rename_i wr0
          obtain ⟨m, n5, D5, rfl, hm, hn5, HN5, HP5, HO5, HB5⟩ := hrel
          have o5 : wr.cell? ⟨ob, 0, none⟩ = some (.string fr) := by rw [Lib.cell_of_heap HO5.out]; rfl
          by_cases hml : m < fr.size
          · have hOk5 : OkT (fr.extract 0 m) := by unfold OkT; rw [ByteArray.size_extract]; omega
            have HOK5 := (show Hid (OkT (fr.extract 0 m)) from hOk5)
            obtain ⟨x1, y1, t1, HY1, hat⟩ : ∃ (x1 y1 : Bool) (t1 : List UInt8), Hid (y1 = (whole (l.take i ++ [⟨fr, to⟩]) (fr.extract 0 m).data.toList).isSome ∧ t1 = toOf (l.take i ++ [⟨fr, to⟩]) (fr.extract 0 m).data.toList) ∧ D5.atKey (kt (fr.extract 0 m)) (eS false false []) = eS x1 y1 t1 := ⟨_, _, _, ⟨rfl, rfl⟩, HP5.out _ hOk5⟩
            have bz := below_alloc wr (.cells #[.bool false, .bool false, .string ⟨#[]⟩] 100)
            have hlk0 := HN5.out.look _ hOk5 hat
            have hlk1 := (HN5.out.later (Below.drew (Below.refl _ wr))).look _ hOk5 hat
            have hlk2 := (HN5.out.later (Below.drew bz)).look _ hOk5 hat
            have d1 := HN5.out.c1
            have d2 := (HN5.out.later bz).c1
            have hol := (Array.getElem?_eq_some_iff.1 HO5.out).1
            have o2 : (wr.alloc (.cells #[.bool false, .bool false, .string ⟨#[]⟩] 100)).cell? ⟨ob, 0, none⟩ = some (.string fr) := (bz.cell (p := ⟨ob, 0, none⟩) hol).trans o5
            have HTT := (show Hid ((tr.bs t1).data.toList = t1) from rfl)
            generalize tr.bs t1 = tt1 at *
            clear hat bz
            have g1 : (m : Int) ≤ (fr.size : Int) := by omega
            go_wp2_with (fail)
            go_region
            all_goals
              obtain ⟨w6, HW6⟩ : ∃ w6, Hid (w6 = (wr.alloc (.cells #[.bool x1, .bool y1, .string tt1] 100)).drew) := ⟨_, rfl⟩
              obtain ⟨jb, HJB⟩ : ∃ jb, Hid (jb = wr.heap.size) := ⟨_, rfl⟩
              rw [← HW6.out, ← HJB.out]
              have b6 : Below wr.heap.size wr w6 := by rw [HW6.out]; exact Below.drew (below_alloc wr _)
              have HN6 := (show Hid (Nw w.heap.size rb l (.slice o l.length cap) sm fm n5 D5 w6) from HN5.out.later b6)
              have HI6 := (show Hid (w6.heap[jb]? = some (.cells #[.bool x1, .bool y1, .string tt1] 100 (0, 0))) from by show _ = _; rw [HJB.out, HW6.out]; exact World.alloc_heap_new wr _)
              have HO6 := (show Hid (w6.heap[ob]? = some (.cells #[.string fr, .string to] 39 (0, 0))) from (b6.block ob hol).trans HO5.out)
              have HB6 := (show Hid (Below w.heap.size w w6) from HB5.out.trans (b6.mono HB5.out.size))
              have HJBB := (show Hid (w.heap.size ≤ jb) from by show _ ≤ _; rw [HJB.out]; exact HB5.out.size)
              have HNE := (show Hid (ob ≠ jb) from fun e => by have := HO6.out; rw [e, HI6.out] at this; cases this)
              have q1 : w6.cell? ⟨jb, 0, none⟩ = some (.bool x1) := by rw [Lib.cell_of_heap HI6.out]; rfl
              have q3 : w6.frozen? ⟨jb, 0, none⟩ = false := Lib.frozen_of_heap HI6.out 0
              obtain ⟨w7, HW7⟩ : ∃ w7, Hid (w7 = w6.setCell ⟨jb, 0, none⟩ (.bool true)) := ⟨_, rfl⟩
              have HN7 := (show Hid (Nw w.heap.size rb l (.slice o l.length cap) sm fm n5 D5 w7) from by show Nw _ _ _ _ _ _ _ _ _; rw [HW7.out]; exact HN6.out.set HI6.out HJBB.out 0 _)
              have HI7 := (show Hid (w7.heap[jb]? = some (.cells #[.bool true, .bool y1, .string tt1] 100 (0, 0))) from by show _ = _; rw [HW7.out]; exact set1 HI6.out)
              have HO7 := (show Hid (w7.heap[ob]? = some (.cells #[.string fr, .string to] 39 (0, 0))) from by show _ = _; rw [HW7.out]; exact (Below.heap_setCell _ _ _ _ HNE.out).trans HO6.out)
              have HB7 := (show Hid (Below w.heap.size w w7) from by show Below _ _ _; rw [HW7.out]; exact below_set HB6.out HJBB.out 0 _)
              clear hlk0 hlk1 hlk2 d1 d2 o2 o5 hol HN5 HO5 HB5 b6 HW6 HJB HN6 HI6 HO6 HB6
              have d1 := HN7.out.c1
              have o1 : w7.cell? ⟨ob, 0, none⟩ = some (.string fr) := by rw [Lib.cell_of_heap HO7.out]; rfl
              have i0 : w7.cell? ⟨jb, 0, none⟩ = some (.bool true) := by rw [Lib.cell_of_heap HI7.out]; rfl
              have i1 : w7.cell? ⟨jb, 1, none⟩ = some (.bool y1) := by rw [Lib.cell_of_heap HI7.out]; rfl
              have i2 : w7.cell? ⟨jb, 2, none⟩ = some (.string tt1) := by rw [Lib.cell_of_heap HI7.out]; rfl
              obtain ⟨w8, hup, N8, g8⟩ := (HN7.out.later (Below.drew (Below.refl _ w7))).upd (by omega) (fr.extract 0 m) HOK5.out true y1 tt1
              have HN8 := (show Hid (Nw w.heap.size rb l (.slice o l.length cap) sm fm (n5 + 1) (D5.put (kt (fr.extract 0 m)) (eS true y1 tt1.data.toList)) w8) from N8)
              have HP8 := (show Hid (IsPa (l.take i) ⟨fr, to⟩ (m + 1) (D5.put (kt (fr.extract 0 m)) (eS true y1 tt1.data.toList))) from by
                show IsPa _ _ _ _
                rw [HTT.out, HY1.out.1, HY1.out.2]
                exact HP5.out.put (HN7.out.st.tidy law9) (fr.extract 0 m) HOK5.out (by simp [Ru.f]) (by rw [Ru.f_len]; exact hml) trivial)
              have HO8 := (show Hid (w8.heap[ob]? = some (.cells #[.string fr, .string to] 39 (0, 0))) from (g8.block ob (Array.getElem?_eq_some_iff.1 HO7.out).1 (fun e => map_obj HN7.out.st HO7.out (Option.some.inj e))).trans HO7.out)
              have HB8 := (show Hid (Below w.heap.size w w8) from below_grown HB7.out.drew HN7.out.bs HN7.out.hb g8)
              clear N8 g8
              generalize D5.put (kt (fr.extract 0 m)) (eS true y1 tt1.data.toList) = D8 at *
              have hW7 := HW7.out
              go_wp2_with (fail)
              rw [← hW7]
              clear hW7 q1 q3
              go_region
              clear d1 o1 i0 i1 i2 hup HN7 HI7 HO7 HB7 HNE HY1 HW7
              go_wp2_with (fail)
              go_roundw
              case rel => exact ⟨m + 1, n5 + 1, D8, by go_num, by omega, by omega, HN8, HP8, HO8, HB8⟩
              case measure => simp [intOf]; omega
          · have em : m = fr.size := by omega
            have HS9 := (show Hid (IsSt (l.take (i + 1)) D5) from by
              show IsSt _ _
              rw [HT.out]
              have := HP5.out
              rw [em] at this
              exact IsPa.all (r := ⟨fr, to⟩) (by rw [Ru.f_len]; exact this))
            have hb5 := HB5.out
            clear em
            go_wp2_with (fail)
            go_roundw
            case rel => exact ⟨i + 1, n5, D5, by go_num, by omega, by omega, (by have := HN5.out; rw [HOO.out] at this; exact this), HS9, hb5⟩
            case measure => simp [intOf]; omega
    · have ei : i = l.length := by omega
      have HRw := (show Hid (Rw w.heap.size rb l (.slice o l.length cap) sm fm wr) from HN.out.rw' (by omega) (by have := HS.out; rw [ei, List.take_length] at this; exact this))
      clear ei
      go_wp2_with (fail)
      go_ret
      exact ⟨rb, sm, fm, rfl, HRw.out, hB⟩
end Go.Proofs.Ytlmodfeiphffcaa.wr
