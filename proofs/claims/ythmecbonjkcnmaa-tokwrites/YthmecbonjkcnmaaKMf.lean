/-
  Contracts over this program: merge.Right; the document's Texts (fretsawref13).
-/
import Derived.Test.YthmecbonjkcnmaaKMe
namespace Go.Proofs.Ythmecbonjkcnmaa.mg
open Go.ChangeShapes Go.WideShapes Go.ChangeAt Go.RowKit Go.Shelf Go.Maps
set_option linter.unusedVariables false

theorem right_any (l : List Mg) (v : Value) (w : World) (hv : Mgs w v l) : Calls Try.prog 24 #[v] w fun e w' => e = .returned (.int .i64 (errOf l : Int)) ∧ Below w.heap.size w w' := by
  have h8 := texts_any l v w hv
  obtain ⟨o, cap, rfl, hl, hm, hc⟩ := hv.form
  clear hv hc
  go_enter Try.func24, Try.ntmps24
  go_wp2_with (go_at_call 27; refine h8.mono ?_; rintro e w1 ⟨v', rfl, h1, b1⟩)
  go_ret
  exact ⟨rfl, b1⟩

structure RI (w : World) (l : List Mg) (i : Nat) (tv : Value) (ts : List ByteArray) (W : World) : Prop where
  own : W.ownsRow w.heap.size 9 1 tv ts.length (ts.map Value.string)
  fine : Fine (l.take i) ts
  go : run 256 (bytesT 256) l = run 256 ts (l.drop i)
  below : Below w.heap.size w W
section
variable {w W W' : World} {i : Nat} {l : List Mg} {tv : Value} {ts : List ByteArray}
theorem RI.later (h : RI w l i tv ts W) (b : Below W.heap.size W W') : RI w l i tv ts W' :=
  ⟨ow.later h.own b, h.fine, h.go, h.below.trans (b.mono h.below.size)⟩
theorem RI.bad (h : RI w l i tv ts W) (hl : l.length ≤ 1024) (hi : i < l.length) (hn : ¬ Ok 256 ts l[i]) : errOf l = 130 ∧ textsOf l = [] := by
  have e : run 256 (bytesT 256) l = none := by
    rw [h.go, List.drop_eq_getElem_cons hi, run, if_neg hn]
  unfold errOf textsOf
  simp only [if_neg (show ¬ 1024 < l.length by omega), e]
  exact ⟨rfl, rfl⟩
theorem RI.done (h : RI w l i tv ts W) (hl : l.length ≤ 1024) (hi : ¬ i < l.length) : errOf l = 0 ∧ textsOf l = ts := by
  have e : run 256 (bytesT 256) l = some ts := by
    rw [h.go, List.drop_eq_nil_of_le (by omega), run]
  unfold errOf textsOf
  simp only [if_neg (show ¬ 1024 < l.length by omega), e]
  exact ⟨rfl, rfl⟩
theorem RI.step (h : RI w l i tv ts W) (hi : i < l.length) (hk : Ok 256 ts l[i]) {tv' : Value} (ho : W'.ownsRow w.heap.size 9 1 tv' (ts.length + 1) (ts.map Value.string ++ [.string (txt ts l[i])]))
    (hb : Below w.heap.size w W') : RI w l (i + 1) tv' (ts ++ [txt ts l[i]]) W' := by
  refine ⟨?_, ?_, ?_, hb⟩
  · rw [List.length_append, List.map_append]
    exact ho
  · rw [List.take_add_one, List.getElem?_eq_getElem hi]
    exact h.fine.push hk
  · rw [h.go, List.drop_eq_getElem_cons hi, run, if_pos hk]
theorem RI.start (h : RI w l i tv ts W) (hi : i ≤ l.length) : ∃ (i' : Nat) (ts : List ByteArray) (tg : Option Addr) (tc : Nat), Value.int .i64 (i : Int) = .int .i64 (i' : Int) ∧ tv = .slice tg ts.length tc ∧ i' ≤ l.length ∧ ts.length ≤ tc ∧ tc ≤ 9223372036854775807 ∧ Hid (RI w l i' (.slice tg ts.length tc) ts W) := by
  obtain ⟨tg, tc, e, h1, h2⟩ := ow.form h.own
  subst e
  exact ⟨i, ts, tg, tc, rfl, rfl, hi, h1, h2, h⟩
end
theorem own_start {w W : World} {n : Nat} {tv : Value} (h : W.ownsRow w.heap.size 9 1 tv n ((bytesT n).map Value.string)) (hb : Below w.heap.size w W) (hn : n ≤ 256) : ∃ (i : Nat) (tg : Option Addr) (tc : Nat), Value.int .i64 (n : Int) = .int .i64 (i : Int) ∧ tv = .slice tg i tc ∧ i ≤ 256 ∧ i ≤ tc ∧ tc ≤ 9223372036854775807 ∧ Hid (W.ownsRow w.heap.size 9 1 (.slice tg i tc) i ((bytesT i).map Value.string)) ∧ Below w.heap.size w W := by
  obtain ⟨tg, tc, e, h1, h2⟩ := ow.form h
  subst e
  exact ⟨n, tg, tc, rfl, rfl, hn, h1, h2, h, hb⟩
def Not (ts : List ByteArray) (t : ByteArray) (j : Nat) : Prop := ∀ k (h : k < ts.length), 256 ≤ k → k < j → ts[k] ≠ t
theorem Not.all {ts : List ByteArray} {t : ByteArray} (h : Not ts t ts.length) : t ∉ ts.drop 256 := by
  intro hm
  obtain ⟨k, hk, e⟩ := List.mem_iff_getElem.1 hm
  rw [List.getElem_drop] at e
  rw [List.length_drop] at hk
  exact h (256 + k) (by omega) (by omega) (by omega) e
theorem Not.no {ts : List ByteArray} {t : ByteArray} {j : Nat} (h : j < ts.length) (h2 : 256 ≤ j) (e : ts[j] = t) : t ∈ ts.drop 256 := by
  refine List.mem_iff_getElem.2 ⟨j - 256, by rw [List.length_drop]; omega, ?_⟩
  rw [List.getElem_drop]
  simp only [show 256 + (j - 256) = j by omega]
  exact e

set_option maxHeartbeats 4000000 in
set_option maxRecDepth 100000 in
theorem rtexts_any (l : List Mg) (v : Value) (w : World) (hv : Mgs w v l) : Calls Try.prog 18 #[v] w (TextsOut l w) := by
  obtain ⟨o, cap, rfl, hl, hm, hc⟩ := hv.form
  by_cases hlong : 1024 < l.length
  · have HO : Hid (TextsOut l w (.returned (.tuple #[.slice none 0 0, .int .i64 2])) w) := by
      refine ⟨.slice none 0 0, ?_, ?_, Below.refl _ _⟩
      · unfold errOf; rw [if_pos hlong]; rfl
      · unfold textsOf; rw [if_pos hlong]; exact ⟨rfl, .inl ⟨rfl, rfl⟩⟩
    clear hv hc
    go_enter Try.func18, Try.ntmps18
    go_wp2_with (fail)
    go_ret2
    exact HO.out
  · have hl2 : l.length ≤ 1024 := by omega
    have HC := (show Hid _ from hc)
    clear hv hc
    have O0 := World.ownsRow_made (e := 9) (size := 1) w #[] 0 (Nat.le_refl _) (Nat.zero_le _) rfl
    have BB0 := below_alloc w (.cells #[] 9)
    go_enter Try.func18, Try.ntmps18
    go_wp2_with (fail)
    generalize w.alloc (.cells #[] 9) = w1 at *
    go_loopw [5, 4] (fun y x wr => ∃ (i : Nat) (tg : Option Addr) (tc : Nat), y = .int .i64 i ∧ x = .slice tg i tc ∧ i ≤ 256 ∧ i ≤ tc ∧ tc ≤ 9223372036854775807 ∧ Hid (wr.ownsRow w.heap.size 9 1 (.slice tg i tc) i ((bytesT i).map Value.string)) ∧ Below w.heap.size w wr) (fun y _ _ => 256 - (intOf y).toNat)
    case atStart => exact own_start (n := 0) O0 BB0 (by omega)
    case round =>
      obtain ⟨b, tg, tc, rfl, rfl, hb, tf1, tf2, HO, hB⟩ := hrel
      by_cases hend : b < 256
      · have hcv := conv_byte wr b hend
        have B1 := below_alloc wr (.cells #[.int .u8 (b : Int)] 5)
        have HO1 := (show Hid _ from ow.later HO.out B1)
        have hB1 := hB.alloc hB.size (.cells #[.int .u8 (b : Int)] 5)
        generalize hw5 : wr.alloc (.cells #[.int .u8 (b : Int)] 5) = w5 at *
        have HO2 := (show Hid _ from ow.later HO1.out (below_alloc w5 (.cells #[.string (oneB b)] 9)))
        have HN2 := (show Hid _ from ow.new1 w5 (.string (oneB b)) 9)
        have hB2 := hB1.alloc hB1.size (.cells #[.string (oneB b)] 9)
        have hBw : w.heap.size ≤ (w5.alloc (.cells #[.string (oneB b)] 9)).heap.size := hB2.size
        clear HO O0
        go_wp2_with (at_builtin; refine ow.wpList_append (by rfl) (.tmp 18) (.tmp 23) 31 (by rfl) 9 (.string ⟨#[]⟩) 1 16 Try.underlying31 info9 (by rfl) (by decide) (by decide) w.heap.size (.slice tg b tc) b ((bytesT b).map Value.string) w5.heap.size [.string (oneB b)] (by rfl) (by rfl) (by exact HO2.out) (by rfl) (by exact HN2.out) (by exact ow.one1 _ rfl) (by omega) (by exact hBw) ?_; intro g' cap' w3 ho hgr hw3)
        have B4 : Below w.heap.size w w3 := hB2.grown hgr hB2.size (by intro k hk; exact (ow.lt HO2.out hk).1)
        have ho2 : w3.ownsRow w.heap.size 9 1 (.slice (some ⟨g', 0, none⟩) (b + 1) cap') (b + 1) ((bytesT (b + 1)).map Value.string) := by
          rw [bytesT_succ, List.map_append]; exact ho
        go_roundw
        case rel => exact own_start (n := b + 1) ho2 B4 (by omega)
        case measure => simp [intOf]; omega
      · have R0 : RI w l 0 (.slice tg b tc) (bytesT 256) wr := by
          have e : b = 256 := by omega
          subst e
          refine ⟨?_, ?_, by rw [List.drop_zero], hB⟩
          · rw [bytesT_len]; exact HO.out
          · rw [List.take_zero]; exact fine_nil
        clear HO O0 BB0 hB
        go_wp2_with (fail)
        generalize wr = wq at *
        go_loopw [27, 4] (fun y x wr => ∃ (i : Nat) (ts : List ByteArray) (tg : Option Addr) (tc : Nat), y = .int .i64 i ∧ x = .slice tg ts.length tc ∧ i ≤ l.length ∧ ts.length ≤ tc ∧ tc ≤ 9223372036854775807 ∧ Hid (RI w l i (.slice tg ts.length tc) ts wr)) (fun y _ _ => l.length - (intOf y).toNat)
        case atStart => exact R0.start (by omega)
        case round =>
          clear R0
          obtain ⟨i, ts, tg, tc, rfl, rfl, hil, tf1, tf2, HT⟩ := hrel
          by_cases hend : i < l.length
          · obtain ⟨g, off, rfl, hlt, c1, c2⟩ := HC.out i hend
            have hB := HT.out.below
            have k1 := (hB.cell (p := ⟨g, off + i * 2, none⟩) hlt).trans c1
            have k2 := (hB.cell (p := ⟨g, off + i * 2 + 1, none⟩) hlt).trans c2
            have hle := HT.out.fine.len
            rw [List.length_take, Nat.min_eq_left hil] at hle
            have HLE : Hid (ts.length = 256 + i) := hle
            have HBAD : Hid (¬ Ok 256 ts l[i] → errOf l = 130 ∧ textsOf l = []) := HT.out.bad hl2 hend
            have HSTEP := (show Hid (∀ W', Ok 256 ts l[i] → ∀ tv', _ → _ → RI w l (i + 1) tv' (ts ++ [txt ts l[i]]) W') from fun W' hk tv' h1 h4 => HT.out.step hend hk h1 h4)
            generalize l[i] = m at *
            obtain ⟨x, y⟩ := m
            simp only at k1 k2
            obtain ⟨wA, HWA⟩ : ∃ wA, Hid (wA = wr.alloc (.cells #[.int .i64 x, .int .i64 y] 73)) := ⟨_, rfl⟩
            have BA : Below wr.heap.size wr wA := by rw [HWA.out]; exact below_alloc _ _
            have hA : wA.heap[wr.heap.size]? = some (.cells #[.int .i64 x, .int .i64 y] 73 (0, 0)) := by rw [HWA.out]; exact heap_alloc_new wr _
            have a0 : wA.cell? ⟨wr.heap.size, 0, none⟩ = some (.int .i64 x) := by rw [Lib.cell_of_heap hA]; rfl
            have a1 : wA.cell? ⟨wr.heap.size, 1, none⟩ = some (.int .i64 y) := by rw [Lib.cell_of_heap hA]; rfl
            have HTA := (show Hid _ from HT.out.later BA)
            have HBA : Hid (Below w.heap.size w (wr.alloc (.cells #[.int .i64 x, .int .i64 y] 73))) := by rw [← HWA.out]; exact HTA.out.below
            clear c1 c2 HT hA HC
            by_cases hx0 : x < 0
            · have HO := (show Hid _ from TextsOut.bad (HBAD.out (fun h => by have := h.1.1; omega)) HBA.out)
              clear HBAD HSTEP hle HWA
              go_wp2_with (fail)
              go_ret2
              exact HO.out
            by_cases hx1 : 255 + (i : Int) < x
            · have HO := (show Hid _ from TextsOut.bad (HBAD.out (fun h => by have := h.1.2; omega)) HBA.out)
              clear HBAD HSTEP hle HWA
              go_wp2_with (fail)
              go_ret2
              exact HO.out
            by_cases hy0 : y < 0
            · have HO := (show Hid _ from TextsOut.bad (HBAD.out (fun h => by have := h.2.1.1; omega)) HBA.out)
              clear HBAD HSTEP hle HWA
              go_wp2_with (fail)
              go_ret2
              exact HO.out
            by_cases hy1 : 255 + (i : Int) < y
            · have HO := (show Hid _ from TextsOut.bad (HBAD.out (fun h => by have := h.2.1.2; omega)) HBA.out)
              clear HBAD HSTEP hle HWA
              go_wp2_with (fail)
              go_ret2
              exact HO.out
            have hx : InR x ts.length := by unfold InR; omega
            have hy : InR y ts.length := by unfold InR; omega
            have htl : ts.length ≤ 1280 := by omega
            obtain ⟨x1, rfl⟩ : ∃ x1 : Nat, x = (x1 : Int) := ⟨x.toNat, by omega⟩
            obtain ⟨y1, rfl⟩ : ∃ y1 : Nat, y = (y1 : Int) := ⟨y.toNat, by omega⟩
            have hx2 : x1 < ts.length := by omega
            have hy2 : y1 < ts.length := by omega
            clear hle
            go_wp2_with (fail)
            rw [← HWA.out]
            generalize wr.heap.size = ag at *
            clear HWA BA hB k1 k2 HBA
            obtain ⟨g1, cap1, e1, hg1, d1⟩ := ow.cell HTA.out.own x1 (by rw [List.length_map]; exact hx2)
            obtain ⟨g2, cap2, e2, hg2, d2⟩ := ow.cell HTA.out.own y1 (by rw [List.length_map]; exact hy2)
            obtain ⟨rfl, rfl⟩ : tg = some ⟨g1, 0, none⟩ ∧ tc = cap1 := by simpa using e1
            obtain ⟨rfl, rfl⟩ : g1 = g2 ∧ tc = cap2 := by simpa using e2
            rw [List.getElem_map] at d1 d2
            have HTX := (show Hid _ from txt_at hx2 hy2)
            have HBAD2 : Hid (64 < (ts[x1] ++ ts[y1]).size ∨ ts[x1] ++ ts[y1] ∈ ts.drop 256 → errOf l = 130 ∧ textsOf l = []) := fun h => HBAD.out (fun k => by
              have k3 := k.2.2
              rw [HTX.out] at k3
              rcases h with h | h
              · omega
              · exact k3.2 h)
            have HOK : Hid ((ts[x1] ++ ts[y1]).size ≤ 64 → ts[x1] ++ ts[y1] ∉ ts.drop 256 → Ok 256 ts ((x1 : Int), (y1 : Int))) := fun h1 h2 => ⟨hx, hy, by rw [HTX.out]; exact h1, by rw [HTX.out]; exact h2⟩
            have hs1 := (HTA.out.fine.size _ (List.getElem_mem hx2)).2
            have hs2 := (HTA.out.fine.size _ (List.getElem_mem hy2)).2
            rw [HTX.out] at HSTEP
            clear HTX hx hy HBAD e1 e2
            generalize ts[x1] = t1 at *
            generalize ts[y1] = t2 at *
            go_quiet (fail)
            have HT2 := (show Hid _ from HTA.out.later (below_drewN (Below.refl _ _) nq))
            clear HTA a0 a1 d1 d2 hg1 hg2
            generalize wA.drewN nq = wB at *
            generalize t1 ++ t2 = t at *
            have HBB : Hid (Below w.heap.size w wB) := HT2.out.below
            by_cases hsz : 64 < t.size
            · have HO := (show Hid _ from TextsOut.bad (HBAD2.out (.inl hsz)) HBB.out)
              clear HBAD2 HOK HSTEP HT2
              go_wp2_with (fail)
              go_ret2
              exact HO.out
            have hn64 : ¬ (64 : Int) < (t.size : Int) := by omega
            go_wp2_with (fail)
            clear HBB hs1 hs2
            go_loopw [9] (fun y wr => ∃ (j : Nat), y = .int .i64 j ∧ 256 ≤ j ∧ j ≤ ts.length ∧ Hid (Not ts t j) ∧ wr = wB) (fun y _ => ts.length - (intOf y).toNat)
            case atStart => exact ⟨256, rfl, Nat.le_refl _, by have := HLE.out; omega, fun k h h1 h2 => by omega, rfl⟩
            case round =>
              obtain ⟨j, rfl, hj0, hj, HN, rfl⟩ := hrel
              by_cases hje : j < ts.length
              · obtain ⟨g2, cap2, e2, hg2, d2⟩ := ow.cell HT2.out.own j (by rw [List.length_map]; exact hje)
                obtain ⟨rfl, rfl⟩ : g1 = g2 ∧ tc = cap2 := by simpa using e2
                rw [List.getElem_map] at d2
                have HNX := (show Hid (ts[j] ≠ t → Not ts t (j + 1)) from fun h k h1 h2 h3 => by
                  by_cases e : k = j
                  · subst e; exact h
                  · exact HN.out k h1 h2 (by omega))
                have HIN := (show Hid (ts[j] = t → t ∈ ts.drop 256) from fun e => Not.no hje hj0 e)
                generalize ts[j] = q at *
                clear e2 HN
                by_cases he : q = t
                · have hq : (q.toList == t.toList) = true := by rw [he]; simp
                  have HO := (show Hid _ from TextsOut.bad (HBAD2.out (.inr (HIN.out he))) HT2.out.below)
                  clear HBAD2 HOK HSTEP HT2 HNX HIN he
                  go_wp2_with (fail)
                  go_ret2
                  exact HO.out
                · have hq : (q.toList == t.toList) = false := by
                    rw [beq_eq_false_iff_ne, ByteArray.toList_eq, ByteArray.toList_eq]
                    exact fun e => he (ba_ext e)
                  have HN2 := (show Hid _ from HNX.out he)
                  clear he HNX HIN
                  go_wp2_with (fail)
                  go_roundw
                  case rel => exact ⟨j + 1, by go_num, by omega, by omega, HN2.out, trivial⟩
                  case measure => simp [intOf]; omega
              · obtain rfl : j = ts.length := by omega
                have HOK2 := (show Hid _ from HOK.out (by omega) HN.out.all)
                have HOUT := (show Hid _ from fun W' => HSTEP.out W' HOK2.out)
                have HO2 := (show Hid _ from ow.later HT2.out.own (below_alloc wr (.cells #[.string t] 9)))
                have HN2 := (show Hid _ from ow.new1 wr (.string t) 9)
                have B3 := HT2.out.below.alloc HT2.out.below.size (.cells #[.string t] 9)
                have hBw : w.heap.size ≤ (wr.alloc (.cells #[.string t] 9)).heap.size := B3.size
                clear HBAD2 HOK HSTEP HOK2 HN
                go_wp2_with (at_builtin; refine ow.wpList_append (by rfl) (.tmp 80) (.tmp 82) 31 (by rfl) 9 (.string ⟨#[]⟩) 1 16 Try.underlying31 info9 (by rfl) (by decide) (by decide) w.heap.size (.slice (some ⟨g1, 0, none⟩) ts.length tc) ts.length (ts.map Value.string) wr.heap.size [.string t] (by rfl) (by rfl) (by exact HO2.out) (by rfl) (by exact HN2.out) (by exact ow.one1 _ rfl) (by omega) (by exact hBw) ?_; intro g' cap' w3 ho hgr hw3)
                have B4 : Below w.heap.size w w3 := B3.grown hgr B3.size (by intro k hk; exact (ow.lt HO2.out hk).1)
                have T := HOUT.out w3 _ ho B4
                go_roundw
                case rel => exact T.start (by omega)
                case measure => simp [intOf]; omega
          · obtain ⟨e1, e2⟩ := HT.out.done hl2 hend
            have HO : Hid (TextsOut l w (.returned (.tuple #[.slice tg ts.length tc, .int .i64 0])) wr) := ⟨_, by rw [e1]; rfl, by rw [e2]; exact HT.out.own, HT.out.below⟩
            clear HT HC e1 e2
            go_wp2_with (fail)
            go_ret2
            exact HO.out
end Go.Proofs.Ythmecbonjkcnmaa.mg
