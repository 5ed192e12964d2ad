/-
  Contracts over this program: the classes of a list of sets (set.Classes).
-/
import Derived.Test.YtfpihoghpogblaaDiff
namespace Go.Proofs.Ytfpihoghpogblaa.st
open Go.Sort Go.ChangeShapes Go.WideShapes Go.ChangeAt Go.RowKit Go.Maps
set_option linter.unusedVariables false

theorem Sets.kept {w w' : World} {v : Value} {l : List Q4} {k : Nat} (h : Sets w v l) (t : w.grownBy w' (some k)) (hk : ∀ i x, w.cell? ⟨k, i, none⟩ ≠ some (.int .u64 x)) : Sets w' v l := by
  rcases h with h | ⟨b, off, cap, hv, hl, hm, hlt, hc⟩
  · exact .inl h
  · by_cases e : b = k
    · subst e
      refine .inr ⟨b, off, cap, hv, hl, hm, Nat.lt_of_lt_of_le hlt t.size, fun i hi => ?_⟩
      exact absurd (hc i hi).1 (hk _ _)
    · have hb : w'.heap[b]? = w.heap[b]? := t.block b hlt (fun e2 => e (Option.some.inj e2))
      refine .inr ⟨b, off, cap, hv, hl, hm, Nat.lt_of_lt_of_le hlt t.size, fun i hi => ?_⟩
      have h1 := hc i hi
      refine ⟨?_, ?_, ?_, ?_⟩
      · rw [World.cell?_of_block (w := w) (a := ⟨b, off + i * 4, none⟩) hb]; exact h1.1
      · rw [World.cell?_of_block (w := w) (a := ⟨b, off + i * 4 + 1, none⟩) hb]; exact h1.2.1
      · rw [World.cell?_of_block (w := w) (a := ⟨b, off + i * 4 + 2, none⟩) hb]; exact h1.2.2.1
      · rw [World.cell?_of_block (w := w) (a := ⟨b, off + i * 4 + 3, none⟩) hb]; exact h1.2.2.2
theorem Arr.not64 {w : World} {g : Nat} {xs : List Nat} (h : Arr w g xs) : ∀ i x, w.cell? ⟨g, i, none⟩ ≠ some (.int .u64 x) := by
  intro i x e
  rw [Lib.cell_of_heap h.1] at e
  simp [cells36] at e
theorem map_not64 {w : World} {b n : Nat} {D : DataW Unit} (h : w.ownsMap Try.prog 9 (plainElem Try.prog 3) b n D) : ∀ i x, w.cell? ⟨b, i, none⟩ ≠ some (.int .u64 x) := by
  intro i x e
  obtain ⟨es, clock, hb, _⟩ := h
  simp [World.cell?, hb] at e
theorem Arr.grown {w w' : World} {g k : Nat} {xs : List Nat} (h : Arr w g xs) (t : w.grownBy w' (some k)) (hne : g ≠ k) : Arr w' g xs := ⟨by rw [t.block g h.lt (fun e => hne (Option.some.inj e))]; exact h.1, h.2⟩

theorem law9 : Keyed Try.prog 9 := string_keyed Try.underlying9
theorem zero3 (w : World) : (zeroValue 3).run Try.prog w = .ok (.int .i64 0) w := by kernel_rfl

theorem key_like (m : List Q4) (b c : Nat) : (key m b = key m c) ↔ like m b c = true := by
  rw [key_eq]
  simp [like]
structure MInv (m : List Q4) (D : DataW Unit) (L : List Nat) : Prop where
  size : Maps.size D = L.length
  has : ∀ b, Maps.has D (.string (key m b)) = L.any (fun c => like m b c)
  at' : ∀ b, L.any (fun c => like m b c) = true → D.atKey (.string (key m b)) (.lit (.int .i64 0)) = .lit (.int .i64 (L.findIdx (fun c => like m b c) : Nat))
theorem minv_start (m : List Q4) : MInv m (.map []) [] := ⟨rfl, fun b => rfl, fun b h => by simp at h⟩
theorem minv_put {m : List Q4} {D : DataW Unit} {L : List Nat} {i : Nat} (h : MInv m D L) (hT : Tidy D) (hi : L.any (fun c => like m i c) = false) : MInv m (D.put (.string (key m i)) (.lit (.int .i64 (L.length : Nat)))) (L ++ [i]) := by
  have hno : Maps.has D (.string (key m i)) = false := by rw [h.has i]; exact hi
  refine ⟨?_, ?_, ?_⟩
  · rw [size_put hT, hno, h.size]
    simp
  · intro b
    rw [List.any_append]
    by_cases e : key m b = key m i
    · rw [e, has_put_same hT.isMap (show WideAt.IsKeyLit (.string _) from trivial)]
      have := (key_like m b i).1 e
      simp [this]
    · rw [has_put_other (fun e2 => e (Lit.string.inj e2)), h.has b]
      have : like m b i = false := by
        cases hb : like m b i
        · rfl
        · exact absurd ((key_like m b i).2 hb) e
      simp [this]
  · intro b hany
    by_cases e : key m b = key m i
    · rw [e, atKey_put_same hT.isMap (show WideAt.IsKeyLit (.string _) from trivial)]
      have hs := (key_eq m b i).1 e
      have hfn : L.findIdx (fun c => like m b c) = L.length := by
        have : ¬ L.findIdx (fun c => like m b c) < L.length := by
          rw [List.findIdx_lt_length]
          rintro ⟨x, hx, hpx⟩
          have h2 := List.any_eq_false.1 hi x hx
          apply h2
          unfold like at hpx ⊢
          rw [← hs]
          exact hpx
        have h3 : L.findIdx (fun c => like m b c) ≤ L.length := List.findIdx_le_length
        omega
      rw [List.findIdx_append, hfn, if_neg (by omega)]
      have h1 := (key_like m b i).1 e
      simp [List.findIdx_cons, h1]
    · have hl : like m b i = false := by
        cases hb : like m b i
        · rfl
        · exact absurd ((key_like m b i).2 hb) e
      rw [List.any_append] at hany
      simp [hl] at hany
      have hany2 : L.any (fun c => like m b c) = true := by
        rw [List.any_eq_true]
        exact hany
      rw [atKey_put_other (fun e2 => e (Lit.string.inj e2)), h.at' b hany2, List.findIdx_append, if_pos (List.findIdx_lt_length.2 (List.any_eq_true.1 hany2))]

theorem at_same {d : DataW Unit} {f : Nat} {c : Int} (h : d = .lit (.int .i64 (f : Nat))) (h2 : d = .lit (.int .i64 c)) : c = (f : Int) := by
  rw [h] at h2
  simp at h2
  exact h2.symm

def ClassesIs (l : List Q4) (xs : List Nat) (n : Nat) : Prop := ∀ v w, Sets w v l → Calls Try.prog 23 #[v] w fun e w' => e = .returned (.tuple #[.agg (cells36 xs), .int .i64 n]) ∧ Below w.heap.size w w'

set_option maxHeartbeats 2000000 in
set_option maxRecDepth 100000 in
theorem classes_any (l : List Q4) (hf : ∀ q ∈ l, Fits q) (hlen : l.length ≤ 1000000) : ClassesIs l (tbl (like l) 256) (repsBy (like l) 256).length := by
  intro v w hv
  have hz := zero36
  have hcs := cells36_size noughts rfl
  have hst := store36 w (.cells (cells36 noughts) 36) noughts noughts rfl rfl
  have hmm := @run_makeMap Try.prog
  have hd := diff_any l hf hlen
  have hmf : ∀ q ∈ diff [] l, Fits q := fun q hq => by
    rcases (mem_diff l [] q).1 hq with h | h
    · simp at h
    · exact hf q h
  have hml : (diff [] l).length ≤ 1000000 := by have := diff_length l []; simp at this; omega
  have HLK : Hid (like (diff [] l) = like l) := by show _ = _; funext b c; exact like_diff l b c
  rw [← HLK.out]
  generalize diff [] l = m at *
  obtain ⟨p, HPp⟩ : ∃ p, Hid (p = like m) := ⟨_, rfl⟩
  rw [← HPp.out]
  have hB0 : Below w.heap.size w ((w.alloc (.cells (cells36 noughts) 36)).alloc (.cells (cells36 noughts) 36)) := ((Below.refl _ _).alloc (Nat.le_refl _) _).alloc (by simp) _
  have ha0 : Arr ((w.alloc (.cells (cells36 noughts) 36)).alloc (.cells (cells36 noughts) 36)) (w.heap.size + 1) noughts := ⟨heap_alloc2_new w _ _, rfl⟩
  have hr0 : Arr ((w.alloc (.cells (cells36 noughts) 36)).alloc (.cells (cells36 noughts) 36)) w.heap.size noughts := ⟨heap_alloc2_old w _ _, rfl⟩
  have hv0 := hv.below hB0
  obtain ⟨a0, len0, cap0, rfl⟩ : ∃ a len cap, v = .slice a len cap := by
    rcases hv with ⟨_, a, cap, h⟩ | ⟨b, off, cap, h, _⟩
    · exact ⟨_, _, _, h⟩
    · exact ⟨_, _, _, h⟩
  go_enter Try.func23, Try.ntmps23
  go_wp2_with (go_at_call 28; refine (hd _ _ hv0).mono ?_; rintro e w1 ⟨u, rfl, hu, b1⟩; have ha1 := ha0.later b1 ha0.lt; have hr1 := hr0.later b1 hr0.lt; have hB1 := chain hB0 b1)
  clear hz hcs hst hmm hd hv hv0 ha0 hr0 hB0 b1
  have hbm : w.heap.size + 1 < w1.heap.size := ha1.lt
  obtain ⟨B, hBe⟩ : ∃ B, B = w1.heap.size := ⟨_, rfl⟩
  have hmade : (w1.alloc (.map #[] 0)).ownsMap Try.prog 9 (plainElem (H := Unit) Try.prog 3) B 0 (.map []) := by rw [hBe]; exact World.ownsMap_made _ _ _ _
  have hu1 := hu.below ((Below.refl _ _).alloc (Nat.le_refl _) (.map #[] 0))
  have ha2 := ha1.later ((Below.refl _ _).alloc (Nat.le_refl _) (.map #[] 0)) ha1.lt
  have hr2 := hr1.later ((Below.refl _ _).alloc (Nat.le_refl _) (.map #[] 0)) hr1.lt
  have hB2 := hB1.alloc hB1.size (.map #[] 0)
  rw [← hBe] at hbm
  rw [← hBe]
  generalize w1.alloc (.map #[] 0) = w2 at *
  clear hu ha1 hr1 hB1 hBe
  go_loopw [13] (fun x wr => ∃ (i : Nat) (D : DataW Unit), x = .int .i64 i ∧ i ≤ 256 ∧ wr.ownsMap Try.prog 9 (plainElem (H := Unit) Try.prog 3) B i D ∧ Hid (MInv m D (repsBy p i)) ∧ Sets wr u m ∧ Arr wr (w.heap.size + 1) (tbl p i) ∧ Arr wr w.heap.size noughts ∧ Below w.heap.size w wr) (fun x _ => 256 - (intOf x).toNat)
  case atStart => exact ⟨0, _, rfl, by omega, hmade, minv_start m, hu1, ha2, hr2, hB2⟩
  case round =>
    obtain ⟨i, D, rfl, hi, hown, HM, hS, harr, hres, hB⟩ := hrel
    by_cases hin : i < 256
    · have hW := within_any m hmf hml i hin _ rfl
      have hkl : (⟨(key m i).toArray⟩ : ByteArray).data.toList = key m i := by simp
      have hksz : (⟨(key m i).toArray⟩ : ByteArray).size ≤ maxLen := by
        have := key_length m i
        show (key m i).toArray.size ≤ _
        unfold maxLen
        simp
        omega
      have hkey : keyOf Try.prog 9 (.string ⟨(key m i).toArray⟩) = some (.string (key m i)) := by
        have := Go.WideMaps.keyOf_string_mk (P := Try.prog) Try.underlying9 hksz
        rw [hkl] at this
        exact this
      generalize (⟨(key m i).toArray⟩ : ByteArray) = t at *
      have hhas := HM.out.has i
      have hsz := HM.out.size
      rw [← HPp.out] at hhas
      have hLl := repsBy_length p i
      have hpii : p i i = true := by rw [HPp.out]; exact like_self m i
      have HAT := HM.out.at' i
      rw [← HPp.out] at HAT
      cases hany : (repsBy p i).any (fun c => p i c)
      · rw [hany] at hhas
        have HN1 : Hid (repsBy p i ++ [i] = repsBy p (i + 1)) := (repsBy_out hany).symm
        have HN2 : Hid ((tbl p i).set i (repsBy p i).length = tbl p (i + 1)) := by show _ = _; rw [← tbl_step p i hin, clsBy_out hpii hany]
        have HMP : Hid (Tidy D → MInv m (D.put (.string (key m i)) (.lit (.int .i64 ((repsBy p i).length : Nat)))) (repsBy p i ++ [i])) := fun hT => minv_put HM.out hT (by rw [← HPp.out]; exact hany)
        have hT := hown.tidy law9
        generalize repsBy p i = L at *
        have hn1 : L.length < 256 := by omega
        clear HAT HM hany
        go_wp2_with (first | (go_at_call 29; refine (hW _ _ hS).mono ?_; rintro e w3 ⟨rfl, b3⟩; have hown3 := hown.kept (row := none) ⟨b3.os, b3.tape, b3.output, b3.size, fun k hk _ => b3.block k hk⟩ (by simp); have hS3 := hS.below b3; have harr3 := harr.later b3 harr.lt; have hres3 := hres.later b3 hres.lt; have hB3 := chain hB b3) | (at_lookup; refine wpList_lookup_own_ok_int _ rfl _ _ 50 rfl 9 3 .i64 law9 Try.underlying50 Try.underlying3 (zero3 _) B i D rfl hown3 _ _ rfl hkey ?_; intro c hat hwc; rw [hhas]) | (at_len; refine wpList_len_own _ rfl _ 50 rfl 9 3 Try.underlying50 _ B i D rfl hown3 ?_; rw [hsz]) | (at_mapUpdate; refine wpList_mapUpdate_own _ rfl _ _ _ 50 rfl 9 3 law9 Try.underlying50 _ B i D rfl hown3 (by unfold maxLen; omega) _ _ _ rfl rfl hkey _ [] (plainElem_int Try.underlying3 (WalkArith.wf_i64 (by omega))) ?_; intro w4 hown4 hgrow4; have hS4 := hS3.kept hgrow4 (map_not64 hown3); have harr4 := harr3.grown hgrow4 (by omega); have hres4 := hres3.grown hgrow4 (by omega); have hB4 := hB3.grown hgrow4 hB3.size (by intro k hk; cases hk; omega); have kc := harr4.cell i hin; have kf := harr4.fz i))
        refine ⟨⟨i + 1, _, by go_num, by omega, hown4.kept (touch_set w4 (w.heap.size + 1) i _) (by intro e; cases e; omega), by rw [← HN1.out]; exact HMP.out hT, hS4.kept (touch_set _ _ _ _) harr4.not64, by rw [← HN2.out]; exact harr4.put i _, hres4.other (by omega) i _, hB4.setCell (p := ⟨w.heap.size + 1, i, none⟩) (by show w.heap.size ≤ w.heap.size + 1; omega) _⟩, by simp [intOf]; omega⟩
      · rw [hany] at hhas
        have HN1 : Hid (repsBy p (i + 1) = repsBy p i) := repsBy_in hany
        have HN2 : Hid ((tbl p i).set i ((repsBy p i).findIdx (fun c => p i c)) = tbl p (i + 1)) := by show _ = _; rw [← tbl_step p i hin, (clsBy_in hany).1]
        have hat0 := HAT hany
        have hn1 : (repsBy p i).findIdx (fun c => p i c) < 256 := by have := (clsBy_in hany).2; have := (clsBy_in hany).1; omega
        generalize (repsBy p i).findIdx (fun c => p i c) = f at *
        clear HAT hany hsz
        go_wp2_with (first | (go_at_call 29; refine (hW _ _ hS).mono ?_; rintro e w3 ⟨rfl, b3⟩; have hown3 := hown.kept (row := none) ⟨b3.os, b3.tape, b3.output, b3.size, fun k hk _ => b3.block k hk⟩ (by simp); have hS3 := hS.below b3; have harr3 := harr.later b3 harr.lt; have hres3 := hres.later b3 hres.lt; have hB3 := chain hB b3; have kc := harr3.cell i hin; have kf := harr3.fz i) | (at_lookup; refine wpList_lookup_own_ok_int _ rfl _ _ 50 rfl 9 3 .i64 law9 Try.underlying50 Try.underlying3 (zero3 _) B i D rfl hown3 _ _ rfl hkey ?_; intro c hat hwc; rw [hhas, at_same hat0 hat]; clear hat hwc))
        refine ⟨⟨i + 1, _, by go_num, by omega, (hown3.kept (touch_set w3 (w.heap.size + 1) i _) (by intro e; cases e; omega)).mono (Nat.le_succ _), by rw [HN1.out]; exact HM.out, hS3.kept (touch_set _ _ _ _) harr3.not64, by rw [← HN2.out]; exact harr3.put i _, hres3.other (by omega) i _, hB3.setCell (p := ⟨w.heap.size + 1, i, none⟩) (by show w.heap.size ≤ w.heap.size + 1; omega) _⟩, by simp [intOf]; omega⟩
    · have he : i = 256 := by omega
      subst he
      have HN : Hid (Maps.size D = (repsBy p 256).length) := HM.out.size
      clear HM
      go_wp2_with (first | (refine wpList_load_row rfl 36 (.tmp 4) rfl (w.heap.size + 1) rfl 36 (cells36 (tbl p 256)) (0, 0) _ harr.1 Try.underlying36 rfl (info36 _ harr.2) ?_) | (at_len; refine wpList_len_own _ rfl _ 50 rfl 9 3 Try.underlying50 _ B 256 D rfl hown ?_) | (refine wpList_store_row rfl 36 (.tmp 2) (.tmp 38) rfl w.heap.size (cells36 (tbl p 256)) rfl rfl 36 _ hres.1 (info36 _ harr.2) (by rw [cells36_size _ hres.2, cells36_size _ harr.2]) (cells36_one _) ?_))
      refine ret36 Try.results23 w.heap.size (tbl p 256) (Maps.size D) rfl (hres.row harr.2) rfl rfl ?_
      exact ⟨by rw [HN.out], below_setRow hB (Nat.le_refl _) _⟩
end Go.Proofs.Ytfpihoghpogblaa.st
