/-
  Contracts over this program: the document's Bytes (fretsawref12).
-/
import Derived.Test.YtafcekognhkmgaaTr
namespace Go.Proofs.Ytafcekognhkmgaa.tr
open Go.ChangeShapes Go.WideShapes Go.ChangeAt Go.RowKit Go.Shelf
set_option linter.unusedVariables false

def ot (m : Mc) (s b : Nat) : ByteArray := bs (outp m s (UInt8.ofNat b))
theorem ot_size (m : Mc) (s b : Nat) (hb : b < 256) : (ot m s b).size = ol m s b := by
  unfold ot
  rw [bs_size, outp_length, of_nat b hb]
theorem fbyte_lt (m : Mc) (s b : Nat) (hb : b < 256) : fbyte m s b < 256 := by
  unfold fbyte
  split
  · exact hb
  · exact UInt8.toNat_lt _
theorem outp_one (m : Mc) (s b : Nat) (hb : b < 256) (h : ol m s b = 1) : outp m s (UInt8.ofNat b) = [UInt8.ofNat (fbyte m s b)] := by
  unfold outp fbyte
  unfold ol at h
  rw [of_nat b hb]
  by_cases hodd : pt m s b % 2 = 1
  · rw [if_pos hodd, if_pos hodd]
    have h0 : (tx m (pt m s b / 2)).data.toList = [] := List.length_eq_zero_iff.1 (by rw [list_len]; omega)
    rw [h0]
    rfl
  · rw [if_neg hodd, if_neg hodd, List.append_nil]
    have h1 : (tx m (pt m s b / 2)).data.toList.length = 1 := by rw [list_len]; omega
    match hl : (tx m (pt m s b / 2)).data.toList, h1 with
    | [x], _ => simp
theorem ot_one (m : Mc) (s b : Nat) (hb : b < 256) (h : ol m s b = 1) : ot m s b = bs [UInt8.ofNat (fbyte m s b)] := by
  unfold ot
  rw [outp_one m s b hb h]
theorem ot_eq {m : Mc} {s b : Nat} (hb : b < 256) (h : ol m s b = 1) (h0 : ol m 0 b = 1) : (ot m s b = ot m 0 b) ↔ fbyte m s b = fbyte m 0 b := by
  rw [ot_one m s b hb h, ot_one m 0 b hb h0]
  constructor
  · intro e
    have e1 := congrArg (fun t : ByteArray => t.data.toList) e
    simp only [List.cons.injEq, and_true] at e1
    have e2 := congrArg UInt8.toNat e1
    rw [of_nat _ (fbyte_lt m s b hb), of_nat _ (fbyte_lt m 0 b hb)] at e2
    exact e2
  · intro e
    rw [e]
theorem ot_at {m : Mc} {s b : Nat} (hb : b < 256) (h : ol m s b = 1) (t : ByteArray) (ht : t = ot m s b) (hl : 0 < t.size) : t[0].toNat = fbyte m s b := by
  subst ht
  have e := ot_one m s b hb h
  have hh := head_at (ot m s b) hl
  rw [← hh, e]
  exact of_nat _ (fbyte_lt m s b hb)
theorem tb_get (f : Nat → Nat) (j i : Nat) (hi : i < 256) (hj : i < j) : (tb f j).getD i 0 = f i := by
  have hl : i < (tb f j).length := by rw [tb_len]; exact hi
  rw [List.getD_eq_getElem?_getD, List.getElem?_eq_getElem hl]
  simp only [tb, List.getElem_map, List.getElem_range, Option.getD_some]
  rw [if_pos hj]
theorem fb_eq {m : Mc} {s : Nat} : fb m s = fb m 0 ↔ ∀ b, b < 256 → fbyte m s b = fbyte m 0 b := by
  constructor
  · intro h b hb
    have h1 := tb_get (fbyte m s) 256 b hb hb
    have h2 := tb_get (fbyte m 0) 256 b hb hb
    unfold fb at h
    rw [h, h2] at h1
    exact h1.symm
  · intro h
    unfold fb
    refine List.ext_getElem (by rw [tb_len, tb_len]) fun i h1 h2 => ?_
    rw [tb_len] at h1
    simp only [tb, List.getElem_map, List.getElem_range]
    rw [if_pos h1, if_pos h1, h i h1]
/-- the array while it is made -/
def ar (m : Mc) (i b : Nat) : List Nat := if i = 0 then tb (fbyte m 0) b else fb m 0
theorem ar_len (m : Mc) (i b : Nat) : (ar m i b).length = 256 := by
  unfold ar
  split
  · exact tb_len _ _
  · exact fb_len _ _
theorem set_same (l : List Nat) (b v : Nat) (hb : b < l.length) (h : l.getD b 0 = v) : l.set b v = l := by
  refine List.ext_getElem (by rw [List.length_set]) fun i h1 h2 => ?_
  rw [List.getElem_set]
  by_cases e : b = i
  · subst e
    rw [if_pos rfl, ← h, List.getD_eq_getElem?_getD, List.getElem?_eq_getElem hb]
    rfl
  · rw [if_neg e]
theorem ar_set (m : Mc) (i b : Nat) (hb : b < 256) : (ar m i b).set b (fbyte m 0 b) = ar m i (b + 1) := by
  unfold ar
  by_cases h : i = 0
  · rw [if_pos h, if_pos h, tb_set _ b hb]
  · rw [if_neg h, if_neg h]
    exact set_same _ b _ (by rw [fb_len]; exact hb) (tb_get _ 256 b hb hb)
theorem ar_zero (m : Mc) : ar m 0 0 = noughts := by unfold ar; rw [if_pos rfl, tb_zero]
theorem ar_next (m : Mc) (i b : Nat) (hb : b = 256) : ar m i b = ar m (i + 1) 0 := by
  unfold ar
  rw [if_neg (show ¬ i + 1 = 0 by omega)]
  split
  · rw [hb]; rfl
  · rfl
theorem ar_skip (m : Mc) (i : Nat) (hi : i ≠ 0) : ar m i 0 = ar m (i + 1) 0 := by
  unfold ar
  rw [if_neg hi, if_neg (by omega)]
structure Bs (w : World) (m : Mc) (p : Mp) (xs : List Nat) (g : Nat) (M : List Int) (W : World) : Prop where
  be : Below w.heap.size w W
  bx : Box W w.heap.size m p
  res : Arr W (w.heap.size + 1) noughts
  to : Arr W (w.heap.size + 1 + 1) xs
  ir : IRow W g M
  gl : w.heap.size + 1 + 1 < g
section
variable {w : World} {m : Mc} {p : Mp} {g : Nat} {xs : List Nat} {M : List Int} {W : World}
theorem Bs.later {W' : World} (h : Bs w m p xs g M W) (b : Below W.heap.size W W') : Bs w m p xs g M W' :=
  ⟨chain h.be b, h.bx.later b, h.res.later b h.res.lt, h.to.later b h.to.lt, h.ir.later b, h.gl⟩
theorem Bs.drewN (h : Bs w m p xs g M W) (n : Nat) : Bs w m p xs g M (W.drewN n) := ⟨below_drewN h.be n, h.bx, h.res, h.to, h.ir, h.gl⟩
theorem Bs.put (h : Bs w m p xs g M W) (i v : Nat) : Bs w m p (xs.set i v) g M (W.setCell ⟨w.heap.size + 1 + 1, i, none⟩ (.int .u8 v)) := by
  have hg := h.gl
  exact ⟨h.be.setCell (p := ⟨w.heap.size + 1 + 1, i, none⟩) (by show w.heap.size ≤ w.heap.size + 1 + 1; omega) _, (Below.heap_setCell _ _ _ _ (show w.heap.size ≠ w.heap.size + 1 + 1 by omega)).trans h.bx, h.res.other (by omega) i _, h.to.put i v, h.ir.other (by omega) i _, h.gl⟩
end
theorem store3 (w : World) (A B : Obj) (xs ys : List Nat) (hx : xs.length = 256) (hy : ys.length = 256) : (storeCells ⟨w.heap.size + 1 + 1, 0, none⟩ (cells48 ys).toList).run Try.prog (((w.alloc A).alloc B).alloc (.cells (cells48 xs) 48)) = .ok () (((w.alloc A).alloc B).alloc (.cells (cells48 ys) 48)) := by
  have h := store_new ((w.alloc A).alloc B) xs ys hx hy
  rw [World.size_alloc, World.size_alloc] at h
  exact h
theorem bytes_eq {a b : ByteArray} : (a.toList == b.toList) = decide (a = b) := by
  rw [Bool.eq_iff_iff, beq_iff_eq, decide_eq_true_iff, ByteArray.toList_eq, ByteArray.toList_eq]
  constructor
  · intro h
    apply ByteArray.ext
    exact Array.toList_inj.1 h
  · rintro rfl; rfl
set_option maxHeartbeats 8000000 in
set_option maxRecDepth 100000 in
theorem rbytes_any (m : Mc) (hr : right m = true) (p : Mp) (w : World) (hM : MAt (In w) w m p) : Calls Try.prog 23 #[.agg (mv m p)] w (BytOut m w) := by
  have hR := right_iff.1 hr
  have HRR : Hid (right m = true) := hr
  clear hr
  have hz := zero48
  have hcs := cells48_size noughts noughts_len
  have hst := store3 w (.cells (mv m p) 26) (.cells (cells48 noughts) 48) noughts noughts noughts_len noughts_len
  obtain ⟨wA, HWA⟩ : ∃ wA, Hid (wA = ((w.alloc (.cells (mv m p) 26)).alloc (.cells (cells48 noughts) 48)).alloc (.cells (cells48 noughts) 48)) := ⟨_, rfl⟩
  have B0 : Below w.heap.size w wA := by rw [HWA.out]; exact below3 w _ _ _
  have hXA : Box wA w.heap.size m p := by rw [HWA.out]; exact heap3_old w _ _ _
  have hrA : Arr wA (w.heap.size + 1) noughts := by rw [HWA.out]; exact ⟨heap3_mid w _ _ _, noughts_len⟩
  have htA : Arr wA (w.heap.size + 1 + 1) noughts := by rw [HWA.out]; exact ⟨heap3 w _ _ _, noughts_len⟩
  have HML : Hid (∀ W, Below w.heap.size w W → MAt (In W) W m p) := fun W b => hM.later b
  have c49 := rreached_any m hR p wA (hM.later B0)
  have X0 := hXA
  unfold Box at X0
  rw [HWA.out] at X0
  have t4 := hM.ren.fit
  have t5 := hM.ren.top
  have t6 := hM.rtx.fit
  have t7 := hM.rtx.top
  have HOUT : Hid (∀ s, s < m.next.length → ∀ b : Nat, b < 256 → ∀ W, Below w.heap.size w W → Calls Try.prog 33 #[.agg (mv m p), .int .i64 (s : Int), .int .u8 (b : Int)] W fun e w' => e = .returned (.string (ot m s b)) ∧ Below W.heap.size W w') := fun s hs b hb W bW => by
    have := out_any m hR s hs (UInt8.ofNat b) p W (HML.out W bW)
    rw [of_nat b hb] at this
    exact this
  clear hM
  go_enter Try.func23, Try.ntmps23
  go_wp2_with (refine wpList_load_row rfl 26 (.tmp 1) rfl w.heap.size rfl 26 (mv m p) (0, 0) _ X0 Try.underlying26 rfl info26 ?_)
  rw [← HWA.out]
  go_at_call 49
  refine c49.mono ?_
  rintro e w2 ⟨g, M, rfl, hir, hml, htwo, hiff, hgl, b2⟩
  have hlA := htA.lt
  have HB0 : Hid (Bs w m p (ar m 0 0) g M w2) := ⟨chain B0 b2, hXA.later b2, hrA.later b2 hrA.lt, by rw [ar_zero]; exact htA.later b2 htA.lt, hir, by omega⟩
  have HIF : Hid (∀ s, Rch m s ↔ M[s]? = some 1) := hiff
  have HTW : Hid (∀ i (h : i < M.length), M[i] = 0 ∨ M[i] = 1) := htwo
  have HMN : Hid (M.length = m.next.length) := hml
  have hmost := hR.most
  clear hir htwo hiff hgl b2 c49 X0 B0 hXA hrA htA hml hst
  go_wp2_with (fail)
  go_loopw [13] (fun x wr => ∃ (i : Nat), x = .int .i64 i ∧ i ≤ m.next.length ∧ Hid (Bs w m p (ar m i 0) g M wr) ∧ Hid (∀ s, s < i → Rch m s → Sg m s ∧ fb m s = fb m 0)) (fun x _ => m.next.length - (intOf x).toNat)
  case atStart => exact ⟨0, rfl, by omega, HB0, fun s hs => by omega⟩
  case round =>
    obtain ⟨i, rfl, hi, HB, HD⟩ := hrel
    clear HB0
    by_cases hend : i < m.next.length
    · have him : i < M.length := by rw [HMN.out]; exact hend
      have kM := HB.out.ir.cell i him
      rcases HTW.out i him with h0 | h1
      · have HNR : Hid (¬ Rch m i) := fun h => by
          have h2 := (HIF.out i).1 h
          rw [List.getElem?_eq_getElem him, h0] at h2
          cases h2
        have hi0 : i ≠ 0 := fun h => HNR.out (by rw [h]; exact .zero)
        have HB2 : Hid (Bs w m p (ar m (i + 1) 0) g M wr) := by rw [← ar_skip m i hi0]; exact HB
        have HD2 : Hid (∀ s, s < i + 1 → Rch m s → Sg m s ∧ fb m s = fb m 0) := fun s hs hr => by
          by_cases e : s = i
          · subst e; exact (HNR.out hr).elim
          · exact HD.out s (by omega) hr
        rw [h0] at kM
        clear h0 HD HB hi0
        go_wp2_with (fail)
        go_roundw
        case rel => exact ⟨i + 1, by go_num, by omega, HB2, HD2⟩
        case measure => simp [intOf]; omega
      · have HRC : Hid (Rch m i) := (HIF.out i).2 (by rw [List.getElem?_eq_getElem him, h1])
        rw [h1] at kM
        obtain ⟨eb, eoff, e1, heb, hec⟩ := (HML.out wr HB.out.be).fin_at hR hend
        have hen := hR.en_lt hend
        obtain ⟨xb, xoff, e2, hxb, hxc⟩ := (HML.out wr HB.out.be).tx_at hen
        have k2 := HB.out.bx.c2
        have k3 := HB.out.bx.c3
        rw [e1] at k2
        rw [e2] at k3
        have hif : i < m.fin.length := by rw [hR.fins]; exact hend
        have HEL : Hid (el m i = (tx m (en m i)).size) := rfl
        have R1 := HB.out.res
        generalize en m i = z at *
        generalize tx m z = t at *
        clear h1 e1 e2
        by_cases hte : t.size = 0
        case neg =>
          have f1 : t.toList.isEmpty = false := by rw [empty_eq]; exact beq_eq_false_iff_ne.2 hte
          have HNO : Hid (¬ One m) := fun h => by
            have h2 := (h i HRC.out).1.1
            rw [HEL.out] at h2
            exact hte h2
          have R2 : ∀ n, Arr (wr.drewN n) (w.heap.size + 1) noughts := fun n => R1
          clear hte
          go_wp2_with (fail)
          go_quiet (fail)
          go_wp2_with (first | (refine wpList_store_row rfl 48 (.tmp 2) (.tmp 30) rfl (w.heap.size + 1) (cells48 noughts) rfl rfl 48 _ (R2 _).1 (info48 _ noughts_len) (by rfl) (cells48_one _) ?_))
          refine ret48 Try.results23 (w.heap.size + 1) noughts false rfl ((R2 _).row noughts_len) rfl rfl ?_
          exact ⟨noughts, false, rfl, noughts_len, (fun h => by cases h), (fun _ h => HNO.out h.2), below_setRow (below_drewN HB.out.be _) (by omega) _⟩
        have f1 : t.toList.isEmpty = true := by rw [empty_eq, hte]; rfl
        have HE0 : Hid (el m i = 0) := by show _ = _; rw [HEL.out, hte]
        clear hte
        go_wp2_with (fail)
        go_quiet (fail)
        go_wp2_with (fail)
        have HBd : Hid _ := HB.out.drewN nq
        obtain ⟨w0, rfl⟩ : ∃ w0 : World, w0 = wr := ⟨_, rfl⟩
        clear hec hxc k2 k3 kM R1
        go_loopw [7] (fun x wr => ∃ (b : Nat), x = .int .i64 b ∧ b ≤ 256 ∧ Hid (Bs w m p (ar m i b) g M wr) ∧ Hid (∀ c, c < b → ol m i c = 1 ∧ fbyte m i c = fbyte m 0 c)) (fun x _ => 256 - (intOf x).toNat)
        case atStart => exact ⟨0, rfl, by omega, HBd, fun c hc => by omega⟩
        case round =>
          obtain ⟨b, rfl, hb, HB2, HC⟩ := hrel
          clear HBd HB
          have X3 := HB2.out.bx
          unfold Box at X3
          by_cases hbe : b < 256
          · have c33 := HOUT.out i hend b hbe wr HB2.out.be
            have c33z : ∀ W, Below w.heap.size w W → Calls Try.prog 33 #[.agg (mv m p), .int .i64 0, .int .u8 (b : Int)] W fun e w' => e = .returned (.string (ot m 0 b)) ∧ Below W.heap.size W w' := HOUT.out 0 hR.one b hbe
            have hu := u8_nat b hbe
            have hos := ot_size m i b hbe
            have hto := HB2.out.to
            have HSIZ : Hid ((ot m i b).size = ol m i b) := hos
            have HNOT : Hid ((ot m i b).size ≠ 1 → ¬ One m) := fun h hon => h (by rw [HSIZ.out]; exact (hon i HRC.out).1.2 b hbe)
            have HNEQ : Hid ((ot m i b).size = 1 → ot m i b ≠ ot m 0 b → ¬ One m) := fun h1 h2 hon => h2 ((ot_eq hbe (by rw [← HSIZ.out]; exact h1) ((hon 0 .zero).1.2 b hbe)).2 (fb_eq.1 (hon i HRC.out).2 b hbe))
            have HEQ : Hid ((ot m i b).size = 1 → ot m i b = ot m 0 b → ol m i b = 1 ∧ fbyte m i b = fbyte m 0 b) := fun h1 h2 => by
              have h3 : ol m i b = 1 := by rw [← HSIZ.out]; exact h1
              have h4 : ol m 0 b = 1 := by rw [← ot_size m 0 b hbe, ← h2]; exact h1
              exact ⟨h3, (ot_eq hbe h3 h4).1 h2⟩
            have HAT : Hid (∀ h : 0 < (ot m i b).size, (ot m i b).size = 1 → (ot m i b)[0].toNat = fbyte m i b) := fun h h1 => ot_at hbe (by rw [← HSIZ.out]; exact h1) _ rfl h
            generalize ot m i b = t1 at *
            generalize ot m 0 b = t2 at *
            clear hos
            by_cases h1 : t1.size = 1
            case neg =>
              have f2 : ((t1.size : Int) == 1) = false := beq_eq_false_iff_ne.2 (by omega)
              have f3 : ((t1.size : Int) != 1) = true := bne_iff_ne.2 (by omega)
              have HNO : Hid (¬ One m) := HNOT.out h1
              have R1 := HB2.out.res
              have HBE := HB2.out.be
              clear h1 HNEQ HEQ HAT HNOT
              go_wp2_with (first | (refine wpList_load_row rfl 26 (.tmp 1) rfl w.heap.size rfl 26 (mv m p) (0, 0) _ X3 Try.underlying26 rfl info26 ?_) | (go_at_call 33; refine c33.mono ?_; rintro e w3 ⟨rfl, b3⟩; have R3 := R1.later b3 R1.lt; have L3 := chain HBE b3) | (refine wpList_store_row rfl 48 (.tmp 2) (.tmp 51) rfl (w.heap.size + 1) (cells48 noughts) rfl rfl 48 _ R3.1 (info48 _ noughts_len) (by rfl) (cells48_one _) ?_))
              refine ret48 Try.results23 (w.heap.size + 1) noughts false rfl (R3.row noughts_len) rfl rfl ?_
              exact ⟨noughts, false, rfl, noughts_len, (fun h => by cases h), (fun _ h => HNO.out h.2), below_setRow L3 (by omega) _⟩
            have f2 : ((t1.size : Int) == 1) = true := beq_iff_eq.2 (by omega)
            have f3 : ((t1.size : Int) != 1) = false := by rw [bne, f2]; rfl
            have hts : 0 < t1.size := by omega
            have f4 : (0 : Int) < (t1.size : Int) := by omega
            by_cases h2 : t1 = t2
            case neg =>
              have f5 : (t1.toList == t2.toList) = false := by rw [bytes_eq]; exact decide_eq_false h2
              have HNO : Hid (¬ One m) := HNEQ.out h1 h2
              have R1 := HB2.out.res
              have HBE := HB2.out.be
              clear h1 h2 HNEQ HEQ HAT HNOT HSIZ
              go_wp2_with (first | (refine wpList_load_row rfl 26 (.tmp 1) rfl w.heap.size rfl 26 (mv m p) (0, 0) _ X3 Try.underlying26 rfl info26 ?_) | (go_at_call 33; (with_reducible refine c33.mono ?_); rintro e w3 ⟨rfl, b3⟩; have R3 := R1.later b3 R1.lt; have L3 := chain HBE b3; have d33 := c33z w3 L3; have X4 := (HB2.out.later b3).bx; unfold Box at X4) | (refine load_if (by kernel_rfl) 26 (.tmp 1) rfl w.heap.size rfl 26 (mv m p) (0, 0) _ X4 Try.underlying26 rfl info26 ?_) | (go_at_call 33; (with_reducible refine d33.mono ?_); rintro e w4 ⟨rfl, b4⟩; have R4 := R3.later b4 R3.lt; have L4 := chain L3 b4) | (refine wpList_store_row rfl 48 (.tmp 2) (.tmp 51) rfl (w.heap.size + 1) (cells48 noughts) rfl rfl 48 _ R4.1 (info48 _ noughts_len) (by rfl) (cells48_one _) ?_))
              refine ret48 Try.results23 (w.heap.size + 1) noughts false rfl (R4.row noughts_len) rfl rfl ?_
              exact ⟨noughts, false, rfl, noughts_len, (fun h => by cases h), (fun _ h => HNO.out h.2), below_setRow L4 (by omega) _⟩
            have HAB : Hid (ol m i b = 1 ∧ fbyte m i b = fbyte m 0 b) := HEQ.out h1 h2
            have HAV : Hid (t1[0].toNat = fbyte m 0 b) := (HAT.out hts h1).trans HAB.out.2
            have HC2 : Hid (∀ c, c < b + 1 → ol m i c = 1 ∧ fbyte m i c = fbyte m 0 c) := fun c hc => by
              by_cases e : c = b
              · subst e; exact HAB.out
              · exact HC.out c (by omega)
            have HAS : Hid ((ar m i b).set b (t1[0].toNat) = ar m i (b + 1)) := by show _ = _; rw [HAV.out]; exact ar_set m i b hbe
            subst h2
            clear h1 HNEQ HEQ HAT HNOT HSIZ HC HAB HAV
            go_wp2_with (first | (refine wpList_load_row rfl 26 (.tmp 1) rfl w.heap.size rfl 26 (mv m p) (0, 0) _ X3 Try.underlying26 rfl info26 ?_) | (go_at_call 33; (with_reducible refine c33.mono ?_); rintro e w3 ⟨rfl, b3⟩; have HB3 := (show Hid _ from HB2.out.later b3); have d33 := c33z w3 HB3.out.be; have X4 := HB3.out.bx; unfold Box at X4; clear c33) | (refine load_if (by kernel_rfl) 26 (.tmp 1) rfl w.heap.size rfl 26 (mv m p) (0, 0) _ X4 Try.underlying26 rfl info26 ?_) | (go_at_call 33; (with_reducible refine d33.mono ?_); rintro e w4 ⟨rfl, b4⟩; have HB4 := (show Hid _ from HB3.out.later b4); have kc := HB4.out.to.cell b hbe; have kf := HB4.out.to.fz b; have HB5 := (show Hid _ from HB4.out.put b t1[0].toNat)))
            rw [HAS.out] at HB5
            go_roundw
            case rel => exact ⟨b + 1, by go_num, by omega, HB5, HC2⟩
            case measure => simp [intOf]; omega
          · have HB3 : Hid (Bs w m p (ar m (i + 1) 0) g M wr) := by rw [← ar_next m i b (by omega)]; exact HB2
            have HD2 : Hid (∀ s, s < i + 1 → Rch m s → Sg m s ∧ fb m s = fb m 0) := fun s hs hr => by
              by_cases e : s = i
              · subst e; exact ⟨⟨HE0.out, fun c hc => (HC.out c (by omega)).1⟩, fb_eq.2 fun c hc => (HC.out c (by omega)).2⟩
              · exact HD.out s (by omega) hr
            go_wp2_with (fail)
            go_roundw
            case rel => exact ⟨i + 1, by go_num, by omega, HB3, HD2⟩
            case measure => simp [intOf]; omega
    · have HON : Hid (One m) := fun s hs => HD.out s (by have := hs.lt hR; omega) hs
      have HAF : Hid (ar m i 0 = fb m 0) := by
        show _ = _
        unfold ar
        rw [if_neg (by have := hR.one; omega)]
      rw [HAF.out] at HB
      have T4 := HB.out.to
      have R4 := HB.out.res
      clear HD
      go_wp2_with (first | (refine wpList_load_row rfl 48 (.tmp 4) rfl (w.heap.size + 1 + 1) rfl 48 (cells48 (fb m 0)) (0, 0) _ T4.1 Try.underlying48 rfl (info48 _ T4.2) ?_) | (refine wpList_store_row rfl 48 (.tmp 2) (.tmp 57) rfl (w.heap.size + 1) (cells48 (fb m 0)) rfl rfl 48 _ R4.1 (info48 _ T4.2) (by rw [cells48_size _ R4.2, cells48_size _ T4.2]) (cells48_one _) ?_))
      refine ret48 Try.results23 (w.heap.size + 1) (fb m 0) true rfl (R4.row T4.2) rfl rfl ?_
      exact ⟨fb m 0, true, rfl, T4.2, (fun _ => ⟨HRR.out, HON.out, rfl⟩), (fun h => by cases h), below_setRow HB.out.be (by omega) _⟩
end Go.Proofs.Ytafcekognhkmgaa.tr
