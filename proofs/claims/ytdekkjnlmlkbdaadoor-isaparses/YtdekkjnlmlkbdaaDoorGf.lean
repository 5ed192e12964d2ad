/-
  Contracts over this program: all instructions of a text of bytes, as the document says (Get).
-/
import Derived.Test.YtdekkjnlmlkbdaaDoorGe
import Derived.Test.YtdekkjnlmlkbdaaDoorRGets
namespace Go.Proofs.YtdekkjnlmlkbdaaDoor.is
open Go.Proofs.YtdekkjnlmlkbdaaDoor.num
open Go.ChangeShapes Go.WideShapes Go.ChangeAt Go.RowKit
set_option linter.unusedVariables false

def RGetAIs (s : ByteArray) (L : List In) (e : Nat) : Prop := ∀ w, Calls Tryd.prog 16 #[.string s] w fun x w' => ∃ v, x = .returned (.tuple #[v, .int .i64 e]) ∧ InsAt w' v L ∧ Below w.heap.size w w'

set_option maxHeartbeats 1000000 in
set_option maxRecDepth 100000 in
theorem rgeta_bad (s : ByteArray) (hs : s.size ≤ 140737488351232) (n to e : Nat) (h : gets s.data.toList 0 = (n, to, e)) (he : e ≠ 0) : RGetAIs s [] e := by
  intro w
  have hg : RGetIs s 0 n to e := rget_in s 0 hs (by omega) n to e h
  have hne : ((e : Int) == 0) = false := by rw [beq_eq_false_iff_ne]; omega
  unfold RGetIs at hg
  clear h
  go_enter Tryd.func16, Tryd.ntmps16
  go_wp2_with (go_at_call 36; refine (hg _).mono ?_; rintro e w1 ⟨rfl, hb⟩)
  go_ret2
  exact ⟨_, rfl, insAt_nil _, hb⟩
set_option maxHeartbeats 1000000 in
set_option maxRecDepth 100000 in
theorem rgeta_long (s : ByteArray) (hs : s.size ≤ 140737488351232) (n to : Nat) (h : gets s.data.toList 0 = (n, to, 0)) (hn : 4096 < n) : RGetAIs s [] 2 := by
  intro w
  have hg : RGetIs s 0 n to 0 := rget_in s 0 hs (by omega) n to 0 h
  unfold RGetIs at hg
  clear h
  go_enter Tryd.func16, Tryd.ntmps16
  go_wp2_with (go_at_call 36; refine (hg _).mono ?_; rintro e w1 ⟨rfl, hb⟩)
  go_ret2
  exact ⟨_, rfl, insAt_nil _, hb⟩

/-- the letters from k on, as fields -/
def lfrom (L : List Nat) (k : Nat) : List (Nat × Nat) := (L.drop k).map fun c => (fldC c, mostC c)
theorem lfrom_take (L : List Nat) (k : Nat) (h : k < L.length) : lfrom L k = (fldC (L.getD k 0), mostC (L.getD k 0)) :: lfrom L (k + 1) := by
  unfold lfrom
  rw [List.drop_eq_getElem_cons h, List.map_cons, List.getD_eq_getElem?_getD, List.getElem?_eq_getElem h]
  rfl
theorem lfrom_end (L : List Nat) (k : Nat) (h : L.length ≤ k) : lfrom L k = [] := by unfold lfrom; rw [List.drop_eq_nil_of_le h]; rfl
theorem rowI_new (w : World) (B : Nat) (hB : B ≤ w.heap.size) : RowI (w.alloc (.cells #[] 23)) B (.slice (some ⟨w.heap.size, 0, none⟩) 0 0) [] :=
  ⟨rfl, .inr ⟨w.heap.size, 0, #[], rfl, hB, heap_alloc_new w _, Nat.le_refl _, by unfold maxLen; omega, rfl, rfl⟩⟩

theorem setF_op (i : In) (f : Nat) (v : Int) : (setF i f v).op = i.op := by unfold setF; split <;> (try split) <;> (try split) <;> rfl
/-- another block is written -/
theorem RowI.block5 {w : World} {B : Nat} {v : Value} {l : List In} (h : RowI w B v l) {g : Nat} {q : In} (hb : IBlk w g q) (hne : True) (v0 v1 v2 v3 v4 : Value) (hg : some g ≠ v.ownBlock) : RowI (((((w.setCell ⟨g, 0, none⟩ v0).setCell ⟨g, 1, none⟩ v1).setCell ⟨g, 2, none⟩ v2).setCell ⟨g, 3, none⟩ v3).setCell ⟨g, 4, none⟩ v4) B v l :=
  ow.keep h fun k hk => by
    have hkg : k ≠ g := fun e => hg (by rw [hk, e])
    rw [Below.heap_setCell _ _ _ _ hkg, Below.heap_setCell _ _ _ _ hkg, Below.heap_setCell _ _ _ _ hkg, Below.heap_setCell _ _ _ _ hkg, Below.heap_setCell _ _ _ _ hkg]

theorem i64_n (n : Nat) (h : n ≤ 1073741824) : IntKind.i64.wrap (n : Int) = n := i64_small n h

set_option maxHeartbeats 1500000 in
set_option maxRecDepth 100000 in
theorem rgeta_ok (s : ByteArray) (hs : s.size ≤ 140737488351232) (n to : Nat) (h : gets s.data.toList 0 = (n, to, 0)) (hn : n ≤ 4096) (LL : List In) (qq ee : Nat) (hr : rdL s.data.toList n to [] = (LL, qq, ee)) (L : List In) (e : Nat)
    (hL : (L, e) = if ee ≠ 0 then ([], ee) else if qq ≠ s.size then ([], 210) else (LL, 0)) : RGetAIs s L e := by
  intro w
  have hg : RGetIs s 0 n to 0 := rget_in s 0 hs (by omega) n to 0 h
  have HR := (show Hid (rdL s.data.toList n to [] = (LL, qq, ee)) from hr)
  have HL := (show Hid ((L, e) = if ee ≠ 0 then ([], ee) else if qq ≠ s.size then ([], 210) else (LL, 0)) from hL)
  have hto : to ≤ s.size := (gets_le (l := s.data.toList) (p := 0) (by omega) h).2.1
  have hnw := i64_n n (by omega)
  unfold RGetIs at hg
  clear h hr hL
  go_enter Tryd.func16, Tryd.ntmps16
  go_wp2_with (go_at_call 36; refine (hg _).mono ?_; rintro e w1 ⟨rfl, hb⟩)
  go_loopw [5, 7] (fun x v wr => ∃ (q j : Nat) (acc : List In), x = .int .i64 q ∧ j ≤ n ∧ q ≤ s.size ∧ acc.length = j ∧ RowI wr w.heap.size v acc ∧ Below w.heap.size w wr ∧ Hid (rdL s.data.toList (n - j) q acc = (LL, qq, ee))) (fun _ v _ => n - (match v with | .slice _ k _ => k | _ => 0))
  case atStart => exact ⟨to, 0, [], rfl, by omega, hto, rfl, rowI_new w1 _ hb.size, hb.alloc hb.size _, HR⟩
  case round =>
    rename_i v wr
    obtain ⟨q, j, acc, rfl, hj, hq, hacc, hrow, hB, HQ⟩ := hrel
    obtain ⟨o, cap, hv, hcap, hcm⟩ := ow.form hrow
    rw [hacc] at hv hcap
    subst hv
    by_cases hjn : j < n
    · have hlt : decide ((j : Int) < (n : Int)) = true := by simp; omega
      obtain ⟨o1, p1, e1, hg1⟩ : ∃ n to e, gets s.data.toList q = (n, to, e) := ⟨_, _, _, rfl⟩
      have hc1 := rget_in s q hs hq o1 p1 e1 hg1
      unfold RGetIs at hc1
      by_cases he : e1 = 0
      · subst he
        by_cases ho : o1 < 1 ∨ 17 < o1
        · have HE : Hid ((L, e) = ([], 210)) := by
            show _ = _
            have h2 := HQ.out
            rw [show n - j = (n - (j + 1)) + 1 from by omega, rdL_bad (rdI_far hg1 ho) (by omega)] at h2
            simp only [Prod.mk.injEq] at h2
            rw [HL.out, if_pos (by omega), ← h2.2.2]
          clear HQ HR HL hg1
          by_cases ho2 : o1 < 1
          · obtain rfl : o1 = 0 := by omega
            clear ho ho2
            go_wp2_with (go_at_call 36; refine (hc1 _).mono ?_; rintro x w2 ⟨rfl, hb2⟩)
            go_ret2
            have HE := HE.out
            simp only [Prod.mk.injEq] at HE
            obtain ⟨rfl, rfl⟩ := HE
            exact ⟨_, rfl, insAt_nil _, chain hB hb2⟩
          · have ho3 : 17 < o1 := by omega
            clear ho
            go_wp2_with (go_at_call 36; refine (hc1 _).mono ?_; rintro x w2 ⟨rfl, hb2⟩)
            go_ret2
            have HE := HE.out
            simp only [Prod.mk.injEq] at HE
            obtain ⟨rfl, rfl⟩ := HE
            exact ⟨_, rfl, insAt_nil _, chain hB hb2⟩
        · have h1 : 1 ≤ o1 := by omega
          have h2 : o1 ≤ 17 := by omega
          have hp1 : p1 ≤ s.size := (gets_le (l := s.data.toList) (p := q) (by simpa using hq) hg1).2.1
          obtain ⟨r, t2, e2, hrf⟩ : ∃ r t e, rdF s.data.toList (fromF o1 0) ⟨o1, 0, 0, 0, 0⟩ p1 = (r, t, e) := ⟨_, _, _, rfl⟩
          have hrI : rdI s.data.toList q = (r, t2, e2) := by rw [rdI_ok hg1 ho, hrf]
          have HE : Hid (e2 ≠ 0 → (L, e) = ([], e2)) := fun he2 => by
            have h2 := HQ.out
            rw [show n - j = (n - (j + 1)) + 1 from by omega, rdL_bad hrI he2] at h2
            simp only [Prod.mk.injEq] at h2
            rw [HL.out, if_pos (by omega), ← h2.2.2]
          have HN : Hid (e2 = 0 → rdL s.data.toList (n - (j + 1)) t2 (acc ++ [r]) = (LL, qq, ee)) := fun he2 => by
            subst he2
            rw [← HQ.out, show n - j = (n - (j + 1)) + 1 from by omega, rdL_ok hrI]
          have hF := rfields_any o1 h1 h2
          have hsz := lb_size o1
          have hat := fun k h => lb_at o1 k (by omega) h
          have hknown := lets_known o1 (by omega)
          have HF : Hid (rdF s.data.toList (lfrom (lets o1) 0) ⟨o1, 0, 0, 0, 0⟩ p1 = (r, t2, e2)) := by
            show _ = _
            rw [← hrf, ← lets_named o1 (by omega)]
            rfl
          have hs3 : (lets o1).length ≤ 3 := by
            have : ∀ x : Fin 18, (lets x).length ≤ 3 := by decide
            exact this ⟨o1, by omega⟩
          unfold RFieldsIs at hF
          generalize lb o1 = s2 at *
          generalize lets o1 = M at *
          have hw1 := i64_n o1 (by omega)
          clear hg1 hrf hrI ho HQ HR
          go_wp2_with (go_at_call 36; refine (hc1 _).mono ?_; rintro x w2 ⟨rfl, hb2⟩)
          have hB2 := (chain hB hb2).alloc (o := .cells #[.int .i64 o1, .int .i64 0, .int .i64 0, .int .i64 0, .int .i64 0] 23) (chain hB hb2).size
          have hrow2 := (hrow.later hb2).later ((Below.refl w2.heap.size w2).alloc (Nat.le_refl _) (.cells #[.int .i64 o1, .int .i64 0, .int .i64 0, .int .i64 0, .int .i64 0] 23))
          have hblk2 : IBlk (w2.alloc (.cells #[.int .i64 o1, .int .i64 0, .int .i64 0, .int .i64 0, .int .i64 0] 23)) w2.heap.size ⟨o1, 0, 0, 0, 0⟩ := heap_alloc_new w2 _
          have hsz2 : w.heap.size ≤ w2.heap.size := by have := hB.size; have := hb2.size; omega
          have hne2 : some w2.heap.size ≠ (Value.slice o j cap).ownBlock := fun he => by have h5 := (ow.lt hrow he.symm).2; have h6 := hb2.size; omega
          clear hB hrow
          go_loopw [9, 12] (fun x y wq => ∃ (k q2 : Nat) (i : In), x = .int .i64 q2 ∧ y = .int .i64 k ∧ k ≤ s2.size ∧ q2 ≤ s.size ∧ i.op = o1 ∧ IBlk wq w2.heap.size i ∧ RowI wq w.heap.size (.slice o j cap) acc ∧ Below w.heap.size w wq ∧ Hid (rdF s.data.toList (lfrom M k) i q2 = (r, t2, e2))) (fun _ y _ => s2.size - (intOf y).toNat)
          case atStart => exact ⟨0, p1, ⟨o1, 0, 0, 0, 0⟩, rfl, rfl, by omega, hp1, rfl, hblk2, hrow2, hB2, HF⟩
          case round =>
            rename_i wq
            obtain ⟨k, q2, i, rfl, rfl, hk, hq2, hio, b1, hrow, hB, HG⟩ := hrel
            obtain ⟨op, a, b, c, d⟩ := i
            obtain rfl : op = o1 := hio
            have c0 := b1.c0
            by_cases hkl : k < s2.size
            · have hk3 : k < 3 := by omega
              have hcc := hat k hkl
              have hM2 : M.getD k 0 ∈ M := by rw [List.getD_eq_getElem?_getD, List.getElem?_eq_getElem (by omega : k < M.length)]; exact List.getElem_mem _
              have hkn := hknown _ hM2
              have HK := (show Hid (lfrom M k = (fldC (M.getD k 0), mostC (M.getD k 0)) :: lfrom M (k + 1)) from lfrom_take M k (by omega))
              obtain ⟨cc, hcd⟩ : ∃ cc : Nat, cc = M.getD k 0 := ⟨_, rfl⟩
              rw [← hcd] at hcc hkn HK
              have hMc := most_any cc
              have hml : mostC cc ≤ 1073741824 := by unfold mostC; split <;> (try split) <;> (try split) <;> (try split) <;> omega
              unfold MostIs at hMc
              obtain ⟨n3, t3, e3, hg3⟩ : ∃ n to e, gets s.data.toList q2 = (n, to, e) := ⟨_, _, _, rfl⟩
              have hc3 := rget_in s q2 hs hq2 n3 t3 e3 hg3
              unfold RGetIs at hc3
              clear hM2 hcd hat hknown
              by_cases he3 : e3 = 0
              · subst he3
                generalize hm : mostC cc = m at *
                have hmu := u64_small m hml
                by_cases hn3 : m < n3
                · have HX : Hid ((L, e) = ([], 210)) := by
                    show _ = _
                    have h4 := HG.out
                    rw [HK.out, rdF_far hg3 hn3] at h4
                    simp only [Prod.mk.injEq] at h4
                    rw [HE.out (by omega), ← h4.2.2]
                  clear HG HK HE HN hg3 HL hkn
                  go_wp2_with (first | (go_at_call 22; refine (hF _).mono ?_; rintro e w3 ⟨rfl, hx⟩; have b1 := b1.later hx; have hrow := hrow.later hx; have hB := chain hB hx; have d0 := b1.c0; have d1 := b1.c1; have d2 := b1.c2; have d3 := b1.c3; have d4 := b1.c4; have f0 := b1.fz 0; have f1 := b1.fz 1; have f2 := b1.fz 2; have f3 := b1.fz 3; have f4 := b1.fz 4) | (go_at_call 36; refine (hc3 _).mono ?_; rintro e w4 ⟨rfl, hx⟩; have b1 := b1.later hx; have hrow := hrow.later hx; have hB := chain hB hx; have d0 := b1.c0; have d1 := b1.c1; have d2 := b1.c2; have d3 := b1.c3; have d4 := b1.c4; have f0 := b1.fz 0; have f1 := b1.fz 1; have f2 := b1.fz 2; have f3 := b1.fz 3; have f4 := b1.fz 4) | (go_at_call 24; refine (hMc _).mono ?_; rintro e w5 ⟨rfl, hx⟩; obtain rfl := hx.symm))
                  go_ret2
                  have HX := HX.out
                  simp only [Prod.mk.injEq] at HX
                  obtain ⟨rfl, rfl⟩ := HX
                  exact ⟨_, rfl, insAt_nil _, hB⟩
                · have hq3 : t3 ≤ s.size := (gets_le (l := s.data.toList) (p := q2) (by simpa using hq2) hg3).2.1
                  have hW := with_any ⟨o1, a, b, c, d⟩ cc n3
                  have hn3w := i64_n n3 (by omega)
                  rw [with_set _ _ _ hkn] at hW
                  have HX : Hid (rdF s.data.toList (lfrom M (k + 1)) (setF ⟨o1, a, b, c, d⟩ (fldC cc) n3) t3 = (r, t2, e2)) := by
                    show _ = _
                    rw [← HG.out, HK.out, rdF_ok hg3 hn3]
                  have hop : (setF ⟨o1, a, b, c, d⟩ (fldC cc) n3).op = o1 := setF_op ⟨o1, a, b, c, d⟩ (fldC cc) n3
                  generalize setF ⟨o1, a, b, c, d⟩ (fldC cc) n3 = r2 at *
                  unfold WithIs vI at hW
                  obtain ⟨p2, a2, b2, c2, d2'⟩ := r2
                  obtain rfl : p2 = (o1 : Int) := hop
                  clear HG HK hg3 hkn
                  go_wp2_with (first | (go_at_call 22; refine (hF _).mono ?_; rintro e w3 ⟨rfl, hx⟩; have b1 := b1.later hx; have hrow := hrow.later hx; have hB := chain hB hx; have d0 := b1.c0; have d1 := b1.c1; have d2 := b1.c2; have d3 := b1.c3; have d4 := b1.c4; have f0 := b1.fz 0; have f1 := b1.fz 1; have f2 := b1.fz 2; have f3 := b1.fz 3; have f4 := b1.fz 4) | (go_at_call 36; refine (hc3 _).mono ?_; rintro e w4 ⟨rfl, hx⟩; have b1 := b1.later hx; have hrow := hrow.later hx; have hB := chain hB hx; have d0 := b1.c0; have d1 := b1.c1; have d2 := b1.c2; have d3 := b1.c3; have d4 := b1.c4; have f0 := b1.fz 0; have f1 := b1.fz 1; have f2 := b1.fz 2; have f3 := b1.fz 3; have f4 := b1.fz 4) | (go_at_call 24; refine (hMc _).mono ?_; rintro e w5 ⟨rfl, hx⟩; obtain rfl := hx.symm) | (go_at_call 25; refine (hW _).mono ?_; rintro e w6 ⟨rfl, hx⟩; have b1 := b1.later hx; have hrow := hrow.later hx; have hB := chain hB hx; have d0 := b1.c0; have d1 := b1.c1; have d2 := b1.c2; have d3 := b1.c3; have d4 := b1.c4; have f0 := b1.fz 0; have f1 := b1.fz 1; have f2 := b1.fz 2; have f3 := b1.fz 3; have f4 := b1.fz 4))
                  go_roundw
                  case rel => exact ⟨k + 1, t3, ⟨o1, a2, b2, c2, d2'⟩, rfl, by go_num, by omega, hq3, rfl, set5 b1 ⟨o1, a2, b2, c2, d2'⟩, hrow.block5 b1 trivial _ _ _ _ _ hne2, Below.set5 hB hsz2 _ _ _ _ _, HX⟩
                  case measure => simp [intOf]; omega
              · have hne : ((e3 : Int) == 0) = false := by rw [beq_eq_false_iff_ne]; omega
                have HX : Hid ((L, e) = ([], e3)) := by
                  show _ = _
                  have h4 := HG.out
                  rw [HK.out, rdF_bad hg3 he3] at h4
                  simp only [Prod.mk.injEq] at h4
                  rw [HE.out (by omega), ← h4.2.2]
                clear HG HK HE HN hg3 HL hkn
                go_wp2_with (first | (go_at_call 22; refine (hF _).mono ?_; rintro e w3 ⟨rfl, hx⟩; have b1 := b1.later hx; have hrow := hrow.later hx; have hB := chain hB hx; have d0 := b1.c0; have d1 := b1.c1; have d2 := b1.c2; have d3 := b1.c3; have d4 := b1.c4; have f0 := b1.fz 0; have f1 := b1.fz 1; have f2 := b1.fz 2; have f3 := b1.fz 3; have f4 := b1.fz 4) | (go_at_call 36; refine (hc3 _).mono ?_; rintro e w4 ⟨rfl, hx⟩; have b1 := b1.later hx; have hrow := hrow.later hx; have hB := chain hB hx; have d0 := b1.c0; have d1 := b1.c1; have d2 := b1.c2; have d3 := b1.c3; have d4 := b1.c4; have f0 := b1.fz 0; have f1 := b1.fz 1; have f2 := b1.fz 2; have f3 := b1.fz 3; have f4 := b1.fz 4))
                go_ret2
                have HX := HX.out
                simp only [Prod.mk.injEq] at HX
                obtain ⟨rfl, rfl⟩ := HX
                exact ⟨_, rfl, insAt_nil _, hB⟩
            · have HX : Hid (rdL s.data.toList (n - (j + 1)) q2 (acc ++ [⟨o1, a, b, c, d⟩]) = (LL, qq, ee)) := by
                show _ = _
                have h4 := HG.out
                rw [lfrom_end M k (by omega)] at h4
                simp only [rdF, Prod.mk.injEq] at h4
                rw [h4.1, h4.2.1]
                exact HN.out (by omega)
              clear HG HE HN hat hknown
              go_wp2_with (first | (go_at_call 22; refine (hF _).mono ?_; rintro e w3 ⟨rfl, hx⟩; have b1 := b1.later hx; have hrow := hrow.later hx; have hB := chain hB hx; have d0 := b1.c0; have d1 := b1.c1; have d2 := b1.c2; have d3 := b1.c3; have d4 := b1.c4; have f0 := b1.fz 0; have f1 := b1.fz 1; have f2 := b1.fz 2; have f3 := b1.fz 3; have f4 := b1.fz 4) | (at_builtin; refine wpList_appI rfl _ _ rfl w.heap.size _ acc _ ⟨o1, a, b, c, d⟩ rfl rfl (hrow.later ((Below.refl _ _).alloc (Nat.le_refl _) _)) (heap_alloc_new _ _) (by omega) (by have := hB.size; show _ ≤ (Array.push _ _).size; simp; omega) ?_; intro v' w' h1 h2 h3))
              obtain ⟨o', cap', hv', _, _⟩ := ow.form h1
              rw [List.length_append, hacc] at hv'
              subst hv'
              exact ⟨⟨q2, j + 1, acc ++ [⟨o1, a, b, c, d⟩], rfl, by omega, hq2, by rw [List.length_append, hacc]; rfl, h1, (hB.alloc hB.size _).trans h2, HX⟩, by show n - (j + 1) < n - j; omega⟩
      · have hne : ((e1 : Int) == 0) = false := by rw [beq_eq_false_iff_ne]; omega
        have HE : Hid ((L, e) = ([], e1)) := by
          show _ = _
          have h2 := HQ.out
          rw [show n - j = (n - (j + 1)) + 1 from by omega, rdL_bad (rdI_bad hg1 he) he] at h2
          simp only [Prod.mk.injEq] at h2
          rw [HL.out, if_pos (by omega), ← h2.2.2]
        clear HQ HR HL hg1
        go_wp2_with (go_at_call 36; refine (hc1 _).mono ?_; rintro x w2 ⟨rfl, hb2⟩)
        go_ret2
        have HE := HE.out
        simp only [Prod.mk.injEq] at HE
        obtain ⟨rfl, rfl⟩ := HE
        exact ⟨_, rfl, insAt_nil _, chain hB hb2⟩
    · obtain rfl : j = n := by omega
      have hlt : decide ((j : Int) < (j : Int)) = false := by simp
      have HE : Hid ((L, e) = if q ≠ s.size then ([], 210) else (acc, 0)) := by
        show _ = _
        have h2 := HQ.out
        rw [Nat.sub_self, rdL_end] at h2
        simp only [Prod.mk.injEq] at h2
        rw [HL.out, if_neg (by omega), ← h2.1, ← h2.2.1]
      clear HQ HR HL
      by_cases hqs : q = s.size
      · have hd : ((q : Int) == (s.size : Int)) = true := by simp; omega
        go_wp2
        go_ret2
        have HE := HE.out
        rw [if_neg (by omega)] at HE
        simp only [Prod.mk.injEq] at HE
        obtain ⟨rfl, rfl⟩ := HE
        exact ⟨_, rfl, hrow.read, hB⟩
      · have hd : ((q : Int) == (s.size : Int)) = false := by rw [beq_eq_false_iff_ne]; omega
        go_wp2
        go_ret2
        have HE := HE.out
        rw [if_pos hqs] at HE
        simp only [Prod.mk.injEq] at HE
        obtain ⟨rfl, rfl⟩ := HE
        exact ⟨_, rfl, insAt_nil _, hB⟩
end Go.Proofs.YtdekkjnlmlkbdaaDoor.is
