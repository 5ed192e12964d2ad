/-
  Contracts over this program: a line, as the document reads it (Read).
-/
import Derived.Test.YtdekkjnlmlkbdaaDoorLb
import Derived.Test.YtdekkjnlmlkbdaaDoorKf
import Derived.Test.YtdekkjnlmlkbdaaDoorHf
import Derived.Lib.QuietBelow
namespace Go.Proofs.YtdekkjnlmlkbdaaDoor.is
open Go.Proofs.YtdekkjnlmlkbdaaDoor.num
open Go.ChangeShapes Go.WideShapes Go.ChangeAt Go.RowKit Go.Sort
set_option linter.unusedVariables false

def RReadIs (s : ByteArray) : Prop := ∀ w, Calls Tryd.prog 38 #[.string s] w fun e w' => ∃ r, e = .returned (.tuple #[vI r, .bool (readL s.data.toList).isSome]) ∧ (∀ i, readL s.data.toList = some i → r = i) ∧ Below w.heap.size w w'

theorem IBlk.lower {B : Nat} {w w' : World} {g : Nat} {q : In} (h : IBlk w g q) (b : Below B w w') (hg : g < B) : IBlk w' g q := by unfold IBlk; rw [b.block g hg]; exact h
theorem StrP.block5 {w : World} {b off n cap : Nat} {l : List L8} (h : StrP w b off n cap l) {g : Nat} (hne : b ≠ g) (v0 v1 v2 v3 v4 : Value) : StrP (((((w.setCell ⟨g, 0, none⟩ v0).setCell ⟨g, 1, none⟩ v1).setCell ⟨g, 2, none⟩ v2).setCell ⟨g, 3, none⟩ v3).setCell ⟨g, 4, none⟩ v4) b off n cap l := by
  have hs : ∀ (w : World) (p : Addr) (v : Value), (w.setCell p v).heap.size = w.heap.size := fun w p v => by show (w.heap.modify _ _).size = _; simp
  refine h.keep (by rw [hs, hs, hs, hs, hs]; exact Nat.le_refl _) ?_
  rw [Below.heap_setCell _ _ _ _ hne, Below.heap_setCell _ _ _ _ hne, Below.heap_setCell _ _ _ _ hne, Below.heap_setCell _ _ _ _ hne, Below.heap_setCell _ _ _ _ hne]
/-- the fields by their letters from k on -/
def lkind (o : Nat) (M : List Nat) (k : Nat) : List (Nat × Nat) := (M.drop k).map fun c => (fldC c, kd o (fldC c))
theorem lkind_take (o : Nat) (M : List Nat) (k : Nat) (h : k < M.length) : lkind o M k = (fldC (M.getD k 0), kd o (fldC (M.getD k 0))) :: lkind o M (k + 1) := by
  unfold lkind
  rw [List.drop_eq_getElem_cons h, List.map_cons, List.getD_eq_getElem?_getD, List.getElem?_eq_getElem h]
  rfl
theorem lkind_end (o : Nat) (M : List Nat) (k : Nat) (h : M.length ≤ k) : lkind o M k = [] := by unfold lkind; rw [List.drop_eq_nil_of_le h]; rfl
theorem namedK_len (o : Nat) (h : o < 18) : (namedK o 0).length = (lets o).length := by rw [← kd_lets o h, List.length_map]
/-- no Op of the table fits: the line is none -/
theorem readL_none {line word : L8} {ps : List L8} (hc : cutG [] line = word :: ps) (h : ∀ j, 1 ≤ j → j ≤ 17 → ¬ (wrd j = word ∧ ps.length = (lets j).length)) : readL line = none := by
  by_cases ho : opW word = 0
  · exact readL_no hc ho
  · rw [readL_at hc ho]
    obtain ⟨h17, hw⟩ := opW_le word
    cases hr : readF (namedK (opW word) 0) ps ⟨opW word, 0, 0, 0, 0⟩ with
    | none => rfl
    | some x =>
      have h1 := readF_len _ _ _ _ hr
      rw [namedK_len _ (by omega)] at h1
      exact absurd ⟨hw (by omega), h1⟩ (h (opW word) (by omega) h17)
theorem readL_fit {line : L8} {o : Nat} {ps : List L8} (hc : cutG [] line = wrd o :: ps) (h1 : 1 ≤ o) (h2 : o ≤ 17) : readL line = readF (lkind o (lets o) 0) ps ⟨o, 0, 0, 0, 0⟩ := by
  have ho := opW_at o h1 h2
  rw [readL_at hc (by omega), ho, ← kd_lets o (by omega)]
  rfl

set_option maxHeartbeats 2000000 in
set_option maxRecDepth 100000 in
theorem rread_any (s : ByteArray) (hs : s.size ≤ 300000) : RReadIs s := by
  intro w
  obtain ⟨word, ps, hcut⟩ : ∃ p ps, cutG [] s.data.toList = p :: ps := by
    cases h : cutG [] s.data.toList with
    | nil => exact absurd h (cutG_ne _ _)
    | cons p ps => exact ⟨p, ps, rfl⟩
  have HC := (show Hid (cutG [] s.data.toList = word :: ps) from hcut)
  have HNO := (show Hid ((∀ j, 1 ≤ j → j ≤ 17 → ¬ (wrd j = word ∧ ps.length = (lets j).length)) → readL s.data.toList = none) from readL_none hcut)
  have HYE := (show Hid (∀ o, 1 ≤ o → o ≤ 17 → wrd o = word → readL s.data.toList = readF (lkind o (lets o) 0) ps ⟨o, 0, 0, 0, 0⟩) from fun o h1 h2 h => readL_fit (by rw [h]; exact hcut) h1 h2)
  generalize readL s.data.toList = R at *
  clear hcut
  have B0 : Below w.heap.size w (w.alloc (.cells #[.int .i64 0, .int .i64 0, .int .i64 0, .int .i64 0, .int .i64 0] 23)) := (Below.refl _ _).alloc (Nat.le_refl _) _
  have hz0 : IBlk (w.alloc (.cells #[.int .i64 0, .int .i64 0, .int .i64 0, .int .i64 0, .int .i64 0] 23)) w.heap.size zI := heap_alloc_new w _
  have hs0 := alloc1 w (.cells #[.int .i64 0, .int .i64 0, .int .i64 0, .int .i64 0, .int .i64 0] 23)
  go_enter Tryd.func38, Tryd.ntmps38
  go_wp2
  generalize w.alloc (.cells #[.int .i64 0, .int .i64 0, .int .i64 0, .int .i64 0, .int .i64 0] 23) = W0 at *
  have B1 : Below w.heap.size w (W0.alloc (.cells #[] 9)) := B0.alloc B0.size _
  have hz1 : IBlk (W0.alloc (.cells #[] 9)) w.heap.size zI := hz0.later ((Below.refl _ _).alloc (Nat.le_refl _) _)
  have hr1 : RowS (W0.alloc (.cells #[] 9)) (w.heap.size + 1) (.slice (some ⟨w.heap.size + 1, 0, none⟩) 0 0) [] := by have h := rowS_new W0 (w.heap.size + 1) (by omega); rw [hs0] at h; exact h
  generalize W0.alloc (.cells #[] 9) = W1 at *
  clear hs0 hz0 B0
  go_loopw [4, 5, 6] (fun v x y wr => ∃ (i a : Nat) (done : List L8), x = .int .i64 a ∧ y = .int .i64 i ∧ RowS wr (w.heap.size + 1) v done ∧ IBlk wr w.heap.size zI ∧ Below w.heap.size w wr ∧ done.length ≤ i ∧ ((i ≤ s.size ∧ a ≤ i ∧ Hid (done ++ cutG (mid s a i) (s.data.toList.drop i) = word :: ps)) ∨ (i = s.size + 1 ∧ Hid (done = word :: ps)))) (fun _ _ y _ => s.size + 1 - (intOf y).toNat)
  case atStart => exact ⟨0, 0, [], rfl, rfl, hr1, hz1, B1, by simp, .inl ⟨by omega, by omega, by show _ = _; rw [mid_nil, List.drop_zero]; exact HC.out⟩⟩
  case round =>
    rename World => wr
    obtain ⟨i, a, done, rfl, rfl, hrow, zb, hB, hdl, hcase⟩ := hrel
    clear hr1 hz1 B1
    rcases hcase with ⟨hi, hai, HQ⟩ | ⟨rfl, HQ⟩
    · by_cases hp : i < s.size
      · have hd := drop_at s i hp
        have hie : ((i : Int) == (s.size : Int)) = false := by rw [beq_eq_false_iff_ne]; omega
        by_cases hb : s[i].toNat = 32
        · have hb32 : s[i] = 32 := UInt8.toNat_inj.1 hb
          have HN : Hid ((done ++ [(s.extract a i).data.toList]) ++ cutG (mid s (i + 1) (i + 1)) (s.data.toList.drop (i + 1)) = word :: ps) := by
            show _ = _
            rw [← HQ.out, hd, hb32, cutG, if_pos rfl, mid_nil, mid_ext, List.append_assoc]
            rfl
          have hbelA : Below wr.heap.size wr (wr.alloc (.cells #[.string (s.extract a i)] 9)) := (Below.refl _ _).alloc (Nat.le_refl _) _
          have hrowA := hrow.later hbelA
          have hcA : (wr.alloc (.cells #[.string (s.extract a i)] 9)).cell? ⟨wr.heap.size, 0, none⟩ = some (.string (s.extract a i)) := by rw [Lib.cell_of_heap (heap_alloc_new wr _)]; rfl
          have hzA := alloc1 wr (.cells #[.string (s.extract a i)] 9)
          have hBA := chain hB hbelA
          have hzbA := zb.later hbelA
          have hBs := zb.lt
          clear HQ hd hb32
          go_wp2_with (at_builtin; refine wpList_appS rfl _ _ rfl (w.heap.size + 1) _ done _ (s.extract a i) rfl rfl hrowA hcA (by omega) (by omega) ?_; intro v' w' h1 h2 h3)
          go_roundw
          case rel => exact ⟨i + 1, i + 1, done ++ [(s.extract a i).data.toList], by go_num, by go_num, h1, hzbA.lower h2 (Nat.lt_succ_self _), hBA.trans (h2.mono (Nat.le_succ _)), by simp; omega, .inl ⟨by omega, by omega, HN⟩⟩
          case measure => simp [intOf]; omega
        · have hb32 : s[i] ≠ 32 := fun e => hb (by rw [e]; rfl)
          have HN : Hid (done ++ cutG (mid s a (i + 1)) (s.data.toList.drop (i + 1)) = word :: ps) := by
            show _ = _
            rw [← HQ.out, hd, cutG, if_neg hb32, mid_snoc s a i hai hp]
          have hbe : ((s[i].toNat : Int) == 32) = false := by rw [beq_eq_false_iff_ne]; omega
          clear HQ hd hb32 hb
          go_wp2
          go_roundw
          case rel => exact ⟨i + 1, a, done, rfl, by go_num, hrow, zb, hB, by omega, .inl ⟨by omega, by omega, HN⟩⟩
          case measure => simp [intOf]; omega
      · obtain rfl : i = s.size := by omega
        have hie : ((s.size : Int) == (s.size : Int)) = true := by simp
        have HN : Hid (done ++ [(s.extract a s.size).data.toList] = word :: ps) := by
          show _ = _
          rw [← HQ.out, List.drop_eq_nil_of_le (by simp), mid_ext]
          rfl
        have hbelA : Below wr.heap.size wr (wr.alloc (.cells #[.string (s.extract a s.size)] 9)) := (Below.refl _ _).alloc (Nat.le_refl _) _
        have hrowA := hrow.later hbelA
        have hcA : (wr.alloc (.cells #[.string (s.extract a s.size)] 9)).cell? ⟨wr.heap.size, 0, none⟩ = some (.string (s.extract a s.size)) := by rw [Lib.cell_of_heap (heap_alloc_new wr _)]; rfl
        have hzA := alloc1 wr (.cells #[.string (s.extract a s.size)] 9)
        have hBA := chain hB hbelA
        have hzbA := zb.later hbelA
        have hBs := zb.lt
        clear HQ
        go_wp2_with (at_builtin; refine wpList_appS rfl _ _ rfl (w.heap.size + 1) _ done _ (s.extract a s.size) rfl rfl hrowA hcA (by omega) (by omega) ?_; intro v' w' h1 h2 h3)
        go_roundw
        case rel => exact ⟨s.size + 1, s.size + 1, done ++ [(s.extract a s.size).data.toList], by go_num, by go_num, h1, hzbA.lower h2 (Nat.lt_succ_self _), hBA.trans (h2.mono (Nat.le_succ _)), by simp; omega, .inr ⟨rfl, HN⟩⟩
        case measure => simp [intOf]
    · have hst := hrow.read
      rw [HQ.out] at hst
      obtain ⟨oo, cap, hv, hc1, hc2, hc3⟩ := hst
      obtain ⟨b, off, rfl, hc4⟩ := hc3 (by simp)
      subst hv
      have sp : StrP wr b off (ps.length + 1) cap (word :: ps) := ⟨by simp, by simpa using hc1, hc2, by have h := hc4 0 (by simp); exact cell_lt h, hc4⟩
      have hlen : (word :: ps).length = ps.length + 1 := by simp
      rw [hlen]
      clear hc1 hc2 hc3 hc4 hrow HQ hdl HC hlen
      have hcapn := sp.fit
      have hcapm := sp.max
      clear hcapn
      go_wp2
      go_loopw [7] (fun x wq => ∃ o : Nat, x = .int .i64 o ∧ 1 ≤ o ∧ o ≤ 18 ∧ StrP wq b off (ps.length + 1) cap (word :: ps) ∧ IBlk wq w.heap.size zI ∧ Below w.heap.size w wq ∧ Hid (∀ j, 1 ≤ j → j < o → ¬ (wrd j = word ∧ ps.length = (lets j).length))) (fun x _ => 18 - (intOf x).toNat)
      case atStart => exact ⟨1, rfl, by omega, by omega, sp, zb, hB, fun j h1 h2 => by omega⟩
      case round =>
        rename World => wq
        clear sp zb hB
        obtain ⟨o, rfl, ho1, ho2, sp, zb, hB, HJ⟩ := hrel
        by_cases h17 : o ≤ 17
        · have hW := rword_any o ho1 h17
          have hF := rfields_any o ho1 h17
          have hsz := lb_size o
          have hs3 : (lets o).length ≤ 3 := by
            have : ∀ x : Fin 18, (lets x).length ≤ 3 := by decide
            exact this ⟨o, by omega⟩
          unfold RWordIs at hW
          unfold RFieldsIs at hF
          have hhead := sp.head
          have HJX := (show Hid (¬ (wrd o = word ∧ ps.length = (lets o).length) → ∀ j, 1 ≤ j → j < o + 1 → ¬ (wrd j = word ∧ ps.length = (lets j).length)) from fun hno j h1 h2 => by
            by_cases hj : j < o
            · exact HJ.out j h1 hj
            · obtain rfl : j = o := by omega
              exact hno)
          by_cases hw : wrd o = word
          · have he : ((ba (wrd o)).toList == (ba word).toList) = true := by rw [beq_iff_eq, hw]
            by_cases hl : ps.length = (lets o).length
            · have hle : (((ps.length : Int) + 1) == (((lb o).size : Int) + 1)) = true := by rw [beq_iff_eq, hsz]; omega
              have HR := (show Hid (R = readF (lkind o (lets o) 0) ps ⟨o, 0, 0, 0, 0⟩) from HYE.out o ho1 h17 hw)
              clear HJX HJ hw
              have z0 := cell_regrown hhead
              have g1 : ∀ d os, Calls Tryd.prog 42 #[.int .i64 o] (grow (redrawn wq d) os) fun e w'' => e = .returned (.string (ba (wrd o))) ∧ ∃ p : Regrown, w'' = grow (redrawn wq p.d) p.os := fun d os => Calls.regrown_of (hW _)
              have g2 : ∀ d os, Calls Tryd.prog 22 #[.int .i64 o] (grow (redrawn wq d) os) fun e w'' => e = .returned (.string (lb o)) ∧ ∃ p : Regrown, w'' = grow (redrawn wq p.d) p.os := fun d os => Calls.regrown_of (hF _)
              go_wp2
              refine wp_region_quiet_below (by kernel_rfl) (by kernel_rfl) ?_
              repeat (go_big_quiet_step (first | (with_reducible exact g1 _ _) | (with_reducible exact g2 _ _)))
              refine wpQuiet_nil ?_
              intro _ hw'
              obtain ⟨⟨dq, osq⟩, hw''⟩ := hw'
              subst hw''
              have b3 := below_regrown wq dq osq
              have sp3 := sp.later b3
              have zb3 := zb.later b3
              have hB3 := chain hB b3
              clear g1 g2 z0
              generalize grow (redrawn wq dq) osq = w3 at *
              have hkn := lets_known o (by omega)
              have hsg0 := signC_sgn o (by omega)
              have hms0 := most_lets o (by omega)
              have hat := fun k h => lb_at o k (by omega) h
              have HR : Hid (readF (lkind o (lets o) 0) (ps.drop 0) ⟨o, 0, 0, 0, 0⟩ = R) := HR.out.symm
              have hs8 := alloc1 w3 (.cells #[.int .i64 o, .int .i64 0, .int .i64 0, .int .i64 0, .int .i64 0] 23)
              have ib8 : IBlk (w3.alloc (.cells #[.int .i64 o, .int .i64 0, .int .i64 0, .int .i64 0, .int .i64 0] 23)) w3.heap.size ⟨o, 0, 0, 0, 0⟩ := heap_alloc_new w3 _
              have hb8 : Below w3.heap.size w3 (w3.alloc (.cells #[.int .i64 o, .int .i64 0, .int .i64 0, .int .i64 0, .int .i64 0] 23)) := (Below.refl _ _).alloc (Nat.le_refl _) _
              have sp8 := sp3.later hb8
              have zb8 := zb3.later hb8
              have hB8 := chain hB3 hb8
              have hg8 : w.heap.size < w3.heap.size := zb3.lt
              have hgb8 : b < w3.heap.size := sp3.blk
              generalize lets o = M at *
              generalize lb o = s2 at *
              clear sp sp3 zb zb3 hB hB3 b3 hhead hW he hle
              go_wp2
              generalize w3.alloc (.cells #[.int .i64 o, .int .i64 0, .int .i64 0, .int .i64 0, .int .i64 0] 23) = w4 at *
              generalize w3.heap.size = g8 at *
              go_loopw [9] (fun x wz => ∃ (k : Nat) (i : In), x = .int .i64 k ∧ k ≤ s2.size ∧ i.op = o ∧ StrP wz b off (ps.length + 1) cap (word :: ps) ∧ IBlk wz w.heap.size zI ∧ IBlk wz g8 i ∧ Below w.heap.size w wz ∧ Hid (readF (lkind o M k) (ps.drop k) i = R)) (fun x _ => s2.size - (intOf x).toNat)
              case atStart => exact ⟨0, ⟨o, 0, 0, 0, 0⟩, rfl, by omega, rfl, sp8, zb8, ib8, hB8, HR⟩
              case round =>
                rename World => wz
                clear sp8 zb8 ib8 hB8 hb8 HR hs8
                obtain ⟨k, i, rfl, hk, hio, sp, zb, ib, hB, HQ⟩ := hrel
                obtain ⟨op, xa, xb, xc, xd⟩ := i
                obtain rfl : op = o := hio
                obtain ⟨⟨z0, z1, z2, z3, z4⟩, y0, y1, y2, y3, y4⟩ := zb.zero
                have d0 := ib.c0
                have d1 := ib.c1
                have d2 := ib.c2
                have d3 := ib.c3
                have d4 := ib.c4
                by_cases hkl : k < s2.size
                · have hkp : k < ps.length := by omega
                  have hcc := hat k hkl
                  have hcm : M.getD k 0 ∈ M := by rw [List.getD_eq_getElem?_getD, List.getElem?_eq_getElem (by omega : k < M.length)]; exact List.getElem_mem _
                  have hkc := hkn _ hcm
                  have hsgc := hsg0 _ hcm
                  have hmsc := hms0 _ hcm
                  obtain ⟨p, hpk⟩ : ∃ p, ps[k] = p := ⟨_, rfl⟩
                  have HK : Hid (readF ((fldC (M.getD k 0), kd o (fldC (M.getD k 0))) :: lkind o M (k + 1)) (p :: ps.drop (k + 1)) ⟨o, xa, xb, xc, xd⟩ = R) := by
                    show _ = _
                    rw [← HQ.out, lkind_take o M k (by omega), List.drop_eq_getElem_cons hkp, hpk]
                  have hSg := rsign_any (M.getD k 0)
                  have hMc := most_any (M.getD k 0)
                  have hkd6 := kd_lt o (fldC (M.getD k 0))
                  have hml := most_lt (kd o (fldC (M.getD k 0)))
                  unfold RSignIs at hSg
                  unfold MostIs at hMc
                  have HF := (show Hid (fieldV (kd o (fldC (M.getD k 0))) p = if p.take (signC (M.getD k 0)).length = signC (M.getD k 0) then (numR (p.drop (signC (M.getD k 0)).length)).bind (fun v => if v ≤ mostC (M.getD k 0) then some v else none) else none) by show _ = _; unfold fieldV; rw [← hsgc, numV_R _ hml, hmsc])
                  rw [hmsc] at hml
                  have hWi := fun v : Nat => with_any ⟨o, xa, xb, xc, xd⟩ (M.getD k 0) v
                  simp only [with_set _ _ _ hkc] at hWi
                  clear hat hkn hsg0 hms0 HQ hsgc hmsc hcm hkc
                  generalize M.getD k 0 = c at *
                  generalize kd o (fldC c) = kk at *
                  generalize signC c = sg at *
                  generalize mostC c = mm at *
                  have hpsz := ba_size p
                  have hgsz := ba_size sg
                  by_cases ht : p.take sg.length = sg
                  · have hle : ¬ p.length < sg.length := fun h => by have := congrArg List.length ht; rw [List.length_take] at this; omega
                    have hlb : decide (((ba p).size : Int) < ((ba sg).size : Int)) = false := by rw [hpsz, hgsz]; simp; omega
                    have hsz2 : (ba sg).size ≤ (ba p).size := by omega
                    have hq : (((ba p).extract 0 (ba sg).size).toList == (ba sg).toList) = true := by
                      rw [beq_iff_eq, ByteArray.toList_eq, ByteArray.toList_eq, ext_list, List.drop_zero, hgsz]
                      exact ht
                    obtain ⟨ex, hex⟩ : ∃ ex, ex = (ba p).extract (ba sg).size (ba p).size := ⟨_, rfl⟩
                    have hexl : ex.data.toList = p.drop sg.length := by rw [hex, ext_list, hgsz, hpsz, show (ba p).data.toList = p from rfl, List.take_of_length_le (Nat.le_refl _)]
                    have hNm := number_any ex
                    unfold NumberIs at hNm
                    rw [hexl] at hNm
                    have HF2 := (show Hid (fieldV kk p = (numR (p.drop sg.length)).bind (fun v => if v ≤ mm then some v else none)) by show _ = _; rw [HF.out, if_pos ht])
                    cases hv : numR (p.drop sg.length) with
                    | none =>
                      have HE := (show Hid (R = none) by show _ = _; rw [← HK.out, readF_bad (by rw [HF2.out, hv]; rfl)])
                      rw [hv, show numI none = (-1 : Int) from rfl, hex] at hNm
                      clear HF HF2 HK hv ht hex hexl hWi hMc hml hpsz hgsz
                      go_wp2_with (first | (go_at_call 22; refine (hF _).mono ?_; rintro e w6 ⟨rfl, hx⟩; have sp := sp.later hx; have zb := zb.later hx; have ib := ib.later hx; have hB := chain hB hx; obtain ⟨⟨z0, z1, z2, z3, z4⟩, y0, y1, y2, y3, y4⟩ := zb.zero; have d0 := ib.c0; have d1 := ib.c1; have d2 := ib.c2; have d3 := ib.c3; have d4 := ib.c4; have f0 := ib.fz 0; have f1 := ib.fz 1; have f2 := ib.fz 2; have f3 := ib.fz 3; have f4 := ib.fz 4; have hcell := sp.cell (k + 1) (by simp; omega); rw [List.getElem_cons_succ, hpk] at hcell) | (go_at_call 43; refine (hSg _).mono ?_; rintro e w7 ⟨rfl, hx⟩; obtain rfl := hx.symm) | (go_at_call 51; refine (hNm _).mono ?_; rintro e w8 ⟨rfl, hx⟩; obtain rfl := hx.symm))
                      all_goals (
                        have HE := HE.out
                        subst HE
                        exact ret_ib Tryd.results38 w.heap.size ⟨o, xa, xb, xc, xd⟩ _ rfl (set5 zb ⟨o, xa, xb, xc, xd⟩) rfl rfl ⟨⟨o, xa, xb, xc, xd⟩, rfl, (fun i h => by cases h), Below.set5 hB (Nat.le_refl _) _ _ _ _ _⟩)
                    | some v =>
                      have hv11 := numR_lt hv
                      have hv12 : v < 100000000000 := hv11
                      rw [hv, show numI (some v) = (v : Int) from rfl, hex] at hNm
                      by_cases hvm : mm < v
                      · have HE := (show Hid (R = none) by show _ = _; rw [← HK.out, readF_bad (by rw [HF2.out, hv]; show (if v ≤ mm then some v else none) = none; rw [if_neg (by omega)])])
                        clear HF HF2 HK hv ht hex hexl hWi hml hv11 hpsz hgsz
                        go_wp2_with (first | (go_at_call 22; refine (hF _).mono ?_; rintro e w6 ⟨rfl, hx⟩; have sp := sp.later hx; have zb := zb.later hx; have ib := ib.later hx; have hB := chain hB hx; obtain ⟨⟨z0, z1, z2, z3, z4⟩, y0, y1, y2, y3, y4⟩ := zb.zero; have d0 := ib.c0; have d1 := ib.c1; have d2 := ib.c2; have d3 := ib.c3; have d4 := ib.c4; have f0 := ib.fz 0; have f1 := ib.fz 1; have f2 := ib.fz 2; have f3 := ib.fz 3; have f4 := ib.fz 4; have hcell := sp.cell (k + 1) (by simp; omega); rw [List.getElem_cons_succ, hpk] at hcell) | (go_at_call 43; refine (hSg _).mono ?_; rintro e w7 ⟨rfl, hx⟩; obtain rfl := hx.symm) | (go_at_call 51; refine (hNm _).mono ?_; rintro e w8 ⟨rfl, hx⟩; obtain rfl := hx.symm) | (go_at_call 24; refine (hMc _).mono ?_; rintro e w9 ⟨rfl, hx⟩; obtain rfl := hx.symm))
                        all_goals (
                          have HE := HE.out
                          subst HE
                          exact ret_ib Tryd.results38 w.heap.size ⟨o, xa, xb, xc, xd⟩ _ rfl (set5 zb ⟨o, xa, xb, xc, xd⟩) rfl rfl ⟨⟨o, xa, xb, xc, xd⟩, rfl, (fun i h => by cases h), Below.set5 hB (Nat.le_refl _) _ _ _ _ _⟩)
                      · have HN := (show Hid (readF (lkind o M (k + 1)) (ps.drop (k + 1)) (setF ⟨o, xa, xb, xc, xd⟩ (fldC c) v) = R) by show _ = _; rw [← HK.out, readF_ok (by rw [HF2.out, hv]; show (if v ≤ mm then some v else none) = some v; rw [if_pos (by omega)])])
                        have hWi := hWi v
                        have hop : (setF ⟨o, xa, xb, xc, xd⟩ (fldC c) v).op = o := set_op _ _ _
                        generalize setF ⟨o, xa, xb, xc, xd⟩ (fldC c) v = r2 at *
                        obtain ⟨p2, a2, b2, c2, e2⟩ := r2
                        obtain rfl : p2 = (o : Int) := hop
                        unfold WithIs vI at hWi
                        have hk3 : k ≤ 2 := by omega
                        clear HF HF2 HK hv ht hex hexl hml hv11 hpsz hgsz hl hsz
                        go_wp2_with (first | (go_at_call 22; refine (hF _).mono ?_; rintro e w6 ⟨rfl, hx⟩; have sp := sp.later hx; have zb := zb.later hx; have ib := ib.later hx; have hB := chain hB hx; obtain ⟨⟨z0, z1, z2, z3, z4⟩, y0, y1, y2, y3, y4⟩ := zb.zero; have d0 := ib.c0; have d1 := ib.c1; have d2 := ib.c2; have d3 := ib.c3; have d4 := ib.c4; have f0 := ib.fz 0; have f1 := ib.fz 1; have f2 := ib.fz 2; have f3 := ib.fz 3; have f4 := ib.fz 4; have hcell := sp.cell (k + 1) (by simp; omega); rw [List.getElem_cons_succ, hpk] at hcell) | (go_at_call 43; refine (hSg _).mono ?_; rintro e w7 ⟨rfl, hx⟩; obtain rfl := hx.symm) | (go_at_call 51; refine (hNm _).mono ?_; rintro e w8 ⟨rfl, hx⟩; obtain rfl := hx.symm) | (go_at_call 24; refine (hMc _).mono ?_; rintro e w9 ⟨rfl, hx⟩; obtain rfl := hx.symm) | (go_at_call 25; refine (hWi _).mono ?_; rintro e wa ⟨rfl, hx⟩; have sp := sp.later hx; have zb := zb.later hx; have ib := ib.later hx; have hB := chain hB hx; obtain ⟨⟨z0, z1, z2, z3, z4⟩, y0, y1, y2, y3, y4⟩ := zb.zero; have d0 := ib.c0; have d1 := ib.c1; have d2 := ib.c2; have d3 := ib.c3; have d4 := ib.c4; have f0 := ib.fz 0; have f1 := ib.fz 1; have f2 := ib.fz 2; have f3 := ib.fz 3; have f4 := ib.fz 4; have hcell := sp.cell (k + 1) (by simp; omega); rw [List.getElem_cons_succ, hpk] at hcell))
                        all_goals (
                          have e1 : decide ((o : Int) ≤ 17) = true := by simp; omega
                          have e2' : ((s.size + 1 : Nat) : Int) = (s.size : Int) + 1 := rfl
                          simp only [e1, e2']
                          go_roundw
                          case rel => exact ⟨k + 1, ⟨o, a2, b2, c2, e2⟩, by go_num, by omega, rfl, sp.block5 (by omega) _ _ _ _ _, set5_other zb (by omega) _ _ _ _ _, set5 ib ⟨o, a2, b2, c2, e2⟩, Below.set5 hB (by omega) _ _ _ _ _, HN⟩
                          case measure => simp [intOf]; omega)
                  · have HE := (show Hid (R = none) by show _ = _; rw [← HK.out, readF_bad (by rw [HF.out, if_neg ht])])
                    by_cases hle : p.length < sg.length
                    · have hlb : decide (((ba p).size : Int) < ((ba sg).size : Int)) = true := by rw [hpsz, hgsz]; simp; omega
                      have hsz3 : (ba p).size < (ba sg).size := by omega
                      clear HF HK ht hWi hMc hml hpsz hgsz hle
                      go_wp2_with (first | (go_at_call 22; refine (hF _).mono ?_; rintro e w6 ⟨rfl, hx⟩; have sp := sp.later hx; have zb := zb.later hx; have ib := ib.later hx; have hB := chain hB hx; obtain ⟨⟨z0, z1, z2, z3, z4⟩, y0, y1, y2, y3, y4⟩ := zb.zero; have d0 := ib.c0; have d1 := ib.c1; have d2 := ib.c2; have d3 := ib.c3; have d4 := ib.c4; have f0 := ib.fz 0; have f1 := ib.fz 1; have f2 := ib.fz 2; have f3 := ib.fz 3; have f4 := ib.fz 4; have hcell := sp.cell (k + 1) (by simp; omega); rw [List.getElem_cons_succ, hpk] at hcell) | (go_at_call 43; refine (hSg _).mono ?_; rintro e w7 ⟨rfl, hx⟩; obtain rfl := hx.symm))
                      all_goals (
                        have HE := HE.out
                        subst HE
                        exact ret_ib Tryd.results38 w.heap.size ⟨o, xa, xb, xc, xd⟩ _ rfl (set5 zb ⟨o, xa, xb, xc, xd⟩) rfl rfl ⟨⟨o, xa, xb, xc, xd⟩, rfl, (fun i h => by cases h), Below.set5 hB (Nat.le_refl _) _ _ _ _ _⟩)
                    · have hlb : decide (((ba p).size : Int) < ((ba sg).size : Int)) = false := by rw [hpsz, hgsz]; simp; omega
                      have hsz2 : (ba sg).size ≤ (ba p).size := by omega
                      have hq : (((ba p).extract 0 (ba sg).size).toList == (ba sg).toList) = false := by
                        rw [beq_eq_false_iff_ne, ByteArray.toList_eq, ByteArray.toList_eq, ext_list, List.drop_zero, hgsz]
                        exact ht
                      clear HF HK ht hWi hMc hml hpsz hgsz
                      go_wp2_with (first | (go_at_call 22; refine (hF _).mono ?_; rintro e w6 ⟨rfl, hx⟩; have sp := sp.later hx; have zb := zb.later hx; have ib := ib.later hx; have hB := chain hB hx; obtain ⟨⟨z0, z1, z2, z3, z4⟩, y0, y1, y2, y3, y4⟩ := zb.zero; have d0 := ib.c0; have d1 := ib.c1; have d2 := ib.c2; have d3 := ib.c3; have d4 := ib.c4; have f0 := ib.fz 0; have f1 := ib.fz 1; have f2 := ib.fz 2; have f3 := ib.fz 3; have f4 := ib.fz 4; have hcell := sp.cell (k + 1) (by simp; omega); rw [List.getElem_cons_succ, hpk] at hcell) | (go_at_call 43; refine (hSg _).mono ?_; rintro e w7 ⟨rfl, hx⟩; obtain rfl := hx.symm))
                      all_goals (
                        have HE := HE.out
                        subst HE
                        exact ret_ib Tryd.results38 w.heap.size ⟨o, xa, xb, xc, xd⟩ _ rfl (set5 zb ⟨o, xa, xb, xc, xd⟩) rfl rfl ⟨⟨o, xa, xb, xc, xd⟩, rfl, (fun i h => by cases h), Below.set5 hB (Nat.le_refl _) _ _ _ _ _⟩)
                · have HE := (show Hid (R = some ⟨o, xa, xb, xc, xd⟩) by show _ = _; rw [← HQ.out, lkind_end o M k (by omega), List.drop_eq_nil_of_le (by omega)]; rfl)
                  obtain rfl : k = s2.size := by omega
                  clear HQ hat hkn hsg0 hms0
                  go_wp2_with (go_at_call 22; refine (hF _).mono ?_; rintro e w6 ⟨rfl, hx⟩; have sp := sp.later hx; have zb := zb.later hx; have ib := ib.later hx; have hB := chain hB hx; obtain ⟨⟨z0, z1, z2, z3, z4⟩, y0, y1, y2, y3, y4⟩ := zb.zero; have d0 := ib.c0; have d1 := ib.c1; have d2 := ib.c2; have d3 := ib.c3; have d4 := ib.c4; have f0 := ib.fz 0; have f1 := ib.fz 1; have f2 := ib.fz 2; have f3 := ib.fz 3; have f4 := ib.fz 4)
                  have HE := HE.out
                  subst HE
                  exact ret_ib Tryd.results38 w.heap.size ⟨o, xa, xb, xc, xd⟩ _ rfl (set5 zb ⟨o, xa, xb, xc, xd⟩) rfl rfl ⟨⟨o, xa, xb, xc, xd⟩, rfl, (fun i h => Option.some.inj h), Below.set5 hB (Nat.le_refl _) _ _ _ _ _⟩
            · have hle : (((ps.length : Int) + 1) == (((lb o).size : Int) + 1)) = false := by rw [beq_eq_false_iff_ne, hsz]; omega
              have HJ2 := (show Hid (∀ j, 1 ≤ j → j < o + 1 → ¬ (wrd j = word ∧ ps.length = (lets j).length)) from HJX.out fun h => hl h.2)
              clear HJX HJ hw
              have z0 := cell_regrown hhead
              have g1 : ∀ d os, Calls Tryd.prog 42 #[.int .i64 o] (grow (redrawn wq d) os) fun e w'' => e = .returned (.string (ba (wrd o))) ∧ ∃ p : Regrown, w'' = grow (redrawn wq p.d) p.os := fun d os => Calls.regrown_of (hW _)
              have g2 : ∀ d os, Calls Tryd.prog 22 #[.int .i64 o] (grow (redrawn wq d) os) fun e w'' => e = .returned (.string (lb o)) ∧ ∃ p : Regrown, w'' = grow (redrawn wq p.d) p.os := fun d os => Calls.regrown_of (hF _)
              go_wp2
              refine wp_region_quiet_below (by kernel_rfl) (by kernel_rfl) ?_
              repeat (go_big_quiet_step (first | (with_reducible exact g1 _ _) | (with_reducible exact g2 _ _)))
              refine wpQuiet_nil ?_
              intro _ hw'
              obtain ⟨⟨dq, osq⟩, hw''⟩ := hw'
              subst hw''
              have b3 := below_regrown wq dq osq
              have sp3 := sp.later b3
              have zb3 := zb.later b3
              have hB3 := chain hB b3
              clear g1 g2 z0
              generalize grow (redrawn wq dq) osq = w3 at *
              go_wp2
              go_roundw
              case rel => exact ⟨o + 1, by go_num, by omega, by omega, sp3, zb3, hB3, HJ2⟩
              case measure => simp [intOf]; omega
          · have he : ((ba (wrd o)).toList == (ba word).toList) = false := by rw [beq_eq_false_iff_ne, ByteArray.toList_eq, ByteArray.toList_eq]; exact hw
            have HJ2 := (show Hid (∀ j, 1 ≤ j → j < o + 1 → ¬ (wrd j = word ∧ ps.length = (lets j).length)) from HJX.out fun h => hw h.1)
            clear HJX HJ hw hsz
            have z0 := cell_regrown hhead
            have g1 : ∀ d os, Calls Tryd.prog 42 #[.int .i64 o] (grow (redrawn wq d) os) fun e w'' => e = .returned (.string (ba (wrd o))) ∧ ∃ p : Regrown, w'' = grow (redrawn wq p.d) p.os := fun d os => Calls.regrown_of (hW _)
            have g2 : ∀ d os, Calls Tryd.prog 22 #[.int .i64 o] (grow (redrawn wq d) os) fun e w'' => e = .returned (.string (lb o)) ∧ ∃ p : Regrown, w'' = grow (redrawn wq p.d) p.os := fun d os => Calls.regrown_of (hF _)
            go_wp2
            refine wp_region_quiet_below (by kernel_rfl) (by kernel_rfl) ?_
            repeat (go_big_quiet_step (first | (with_reducible exact g1 _ _) | (with_reducible exact g2 _ _)))
            refine wpQuiet_nil ?_
            intro _ hw'
            obtain ⟨⟨dq, osq⟩, hw''⟩ := hw'
            subst hw''
            have b3 := below_regrown wq dq osq
            have sp3 := sp.later b3
            have zb3 := zb.later b3
            have hB3 := chain hB b3
            clear g1 g2 z0
            generalize grow (redrawn wq dq) osq = w3 at *
            go_wp2
            go_roundw
            case rel => exact ⟨o + 1, by go_num, by omega, by omega, sp3, zb3, hB3, HJ2⟩
            case measure => simp [intOf]; omega
        · have HE := (show Hid (R = none) from HNO.out fun j h1 h2 => HJ.out j h1 (by omega))
          obtain ⟨⟨z0, z1, z2, z3, z4⟩, y0, y1, y2, y3, y4⟩ := zb.zero
          clear HJ
          go_wp2
          have HE := HE.out
          subst HE
          exact ret_ib Tryd.results38 w.heap.size zI _ rfl (set5 zb zI) rfl rfl ⟨zI, rfl, (fun i h => by cases h), Below.set5 hB (Nat.le_refl _) _ _ _ _ _⟩
end Go.Proofs.YtdekkjnlmlkbdaaDoor.is
