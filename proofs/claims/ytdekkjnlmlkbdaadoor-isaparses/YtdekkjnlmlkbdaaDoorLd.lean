/-
  Contracts over this program: all lines of a text, as the document says (Parse), and the law IsaParses.
-/
import Derived.Test.YtdekkjnlmlkbdaaDoorLc
import Derived.Test.YtdekkjnlmlkbdaaDoorGf
import Derived.Test.YtdekkjnlmlkbdaaDoorGg
import Derived.Test.YtdekkjnlmlkbdaaDoorKg
import Derived.Test.YtdekkjnlmlkbdaaDoorKj
namespace Go.Proofs.YtdekkjnlmlkbdaaDoor.is
open Go.Proofs.YtdekkjnlmlkbdaaDoor.num
open Go.ChangeShapes Go.WideShapes Go.ChangeAt Go.RowKit
set_option linter.unusedVariables false

def RPasIs (s : ByteArray) (L : List In) (e n : Nat) : Prop := ∀ w, Calls Tryd.prog 19 #[.string s] w fun x w' => ∃ v, x = .returned (.tuple #[v, .int .i64 e, .int .i64 n]) ∧ InsAt w' v L ∧ Below w.heap.size w w'
set_option maxRecDepth 100000 in
theorem rpas_long (s : ByteArray) (h : 262144 < s.size) : RPasIs s [] 2 0 := by
  intro w
  go_enter Tryd.func19, Tryd.ntmps19
  go_wp2
  go_ret3
  exact ⟨_, rfl, insNil _, Below.refl _ _⟩

set_option maxHeartbeats 4000000 in
set_option maxRecDepth 100000 in
theorem rpas_ok (s : ByteArray) (hs : s.size ≤ 262144) (L : List In) (e n : Nat) (hR : parG [] s.data.toList [] = (L, e, n)) : RPasIs s L e n := by
  intro w
  have HR := (show Hid (parG [] (s.data.toList.drop 0) [] = (L, e, n)) from by show _ = _; rw [List.drop_zero]; exact hR)
  clear hR
  have hr1 := rowI_new w w.heap.size (Nat.le_refl _)
  have hB1 : Below w.heap.size w (w.alloc (.cells #[] 23)) := (Below.refl _ _).alloc (Nat.le_refl _) _
  go_enter Tryd.func19, Tryd.ntmps19
  go_wp2
  generalize w.alloc (.cells #[] 23) = w0 at *
  go_loopw [5, 6, 7] (fun v x y wr => ∃ (a dn : Nat) (done : List In), x = .int .i64 a ∧ y = .int .i64 dn ∧ a ≤ s.size ∧ RowI wr w.heap.size v done ∧ dn ≤ 4096 ∧ Hid (dn = done.length) ∧ Below w.heap.size w wr ∧ Hid (parG [] (s.data.toList.drop a) done = (L, e, n))) (fun _ x _ _ => s.size - (intOf x).toNat)
  case atStart => exact ⟨0, 0, [], rfl, rfl, by omega, hr1, by omega, rfl, hB1, HR⟩
  case round =>
    rename World => wr
    rename_i v _ _
    obtain ⟨a, dn, done, rfl, rfl, ha, hrow, hdl, HDN, hB, HQ⟩ := hrel
    obtain ⟨ro, rc, hv, hrc1, hrc2⟩ := ow.form hrow
    rw [← HDN.out] at hv hrc1
    subst hv
    clear hr1 hB1 HR
    by_cases hp : a < s.size
    · go_wp2
      go_loopw [8] (fun x wq => ∃ to : Nat, x = .int .i64 to ∧ a ≤ to ∧ to ≤ s.size ∧ RowI wq w.heap.size (.slice ro dn rc) done ∧ Below w.heap.size w wq ∧ Hid (parG (mid s a to) (s.data.toList.drop to) done = (L, e, n))) (fun x _ => s.size - (intOf x).toNat)
      case atStart => exact ⟨a, rfl, by omega, by omega, hrow, hB, by show _ = _; rw [mid_nil]; exact HQ.out⟩
      case round =>
        rename World => wq
        clear hrow hB HQ
        obtain ⟨to, rfl, hat, hts, hrow, hB, HQ⟩ := hrel
        by_cases ht : to < s.size
        · have hd := drop_at s to ht
          by_cases hb : s[to].toNat = 10
          · have hb10 : s[to] = 10 := UInt8.toNat_inj.1 hb
            have hte : ((to : Int) == (s.size : Int)) = false := by rw [beq_eq_false_iff_ne]; omega
            have h38 := rread_any (s.extract a to) (by have := ext_size s a to; omega)
            unfold RReadIs vI at h38
            simp only [mid_ext] at h38
            have HB := (show Hid (readL (mid s a to) = none → (L, e, n) = ([], 211, dn + 1)) from fun h => by rw [← HQ.out, hd, hb10, parG_bad h, HDN.out])
            have HM := (show Hid (∀ i, readL (mid s a to) = some i → dn = 4096 → (L, e, n) = ([], 211, dn + 1)) from fun i h h2 => by rw [← HQ.out, hd, hb10, parG_many h (by have := HDN.out; omega), HDN.out])
            have HO := (show Hid (∀ i, readL (mid s a to) = some i → dn ≠ 4096 → parG [] (s.data.toList.drop (to + 1)) (done ++ [i]) = (L, e, n)) from fun i h h2 => by rw [← HQ.out, hd, hb10, parG_ok h (by have := HDN.out; omega)])
            generalize hrl : readL (mid s a to) = R at *
            clear HQ hd hb10 hrl
            cases R with
            | none =>
              have HE := (show Hid ((L, e, n) = ([], 211, dn + 1)) from HB.out rfl)
              clear HB HM HO
              go_wp2_with (go_at_call 38; refine (h38 _).mono ?_; rintro x w2 ⟨r, rfl, -, hb2⟩)
              go_ret3
              have HE := HE.out
              simp only [Prod.mk.injEq] at HE
              obtain ⟨rfl, rfl, rfl⟩ := HE
              exact ⟨_, rfl, insNil _, (chain hB hb2).alloc (chain hB hb2).size _⟩
            | some i =>
              by_cases h4 : dn = 4096
              · have HE := (show Hid ((L, e, n) = ([], 211, dn + 1)) from HM.out i rfl h4)
                clear HB HM HO
                subst h4
                go_wp2_with (go_at_call 38; refine (h38 _).mono ?_; rintro x w2 ⟨r, rfl, -, hb2⟩)
                go_ret3
                have HE := HE.out
                simp only [Prod.mk.injEq] at HE
                obtain ⟨rfl, rfl, rfl⟩ := HE
                exact ⟨_, rfl, insNil _, (chain hB hb2).alloc (chain hB hb2).size _⟩
              · have HN := (show Hid (parG [] (s.data.toList.drop (to + 1)) (done ++ [i]) = (L, e, n)) from HO.out i rfl h4)
                have hdl3 : dn ≤ 4095 := by omega
                clear HB HM HO h4
                go_wp2_with (first | (go_at_call 38; refine (h38 _).mono ?_; rintro x w2 ⟨r, rfl, hri, hb2⟩; obtain rfl := hri i rfl; have hbel := (hb2.alloc hb2.size (.cells #[.int .i64 r.op, .int .i64 r.a, .int .i64 r.b, .int .i64 r.c, .int .i64 r.d] 23)).alloc (o := .cells #[.int .i64 r.op, .int .i64 r.a, .int .i64 r.b, .int .i64 r.c, .int .i64 r.d] 23) (by have := hb2.size; rw [alloc1]; omega); have hrowA := hrow.later hbel; have hBA := chain hB hbel; have hBAs := hBA.size) | (at_builtin; refine wpList_appI rfl _ _ rfl w.heap.size _ done _ r rfl rfl hrowA (heap_alloc2_new w2 _ _) (by have := HDN.out; omega) hBAs ?_; intro v' w' h1 h2 h3))
                exact ⟨⟨to + 1, dn + 1, done ++ [r], by go_num, by go_num, by omega, h1, by omega, by have := HDN.out; show _ = _; simp; omega, hBA.trans h2, HN⟩, by simp [intOf]; omega⟩
          · have hb10 : s[to] ≠ 10 := fun e => hb (by rw [e]; rfl)
            have HN : Hid (parG (mid s a (to + 1)) (s.data.toList.drop (to + 1)) done = (L, e, n)) := by
              show _ = _
              rw [← HQ.out, hd, parG, if_neg hb10, mid_snoc s a to hat ht]
            have hbe : ((s[to].toNat : Int) == 10) = false := by rw [beq_eq_false_iff_ne]; omega
            clear HQ hd hb10 hb
            go_wp2
            go_roundw
            case rel => exact ⟨to + 1, by go_num, by omega, by omega, hrow, hB, HN⟩
            case measure => simp [intOf]; omega
        · obtain rfl : to = s.size := by omega
          have hte : ((s.size : Int) == (s.size : Int)) = true := by simp
          have hml : (mid s a s.size).length = s.size - a := by unfold mid; rw [List.length_drop, List.length_take]; simp
          have HE : Hid ((L, e, n) = ([], 211, dn + 1)) := by
            show _ = _
            rw [← HQ.out, List.drop_eq_nil_of_le (by simp), parG, HDN.out, if_neg]
            intro h
            rw [h] at hml
            simp at hml
            omega
          have h38 := rread_any (s.extract a s.size) (by have := ext_size s a s.size; omega)
          unfold RReadIs vI at h38
          generalize (readL (s.extract a s.size).data.toList).isSome = okk at h38
          clear HQ hml
          go_wp2_with (go_at_call 38; refine (h38 _).mono ?_; rintro x w2 ⟨r, rfl, -, hb2⟩)
          go_ret3
          have HE := HE.out
          simp only [Prod.mk.injEq] at HE
          obtain ⟨rfl, rfl, rfl⟩ := HE
          exact ⟨_, rfl, insNil _, (chain hB hb2).alloc (chain hB hb2).size _⟩
    · have HE : Hid ((L, e, n) = (done, 0, 0)) := by
        show _ = _
        rw [← HQ.out, List.drop_eq_nil_of_le (by simp; omega), parG, if_pos rfl]
      clear HQ
      go_wp2
      go_ret3
      have HE := HE.out
      simp only [Prod.mk.injEq] at HE
      obtain ⟨rfl, rfl, rfl⟩ := HE
      exact ⟨_, rfl, hrow.read, hB⟩

theorem rpas_any (s : ByteArray) (L : List In) (e n : Nat) (h : parA s.data.toList = (L, e, n)) : RPasIs s L e n := by
  unfold parA at h
  by_cases hl : 262144 < s.size
  · rw [if_pos (by simpa using hl)] at h
    simp only [Prod.mk.injEq] at h
    obtain ⟨rfl, rfl, rfl⟩ := h
    exact rpas_long s hl
  · rw [if_neg (by simpa using hl)] at h
    exact rpas_ok s (by omega) L e n h

set_option maxHeartbeats 2000000 in
set_option maxRecDepth 100000 in
theorem parses_law (s : ByteArray) (hs : s.size ≤ maxLen) (w : World) (hT : Tabs w) : Calls Tryd.prog 6 #[.string s] w fun e w' => e = .returned (.bool true) ∧ Below w.heap.size w w' := by
  clear hs
  obtain ⟨L, e, n, hr⟩ : ∃ L e n, parA s.data.toList = (L, e, n) := ⟨_, _, _, rfl⟩
  have h1 := pas_any s L e n hr
  have h2 := rpas_any s L e n hr
  have h3 : ∀ (va vb : Value) (W : World), InsAt W va L → InsAt W vb L → Calls Tryd.prog 17 #[va, vb] W fun x w' => x = .returned (.bool true) ∧ Below W.heap.size W w' := fun va vb W ha hb => by
    have := like_any L L va vb W ha hb
    rwa [likeB_self] at this
  clear hr
  unfold PasIs at h1
  unfold RPasIs at h2
  by_cases hl : 20000 < s.size
  · by_cases hl2 : s.size ≤ 262144
    · go_enter Tryd.func6, Tryd.ntmps6
      go_wp2
      go_ret
      exact ⟨rfl, Below.refl _ _⟩
    · go_enter Tryd.func6, Tryd.ntmps6
      go_wp2_with (first | (go_at_call 18; refine (h1 _ hT).mono ?_; rintro x w1 ⟨va, rfl, ia, b1⟩) | (go_at_call 19; refine (h2 _).mono ?_; rintro x w2 ⟨vb, rfl, ib, b2⟩; have ia2 := ia.later b2) | (go_at_call 17; refine (h3 _ _ _ ia2 ib).mono ?_; rintro x w3 ⟨rfl, b3⟩))
      go_ret
      exact ⟨rfl, chain (chain b1 b2) b3⟩
  · go_enter Tryd.func6, Tryd.ntmps6
    go_wp2_with (first | (go_at_call 18; refine (h1 _ hT).mono ?_; rintro x w1 ⟨va, rfl, ia, b1⟩) | (go_at_call 19; refine (h2 _).mono ?_; rintro x w2 ⟨vb, rfl, ib, b2⟩; have ia2 := ia.later b2) | (go_at_call 17; refine (h3 _ _ _ ia2 ib).mono ?_; rintro x w3 ⟨rfl, b3⟩))
    go_ret
    exact ⟨rfl, chain (chain b1 b2) b3⟩
end Go.Proofs.YtdekkjnlmlkbdaaDoor.is
