/-
  Contracts over this program: all lines of a text (isa.Parse).
-/
import Derived.Test.YtdekkjnlmlkbdaaDoorKf
import Derived.Test.YtdekkjnlmlkbdaaDoorGd
namespace Go.Proofs.YtdekkjnlmlkbdaaDoor.is
open Go.Proofs.YtdekkjnlmlkbdaaDoor.num
open Go.ChangeShapes Go.WideShapes Go.ChangeAt Go.RowKit
set_option linter.unusedVariables false

theorem RowI.ne {w : World} {B : Nat} {v : Value} {l : List In} (h : RowI w B v l) {k : Nat} {s : ByteArray} {p : Nat} (hk : w.heap[k]? = some (.stringIter s p)) : some k ≠ v.ownBlock := by
  intro e
  rcases h.2 with ⟨rfl, _⟩ | ⟨gg, cap, cur, rfl, _, hgg, _⟩
  · cases e
  · cases e
    rw [hk] at hgg
    cases hgg
theorem RowI.iter {w : World} {B : Nat} {v : Value} {l : List In} (h : RowI w B v l) {k : Nat} {s : ByteArray} {p : Nat} (hk : w.heap[k]? = some (.stringIter s p)) (p' : Nat) : RowI (w.iterAt k s p') B v l :=
  ow.keep h fun g hg => Lib.iterAt_other w k g s p' fun e => h.ne hk (by rw [hg, e])
theorem ext_size (s : ByteArray) (a b : Nat) : (s.extract a b).size ≤ s.size := by
  have h1 : (s.extract a b).size = (s.extract a b).data.toList.length := by rw [Array.length_toList]; rfl
  have h2 : s.data.toList.length = s.size := by simp
  rw [h1, ext_list, List.length_drop, List.length_take, h2]
  omega
theorem insNil (w : World) : InsAt w (.slice none 0 0) [] := ⟨none, 0, rfl, Nat.le_refl _, by omega, fun h => absurd h (by simp)⟩

def PasIs (s : ByteArray) (L : List In) (e n : Nat) : Prop := ∀ w, Tabs w → Calls Tryd.prog 18 #[.string s] w fun x w' => ∃ v, x = .returned (.tuple #[v, .int .i64 e, .int .i64 n]) ∧ InsAt w' v L ∧ Below w.heap.size w w'
set_option maxRecDepth 100000 in
theorem pas_long (s : ByteArray) (h : 262144 < s.size) : PasIs s [] 2 0 := by
  intro w hT
  go_enter Tryd.func18, Tryd.ntmps18
  go_wp2
  go_ret3
  exact ⟨_, rfl, insNil _, Below.refl _ _⟩

set_option maxHeartbeats 4000000 in
set_option maxRecDepth 100000 in
theorem pas_ok (s : ByteArray) (hs : s.size ≤ 262144) (L : List In) (e n : Nat) (hR : parG [] s.data.toList [] = (L, e, n)) : PasIs s L e n := by
  intro w hT
  have HR := (show Hid (parG [] s.data.toList [] = (L, e, n)) from hR)
  clear hR
  have hk0 : (w.iter s 0).heap[w.heap.size]? = some (.stringIter s 0) := World.iter_heap w s 0
  have hB0 := below_iter w s 0
  go_enter Tryd.func18, Tryd.ntmps18
  go_wp2
  generalize w.iter s 0 = w0 at *
  go_loopw [5, 6] (fun v x wr => ∃ (a pos : Nat) (done : List In), x = .int .i64 a ∧ a ≤ pos ∧ pos ≤ s.size ∧ wr.heap[w.heap.size]? = some (.stringIter s pos) ∧ RowI wr w.heap.size v done ∧ done.length ≤ 4096 ∧ Below w.heap.size w wr ∧ Hid (parG (mid s a pos) (s.data.toList.drop pos) done = (L, e, n))) (fun _ _ wr => s.size - wr.iterPos w.heap.size)
  case atStart => exact ⟨0, 0, [], rfl, by omega, by omega, hk0, rowI_nil _ _, by simp, hB0, by show _ = _; rw [mid_nil, List.drop_zero]; exact HR.out⟩
  case round =>
    rename World => wr
    rename_i v _
    obtain ⟨a, pos, done, rfl, hap, hps, hk, hrow, hdl, hB, HQ⟩ := hrel
    have hip := iterPos_at hk
    obtain ⟨ro, rc, hv, hrc1, hrc2⟩ := ow.form hrow
    obtain ⟨dn, hdn⟩ : ∃ dn, dn = done.length := ⟨_, rfl⟩
    rw [← hdn] at hv hdl hrc1
    have HDN := (show Hid (dn = done.length) from hdn)
    clear hdn
    subst hv
    by_cases hp : pos < s.size
    · have hd := drop_at s pos hp
      by_cases ha : s[pos].toNat < 128
      · have hnx := fun ty => Lib.run_next_ascii_at (P := Tryd.prog) wr w.heap.size s pos ty hk hp ha
        have hk1 := Lib.iterAt_heap wr w.heap.size s pos (pos + 1) hk
        have hrow1 := hrow.iter hk (pos + 1)
        have hB1 := Lib.below_iterAt hB (Nat.le_refl _) s (pos + 1)
        generalize wr.iterAt w.heap.size s (pos + 1) = W1 at *
        have hip1 := iterPos_at hk1
        by_cases hb : s[pos].toNat = 10
        · have hb10 : s[pos] = 10 := UInt8.toNat_inj.1 hb
          have h37 := parsed_any (s.extract a pos) (by have := ext_size s a pos; omega)
          unfold ParsedIs vI at h37
          simp only [mid_ext] at h37
          have HB := (show Hid (readL (mid s a pos) = none → (L, e, n) = ([], 211, dn + 1)) from fun h => by rw [← HQ.out, hd, hb10, parG_bad h, HDN.out])
          have HM := (show Hid (∀ i, readL (mid s a pos) = some i → dn = 4096 → (L, e, n) = ([], 211, dn + 1)) from fun i h h2 => by rw [← HQ.out, hd, hb10, parG_many h (by have := HDN.out; omega), HDN.out])
          have HO := (show Hid (∀ i, readL (mid s a pos) = some i → dn ≠ 4096 → parG (mid s (pos + 1) (pos + 1)) (s.data.toList.drop (pos + 1)) (done ++ [i]) = (L, e, n)) from fun i h h2 => by rw [← HQ.out, hd, hb10, parG_ok h (by have := HDN.out; omega), mid_nil])
          have hT1 := hT.later hB1
          rw [hb] at hnx
          generalize hrl : readL (mid s a pos) = R at *
          clear HQ hd hb10 hb hrl
          cases R with
          | none =>
            have HE := (show Hid ((L, e, n) = ([], 211, dn + 1)) from HB.out rfl)
            clear HB HM HO
            go_wp2_with (go_at_call 37; refine (h37 _ hT1).mono ?_; rintro x w2 ⟨r, rfl, -, hb2⟩)
            go_ret3
            have HE := HE.out
            simp only [Prod.mk.injEq] at HE
            obtain ⟨rfl, rfl, rfl⟩ := HE
            exact ⟨_, rfl, insNil _, (chain hB1 hb2).alloc (chain hB1 hb2).size _⟩
          | some i =>
            by_cases h4 : dn = 4096
            · have HE := (show Hid ((L, e, n) = ([], 211, dn + 1)) from HM.out i rfl h4)
              have hde : ((dn : Int) == 4096) = true := by rw [beq_iff_eq]; omega
              clear HB HM HO h4
              go_wp2_with (go_at_call 37; refine (h37 _ hT1).mono ?_; rintro x w2 ⟨r, rfl, -, hb2⟩)
              go_ret3
              have HE := HE.out
              simp only [Prod.mk.injEq] at HE
              obtain ⟨rfl, rfl, rfl⟩ := HE
              exact ⟨_, rfl, insNil _, (chain hB1 hb2).alloc (chain hB1 hb2).size _⟩
            · have HN := (show Hid (parG (mid s (pos + 1) (pos + 1)) (s.data.toList.drop (pos + 1)) (done ++ [i]) = (L, e, n)) from HO.out i rfl h4)
              have hde : ((dn : Int) == 4096) = false := by rw [beq_eq_false_iff_ne]; omega
              have hdl3 : dn ≤ 4095 := by omega
              clear HB HM HO h4
              go_wp2_with (first | (go_at_call 37; refine (h37 _ hT1).mono ?_; rintro x w2 ⟨r, rfl, hri, hb2⟩; obtain rfl := hri i rfl; have hbel := (hb2.alloc hb2.size (.cells #[.int .i64 r.op, .int .i64 r.a, .int .i64 r.b, .int .i64 r.c, .int .i64 r.d] 23)).alloc (o := .cells #[.int .i64 r.op, .int .i64 r.a, .int .i64 r.b, .int .i64 r.c, .int .i64 r.d] 23) (by have := hb2.size; rw [alloc1]; omega); have hkA := (hbel.block _ (Array.getElem?_eq_some_iff.1 hk1).1).trans hk1; have hrowA := hrow1.later hbel; have hneA := hrowA.ne hkA; have hBA := chain hB1 hbel; have hBAs := hBA.size; have hwsz := (Array.getElem?_eq_some_iff.1 hkA).1) | (at_builtin; refine wpList_appI rfl _ _ rfl w.heap.size _ done _ r rfl rfl hrowA (heap_alloc2_new w2 _ _) (by have := HDN.out; omega) hBAs ?_; intro v' w' h1 h2 h3))
              go_roundw
              case rel => exact ⟨pos + 1, pos + 1, done ++ [r], by go_num, by omega, by omega, (h3 _ hwsz hneA).trans hkA, h1, by have := HDN.out; simp; omega, hBA.trans h2, HN⟩
              case measure => rw [hip, iterPos_at ((h3 _ hwsz hneA).trans hkA)]; omega
        · have hb10 : s[pos] ≠ 10 := fun e => hb (by rw [e]; rfl)
          have HN : Hid (parG (mid s a (pos + 1)) (s.data.toList.drop (pos + 1)) done = (L, e, n)) := by
            show _ = _
            rw [← HQ.out, hd, parG, if_neg hb10, mid_snoc s a pos hap hp]
          generalize s[pos].toNat = b at *
          have hbe : ((b : Int) == 10) = false := by rw [beq_eq_false_iff_ne]; omega
          clear HQ hd hb10 hb
          go_wp2
          go_roundw
          case rel => exact ⟨a, pos + 1, done, rfl, by omega, by omega, hk1, hrow1, by have := HDN.out; omega, hB1, HN⟩
          case measure => rw [hip, hip1]; omega
      · have hdh := decode_high s pos hp (by omega)
        have hdl2 := decode_le s pos
        obtain ⟨hm1, hm2, hm3⟩ := mid_high s pos hp (by omega) _ rfl
        have hnx := fun ty => Lib.run_next_any_at (P := Tryd.prog) wr w.heap.size s pos ty hk hp
        have HN : Hid (parG (mid s a (pos + (Utf8.decode s pos).2)) (s.data.toList.drop (pos + (Utf8.decode s pos).2)) done = (L, e, n)) := by
          show _ = _
          rw [← HQ.out, hm2, parG_more _ (fun b hb e => by have := hm3 b hb; rw [e] at this; simp at this), mid_more s a pos _ hap (by omega)]
        clear hm2 hm3 hd HQ
        generalize Utf8.decode s pos = dc at *
        obtain ⟨r, k⟩ := dc
        simp only at hdh hdl2 hnx hm1 HN
        obtain ⟨hr, hkk⟩ := hdh
        have hk1 := Lib.iterAt_heap wr w.heap.size s pos (pos + k) hk
        have hrow1 := hrow.iter hk (pos + k)
        have hB1 := Lib.below_iterAt hB (Nat.le_refl _) s (pos + k)
        generalize wr.iterAt w.heap.size s (pos + k) = W1 at *
        have hip1 := iterPos_at hk1
        have hre : ((r : Int) == 10) = false := by rw [beq_eq_false_iff_ne]; omega
        go_wp2
        go_roundw
        case rel => exact ⟨a, pos + k, done, rfl, by omega, by omega, hk1, hrow1, by have := HDN.out; omega, hB1, HN⟩
        case measure => rw [hip, hip1]; omega
    · have hnx := fun ty => Lib.run_next_end_at (P := Tryd.prog) wr w.heap.size s pos ty hk hp
      have HE : Hid ((L, e, n) = if mid s a pos = [] then (done, 0, 0) else ([], 211, dn + 1)) := by
        show _ = _
        rw [← HQ.out, List.drop_eq_nil_of_le (by simp; omega), parG, HDN.out]
      have hml : (mid s a pos).length = pos - a := by unfold mid; rw [List.length_drop, List.length_take]; simp; omega
      by_cases hap2 : a < s.size
      · have HE := (show Hid ((L, e, n) = ([], 211, dn + 1)) by show _ = _; rw [HE.out, if_neg]; intro h; rw [h] at hml; simp at hml; omega)
        clear HQ
        go_wp2
        go_ret3
        have HE := HE.out
        simp only [Prod.mk.injEq] at HE
        obtain ⟨rfl, rfl, rfl⟩ := HE
        exact ⟨_, rfl, insNil _, hB⟩
      · have HE := (show Hid ((L, e, n) = (done, 0, 0)) by show _ = _; rw [HE.out, if_pos]; exact List.length_eq_zero_iff.1 (by omega))
        clear HQ
        go_wp2
        go_ret3
        have HE := HE.out
        simp only [Prod.mk.injEq] at HE
        obtain ⟨rfl, rfl, rfl⟩ := HE
        exact ⟨_, rfl, hrow.read, hB⟩
end Go.Proofs.YtdekkjnlmlkbdaaDoor.is
