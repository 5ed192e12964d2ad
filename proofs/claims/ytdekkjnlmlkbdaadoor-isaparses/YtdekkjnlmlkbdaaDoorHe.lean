/-
  Contracts over this program: instructions as lines (isa.Text).
-/
import Derived.Test.YtdekkjnlmlkbdaaDoorHc
import Derived.Deep.RegionHeld3
namespace Go.Proofs.YtdekkjnlmlkbdaaDoor.is
open Go.Proofs.YtdekkjnlmlkbdaaDoor.num
open Go.ChangeShapes Go.WideShapes Go.ChangeAt Go.RowKit
set_option linter.unusedVariables false

def TextsIs (l : List In) (s : List UInt8) (er : Nat) : Prop := ∀ (v : Value) (w : World), Tabs w → Pow w → InsAt w v l → Calls Tryd.prog 13 #[v] w fun e w' => e = .returned (.tuple #[.string (ba s), .int .i64 er]) ∧ Below w.heap.size w w'

set_option maxHeartbeats 2000000 in
set_option maxRecDepth 100000 in
theorem texts_bad (l : List In) (h : allE l ≠ 0) : TextsIs l [] (allE l) := by
  intro v w hT hP hv
  have h26 := rightl_any l v w hT hv
  generalize allE l = er at *
  have hne : ((er : Int) == 0) = false := by rw [beq_eq_false_iff_ne]; omega
  clear h hv
  go_enter Tryd.func13, Tryd.ntmps13
  go_wp2_with (go_at_call 26; refine h26.mono ?_; rintro e w1 ⟨rfl, hb⟩)
  go_ret2
  exact ⟨rfl, hb⟩

theorem bd_byte (B b : Nat) (out : List UInt8) (hlen : out.length + 1 ≤ 140737488355328) (w : World) (h : Bd B b out w) (hB : B ≤ w.heap.size) :
    Calls Tryd.prog 32 #[.pointer (some ⟨b, 0, none⟩), .int .u8 10] w fun e w' => e = .returned .nilIface ∧ Bd B b (out ++ [10]) w' ∧ Below B w w' := by
  refine (bld.writeByte B b (Lib.byteCells out) 10 w h (by rw [bld.byteCells_length]; exact hlen) hB).mono ?_
  rintro e w' ⟨rfl, h1, h2⟩
  exact ⟨rfl, by unfold Bd; rw [Lib.byteCells_append]; exact h1, h2⟩

/-- what holds while fields are written -/
structure St (w : World) (B g : Nat) (x : In) (W : World) : Prop where
  below : Below w.heap.size w W
  size : B < W.heap.size
  row : RowBlk W g x
theorem St.next {w : World} {B g : Nat} {x : In} {W W' : World} (s : St w B g x W) (b : Below W.heap.size W W') : St w B g x W' := ⟨chain s.below b, Nat.lt_of_lt_of_le s.size b.size, s.row.later b⟩
theorem St.write {w : World} {B g : Nat} {x : In} {W W' : World} (hwB : w.heap.size ≤ B) (hne : g ≠ B) (s : St w B g x W) (b : Below B W W') (k : Lib.OthersKept 5 (some B) W W') : St w B g x W' := ⟨s.below.trans (b.mono hwB), Nat.lt_of_lt_of_le s.size b.size, s.row.kept k hne⟩
theorem st1 {w : World} {B g : Nat} {x : In} {W : World} (hT : Tabs w) {k f vn : Nat} (hk : k < 6) (hf : f < 4) (hv : fld x f = (vn : Int)) (s : St w B g x W) : W.cell? ⟨1, k * 2, none⟩ = some (.string (ba (sgn k))) ∧ W.cell? ⟨g, f, none⟩ = some (.int .i64 vn) ∧ St w B g x W :=
  ⟨(hT.later s.below).sgn k hk, by rw [← hv]; exact s.row.at f hf, s⟩

set_option maxHeartbeats 8000000 in
set_option maxRecDepth 100000 in
theorem texts_ok (l : List In) (h : allE l = 0) : TextsIs l (textL l) 0 := by
  intro v w hT hPw hv
  have h26 := rightl_any l v w hT hv
  rw [h] at h26
  obtain ⟨hl, hok⟩ := all_ok h
  have hle := textL_le h
  obtain ⟨o, n, cap, rfl, hn, hc, hcm, hel⟩ := hv.open
  have HL := (show Hid (textL l = (l.drop 0).flatMap (fun i => lineI i ++ [10])) by rfl)
  have HD := (show Hid (∀ m, m < n → (l.drop m).flatMap (fun i => lineI i ++ [10]) = (lineI (l.getD m zI) ++ [10]) ++ (l.drop (m + 1)).flatMap (fun i => lineI i ++ [10])) from fun m hm => flat_drop l (fun i => lineI i ++ [10]) m (by omega))
  have HOK := (show Hid (∀ m, m < n → okI (l.getD m zI) = true) from fun m hm => by rw [at_getD l m (by omega)]; exact hok _ (List.getElem_mem _))
  have HEND := (show Hid ((l.drop n).flatMap (fun i => lineI i ++ [10]) = []) by show _ = _; rw [List.drop_eq_nil_of_le (by omega)]; rfl)
  have hn2 : n ≤ 4096 := by omega
  generalize hP : textL l = P at *
  clear h hok hn hv hl hP
  go_enter Tryd.func13, Tryd.ntmps13
  go_wp2_with (go_at_call 26; refine h26.mono ?_; rintro e w1 ⟨rfl, hb1⟩; have hd1 := bd_new w1)
  have hB1 : Below w.heap.size w (w1.alloc (.cells #[.pointer none, .slice none 0 0] 50)) := hb1.alloc hb1.size _
  obtain ⟨B, hBd⟩ : ∃ B, B = w1.heap.size := ⟨_, rfl⟩
  have hwB : w.heap.size ≤ B := by have := hb1.size; omega
  have hB1s : B < (w1.alloc (.cells #[.pointer none, .slice none 0 0] 50)).heap.size := by rw [alloc_size]; omega
  rw [← hBd] at hd1
  rw [← hBd]
  generalize w1.alloc (.cells #[.pointer none, .slice none 0 0] 50) = w2 at *
  clear hb1 hBd h26
  go_loopw [18] (fun y wr => ∃ (m : Nat) (out : List UInt8), y = .int .i64 m ∧ m ≤ n ∧ Below w.heap.size w wr ∧ B < wr.heap.size ∧ Bd B B out wr ∧ Hid (out ++ (l.drop m).flatMap (fun i => lineI i ++ [10]) = P)) (fun y _ => n - (intOf y).toNat)
  case atStart => exact ⟨0, [], rfl, by omega, hB1, hB1s, hd1, HL.out.symm⟩
  case round =>
    rename_i wr
    obtain ⟨m, out, rfl, hm, hB, hBs, hd, HQ⟩ := hrel
    by_cases hmn : m < n
    · obtain ⟨b, off, rfl, i1⟩ := hel m hmn
      have i1 := i1.later hB
      have hok := HOK.out m hmn
      have HR := (show Hid (out ++ ((lineI (l.getD m zI) ++ [10]) ++ (l.drop (m + 1)).flatMap (fun i => lineI i ++ [10])) = P) by show _ = _; rw [← HD.out m hmn]; exact HQ.out)
      clear HQ
      obtain ⟨rest, hrest⟩ : ∃ r, r = (l.drop (m + 1)).flatMap (fun i => lineI i ++ [10]) := ⟨_, rfl⟩
      rw [← hrest] at HR
      have HX := (show Hid (rest = (l.drop (m + 1)).flatMap (fun i => lineI i ++ [10])) from hrest)
      clear hrest
      generalize l.getD m zI = x at *
      have hop := okI_op hok
      have HV := (show Hid (∀ f, f < 4 → fld x f = ((fld x f).toNat : Int) ∧ (fld x f).toNat ≤ 1073741824) from fun f hf => ⟨by have := okI_fld hok f hf; omega, okI_small hok f hf⟩)
      have hput := lineI_le hok
      obtain ⟨op, xa, xb, xc, xd⟩ := x
      obtain ⟨q, rfl⟩ : ∃ q : Nat, op = q := ⟨op.toNat, by simp only at hop; omega⟩
      have hq1 : 1 ≤ q := by simp only at hop; omega
      have hq2 : q ≤ 17 := by simp only at hop; omega
      have HP := (show Hid (lineI ⟨q, xa, xb, xc, xd⟩ = wrd q ++ (named q 0).flatMap (fieldT ⟨q, xa, xb, xc, xd⟩)) from rfl)
      have hF := fields_any ⟨q, xa, xb, xc, xd⟩
      unfold FieldsIs vI at hF
      have hlo : out.length ≤ 300000 := by
        have h5 := congrArg List.length HR.out
        rw [List.length_append] at h5
        omega
      have hw2 := bd_write B B out (wrd q) (by have := wrd_le q; omega)
      unfold BWriteIs at hw2
      have a0 := i1.c0
      have a1 := i1.c1
      have a2 := i1.c2
      have a3 := i1.c3
      have a4 := i1.c4
      have hbA : Below wr.heap.size wr (wr.alloc (.cells #[.int .i64 q, .int .i64 xa, .int .i64 xb, .int .i64 xc, .int .i64 xd] 23)) := (Below.refl _ _).alloc (Nat.le_refl _) _
      have hsA := alloc_size wr (.cells #[.int .i64 q, .int .i64 xa, .int .i64 xb, .int .i64 xc, .int .i64 xd] 23)
      have hkA : IBlk (wr.alloc (.cells #[.int .i64 q, .int .i64 xa, .int .i64 xb, .int .i64 xc, .int .i64 xd] 23)) wr.heap.size ⟨q, xa, xb, xc, xd⟩ := heap_alloc_new wr _
      have hdA := hd.later hbA
      have hBA := chain hB hbA
      have hwd := (hT.later hBA).wrd q (by omega)
      clear i1 hok hop hbA
      go_wp2_with (first | (go_at_call 27; refine (hw2 _ hdA (by omega)).mono ?_; rintro e w5 ⟨⟨x, rfl⟩, hd5, hb5, hkk⟩; have hk5 := hkA.kept hkk (by omega); have hB5 := hBA.trans (hb5.mono hwB); have hs5 := hb5.size; have c0 := hk5.c0; have c1 := hk5.c1; have c2 := hk5.c2; have c3 := hk5.c3; have c4 := hk5.c4) | (go_at_call 21; refine (hF _).mono ?_; rintro e w6 ⟨rfl, hb6⟩; have hs6 := hb6.size; have hr7 : RowBlk (w6.alloc (.cells #[.int .i64 xa, .int .i64 xb, .int .i64 xc, .int .i64 xd] 37)) w6.heap.size ⟨q, xa, xb, xc, xd⟩ := heap_alloc_new w6 _; have hb7 : Below w6.heap.size w6 (w6.alloc (.cells #[.int .i64 xa, .int .i64 xb, .int .i64 xc, .int .i64 xd] 37)) := (Below.refl _ _).alloc (Nat.le_refl _) _; have hB7 := chain (chain hB5 hb6) hb7; have hd7 := (hd5.later hb6).later hb7; have e0 := ((hk5.later hb6).later hb7).c0; have hT7 := hT.later hB7; have hk0 := hT7.kd q (by omega) 0 (by omega); have hk1 := hT7.kd q (by omega) 1 (by omega); have hk2 := hT7.kd q (by omega) 2 (by omega); have hk3 := hT7.kd q (by omega) 3 (by omega)))
      have hgB : B < w6.heap.size := by omega
      have hs7 := alloc_size w6 (.cells #[.int .i64 xa, .int .i64 xb, .int .i64 xc, .int .i64 xd] 37)
      have HS := (show Hid ((out ++ wrd q) ++ ((named q 0).flatMap (fieldT ⟨q, xa, xb, xc, xd⟩) ++ ([10] ++ rest)) = P) by show _ = _; rw [← HR.out, HP.out]; simp only [List.append_assoc])
      clear hdA hd5 hkA hk5 hkk c0 c1 c2 c3 c4 HR HP
      have hne7 : w6.heap.size ≠ B := by omega
      generalize w6.alloc (.cells #[.int .i64 xa, .int .i64 xb, .int .i64 xc, .int .i64 xd] 37) = w7 at *
      generalize w6.heap.size = g7 at *
      go_loopw [35] (fun y wq => ∃ (f : Nat) (o2 : List UInt8), y = .int .i64 f ∧ f ≤ 4 ∧ St w B g7 ⟨q, xa, xb, xc, xd⟩ wq ∧ Bd B B o2 wq ∧ Hid (o2 ++ ((named q f).flatMap (fieldT ⟨q, xa, xb, xc, xd⟩) ++ ([10] ++ rest)) = P)) (fun y _ => 4 - (intOf y).toNat)
      case atStart => exact ⟨0, out ++ wrd q, rfl, by omega, ⟨hB7, by omega, hr7⟩, hd7, HS⟩
      case round =>
        rename World => wq
        obtain ⟨f, o2, rfl, hf, hst, hdq, HZ⟩ := hrel
        by_cases hf4 : f < 4
        · have hx := index_kd q f hf4
          have hl6 := kd_lt q f
          obtain ⟨hv1, hv2⟩ := HV.out f hf4
          have hkz : kd q f = 0 ∨ kd q f ≠ 0 := by omega
          have HK : Hid (kd q f = 0 → named q f = named q (f + 1)) := fun h => named_skip hf4 h
          have HT : Hid (kd q f ≠ 0 → named q f = f :: named q (f + 1)) := fun h => named_take hf4 h
          have HE := (show Hid (fieldT ⟨q, xa, xb, xc, xd⟩ f = 32 :: (sgn (kd q f) ++ Lib.decDigits (fld ⟨q, xa, xb, xc, xd⟩ f).toNat)) from rfl)
          generalize kd q f = k at *
          rcases hkz with hk | hk
          · subst hk
            have HN : Hid (o2 ++ ((named q (f + 1)).flatMap (fieldT ⟨q, xa, xb, xc, xd⟩) ++ ([10] ++ rest)) = P) := by show _ = _; rw [← HK.out rfl]; exact HZ.out
            clear HZ HK HT HE hv1
            go_wp2
            go_roundw
            case rel => exact ⟨f + 1, o2, by go_num, by omega, hst, hdq, HN⟩
            case measure => simp [intOf]; omega
          · have hk2' : ((k : Int) == 0) = false := by rw [beq_eq_false_iff_ne]; omega
            have HN : Hid ((o2 ++ fieldT ⟨q, xa, xb, xc, xd⟩ f) ++ ((named q (f + 1)).flatMap (fieldT ⟨q, xa, xb, xc, xd⟩) ++ ([10] ++ rest)) = P) := by
              show _ = _
              rw [← HZ.out, HT.out hk, List.flatMap_cons]
              simp only [List.append_assoc]
            have hlo2 : o2.length ≤ 300000 := by
              have h5 := congrArg List.length HZ.out
              rw [List.length_append] at h5
              omega
            rw [HE.out] at HN
            generalize (fld ⟨q, xa, xb, xc, xd⟩ f).toNat = vn at *
            have h31 := itoa_any vn hv2
            have hPq := hPw.later hst.below
            have hsg := sgn_le k
            have hdl := dec_len vn hv2
            have hw3 := bd_write B B o2 (32 :: (sgn k ++ Lib.decDigits vn)) (by simp; omega)
            unfold BWriteIs at hw3
            unfold ItoaIs at h31
            have hS3 : (fun W => W.cell? ⟨1, k * 2, none⟩ = some (.string (ba (sgn k))) ∧ W.cell? ⟨g7, f, none⟩ = some (.int .i64 vn) ∧ St w B g7 ⟨q, xa, xb, xc, xd⟩ W) wq.drew := st1 hT hl6 hf4 hv1 ⟨hst.below.drew, hst.size, hst.row⟩
            dsimp only at hS3
            have hpd : Pow wq.drew := hPq
            have hdd : Bd B B o2 wq.drew := hdq
            have hsd : B < wq.drew.heap.size := hst.size
            have hap1 : (ByteArray.mk #[32]) ++ ba (sgn k) = ba (32 :: sgn k) := ba_append [32] (sgn k)
            have hap2 : ba (32 :: sgn k) ++ ba (Lib.decDigits vn) = ba (32 :: (sgn k ++ Lib.decDigits vn)) := ba_append (32 :: sgn k) (Lib.decDigits vn)
            have hz1 : ¬ 9223372036854775807 < 1 + (ba (sgn k)).size := by rw [ba_size]; omega
            have hz2 : ¬ 9223372036854775807 < (ba (32 :: sgn k)).size + (ba (Lib.decDigits vn)).size := by rw [ba_size, ba_size]; simp; omega
            have hki0 : (0 : Int) ≤ (k : Int) := by omega
            have hki1 : (k : Int) < 6 := by omega
            clear HZ HK HT HE
            go_wp2
            go_region_held3 (fun W => W.cell? ⟨1, k * 2, none⟩ = some (.string (ba (sgn k))) ∧ W.cell? ⟨g7, f, none⟩ = some (.int .i64 vn) ∧ St w B g7 ⟨q, xa, xb, xc, xd⟩ W) (first | assumption | exact hS3 | exact st1 hT hl6 hf4 hv1 (St.next (And.right (And.right (by assumption))) (by assumption)) | exact st1 hT hl6 hf4 hv1 (St.write hwB hne7 (And.right (And.right (by assumption))) (by assumption) (by assumption))) (first | (go_at_call 31; refine (h31 _ hpd).mono ?_; rintro e w8 ⟨rfl, b8⟩; have hd8 := hdd.later b8; have hs8 := b8.size) | (go_at_call 27; refine (hw3 _ hd8 (by omega)).mono ?_; rintro e w9 ⟨⟨x, rfl⟩, hd9, b9, hkk9⟩))
            have hst9 : St w B g7 ⟨q, xa, xb, xc, xd⟩ w9 := St.write hwB hne7 (St.next (show St w B g7 ⟨q, xa, xb, xc, xd⟩ wq.drew from ⟨hst.below.drew, hst.size, hst.row⟩) b8) b9 hkk9
            go_wp2
            go_roundw
            case rel => exact ⟨f + 1, o2 ++ (32 :: (sgn k ++ Lib.decDigits vn)), by go_num, by omega, hst9, hd9, HN⟩
            case measure => simp [intOf]; omega
        · obtain rfl : f = 4 := by omega
          have HN : Hid ((o2 ++ [10]) ++ rest = P) := by show _ = _; rw [← HZ.out, named_end]; simp
          have hlo2 : o2.length ≤ 300000 := by
            have h5 := congrArg List.length HZ.out
            rw [List.length_append] at h5
            omega
          have h32 := bd_byte B B o2 (by omega) _ hdq (by have := hst.size; omega)
          have hBq := hst.below
          have hsq := hst.size
          clear HZ
          go_wp2_with (go_at_call 32; refine h32.mono ?_; rintro e w8 ⟨rfl, hd8, hb8⟩; have hs8 := hb8.size)
          go_roundw
          case rel => exact ⟨m + 1, o2 ++ [10], by go_num, by omega, hBq.trans (hb8.mono hwB), by omega, hd8, by show _ = _; rw [← HX.out]; exact HN.out⟩
          case measure => simp [intOf]; omega
    · obtain rfl : m = n := by omega
      have HE : Hid (out = P) := by show _ = _; rw [← HQ.out, HEND.out, List.append_nil]
      have h29 := bd_string B B out _ hd (by omega)
      go_wp2_with (go_at_call 29; refine h29.mono ?_; rintro e w4 ⟨rfl, hb4⟩)
      go_ret2
      exact ⟨by rw [HE.out]; rfl, hB.trans (hb4.mono hwB)⟩
end Go.Proofs.YtdekkjnlmlkbdaaDoor.is
