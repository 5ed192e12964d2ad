/-
  Contracts over this program: instructions as bytes (isa.Put).
-/
import Derived.Test.YtdekkjnlmlkbdaaDoorHb
namespace Go.Proofs.YtdekkjnlmlkbdaaDoor.is
open Go.Proofs.YtdekkjnlmlkbdaaDoor.num
open Go.ChangeShapes Go.WideShapes Go.ChangeAt Go.RowKit
set_option linter.unusedVariables false

def Bd (B b : Nat) (out : List UInt8) (w : World) : Prop := Lib.IsBuilderF 50 5 B b (Lib.byteCells out) w
theorem Bd.later {B b : Nat} {out : List UInt8} {w w' : World} (h : Bd B b out w) (hb : Below w.heap.size w w') : Bd B b out w' := bld.later h hb
theorem ba_append (a b : List UInt8) : ba a ++ ba b = ba (a ++ b) := by
  have e : ∀ {s t : ByteArray}, s.data.toList = t.data.toList → s = t := fun {s t} h => by cases s; cases t; congr 1; exact Array.toList_inj.1 h
  apply e
  simp [ba]
theorem ba_size (l : List UInt8) : (ba l).size = l.length := by simp [ba, ByteArray.size]
def BWriteIs (B b : Nat) (out r : List UInt8) : Prop := ∀ w, Bd B b out w → B ≤ w.heap.size → Calls Tryd.prog 27 #[.pointer (some ⟨b, 0, none⟩), .string (ba r)] w fun e w' => (∃ x, e = .returned (.tuple #[.int .i64 x, .nilIface])) ∧ Bd B b (out ++ r) w' ∧ Below B w w' ∧ Lib.OthersKept 5 (some b) w w'
theorem bd_write (B b : Nat) (out r : List UInt8) (hlen : out.length + r.length ≤ 140737488355328) : BWriteIs B b out r := by
  intro w h hB
  refine (bld.write_any B b out (ba r) (by rw [ba_size]; exact hlen) w h hB).mono ?_
  rintro e w' ⟨rfl, h1, h2, h3⟩
  exact ⟨⟨_, rfl⟩, h1, h2, h3⟩
theorem bd_string (B b : Nat) (out : List UInt8) (w : World) (h : Bd B b out w) (hB : B ≤ w.heap.size) :
    Calls Tryd.prog 29 #[.pointer (some ⟨b, 0, none⟩)] w fun e w' => e = .returned (.string (ba out)) ∧ Below B w w' := (bld.string_any B b out w h hB).mono fun e w' h => ⟨h.1, h.2.2⟩
theorem bd_new (w : World) : Bd w.heap.size w.heap.size [] (w.alloc (.cells #[.pointer none, .slice none 0 0] 50)) := Lib.IsBuilderF.of (Lib.fresh_isBuilder 50 5 w)
theorem IBlk.kept {w w' : World} {g b : Nat} {q : In} (h : IBlk w g q) (k : Lib.OthersKept 5 (some b) w w') (hne : g ≠ b) : IBlk w' g q := k g _ h (fun e => hne (Option.some.inj e)) (fun c fz e => by cases e)
theorem RowBlk.kept {w w' : World} {g b : Nat} {q : In} (h : RowBlk w g q) (k : Lib.OthersKept 5 (some b) w w') (hne : g ≠ b) : RowBlk w' g q := k g _ h (fun e => hne (Option.some.inj e)) (fun c fz e => by cases e)
theorem put_ba (n : Nat) (hn : n < 18446744073709551616) (w : World) : Calls Tryd.prog 28 #[.int .u64 n] w fun e w' => e = .returned (.string (ba (digs n))) ∧ Below w.heap.size w w' := put_any n hn w

theorem alloc_size (w : World) (o : Obj) : (w.alloc o).heap.size = w.heap.size + 1 := by show (w.heap.push o).size = _; simp
def PutsIs (l : List In) (s : List UInt8) (er : Nat) : Prop := ∀ (v : Value) (w : World), Tabs w → InsAt w v l → Calls Tryd.prog 11 #[v] w fun e w' => e = .returned (.tuple #[.string (ba s), .int .i64 er]) ∧ Below w.heap.size w w'

set_option maxHeartbeats 2000000 in
set_option maxRecDepth 100000 in
theorem puts_bad (l : List In) (h : allE l ≠ 0) : PutsIs l [] (allE l) := by
  intro v w hT hv
  have h26 := rightl_any l v w hT hv
  generalize allE l = er at *
  have hne : ((er : Int) == 0) = false := by rw [beq_eq_false_iff_ne]; omega
  clear h hv
  go_enter Tryd.func11, Tryd.ntmps11
  go_wp2_with (go_at_call 26; refine h26.mono ?_; rintro e w1 ⟨rfl, hb⟩)
  go_ret2
  exact ⟨rfl, hb⟩

theorem flat_drop (l : List In) (f : In → List UInt8) (m : Nat) (h : m < l.length) : (l.drop m).flatMap f = f (l.getD m zI) ++ (l.drop (m + 1)).flatMap f := by
  rw [List.drop_eq_getElem_cons h, List.flatMap_cons, at_getD l m h]

set_option maxHeartbeats 8000000 in
set_option maxRecDepth 100000 in
theorem puts_ok (l : List In) (h : allE l = 0) : PutsIs l (putL l) 0 := by
  intro v w hT hv
  have h26 := rightl_any l v w hT hv
  rw [h] at h26
  obtain ⟨hl, hok⟩ := all_ok h
  have hle := putL_le h
  obtain ⟨o, n, cap, rfl, hn, hc, hcm, hel⟩ := hv.open
  have h28 := put_ba n (by omega)
  have hnu := u64_small n (by omega)
  have HL := (show Hid (putL l = digs n ++ (l.drop 0).flatMap putI) by show _ = _; rw [← hn]; rfl)
  have HD := (show Hid (∀ m, m < n → (l.drop m).flatMap putI = putI (l.getD m zI) ++ (l.drop (m + 1)).flatMap putI) from fun m hm => flat_drop l putI m (by omega))
  have HOK := (show Hid (∀ m, m < n → okI (l.getD m zI) = true) from fun m hm => by rw [at_getD l m (by omega)]; exact hok _ (List.getElem_mem _))
  have HEND := (show Hid ((l.drop n).flatMap putI = []) by show _ = _; rw [List.drop_eq_nil_of_le (by omega)]; rfl)
  have hn2 : n ≤ 4096 := by omega
  generalize hP : putL l = P at *
  clear h hok hn hv hl hP
  go_enter Tryd.func11, Tryd.ntmps11
  have hw1 : ∀ B b, BWriteIs B b [] (digs n) := fun B b => bd_write B b [] (digs n) (by have := digs_short n (by omega); simp; omega)
  unfold BWriteIs at hw1
  go_wp2_with (first | (go_at_call 26; refine h26.mono ?_; rintro e w1 ⟨rfl, hb1⟩; have hd1 := bd_new w1) | (go_at_call 28; refine (h28 _).mono ?_; rintro e w2 ⟨rfl, hb2⟩; have hd2 := hd1.later hb2; have hs2 := hb2.size; rw [alloc_size] at hs2) | (go_at_call 27; refine (hw1 _ _ _ hd2 (by omega)).mono ?_; rintro e w3 ⟨⟨x, rfl⟩, hd3, hb3, hk3⟩))
  have hB3 : Below w.heap.size w w3 := ((hb1.alloc hb1.size _).trans (hb2.mono (by have := hb1.size; rw [alloc_size]; omega))).trans (hb3.mono hb1.size)
  have hs3 := hb3.size
  obtain ⟨B, hBd⟩ : ∃ B, B = w1.heap.size := ⟨_, rfl⟩
  have hwB : w.heap.size ≤ B := by have := hb1.size; omega
  have hB3s : B < w3.heap.size := by omega
  rw [← hBd] at hd3
  rw [← hBd]
  rw [List.nil_append] at hd3
  clear hd1 hd2 hb2 hb3 hk3 hw1 hs2 hs3 h26 h28 hBd hb1
  go_loopw [23] (fun y wr => ∃ (m : Nat) (out : List UInt8), y = .int .i64 m ∧ m ≤ n ∧ Below w.heap.size w wr ∧ B < wr.heap.size ∧ Bd B B out wr ∧ Hid (out ++ (l.drop m).flatMap putI = P)) (fun y _ => n - (intOf y).toNat)
  case atStart => exact ⟨0, digs n, rfl, by omega, hB3, hB3s, hd3, HL.out.symm⟩
  case round =>
    rename_i wr
    obtain ⟨m, out, rfl, hm, hB, hBs, hd, HQ⟩ := hrel
    by_cases hmn : m < n
    · obtain ⟨b, off, rfl, i1⟩ := hel m hmn
      have i1 := i1.later hB
      have hok := HOK.out m hmn
      have HR := (show Hid (out ++ (putI (l.getD m zI) ++ (l.drop (m + 1)).flatMap putI) = P) by show _ = _; rw [← HD.out m hmn]; exact HQ.out)
      clear HQ
      obtain ⟨rest, hrest⟩ : ∃ r, r = (l.drop (m + 1)).flatMap putI := ⟨_, rfl⟩
      rw [← hrest] at HR
      have HX := (show Hid (rest = (l.drop (m + 1)).flatMap putI) from hrest)
      clear hrest
      generalize l.getD m zI = x at *
      have hop := okI_op hok
      have HV := (show Hid (∀ f, f < 4 → fld x f = ((fld x f).toNat : Int) ∧ (fld x f).toNat ≤ 1073741824) from fun f hf => ⟨by have := okI_fld hok f hf; omega, okI_small hok f hf⟩)
      have hput := putI_le hok
      obtain ⟨op, xa, xb, xc, xd⟩ := x
      obtain ⟨q, rfl⟩ : ∃ q : Nat, op = q := ⟨op.toNat, by simp only at hop; omega⟩
      have hq1 : 1 ≤ q := by simp only at hop; omega
      have hq2 : q ≤ 17 := by simp only at hop; omega
      have HP := (show Hid (putI ⟨q, xa, xb, xc, xd⟩ = digs q ++ (named q 0).flatMap (fun g => digs (fld ⟨q, xa, xb, xc, xd⟩ g).toNat)) from rfl)
      have hF := fields_any ⟨q, xa, xb, xc, xd⟩
      unfold FieldsIs vI at hF
      have h28q := put_ba q (by omega)
      have hqu := u64_small q (by omega)
      have hlo : out.length + 50 ≤ 300050 := by
        have h5 := congrArg List.length HR.out
        rw [List.length_append] at h5
        omega
      have hw2 := bd_write B B out (digs q) (by have := digs_short q (by omega); omega)
      unfold BWriteIs at hw2
      have a0 := i1.c0
      have a1 := i1.c1
      have a2 := i1.c2
      have a3 := i1.c3
      have a4 := i1.c4
      have hbA : Below wr.heap.size wr (wr.alloc (.cells #[.int .i64 q, .int .i64 xa, .int .i64 xb, .int .i64 xc, .int .i64 xd] 23)) := (Below.refl _ _).alloc (Nat.le_refl _) _
      have hsA := alloc_size wr (.cells #[.int .i64 q, .int .i64 xa, .int .i64 xb, .int .i64 xc, .int .i64 xd] 23)
      have hkA : IBlk (wr.alloc (.cells #[.int .i64 q, .int .i64 xa, .int .i64 xb, .int .i64 xc, .int .i64 xd] 23)) wr.heap.size ⟨q, xa, xb, xc, xd⟩ := heap_alloc_new wr _
      have hdA := hd.later hbA
      have hBA := chain hB hbA
      clear i1 hok hop hbA
      go_wp2_with (first | (go_at_call 28; refine (h28q _).mono ?_; rintro e w4 ⟨rfl, hb4⟩; have hk4 := hkA.later hb4; have hd4 := hdA.later hb4; have hB4 := chain hBA hb4; have hs4 := hb4.size; rw [alloc_size] at hs4) | (go_at_call 27; refine (hw2 _ hd4 (by omega)).mono ?_; rintro e w5 ⟨⟨x, rfl⟩, hd5, hb5, hkk⟩; have hk5 := hk4.kept hkk (by omega); have hB5 := hB4.trans (hb5.mono hwB); have hs5 := hb5.size; have c0 := hk5.c0; have c1 := hk5.c1; have c2 := hk5.c2; have c3 := hk5.c3; have c4 := hk5.c4) | (go_at_call 21; refine (hF _).mono ?_; rintro e w6 ⟨rfl, hb6⟩; have hs6 := hb6.size; have hr7 : RowBlk (w6.alloc (.cells #[.int .i64 xa, .int .i64 xb, .int .i64 xc, .int .i64 xd] 37)) w6.heap.size ⟨q, xa, xb, xc, xd⟩ := heap_alloc_new w6 _; have hb7 : Below w6.heap.size w6 (w6.alloc (.cells #[.int .i64 xa, .int .i64 xb, .int .i64 xc, .int .i64 xd] 37)) := (Below.refl _ _).alloc (Nat.le_refl _) _; have hB7 := chain (chain hB5 hb6) hb7; have hd7 := (hd5.later hb6).later hb7; have e0 := ((hk5.later hb6).later hb7).c0; have hT7 := hT.later hB7; have hk0 := hT7.kd q (by omega) 0 (by omega); have hk1 := hT7.kd q (by omega) 1 (by omega); have hk2 := hT7.kd q (by omega) 2 (by omega); have hk3 := hT7.kd q (by omega) 3 (by omega)))
      have hgB : B < w6.heap.size := by omega
      have hs7 := alloc_size w6 (.cells #[.int .i64 xa, .int .i64 xb, .int .i64 xc, .int .i64 xd] 37)
      have HS := (show Hid ((out ++ digs q) ++ ((named q 0).flatMap (fun g => digs (fld ⟨q, xa, xb, xc, xd⟩ g).toNat) ++ rest) = P) by show _ = _; rw [← HR.out, HP.out]; simp only [List.append_assoc])
      clear hdA hd4 hd5 hkA hk4 hk5 hkk c0 c1 c2 c3 c4 HR HP
      go_loopw [39] (fun y wq => ∃ (f : Nat) (o2 : List UInt8), y = .int .i64 f ∧ f ≤ 4 ∧ Below w.heap.size w wq ∧ B < wq.heap.size ∧ Bd B B o2 wq ∧ RowBlk wq w6.heap.size ⟨q, xa, xb, xc, xd⟩ ∧ Hid (o2 ++ ((named q f).flatMap (fun g => digs (fld ⟨q, xa, xb, xc, xd⟩ g).toNat) ++ rest) = P)) (fun y _ => 4 - (intOf y).toNat)
      case atStart => exact ⟨0, out ++ digs q, rfl, by omega, hB7, by omega, hd7, hr7, HS⟩
      case round =>
        rename_i wq
        obtain ⟨f, o2, rfl, hf, hBq, hsq, hdq, hrq, HZ⟩ := hrel
        by_cases hf4 : f < 4
        · have hx := index_kd q f hf4
          obtain ⟨hv1, hv2⟩ := HV.out f hf4
          have hc8 := hrq.at f hf4
          have hkz : kd q f = 0 ∨ kd q f ≠ 0 := by omega
          have HK : Hid (kd q f = 0 → named q f = named q (f + 1)) := fun h => named_skip hf4 h
          have HT : Hid (kd q f ≠ 0 → named q f = f :: named q (f + 1)) := fun h => named_take hf4 h
          have HE := (show Hid ((fun g => digs (fld ⟨q, xa, xb, xc, xd⟩ g).toNat) f = digs (fld ⟨q, xa, xb, xc, xd⟩ f).toNat) from rfl)
          rw [hv1] at hc8
          generalize kd q f = k at *
          rcases hkz with hk | hk
          · subst hk
            have HN : Hid (o2 ++ ((named q (f + 1)).flatMap (fun g => digs (fld ⟨q, xa, xb, xc, xd⟩ g).toNat) ++ rest) = P) := by show _ = _; rw [← HK.out rfl]; exact HZ.out
            clear HZ HK HT HE hv1
            go_wp2
            go_roundw
            case rel => exact ⟨f + 1, o2, by go_num, by omega, hBq, hsq, hdq, hrq, HN⟩
            case measure => simp [intOf]; omega
          · have hk2' : ((k : Int) == 0) = false := by rw [beq_eq_false_iff_ne]; omega
            have HN : Hid ((o2 ++ digs (fld ⟨q, xa, xb, xc, xd⟩ f).toNat) ++ ((named q (f + 1)).flatMap (fun g => digs (fld ⟨q, xa, xb, xc, xd⟩ g).toNat) ++ rest) = P) := by
              show _ = _
              rw [← HZ.out, HT.out hk, List.flatMap_cons]
              simp only [List.append_assoc]
            have hlo2 : o2.length ≤ 300000 := by
              have h5 := congrArg List.length HZ.out
              rw [List.length_append] at h5
              omega
            generalize (fld ⟨q, xa, xb, xc, xd⟩ f).toNat = vn at *
            have h28v := put_ba vn (by omega)
            have hvu := u64_small vn (by omega)
            have hw3 := bd_write B B o2 (digs vn) (by have := digs_short vn (by omega); omega)
            unfold BWriteIs at hw3
            clear HZ HK HT HE hv1
            go_wp2_with (first | (go_at_call 28; refine (h28v _).mono ?_; rintro e w8 ⟨rfl, hb8⟩; have hd8 := hdq.later hb8; have hr8 := hrq.later hb8; have hB8 := chain hBq hb8; have hs8 := hb8.size) | (go_at_call 27; refine (hw3 _ hd8 (by omega)).mono ?_; rintro e w9 ⟨⟨x, rfl⟩, hd9, hb9, hkk9⟩; have hs9 := hb9.size))
            go_roundw
            case rel => exact ⟨f + 1, o2 ++ digs vn, by go_num, by omega, hB8.trans (hb9.mono hwB), by omega, hd9, hr8.kept hkk9 (by omega), HN⟩
            case measure => simp [intOf]; omega
        · obtain rfl : f = 4 := by omega
          have HN : Hid (o2 ++ rest = P) := by show _ = _; rw [← HZ.out, named_end]; rfl
          clear HZ
          go_wp2
          go_roundw
          case rel => exact ⟨m + 1, o2, by go_num, by omega, hBq, hsq, hdq, by show _ = _; rw [← HX.out]; exact HN.out⟩
          case measure => simp [intOf]; omega
    · obtain rfl : m = n := by omega
      have HE : Hid (out = P) := by show _ = _; rw [← HQ.out, HEND.out, List.append_nil]
      have h29 := bd_string B B out _ hd (by omega)
      go_wp2_with (go_at_call 29; refine h29.mono ?_; rintro e w4 ⟨rfl, hb4⟩)
      go_ret2
      exact ⟨by rw [HE.out]; rfl, hB.trans (hb4.mono hwB)⟩
end Go.Proofs.YtdekkjnlmlkbdaaDoor.is
