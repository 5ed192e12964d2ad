/-
  Contracts over this program: instructions as lines, as the document says (Text); the law IsaPuts.
-/
import Derived.Test.YtdekkjnlmlkbdaaDoorHg
namespace Go.Proofs.YtdekkjnlmlkbdaaDoor.is
open Go.Proofs.YtdekkjnlmlkbdaaDoor.num
open Go.ChangeShapes Go.WideShapes Go.ChangeAt Go.RowKit
set_option linter.unusedVariables false

def RTextsIs (l : List In) (s : List UInt8) (er : Nat) : Prop := ∀ (v : Value) (w : World), Pow w → InsAt w v l → Calls Tryd.prog 14 #[v] w fun e w' => e = .returned (.tuple #[.string (ba s), .int .i64 er]) ∧ Below w.heap.size w w'

set_option maxHeartbeats 2000000 in
set_option maxRecDepth 100000 in
theorem rtexts_bad (l : List In) (h : allE l ≠ 0) : RTextsIs l [] (allE l) := by
  intro v w hP hv
  have h20 := rall_any l v w hv
  generalize allE l = er at *
  have hne : ((er : Int) == 0) = false := by rw [beq_eq_false_iff_ne]; omega
  clear h hv
  go_enter Tryd.func14, Tryd.ntmps14
  go_wp2_with (go_at_call 20; refine h20.mono ?_; rintro e w1 ⟨rfl, hb⟩)
  go_ret2
  exact ⟨rfl, hb⟩

set_option maxHeartbeats 8000000 in
set_option maxRecDepth 100000 in
theorem rtexts_ok (l : List In) (h : allE l = 0) : RTextsIs l (textL l) 0 := by
  intro v w hPw hv
  have h20 := rall_any l v w hv
  rw [h] at h20
  obtain ⟨hl, hok⟩ := all_ok h
  have hle := textL_le h
  obtain ⟨o, n, cap, rfl, hn, hc, hcm, hel⟩ := hv.open
  have HL := (show Hid (textL l = (l.drop 0).flatMap (fun i => lineI i ++ [10])) by rfl)
  have HD := (show Hid (∀ m, m < n → (l.drop m).flatMap (fun i => lineI i ++ [10]) = (lineI (l.getD m zI) ++ [10]) ++ (l.drop (m + 1)).flatMap (fun i => lineI i ++ [10])) from fun m hm => flat_drop l (fun i => lineI i ++ [10]) m (by omega))
  have HOK := (show Hid (∀ m, m < n → okI (l.getD m zI) = true) from fun m hm => by rw [at_getD l m (by omega)]; exact hok _ (List.getElem_mem _))
  have HEND := (show Hid ((l.drop n).flatMap (fun i => lineI i ++ [10]) = []) by show _ = _; rw [List.drop_eq_nil_of_le (by omega)]; rfl)
  have hn2 : n ≤ 4096 := by omega
  generalize hP : textL l = P at *
  clear h hok hn hv hl hP
  go_enter Tryd.func14, Tryd.ntmps14
  go_wp2_with (go_at_call 20; refine h20.mono ?_; rintro e w1 ⟨rfl, hb1⟩)
  go_loopw [5, 15] (fun z y wr => ∃ (m : Nat) (out : List UInt8), z = .string (ba out) ∧ y = .int .i64 m ∧ m ≤ n ∧ Below w.heap.size w wr ∧ Hid (out ++ (l.drop m).flatMap (fun i => lineI i ++ [10]) = P)) (fun _ y _ => n - (intOf y).toNat)
  case atStart => exact ⟨0, [], rfl, rfl, by omega, hb1, HL.out.symm⟩
  case round =>
    rename World => wr
    obtain ⟨m, out, rfl, rfl, hm, hB, HQ⟩ := hrel
    by_cases hmn : m < n
    · obtain ⟨b, off, rfl, i1⟩ := hel m hmn
      have i1 := i1.later hB
      have hok := HOK.out m hmn
      have HR := (show Hid (out ++ ((lineI (l.getD m zI) ++ [10]) ++ (l.drop (m + 1)).flatMap (fun i => lineI i ++ [10])) = P) by show _ = _; rw [← HD.out m hmn]; exact HQ.out)
      clear HQ
      have hput := lineI_le hok
      have h33 := rline_any (l.getD m zI) hok
      unfold RLineIs vI at h33
      have hlo : out.length ≤ 300000 := by
        have h5 := congrArg List.length HR.out
        rw [List.length_append] at h5
        omega
      obtain ⟨u1, hu1⟩ : ∃ u, u = out ++ lineI (l.getD m zI) := ⟨_, rfl⟩
      obtain ⟨u2, hu2⟩ : ∃ u, u = u1 ++ [10] := ⟨_, rfl⟩
      have HN : Hid (u2 ++ (l.drop (m + 1)).flatMap (fun i => lineI i ++ [10]) = P) := by
        show _ = _
        rw [← HR.out, hu2, hu1]
        simp
      have hul : u1.length = out.length + (lineI (l.getD m zI)).length := by rw [hu1, List.length_append]
      have hap1 : ba out ++ ba (lineI (l.getD m zI)) = ba u1 := by rw [hu1]; exact ba_append _ _
      have hap2 : ba u1 ++ (ByteArray.mk #[10]) = ba u2 := by rw [hu2]; exact ba_append u1 [10]
      have hz1 : ¬ 9223372036854775807 < (ba out).size + (ba (lineI (l.getD m zI))).size := by rw [ba_size, ba_size]; omega
      have hz2 : ¬ 9223372036854775807 < (ba u1).size + 1 := by rw [ba_size]; omega
      clear hu1 hu2 hul HR hput
      generalize lineI (l.getD m zI) = ln at *
      generalize l.getD m zI = x at *
      have a0 := i1.c0
      have a1 := i1.c1
      have a2 := i1.c2
      have a3 := i1.c3
      have a4 := i1.c4
      have hbA : Below wr.heap.size wr (wr.alloc (.cells #[.int .i64 x.op, .int .i64 x.a, .int .i64 x.b, .int .i64 x.c, .int .i64 x.d] 23)) := (Below.refl _ _).alloc (Nat.le_refl _) _
      have hBA := chain hB hbA
      have hPA := hPw.later hBA
      clear i1 hok
      go_wp2_with (go_at_call 33; refine (h33 _ hPA).mono ?_; rintro e w4 ⟨rfl, hb4⟩)
      go_roundw
      case rel => exact ⟨m + 1, u2, rfl, by go_num, by omega, chain hBA hb4, HN⟩
      case measure => simp [intOf]; omega
    · obtain rfl : m = n := by omega
      have HE : Hid (out = P) := by show _ = _; rw [← HQ.out, HEND.out, List.append_nil]
      go_wp2
      go_ret2
      exact ⟨by rw [HE.out]; rfl, hB⟩
end Go.Proofs.YtdekkjnlmlkbdaaDoor.is
