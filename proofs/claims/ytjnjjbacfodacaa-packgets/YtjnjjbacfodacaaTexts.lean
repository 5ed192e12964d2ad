/-
  Contracts over this program: texts behind their lengths (wire.size, strings.Clone, wire.PutText, wire.GetText, and the document's).
-/
import Derived.Test.YtjnjjbacfodacaaBase
import Derived.Shelf.Pu.Clone
namespace Go.Proofs.Ytjnjjbacfodacaa.num
open Go.ChangeShapes Go.WideShapes Go.ChangeAt Go.RowKit
set_option linter.unusedVariables false

def CloneIs (s : ByteArray) : Prop := ∀ w, Calls Try.prog 57 #[.string s] w fun e w' => e = .returned (.string s) ∧ Below w.heap.size w w'

/-- the library's contract for a text's copy, laid at this program -/
def ren : Go.Shelf.Ren := ⟨fun | 25 => 58 | n => n, fun | 37 => 56 | 47 => 71 | n => n, fun | n => n⟩

theorem lays25 : Go.Proofs.LaysPu.n25 Try.prog ren := {
  mixed := by kernel_rfl
  f25 := Try.func58.trans (congrArg some (by kernel_rfl))
  t0 := Try.underlying0
  a0 := Try.isAgg0
  z0 := Try.sizeOf0
  v0 := Try.zeroValue0
  i0 := by kernel_rfl
  t3 := Try.underlying3
  a3 := Try.isAgg3
  z3 := Try.sizeOf3
  v3 := Try.zeroValue3
  i3 := by kernel_rfl
  t4 := Try.underlying4
  a4 := Try.isAgg4
  z4 := Try.sizeOf4
  v4 := Try.zeroValue4
  i4 := by kernel_rfl
  t5 := Try.underlying5
  a5 := Try.isAgg5
  z5 := Try.sizeOf5
  v5 := Try.zeroValue5
  i5 := by kernel_rfl
  t9 := Try.underlying9
  a9 := Try.isAgg9
  z9 := Try.sizeOf9
  v9 := Try.zeroValue9
  i9 := by kernel_rfl
  t37 := Try.underlying56
  a37 := Try.isAgg56
  z37 := Try.sizeOf56
  v37 := Try.zeroValue56
  i37 := by kernel_rfl
  t47 := Try.underlying71
  a47 := Try.isAgg71
  z47 := Try.sizeOf71
  v47 := Try.zeroValue71
  i47 := by kernel_rfl }

theorem liteClone (s : ByteArray) (w : World) (hlim : s.size ≤ 140737488351232) :
    Calls Try.prog 58 #[.string s] w fun e w' => e = .returned (.string s) ∧ Below w.heap.size w w' := AnyPu.stringslite_Clone lays25 s w (by omega)

theorem clone_any (s : ByteArray) (hlim : s.size ≤ 140737488351232) : CloneIs s := by
  intro w
  go_enter Try.func57, Try.ntmps57
  go_wp2_with (go_at_call 58; refine (liteClone s _ hlim).mono ?_; rintro e w1 ⟨rfl, b1⟩)
  go_ret
  exact ⟨rfl, b1⟩

def SizeIs (s : ByteArray) (i most : Int) (n to e : Nat) : Prop := ∀ w, Calls Try.prog 56 #[.string s, .int .i64 i, .int .i64 most] w fun r w' => r = .returned (.tuple #[.int .i64 n, .int .i64 to, .int .i64 e]) ∧ w' = w

theorem size_err (s : ByteArray) (i most : Int) (n to e : Nat) (g : GetIs s i n to e) (he : e ≠ 0) : SizeIs s i most 0 0 e := by
  intro w
  have hne : ((e : Int) != 0) = true := by rw [bne_iff_ne]; omega
  go_enter Try.func56, Try.ntmps56
  go_wp2_with (go_at_call 49; refine (g _).mono ?_; rintro e w1 ⟨rfl, rfl⟩)
  go_ret3
  exact ⟨rfl, rfl⟩

theorem size_long (s : ByteArray) (i most : Int) (n to : Nat) (hn : n < 18446744073709551616) (hm : -9223372036854775808 ≤ most ∧ most < 9223372036854775808) (g : GetIs s i n to 0) (h : most.toNat < n) : SizeIs s i most 0 0 2 := by
  intro w
  by_cases h0 : most < 0
  · have hp : 0 < n := by omega
    go_enter Try.func56, Try.ntmps56
    go_wp2_with (go_at_call 49; refine (g _).mono ?_; rintro e w1 ⟨rfl, rfl⟩)
    go_ret3
    exact ⟨rfl, rfl⟩
  · obtain ⟨k, rfl⟩ := Int.eq_ofNat_of_zero_le (show 0 ≤ most by omega)
    have hp : k < n := by omega
    have hk := hm.2
    clear hm h
    go_enter Try.func56, Try.ntmps56
    go_wp2_with (go_at_call 49; refine (g _).mono ?_; rintro e w1 ⟨rfl, rfl⟩)
    go_ret3
    exact ⟨rfl, rfl⟩

set_option maxRecDepth 100000 in
theorem size_ok (s : ByteArray) (i most : Int) (n to : Nat) (hn : n < 18446744073709551616) (hm : -9223372036854775808 ≤ most ∧ most < 9223372036854775808) (g : GetIs s i n to 0) (h : n ≤ most.toNat) : SizeIs s i most n to 0 := by
  intro w
  by_cases h0 : most < 0
  · obtain rfl : n = 0 := by omega
    go_enter Try.func56, Try.ntmps56
    go_wp2_with (go_at_call 49; refine (g _).mono ?_; rintro e w1 ⟨rfl, rfl⟩)
    go_ret3
    exact ⟨rfl, rfl⟩
  · obtain ⟨k, rfl⟩ := Int.eq_ofNat_of_zero_le (show 0 ≤ most by omega)
    have hk := hm.2
    have hq : decide (k < n) = false := by simp; omega
    have hn63 : n < 9223372036854775808 := by omega
    clear hm h hn h0
    go_enter Try.func56, Try.ntmps56
    go_wp2_with (go_at_call 49; refine (g _).mono ?_; rintro e w1 ⟨rfl, rfl⟩)
    go_ret3
    exact ⟨rfl, rfl⟩

theorem slice_any (s : ByteArray) (i n : Nat) (h : i + n ≤ s.size) (W : World) :
    (Instr.slice 9 (.string s) (some (.int .i64 (i : Int))) (some (.int .i64 ((i : Int) + (n : Int)))) none).run Try.prog W = .ok (.string (s.extract i (i + n))) W := by
  have e1 : (0 : Int) ≤ (i : Int) + (n : Int) := by omega
  have e3 : (i : Int) + (n : Int) ≤ (s.size : Int) := by omega
  have e4 : ((i : Int) + (n : Int)).toNat = i + n := by omega
  simp [Instr.slice, Instr.sliceBounds, Instr.sliceBound, asIntOf, run_underlying Try.underlying9, e1, e3, e4]
theorem slice_none (s : ByteArray) (i : Nat) (h : i ≤ s.size) (W : World) :
    (Instr.slice 9 (.string s) (some (.int .i64 (i : Int))) (some (.int .i64 (i : Int))) none).run Try.prog W = .ok (.string (s.extract i (i + 0))) W := by
  simp [Instr.slice, Instr.sliceBounds, Instr.sliceBound, asIntOf, run_underlying Try.underlying9, h]
theorem extract_none (s : ByteArray) (i : Nat) : s.extract i (i + 0) = ByteArray.empty := bytes_ext (by rw [cut_list]; simp)

def GetTextIs (s : ByteArray) (i most : Int) (t : ByteArray) (to e : Nat) : Prop := ∀ w, Calls Try.prog 51 #[.string s, .int .i64 i, .int .i64 most] w fun r w' => r = .returned (.tuple #[.string t, .int .i64 to, .int .i64 e]) ∧ Below w.heap.size w w'
def RGetTextIs (s : ByteArray) (i most : Int) (t : ByteArray) (to e : Nat) : Prop := ∀ w, Calls Try.prog 31 #[.string s, .int .i64 i, .int .i64 most] w fun r w' => r = .returned (.tuple #[.string t, .int .i64 to, .int .i64 e]) ∧ Below w.heap.size w w'

theorem text_err (s : ByteArray) (i most : Int) (n to e : Nat) (g : SizeIs s i most n to e) (he : e ≠ 0) : GetTextIs s i most ⟨#[]⟩ 0 e := by
  intro w
  have hne : ((e : Int) != 0) = true := by rw [bne_iff_ne]; omega
  go_enter Try.func51, Try.ntmps51
  go_wp2_with (go_at_call 56; refine (g _).mono ?_; rintro e w1 ⟨rfl, rfl⟩)
  go_ret3
  exact ⟨rfl, Below.refl _ _⟩
theorem text_short (s : ByteArray) (i most : Int) (n to : Nat) (hs : s.size ≤ 1125899906842624) (hto : to ≤ s.size) (g : SizeIs s i most n to 0) (h : s.size < to + n) : GetTextIs s i most ⟨#[]⟩ 0 20 := by
  intro w
  have hd : decide ((s.size : Int) - (to : Int) < (n : Int)) = true := by simp; omega
  go_enter Try.func51, Try.ntmps51
  go_wp2_with (go_at_call 56; refine (g _).mono ?_; rintro e w1 ⟨rfl, rfl⟩)
  go_ret3
  exact ⟨rfl, Below.refl _ _⟩
theorem text_ok (s : ByteArray) (i most : Int) (n to : Nat) (hs : s.size ≤ 1125899906842624) (hn47 : n ≤ 140737488351232) (g : SizeIs s i most n to 0) (h : to + n ≤ s.size) : GetTextIs s i most (s.extract to (to + n)) (to + n : Nat) 0 := by
  intro w
  have hd : decide ((s.size : Int) - (to : Int) < (n : Int)) = false := by simp; omega
  have hsz : (s.extract to (to + n)).size ≤ 140737488351232 := by simp; omega
  have hc := clone_any (s.extract to (to + n)) hsz
  have hsl : ∀ W : World, (Instr.slice 9 (.string s) (some (.int .i64 (to : Int))) (some (.int .i64 ((to : Int) + (n : Int)))) none).run Try.prog W = .ok (.string (s.extract to (to + n))) W := fun W => slice_any s to n h W
  clear hsz
  go_enter Try.func51, Try.ntmps51
  go_wp2_with (first | (go_at_call 56; refine (g _).mono ?_; rintro e w1 ⟨rfl, rfl⟩) | (go_at_call 57; refine (hc _).mono ?_; rintro e w2 ⟨rfl, b2⟩))
  go_ret3
  exact ⟨ret3 rfl (by show Value.int .i64 _ = Value.int .i64 _; go_num) rfl, b2⟩

theorem rtext_err (s : ByteArray) (i most : Int) (n to e : Nat) (g : RGetIs s i n to e) (he : e ≠ 0) : RGetTextIs s i most ⟨#[]⟩ 0 e := by
  intro w
  have hne : ((e : Int) != 0) = true := by rw [bne_iff_ne]; omega
  go_enter Try.func31, Try.ntmps31
  go_wp2_with (go_at_call 30; refine (g _).mono ?_; rintro e w1 ⟨rfl, b1⟩)
  go_ret3
  exact ⟨rfl, b1⟩
theorem rtext_long (s : ByteArray) (i most : Int) (n to : Nat) (hn : n < 18446744073709551616) (hm : -9223372036854775808 ≤ most ∧ most < 9223372036854775808) (g : RGetIs s i n to 0) (h : most.toNat < n) : RGetTextIs s i most ⟨#[]⟩ 0 2 := by
  intro w
  by_cases h0 : most < 0
  · have hp : 0 < n := by omega
    go_enter Try.func31, Try.ntmps31
    go_wp2_with (go_at_call 30; refine (g _).mono ?_; rintro e w1 ⟨rfl, b1⟩)
    go_ret3
    exact ⟨rfl, b1⟩
  · obtain ⟨k, rfl⟩ := Int.eq_ofNat_of_zero_le (show 0 ≤ most by omega)
    have hp : k < n := by omega
    have hk := hm.2
    clear hm h
    go_enter Try.func31, Try.ntmps31
    go_wp2_with (go_at_call 30; refine (g _).mono ?_; rintro e w1 ⟨rfl, b1⟩)
    go_ret3
    exact ⟨rfl, b1⟩
set_option maxRecDepth 100000 in
theorem rtext_short (s : ByteArray) (i most : Int) (n to : Nat) (hs : s.size ≤ 140737488351232) (hn : n < 18446744073709551616) (hm : -9223372036854775808 ≤ most ∧ most < 9223372036854775808) (g : RGetIs s i n to 0) (hto : to ≤ s.size) (hle : n ≤ most.toNat) (h : s.size < to + n) : RGetTextIs s i most ⟨#[]⟩ 0 20 := by
  intro w
  have h0 : ¬ most < 0 := by omega
  obtain ⟨k, rfl⟩ := Int.eq_ofNat_of_zero_le (show 0 ≤ most by omega)
  have hk := hm.2
  have hor : (decide ((k : Int) < 0) || decide (k < n)) = false := by simp; omega
  have hd : decide ((s.size : Int) - (to : Int) < (n : Int)) = true := by simp; omega
  clear hm hle h0 hn h
  go_enter Try.func31, Try.ntmps31
  go_wp2_with (go_at_call 30; refine (g _).mono ?_; rintro e w1 ⟨rfl, b1⟩)
  go_ret3
  exact ⟨rfl, b1⟩
set_option maxRecDepth 100000 in
theorem rtext_ok (s : ByteArray) (i most : Int) (n to : Nat) (hs : s.size ≤ 140737488351232) (hn : n < 18446744073709551616) (hm : -9223372036854775808 ≤ most ∧ most < 9223372036854775808) (g : RGetIs s i n to 0) (hle : n ≤ most.toNat) (h : to + n ≤ s.size) : RGetTextIs s i most (s.extract to (to + n)) (to + n : Nat) 0 := by
  intro w
  have hd : decide ((s.size : Int) - (to : Int) < (n : Int)) = false := by simp; omega
  have hsl : ∀ W : World, (Instr.slice 9 (.string s) (some (.int .i64 (to : Int))) (some (.int .i64 ((to : Int) + (n : Int)))) none).run Try.prog W = .ok (.string (s.extract to (to + n))) W := fun W => slice_any s to n h W
  by_cases h0 : most < 0
  · obtain rfl : n = 0 := by omega
    have hsl2 := slice_none s to (by omega)
    go_enter Try.func31, Try.ntmps31
    go_wp2_with (go_at_call 30; refine (g _).mono ?_; rintro e w1 ⟨rfl, b1⟩)
    go_ret3
    exact ⟨ret3 (by show Value.string ByteArray.empty = _; rw [extract_none]) (by show Value.int .i64 _ = Value.int .i64 _; go_num) rfl, b1⟩
  · obtain ⟨k, rfl⟩ := Int.eq_ofNat_of_zero_le (show 0 ≤ most by omega)
    have hk := hm.2
    have hor : (decide ((k : Int) < 0) || decide (k < n)) = false := by simp; omega
    have hn63 : n < 9223372036854775808 := by omega
    clear hm hle h0 hn
    go_enter Try.func31, Try.ntmps31
    go_wp2_with (go_at_call 30; refine (g _).mono ?_; rintro e w1 ⟨rfl, b1⟩)
    go_ret3
    exact ⟨ret3 rfl (by show Value.int .i64 _ = Value.int .i64 _; go_num) rfl, b1⟩

def PutTextIs (t r : ByteArray) : Prop := ∀ w, Calls Try.prog 36 #[.string t] w fun e w' => e = .returned (.string r) ∧ Below w.heap.size w w'
def RPutTextIs (t r : ByteArray) : Prop := ∀ w, Calls Try.prog 22 #[.string t] w fun e w' => e = .returned (.string r) ∧ Below w.heap.size w w'
theorem putText_any (t d : ByteArray) (ht : t.size ≤ 140737488351232) (hd : d.data.toList = digs t.size) : PutTextIs t (d ++ t) := by
  intro w
  have hp := put_is t.size (by omega) d hd
  have hz := digs_length t.size (by omega)
  rw [← hd, size_list] at hz
  clear hd
  go_enter Try.func36, Try.ntmps36
  go_wp2_with (go_at_call 35; refine (hp _).mono ?_; rintro e w1 ⟨rfl, b1⟩)
  go_ret
  exact ⟨rfl, b1⟩
theorem rputText_any (t d : ByteArray) (ht : t.size ≤ 140737488351232) (hd : d.data.toList = digs t.size) : RPutTextIs t (d ++ t) := by
  intro w
  have hp := rput_is t.size (by omega) d hd
  have hz := digs_length t.size (by omega)
  rw [← hd, size_list] at hz
  clear hd
  go_enter Try.func22, Try.ntmps22
  go_wp2_with (go_at_call 21; refine (hp _).mono ?_; rintro e w1 ⟨rfl, b1⟩)
  go_ret
  exact ⟨rfl, b1⟩

theorem both_text (s : ByteArray) (i most : Int) (hs : s.size ≤ 140737488351232) (hm : -9223372036854775808 ≤ most ∧ most < 9223372036854775808) : ∃ (t : ByteArray) (to e : Nat), GetTextIs s i most t to e ∧ RGetTextIs s i most t to e ∧ to ≤ s.size ∧ e ≤ 21 := by
  obtain ⟨n, to, e, g, r, hn, hto, he⟩ := both_get s i hs
  by_cases h0 : e = 0
  · subst h0
    by_cases h1 : n ≤ most.toNat
    · by_cases h2 : to + n ≤ s.size
      · exact ⟨_, to + n, 0, text_ok s i most n to (by omega) (by omega) (size_ok s i most n to hn hm g h1) h2, rtext_ok s i most n to hs hn hm r h1 h2, h2, by omega⟩
      · exact ⟨_, 0, 20, text_short s i most n to (by omega) hto (size_ok s i most n to hn hm g h1) (by omega), rtext_short s i most n to hs hn hm r hto h1 (by omega), by omega, by omega⟩
    · exact ⟨_, 0, 2, text_err s i most 0 0 2 (size_long s i most n to hn hm g (by omega)) (by omega), rtext_long s i most n to hn hm r (by omega), by omega, by omega⟩
  · exact ⟨_, 0, e, text_err s i most 0 0 e (size_err s i most n to e g h0) h0, rtext_err s i most n to e r h0, by omega, he⟩
end Go.Proofs.Ytjnjjbacfodacaa.num
