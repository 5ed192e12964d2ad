/-
  Contracts over this program: numbers of four bytes, the lowest first (wire.PutFour, wire.GetFour, and the document's).
-/
import Derived.Test.YtkdffnhakgjggaaBase
namespace Go.Proofs.Ytkdffnhakgjggaa.num
open Go.ChangeShapes Go.WideShapes Go.ChangeAt Go.RowKit
set_option linter.unusedVariables false

/-- four bytes, the lowest first -/
def four (n : Nat) : List UInt8 := [UInt8.ofNat (n % 256), UInt8.ofNat (n / 256 % 256), UInt8.ofNat (n / 65536 % 256), UInt8.ofNat (n / 16777216 % 256)]

def PutFourIs (n : Nat) (t : ByteArray) : Prop := ∀ w, Calls Try.prog 19 #[.int .u32 n] w fun e w' => e = .returned (.string t) ∧ Below w.heap.size w w'
def RPutFourIs (n : Nat) (t : ByteArray) : Prop := ∀ w, Calls Try.prog 20 #[.int .u32 n] w fun e w' => e = .returned (.string t) ∧ Below w.heap.size w w'

theorem conv_new (W : World) (T : TypeId) (xs : List Int) (n : Nat) (hn : xs.length = n) :
    Sem.run Try.prog (convert 47 9 (.slice (some ⟨W.heap.size, 0, none⟩) n n)) (W.alloc (.cells (xs.map (Value.int .u8)).toArray T)) = .ok (.string (strOfNums xs)) (W.alloc (.cells (xs.map (Value.int .u8)).toArray T)) := by
  refine run_convert_bytes_arg (W.alloc (.cells (xs.map (Value.int .u8)).toArray T)) 47 5 Try.underlying47 Try.underlying5 W.heap.size 0 n n xs hn (fun i hi => ?_) 9 Try.underlying9
  have hx : i < xs.length := by omega
  simp [List.getElem?_eq_getElem hx, List.getD_eq_getElem?_getD]

theorem four_text (n : Nat) : (⟨(four n).toArray⟩ : ByteArray) = strOfNums [(n : Int) % 256, (n : Int) / 256 % 256, (n : Int) / 65536 % 256, (n : Int) / 16777216 % 256] := by
  unfold strOfNums four
  congr 1

set_option maxHeartbeats 1000000 in
set_option maxRecDepth 100000 in
theorem putFour_any (n : Nat) (hn : n < 4294967296) : PutFourIs n ⟨(four n).toArray⟩ := by
  intro w
  rw [four_text]
  have hcv : ∀ W : World, Sem.run Try.prog (convert 47 9 (.slice (some ⟨W.heap.size, 0, none⟩) 4 4)) (W.alloc (.cells #[.int .u8 ((n : Int) % 256), .int .u8 ((n : Int) / 256 % 256), .int .u8 ((n : Int) / 65536 % 256), .int .u8 ((n : Int) / 16777216 % 256)] 51)) = .ok (.string (strOfNums [(n : Int) % 256, (n : Int) / 256 % 256, (n : Int) / 65536 % 256, (n : Int) / 16777216 % 256])) (W.alloc (.cells #[.int .u8 ((n : Int) % 256), .int .u8 ((n : Int) / 256 % 256), .int .u8 ((n : Int) / 65536 % 256), .int .u8 ((n : Int) / 16777216 % 256)] 51)) := fun W => conv_new W 51 [(n : Int) % 256, (n : Int) / 256 % 256, (n : Int) / 65536 % 256, (n : Int) / 16777216 % 256] 4 rfl
  go_enter Try.func19, Try.ntmps19
  go_wp2
  go_loopw [5] (fun v wr => (v = .int .i64 0 ∧ wr = w.alloc (.cells #[.int .u8 0, .int .u8 0, .int .u8 0, .int .u8 0] 51)) ∨ (v = .int .i64 1 ∧ wr = w.alloc (.cells #[.int .u8 (n % 256), .int .u8 0, .int .u8 0, .int .u8 0] 51)) ∨ (v = .int .i64 2 ∧ wr = w.alloc (.cells #[.int .u8 (n % 256), .int .u8 (n / 256 % 256), .int .u8 0, .int .u8 0] 51)) ∨ (v = .int .i64 3 ∧ wr = w.alloc (.cells #[.int .u8 (n % 256), .int .u8 (n / 256 % 256), .int .u8 (n / 65536 % 256), .int .u8 0] 51)) ∨ (v = .int .i64 4 ∧ wr = w.alloc (.cells #[.int .u8 (n % 256), .int .u8 (n / 256 % 256), .int .u8 (n / 65536 % 256), .int .u8 (n / 16777216 % 256)] 51))) (fun v _ => 4 - (intOf v).toNat)
  case atStart => exact .inl ⟨rfl, rfl⟩
  case round =>
    rcases hrel with ⟨rfl, rfl⟩ | ⟨rfl, rfl⟩ | ⟨rfl, rfl⟩ | ⟨rfl, rfl⟩ | ⟨rfl, rfl⟩
    · go_wp2
      go_roundw
      case rel => exact .inr (.inl ⟨rfl, by trivial⟩)
      case measure => simp [intOf]
    · go_wp2
      go_roundw
      case rel => exact .inr (.inr (.inl ⟨rfl, by trivial⟩))
      case measure => simp [intOf]
    · go_wp2
      go_roundw
      case rel => exact .inr (.inr (.inr (.inl ⟨rfl, by trivial⟩)))
      case measure => simp [intOf]
    · go_wp2
      go_roundw
      case rel => exact .inr (.inr (.inr (.inr ⟨rfl, by trivial⟩)))
      case measure => simp [intOf]
    · go_wp2
      go_ret
      exact ⟨rfl, (Below.refl _ _).alloc (Nat.le_refl _) _⟩

set_option maxHeartbeats 1000000 in
theorem rputFour_any (n : Nat) (hn : n < 4294967296) : RPutFourIs n ⟨(four n).toArray⟩ := by
  intro w
  have e : Hid ((⟨(four n).toArray⟩ : ByteArray) = strOfNums [(n : Int) % 256, (n : Int) / 256 % 256, (n : Int) / 65536 % 256, (n : Int) / 16777216]) := by
    show _ = _
    rw [four_text, show (n : Int) / 16777216 % 256 = (n : Int) / 16777216 from by omega]
  have hcv : ∀ W : World, Sem.run Try.prog (convert 47 9 (.slice (some ⟨W.heap.size, 0, none⟩) 4 4)) (W.alloc (.cells #[.int .u8 ((n : Int) % 256), .int .u8 ((n : Int) / 256 % 256), .int .u8 ((n : Int) / 65536 % 256), .int .u8 ((n : Int) / 16777216)] 5)) = .ok (.string (strOfNums [(n : Int) % 256, (n : Int) / 256 % 256, (n : Int) / 65536 % 256, (n : Int) / 16777216])) (W.alloc (.cells #[.int .u8 ((n : Int) % 256), .int .u8 ((n : Int) / 256 % 256), .int .u8 ((n : Int) / 65536 % 256), .int .u8 ((n : Int) / 16777216)] 5)) := fun W => conv_new W 5 [(n : Int) % 256, (n : Int) / 256 % 256, (n : Int) / 65536 % 256, (n : Int) / 16777216] 4 rfl
  rw [e.out]
  go_enter Try.func20, Try.ntmps20
  go_wp2
  go_ret
  exact ⟨rfl, (Below.refl _ _).alloc (Nat.le_refl _) _⟩

theorem putFour_is (n : Nat) (hn : n < 4294967296) (t : ByteArray) (ht : t.data.toList = four n) : PutFourIs n t := by
  have e : (⟨(four n).toArray⟩ : ByteArray) = t := bytes_ext (by rw [ht])
  rw [← e]; exact putFour_any n hn
theorem rputFour_is (n : Nat) (hn : n < 4294967296) (t : ByteArray) (ht : t.data.toList = four n) : RPutFourIs n t := by
  have e : (⟨(four n).toArray⟩ : ByteArray) = t := bytes_ext (by rw [ht])
  rw [← e]; exact rputFour_any n hn

/-- the number that bytes make, the lowest first -/
def val8 : List UInt8 → Nat
  | [] => 0
  | b :: l => b.toNat + 256 * val8 l

theorem val8_take (l : List UInt8) (i : Nat) (h : i < l.length) : val8 (l.take (i + 1)) = val8 (l.take i) + nth l i * 256 ^ i := by
  induction l generalizing i with
  | nil => simp at h
  | cons b l ih =>
    cases i with
    | zero => simp [val8, nth_zero]
    | succ i =>
      have ih := ih i (by simpa using h)
      rw [List.take_succ_cons, List.take_succ_cons, val8, val8, ih, nth_succ, Nat.pow_succ]
      generalize nth l i = d
      generalize val8 (l.take i) = v
      rw [Nat.mul_add, Nat.mul_comm (256 ^ i) 256, ← Nat.mul_assoc d, Nat.mul_comm d 256, Nat.mul_assoc 256 d, Nat.add_assoc]
theorem val8_lt (l : List UInt8) : val8 l < 256 ^ l.length := by
  induction l with
  | nil => simp [val8]
  | cons b l ih =>
    have := b.toNat_lt
    rw [val8, List.length_cons, Nat.pow_succ]
    generalize 256 ^ l.length = P at *
    omega
theorem val8_take_lt (l : List UInt8) (i : Nat) : val8 (l.take i) < 256 ^ i := by
  refine Nat.lt_of_lt_of_le (val8_lt _) (Nat.pow_le_pow_right (by omega) ?_)
  rw [List.length_take]; omega
theorem val8_drop (c : List UInt8) (r : Nat) (h : r < c.length) : val8 (c.drop r) = nth c r + 256 * val8 (c.drop (r + 1)) := by
  rw [List.drop_eq_getElem_cons h, val8]
  congr 1
  unfold nth
  rw [List.getD_eq_getElem?_getD, List.getElem?_eq_getElem h]
  rfl

theorem pow_eight (i : Nat) : (2 : Int) ^ (8 * i) = ((256 ^ i : Nat) : Int) := by
  have e : (2 : Int) ^ 8 = 256 := by decide
  rw [Int.pow_mul, Int.natCast_pow, e]
  rfl
theorem bits_or_u32_nat (a b : Nat) (ha : a < 4294967296) (hb : b < 4294967296) : bits BinOp.or IntKind.u32 (a : Int) (b : Int) = ((a ||| b : Nat) : Int) := by
  have e1 : (BitVec.ofInt 32 (a : Int)).toNat = a := by
    simp only [BitVec.ofInt_natCast, BitVec.toNat_ofNat]; omega
  have e2 : (BitVec.ofInt 32 (b : Int)).toNat = b := by
    simp only [BitVec.ofInt_natCast, BitVec.toNat_ofNat]; omega
  have hlt : a ||| b < 2 ^ 32 := Nat.or_lt_two_pow (n := 32) (by omega) (by omega)
  show IntKind.u32.wrap ((BitVec.ofInt 32 (a : Int) ||| BitVec.ofInt 32 (b : Int)).toNat) = _
  rw [BitVec.toNat_or, e1, e2, IntKind.wrap_u32]
  omega
theorem shl_or8 (m c i : Nat) (hm : m < 256 ^ i) (hc : m + c * 256 ^ i < 4294967296) : bits .or .u32 (m : Int) (IntKind.u32.wrap ((c : Int) * 2 ^ (8 * i))) = ((m + c * 256 ^ i : Nat) : Int) := by
  have e : (c : Int) * 2 ^ (8 * i) = ((c * 256 ^ i : Nat) : Int) := by rw [pow_eight, Int.natCast_mul]
  rw [e, IntWalk.u32_in _ ⟨by omega, by omega⟩, bits_or_u32_nat _ _ (by omega) (by omega)]
  congr 1
  have e2 : (256 : Nat) ^ i = 2 ^ (8 * i) := by rw [Nat.pow_mul]
  rw [e2] at hm ⊢
  have := Nat.shiftLeft_add_eq_or_of_lt hm c
  rw [Nat.shiftLeft_eq] at this
  rw [Nat.or_comm, ← this, Nat.add_comm]

theorem step_eight (l : List UInt8) (m i b : Nat) (hx : nth l i = b) (hi : i < l.length) (h4 : i < 4) (hv : m = val8 (l.take i)) :
    bits .or .u32 (m : Int) ((b : Int) % 4294967296 * 2 ^ (8 * i) % 4294967296) = ((val8 (l.take (i + 1)) : Nat) : Int) := by
  have hbl : b < 256 := by rw [← hx]; exact nth_lt l i
  rw [show (b : Int) % 4294967296 = (b : Int) from by omega, ← IntKind.wrap_u32]
  have hs := val8_take l i hi
  rw [hx, ← hv] at hs
  rw [hs]
  have h1 := val8_take_lt l i
  have h2 := val8_take_lt l (i + 1)
  have h3 : 256 ^ (i + 1) ≤ 256 ^ 4 := Nat.pow_le_pow_right (by omega) (by omega)
  have h5 : (256 : Nat) ^ 4 = 4294967296 := by decide
  exact shl_or8 m b i (by omega) (by omega)

def Get4Is (s : ByteArray) (i : Int) (n to e : Nat) : Prop := ∀ w, Calls Try.prog 17 #[.string s, .int .i64 i] w fun r w' => r = .returned (.tuple #[.int .u32 n, .int .i64 to, .int .i64 e]) ∧ w' = w
def RGet4Is (s : ByteArray) (i : Int) (n to e : Nat) : Prop := ∀ w, Calls Try.prog 18 #[.string s, .int .i64 i] w fun r w' => r = .returned (.tuple #[.int .u32 n, .int .i64 to, .int .i64 e]) ∧ w' = w

theorem get4_out (s : ByteArray) (i : Int) (h : i < 0 ∨ (s.size : Int) < i) : Get4Is s i 0 0 1 := by
  intro w
  go_enter Try.func17, Try.ntmps17
  go_wp2_with (go_at_call 27; refine (outside_yes s i h _).mono ?_; rintro e w1 ⟨rfl, rfl⟩)
  go_ret3
  exact ⟨rfl, rfl⟩
theorem rget4_out (s : ByteArray) (i : Int) (h : i < 0 ∨ (s.size : Int) < i) : RGet4Is s i 0 0 1 := by
  intro w
  by_cases h1 : i < 0
  · go_enter Try.func18, Try.ntmps18
    go_wp2
    go_ret3
    exact ⟨rfl, rfl⟩
  · have h2 : (s.size : Int) < i := by omega
    go_enter Try.func18, Try.ntmps18
    go_wp2
    go_ret3
    exact ⟨rfl, rfl⟩
theorem get4_short (s : ByteArray) (p : Nat) (hs : s.size ≤ 1125899906842624) (hp : p ≤ s.size) (h : s.size < p + 4) : Get4Is s p 0 0 20 := by
  intro w
  have hd : decide ((s.size : Int) - (p : Int) < 4) = true := by simp; omega
  go_enter Try.func17, Try.ntmps17
  go_wp2_with (go_at_call 27; refine (outside_no s p hp _).mono ?_; rintro e w1 ⟨rfl, rfl⟩)
  go_ret3
  exact ⟨rfl, rfl⟩
theorem rget4_short (s : ByteArray) (p : Nat) (hs : s.size ≤ 1125899906842624) (hp : p ≤ s.size) (h : s.size < p + 4) : RGet4Is s p 0 0 20 := by
  intro w
  have hd : decide ((s.size : Int) - (p : Int) < 4) = true := by simp; omega
  go_enter Try.func18, Try.ntmps18
  go_wp2
  go_ret3
  exact ⟨rfl, rfl⟩

set_option maxHeartbeats 1000000 in
set_option maxRecDepth 100000 in
theorem get4_in (s : ByteArray) (p : Nat) (hs : s.size ≤ 1125899906842624) (hp : p + 4 ≤ s.size) (n : Nat) (h : n = val8 ((s.data.toList.drop p).take 4)) : Get4Is s p n (p + 4 : Nat) 0 := by
  intro w
  have HR : Hid (n = val8 ((s.data.toList.drop p).take 4)) := h
  clear h
  have hd : decide ((s.size : Int) - (p : Int) < 4) = false := by simp; omega
  go_enter Try.func17, Try.ntmps17
  go_wp2_with (go_at_call 27; refine (outside_no s p (by omega) _).mono ?_; rintro e w1 ⟨rfl, rfl⟩)
  go_loop [7, 17] (fun u v => ∃ m i : Nat, u = .int .u32 m ∧ v = .int .i64 i ∧ i ≤ 4 ∧ m < 4294967296 ∧ Hid (m = val8 ((s.data.toList.drop p).take i))) (fun _ v => 4 - (intOf v).toNat)
  case atStart => exact ⟨0, 0, rfl, rfl, by omega, by omega, rfl⟩
  case round =>
    obtain ⟨m, i, rfl, rfl, hi, hm, HM⟩ := hrel
    by_cases h4 : 4 ≤ i
    · have HE : Hid (m = n) := by
        show _ = _
        rw [HR.out, HM.out, show i = 4 from by omega]
      clear HR HM
      go_wp2
      go_ret3
      exact ⟨ret3 (by rw [← HE.out]; rfl) (by show Value.int .i64 _ = Value.int .i64 _; go_num) rfl, rfl⟩
    · have hin : p + i < s.size := by omega
      have hx := nth_at s p i hin
      have E1 := step_eight _ m i _ hx (by rw [drop_length]; omega) (by omega) HM.out
      have E1' : Hid (bits .or .u32 (m : Int) ((s[p + i].toNat : Int) % 4294967296 * 2 ^ (8 * i) % 4294967296) = ((val8 ((s.data.toList.drop p).take (i + 1)) : Nat) : Int)) := E1
      have hlt : val8 ((s.data.toList.drop p).take (i + 1)) < 4294967296 := by
        have h2 := val8_take_lt (s.data.toList.drop p) (i + 1)
        have h3 : 256 ^ (i + 1) ≤ 256 ^ 4 := Nat.pow_le_pow_right (by omega) (by omega)
        have h5 : (256 : Nat) ^ 4 = 4294967296 := by decide
        omega
      have HL : Hid (val8 ((s.data.toList.drop p).take (i + 1)) < 4294967296) := hlt
      clear HR HM E1 hx hlt
      go_wp2
      go_round
      case rel => exact ⟨val8 ((s.data.toList.drop p).take (i + 1)), i + 1, by rw [E1'.out], by go_num, by omega, HL.out, rfl⟩
      case measure => simp [intOf]; omega

set_option maxHeartbeats 1000000 in
set_option maxRecDepth 100000 in
theorem rget4_in (s : ByteArray) (p : Nat) (hs : s.size ≤ 1125899906842624) (hp : p + 4 ≤ s.size) (n : Nat) (h : n = val8 ((s.data.toList.drop p).take 4)) : RGet4Is s p n (p + 4 : Nat) 0 := by
  intro w
  have HR : Hid (n = val8 ((s.data.toList.drop p).take 4)) := h
  clear h
  have hd : decide ((s.size : Int) - (p : Int) < 4) = false := by simp; omega
  have ho : decide (s.size < p) = false := by simp; omega
  go_enter Try.func18, Try.ntmps18
  go_wp2
  go_loop [7, 8] (fun u v => ∃ (r m : Nat) (z : Int), u = .int .u32 m ∧ v = .int .i64 z ∧ z = (r : Int) - 1 ∧ r ≤ 4 ∧ m < 4294967296 ∧ Hid (m = val8 (((s.data.toList.drop p).take 4).drop r))) (fun _ v => (intOf v + 1).toNat)
  case atStart =>
    refine ⟨4, 0, 3, rfl, rfl, by omega, by omega, by omega, ?_⟩
    show 0 = _
    rw [List.drop_eq_nil_of_le (by simp; omega)]
    rfl
  case round =>
    obtain ⟨r, m, z, rfl, rfl, hz, hr, hm, HM⟩ := hrel
    by_cases hr0 : r = 0
    · subst hr0
      have hzz : z < 0 := by omega
      have HE : Hid (m = n) := by
        show _ = _
        rw [HR.out, HM.out, List.drop_zero]
      clear HR HM
      go_wp2
      go_ret3
      exact ⟨ret3 (by rw [← HE.out]; rfl) (by show Value.int .i64 _ = Value.int .i64 _; go_num) rfl, rfl⟩
    · obtain ⟨x, rfl⟩ : ∃ x, r = x + 1 := ⟨r - 1, by omega⟩
      obtain rfl : z = (x : Int) := by omega
      have hin : p + x < s.size := by omega
      have hcl : ((s.data.toList.drop p).take 4).length = 4 := by rw [List.length_take, drop_length]; omega
      have hvd := val8_drop ((s.data.toList.drop p).take 4) x (by omega)
      have hnt : nth ((s.data.toList.drop p).take 4) x = s[p + x].toNat := by
        have h1 : nth ((s.data.toList.drop p).take 4) x = nth (s.data.toList.drop p) x := by
          unfold nth
          rw [List.getD_eq_getElem?_getD, List.getD_eq_getElem?_getD, List.getElem?_take_of_lt (by omega)]
        rw [h1, nth_at s p x hin]
      rw [hnt, ← HM.out] at hvd
      have hm3 : m < 16777216 := by
        have h1 := val8_lt (((s.data.toList.drop p).take 4).drop (x + 1))
        rw [← HM.out, List.length_drop, hcl] at h1
        have h3 : 256 ^ (4 - (x + 1)) ≤ 256 ^ 3 := Nat.pow_le_pow_right (by omega) (by omega)
        have h5 : (256 : Nat) ^ 3 = 16777216 := by decide
        omega
      have hb : s[p + x].toNat < 256 := s[p + x].toNat_lt
      have HV : Hid (val8 (((s.data.toList.drop p).take 4).drop x) = s[p + x].toNat + 256 * m) := hvd
      clear HR HM hvd hnt hcl hz hr0
      go_wp2
      go_round
      case rel => exact ⟨x, s[p + x].toNat + 256 * m, _, by go_num, rfl, by omega, by omega, by omega, HV.out.symm⟩
      case measure => simp [intOf]
theorem four_val (l : List UInt8) (h : l.length = 4) : four (val8 l) = l := by
  match l, h with
  | [a, b, c, d], _ =>
    have ha := a.toNat_lt
    have hb := b.toNat_lt
    have hc := c.toNat_lt
    have hd := d.toNat_lt
    simp only [val8, four]
    rw [show (a.toNat + 256 * (b.toNat + 256 * (c.toNat + 256 * (d.toNat + 256 * 0)))) % 256 = a.toNat from by omega,
      show (a.toNat + 256 * (b.toNat + 256 * (c.toNat + 256 * (d.toNat + 256 * 0)))) / 256 % 256 = b.toNat from by omega,
      show (a.toNat + 256 * (b.toNat + 256 * (c.toNat + 256 * (d.toNat + 256 * 0)))) / 65536 % 256 = c.toNat from by omega,
      show (a.toNat + 256 * (b.toNat + 256 * (c.toNat + 256 * (d.toNat + 256 * 0)))) / 16777216 % 256 = d.toNat from by omega]
    simp
theorem val_four (n : Nat) (h : n < 4294967296) : val8 (four n) = n := by
  unfold four
  simp only [val8]
  rw [byte_toNat (by omega), byte_toNat (by omega), byte_toNat (by omega), byte_toNat (by omega)]
  omega

theorem both_get4 (s : ByteArray) (i : Int) (hs : s.size ≤ 140737488351232) : ∃ n to e : Nat, Get4Is s i n to e ∧ RGet4Is s i n to e ∧ n < 4294967296 ∧ to ≤ s.size ∧ e ≤ 21 := by
  by_cases h : i < 0 ∨ (s.size : Int) < i
  · exact ⟨0, 0, 1, get4_out s i h, rget4_out s i h, by omega, by omega, by omega⟩
  · obtain ⟨p, rfl⟩ := Int.eq_ofNat_of_zero_le (show 0 ≤ i by omega)
    have hp : p ≤ s.size := by omega
    by_cases h4 : p + 4 ≤ s.size
    · have hlt := val8_take_lt (s.data.toList.drop p) 4
      exact ⟨_, p + 4, 0, get4_in s p (by omega) h4 _ rfl, rget4_in s p (by omega) h4 _ rfl, hlt, h4, by omega⟩
    · exact ⟨0, 0, 20, get4_short s p (by omega) hp (by omega), rget4_short s p (by omega) hp (by omega), by omega, by omega, by omega⟩
end Go.Proofs.Ytkdffnhakgjggaa.num
