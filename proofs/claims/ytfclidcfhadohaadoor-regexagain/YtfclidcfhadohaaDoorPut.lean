/-
  Contracts over this program: a byte put into a set behind a pointer (set.put), and how many bits are 1 (math/bits.OnesCount64).
-/
import Derived.Test.YtfclidcfhadohaaDoorHas
import Derived.Laws.Bits128
namespace Go.Proofs.YtfclidcfhadohaaDoor.sp
open Go.Proofs.YtfclidcfhadohaaDoor.st
open Go.ChangeShapes Go.WideShapes Go.ChangeAt Go.RowKit
set_option linter.unusedVariables false

def PutIs (q : Q4) (n : Nat) (r : Q4) : Prop := ∀ g w, Blk w g q → Calls Tryd.prog 68 #[.pointer (some ⟨g, 0, none⟩), .int .u8 n] w fun e w' => e = .returned (.tuple #[]) ∧ Blk w' g r ∧ w.grownBy w' (some g)

set_option maxHeartbeats 1000000 in
set_option maxRecDepth 100000 in
theorem put_any (q : Q4) (hq : Fits q) (n : Nat) (hn : n < 256) (r : Q4) (hr : r = wth q n) : PutIs q n r := by
  intro g w hb
  obtain ⟨m, hm, hm64⟩ : ∃ m : Nat, n % 64 = m ∧ m < 64 := ⟨_, rfl, by omega⟩
  have e2 : ((n : Int) % 64) = m := by omega
  rcases quarter n hn with h | h | h | h
  · have e1 : ((n : Int) / 64) = 0 := by omega
    have e3 := bit_or q.a m hq.a hm64
    rw [wth_0 q n m h hm] at hr
    subst hr
    have c := hb.c0
    have f := hb.fz 0
    clear h hm hn
    go_enter Tryd.func68, Tryd.ntmps68
    go_region
    all_goals go_end0
    exact ⟨rfl, set_heap w g _ _ 0 _ hb, touch_drew (touch_set _ _ _ _)⟩
  · have e1 : ((n : Int) / 64) = 1 := by omega
    have e3 := bit_or q.b m hq.b hm64
    rw [wth_1 q n m h hm] at hr
    subst hr
    have c := hb.c1
    have f := hb.fz 1
    clear h hm hn
    go_enter Tryd.func68, Tryd.ntmps68
    go_region
    all_goals go_end0
    exact ⟨rfl, set_heap w g _ _ 1 _ hb, touch_drew (touch_set _ _ _ _)⟩
  · have e1 : ((n : Int) / 64) = 2 := by omega
    have e3 := bit_or q.c m hq.c hm64
    rw [wth_2 q n m h hm] at hr
    subst hr
    have c := hb.c2
    have f := hb.fz 2
    clear h hm hn
    go_enter Tryd.func68, Tryd.ntmps68
    go_region
    all_goals go_end0
    exact ⟨rfl, set_heap w g _ _ 2 _ hb, touch_drew (touch_set _ _ _ _)⟩
  · have e1 : ((n : Int) / 64) = 3 := by omega
    have e3 := bit_or q.d m hq.d hm64
    rw [wth_3 q n m h hm] at hr
    subst hr
    have c := hb.c3
    have f := hb.fz 3
    clear h hm hn
    go_enter Tryd.func68, Tryd.ntmps68
    go_region
    all_goals go_end0
    exact ⟨rfl, set_heap w g _ _ 3 _ hb, touch_drew (touch_set _ _ _ _)⟩

def OnesIs (x n : Nat) : Prop := ∀ w, Calls Tryd.prog 54 #[.int .u64 x] w fun e w' => e = .returned (.int .i64 n) ∧ w' = w

theorem wrap_lt (x : Nat) (h : x < 18446744073709551616) : IntKind.u64.wrap (x : Int) = (x : Int) := by
  rw [IntKind.wrap_u64]
  omega
theorem and_lit (x m : Nat) (hx : x < 18446744073709551616) (hm : m < 18446744073709551616) : bits .and .u64 (x : Int) (m : Int) = ((x &&& m : Nat) : Int) := u64_and_nat x m hx hm

theorem steps (x : Nat) (hx : x < 18446744073709551616) : ∃ x1 x2 x3 x4 x5 x6 : Nat,
    IntKind.u64.wrap (bits .and .u64 ((x : Int) / 2) 6148914691236517205 + bits .and .u64 (x : Int) 6148914691236517205) = (x1 : Int) ∧
    IntKind.u64.wrap (bits .and .u64 ((x1 : Int) / 4) 3689348814741910323 + bits .and .u64 (x1 : Int) 3689348814741910323) = (x2 : Int) ∧
    bits .and .u64 (IntKind.u64.wrap ((x2 : Int) / 16 + (x2 : Int))) 1085102592571150095 = (x3 : Int) ∧
    IntKind.u64.wrap ((x3 : Int) + (x3 : Int) / 256) = (x4 : Int) ∧ IntKind.u64.wrap ((x4 : Int) + (x4 : Int) / 65536) = (x5 : Int) ∧ IntKind.u64.wrap ((x5 : Int) + (x5 : Int) / 4294967296) = (x6 : Int) ∧
    x6 < 9223372036854775808 ∧ x6 % 128 = ones x := by
  obtain ⟨b1, b2, b3, b4, hp, hle⟩ := ones_is x hx
  obtain ⟨m1, m2, m3⟩ := masks
  have c1 : ((x / 2 : Nat) : Int) = (x : Int) / 2 := by omega
  have e1 : IntKind.u64.wrap (bits .and .u64 ((x : Int) / 2) 6148914691236517205 + bits .and .u64 (x : Int) 6148914691236517205) = (s1 8 x : Int) := by
    have h1 := and_lit (x / 2) 6148914691236517205 (by omega) (by decide)
    have h2 := and_lit x 6148914691236517205 hx (by decide)
    rw [c1] at h1
    have h3 := wrap_lt _ b1
    unfold s1 at h3 ⊢
    rw [m1] at h3 ⊢
    rw [Int.natCast_add] at h3 ⊢
    rw [← h3]
    exact congrArg _ (congr (congrArg _ h1) h2)
  obtain ⟨x1, hx1⟩ : ∃ y, y = s1 8 x := ⟨_, rfl⟩
  rw [← hx1] at b1 b2 b3 b4 hp e1
  have c2 : ((x1 / 4 : Nat) : Int) = (x1 : Int) / 4 := by omega
  have e2 : IntKind.u64.wrap (bits .and .u64 ((x1 : Int) / 4) 3689348814741910323 + bits .and .u64 (x1 : Int) 3689348814741910323) = (s2 8 x1 : Int) := by
    have h1 := and_lit (x1 / 4) 3689348814741910323 (by omega) (by decide)
    have h2 := and_lit x1 3689348814741910323 b1 (by decide)
    rw [c2] at h1
    have h3 := wrap_lt _ b2
    unfold s2 at h3 ⊢
    rw [m2] at h3 ⊢
    rw [Int.natCast_add] at h3 ⊢
    rw [← h3]
    exact congrArg _ (congr (congrArg _ h1) h2)
  obtain ⟨x2, hx2⟩ : ∃ y, y = s2 8 x1 := ⟨_, rfl⟩
  rw [← hx2] at b2 b3 b4 hp e2
  have e3 : bits .and .u64 (IntKind.u64.wrap ((x2 : Int) / 16 + (x2 : Int))) 1085102592571150095 = (s3 8 x2 : Int) := by
    have h1 := wrap_lt _ b3
    have c3 : ((x2 / 16 + x2 : Nat) : Int) = (x2 : Int) / 16 + x2 := by omega
    have h2 := and_lit (x2 / 16 + x2) 1085102592571150095 b3 (by decide)
    rw [c3] at h1 h2
    rw [h1]
    unfold s3
    rw [m3]
    exact h2
  obtain ⟨x3, hx3⟩ : ∃ y, y = s3 8 x2 := ⟨_, rfl⟩
  rw [← hx3] at b4 hp e3
  have a1 : x3 + x3 / 256 < 1000000000000000000 := by omega
  obtain ⟨x4, hx4⟩ : ∃ y, y = x3 + x3 / 256 := ⟨_, rfl⟩
  have a2 : x4 + x4 / 65536 < 2000000000000000000 := by omega
  obtain ⟨x5, hx5⟩ : ∃ y, y = x4 + x4 / 65536 := ⟨_, rfl⟩
  have a3 : x5 + x5 / 4294967296 < 4000000000000000000 := by omega
  obtain ⟨x6, hx6⟩ : ∃ y, y = x5 + x5 / 4294967296 := ⟨_, rfl⟩
  have hp' : x6 % 128 = ones x := by
    rw [← hp]
    unfold pop
    simp only
    rw [← hx4, ← hx5, ← hx6]
  refine ⟨x1, x2, x3, x4, x5, x6, e1, e2, e3, ?_, ?_, ?_, by omega, hp'⟩
  · rw [IntKind.wrap_u64]; omega
  · rw [IntKind.wrap_u64]; omega
  · rw [IntKind.wrap_u64]; omega

set_option maxHeartbeats 1000000 in
set_option maxRecDepth 100000 in
theorem ones_any (x n : Nat) (hx : x < 18446744073709551616) (hn : n = ones x) : OnesIs x n := by
  intro w
  obtain ⟨x1, x2, x3, x4, x5, x6, e1, e2, e3, e4, e5, e6, h6, hp⟩ := steps x hx
  have HN : Hid (n = x6 % 128) := by show _ = _; rw [hp]; exact hn
  have e7 : bits .and .i64 (x6 : Int) 127 = (n : Int) := by rw [i64_and127, HN.out]; omega
  clear hn hp HN
  go_enter Tryd.func54, Tryd.ntmps54
  go_wp2
  go_ret
  exact ⟨rfl, rfl⟩
end Go.Proofs.YtfclidcfhadohaaDoor.sp
