/-
  Contracts over this program: a byte put into a set behind a pointer (set.put), and how many bits are 1 (math/bits.OnesCount64).
-/
import Derived.Test.YtjfnefmolhihaaaHas
import Derived.Laws.Bits128
namespace Go.Proofs.Ytjfnefmolhihaaa.sp
open Go.Proofs.Ytjfnefmolhihaaa.st
open Go.ChangeShapes Go.WideShapes Go.ChangeAt Go.RowKit
set_option linter.unusedVariables false

def PutIs (q : Q4) (n : Nat) (r : Q4) : Prop := ∀ g w, Blk w g q → Calls Try.prog 83 #[.pointer (some ⟨g, 0, none⟩), .int .u8 n] w fun e w' => e = .returned (.tuple #[]) ∧ Blk w' g r ∧ w.grownBy w' (some g)

set_option maxHeartbeats 1000000 in
set_option maxRecDepth 100000 in
theorem put_any (q : Q4) (hq : Fits q) (n : Nat) (hn : n < 256) (r : Q4) (hr : r = wth q n) : PutIs q n r := by
  intro g w hb
  obtain ⟨m, hm, hm64⟩ : ∃ m : Nat, n % 64 = m ∧ m < 64 := ⟨_, rfl, by omega⟩
  have e2 : ((n : Int) % 64) = m := by omega
  rcases quarter n hn with h | h | h | h
  · have e1 : ((n : Int) / 64) = 0 := by omega
    have e3 := bit_or q.a m hq.a hm64
    rw [wth_0 q n m h hm] at hr
    subst hr
    have c := hb.c0
    have f := hb.fz 0
    clear h hm hn
    go_enter Try.func83, Try.ntmps83
    go_region
    all_goals go_end0
    exact ⟨rfl, set_heap w g _ _ 0 _ hb, touch_drew (touch_set _ _ _ _)⟩
  · have e1 : ((n : Int) / 64) = 1 := by omega
    have e3 := bit_or q.b m hq.b hm64
    rw [wth_1 q n m h hm] at hr
    subst hr
    have c := hb.c1
    have f := hb.fz 1
    clear h hm hn
    go_enter Try.func83, Try.ntmps83
    go_region
    all_goals go_end0
    exact ⟨rfl, set_heap w g _ _ 1 _ hb, touch_drew (touch_set _ _ _ _)⟩
  · have e1 : ((n : Int) / 64) = 2 := by omega
    have e3 := bit_or q.c m hq.c hm64
    rw [wth_2 q n m h hm] at hr
    subst hr
    have c := hb.c2
    have f := hb.fz 2
    clear h hm hn
    go_enter Try.func83, Try.ntmps83
    go_region
    all_goals go_end0
    exact ⟨rfl, set_heap w g _ _ 2 _ hb, touch_drew (touch_set _ _ _ _)⟩
  · have e1 : ((n : Int) / 64) = 3 := by omega
    have e3 := bit_or q.d m hq.d hm64
    rw [wth_3 q n m h hm] at hr
    subst hr
    have c := hb.c3
    have f := hb.fz 3
    clear h hm hn
    go_enter Try.func83, Try.ntmps83
    go_region
    all_goals go_end0
    exact ⟨rfl, set_heap w g _ _ 3 _ hb, touch_drew (touch_set _ _ _ _)⟩

theorem wrap_lt (x : Nat) (h : x < 18446744073709551616) : IntKind.u64.wrap (x : Int) = (x : Int) := by
  rw [IntKind.wrap_u64]
  omega
theorem and_lit (x m : Nat) (hx : x < 18446744073709551616) (hm : m < 18446744073709551616) : bits .and .u64 (x : Int) (m : Int) = ((x &&& m : Nat) : Int) := u64_and_nat x m hx hm
end Go.Proofs.Ytjfnefmolhihaaa.sp
