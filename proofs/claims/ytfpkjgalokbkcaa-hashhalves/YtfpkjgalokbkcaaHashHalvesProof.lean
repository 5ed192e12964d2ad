/-
  For every list of steps and every key the law HashHalves of package fretsawlaw15 returns true (a hash without seeds, whose keys rise, may be, and tells each key's value), and the arguments read as before. No condition.
-/
import Derived.Test.YtfpkjgalokbkcaaIk
import Derived.ProofKit
import Derived.ShutString
namespace Go.Proofs.Ytfpkjgalokbkcaa.hashHalves
open Go.ChangeShapes Go.WideShapes Go.ChangeAt Go.RowKit
open Go.ChangeMaps (open_string shut_string)
open hs
set_option linter.unusedVariables false

theorem own : ownKnob Try.prog.godebug = none := by kernel_rfl
theorem laidOut : laidOutB Try.prog = true := by kernel_rfl
theorem mk_start (w : World) (hb : Nat) (B : Nat) (hB : B ≤ hb) (h : w.heap[hb]? = some (.cells #[nl, nl, nl] 25 (0, 0))) (l : List Nat) : Mk B hb nl nl (kks l 0) (vvs 0) w :=
  ⟨h, ow.nil _ _ _ _, ow.nil _ _ _ _, (fun g e => by cases e), hB⟩
def InSo (l : List Nat) (i k : Nat) (b : Bool) : Prop := b = true ↔ ∃ j, j < i ∧ tot l (j + 1) = k
theorem InSo.next {l : List Nat} {i k : Nat} {b : Bool} (h : InSo l i k b) : InSo l (i + 1) k (b || decide (tot l (i + 1) = k)) := by
  unfold InSo at h ⊢
  rw [Bool.or_eq_true, h, decide_eq_true_iff]
  constructor
  · rintro (⟨j, hj, e⟩ | e)
    · exact ⟨j, by omega, e⟩
    · exact ⟨i, by omega, e⟩
  · rintro ⟨j, hj, e⟩
    by_cases hji : j < i
    · exact .inl ⟨j, hji, e⟩
    · obtain rfl : j = i := by omega
      exact .inr e

set_option maxHeartbeats 8000000 in
set_option maxRecDepth 20000 in
theorem walk_short {o : Option Addr} {cap : Nat} {l0 l : List Nat} {w : World} (F0 : Row (In w) w hv16 o cap l0) (D0 : ∀ x ∈ l, x < 65536) (hl : l.length ≤ 1000) (hsh : ¬ 1000 < l0.length) (hl2 : l.length = l0.length) (ht : l = l0.take 1000) (k : Nat) (hk : k < 18446744073709551616) :
    Calls Try.prog 7 #[.slice o l0.length cap, .int .u64 (k : Int)] w fun e w' => e = .returned (.bool true) ∧ Below w.heap.size w w' := by
  have f1 := F0.fit
  have f2 := F0.top
  have HR : Hid (∀ i, i < l.length → ∃ b off, o = some ⟨b, off, none⟩ ∧ In w b ∧ w.cell? ⟨b, off + i, none⟩ = some (.int .u16 ((l.getD i 0 : Nat) : Int)) ∧ l.getD i 0 < 65536) := fun i hi => by
    have h1 : i < l0.length := by rw [ht] at hi; simp at hi; omega
    obtain ⟨b, off, e, h2, h3⟩ := F0.at h1
    refine ⟨b, off, e, h2, ?_, getD_lt D0 (by omega) i⟩
    rw [h3, ht]
    have : (l0.take 1000).getD i 0 = l0.getD i 0 := by
      rw [ht] at hi
      simp only [List.length_take] at hi
      simp [List.getD, List.getElem?_take_of_lt (show i < 1000 by omega)]
    rw [this]
  have g1 : ¬ (1000 : Int) < (l0.length : Int) := by omega
  have HD : Hid (∀ x ∈ l, x < 65536) := D0
  have HT : Hid (l.length = l.length) := rfl
  clear F0 D0 ht
  rw [← hl2] at g1 f1 ⊢
  clear hl2 hsh
  go_enter Try.func7, Try.ntmps7
  go_wp2_with (fail)
  have HS : Hid (Mk w.heap.size w.heap.size nl nl (kks l 0) (vvs 0) (w.alloc (.cells #[.slice none 0 0, .slice none 0 0, .slice none 0 0] 25))) := mk_start _ _ _ (Nat.le_refl _) (World.alloc_heap_new w _) l
  have B0 := below_alloc w (.cells #[.slice none 0 0, .slice none 0 0, .slice none 0 0] 25)
  go_loopw [6, 24] (fun x y wr => ∃ (i : Nat) (vk vv : Value), x = .int .u64 ((tot l i : Nat) : Int) ∧ y = .int .i64 (i : Int) ∧ i ≤ l.length ∧ Hid (Mk w.heap.size w.heap.size vk vv (kks l i) (vvs i) wr) ∧ Below w.heap.size w wr) (fun _ y _ => l.length - (intOf y).toNat)
  case atStart => exact ⟨0, nl, nl, rfl, rfl, by omega, HS, B0⟩
  case round =>
    obtain ⟨i, vk, vv, rfl, rfl, hil, HM, hB⟩ := hrel
    clear HS B0
    by_cases hlt : i < l.length
    · obtain ⟨b, off, ho, hb, hc, hx⟩ := HR.out i hlt
      have hc1 := (hB.cell (p := ⟨b, off + i, none⟩) hb).trans hc
      have ht := tot_le l HD.out i
      have ht1 : Hid (tot l (i + 1) = tot l i + (l.getD i 0 + 1)) := show _ = _ from rfl
      generalize hg : l.getD i 0 = x at *
      generalize hg2 : tot l i = t at *
      have HG : Hid (l.getD i 0 = x ∧ tot l i = t) := ⟨hg, hg2⟩
      have ht2 : t ≤ 65536000 := by omega
      clear hg hg2 hc ht
      rw [ho]
      go_wp2_with (fail)
      refine reg7_9 (ks := kks l i) (vs := vvs i) (by rfl) ⟨w.heap.size, vk, vv, t + (x + 1), i⟩ (by rfl) (by rfl) (by rfl) hB.size (by rw [kks_len]; omega) (by rw [vvs_len]; omega) (by show i ≤ 1000000; omega) HM.out ?_
      intro vals w2 vk2 vv2 hM2 hB2
      have bl : Below w.heap.size w w2 := hB.trans hB2
      have HM2 : Hid (Mk w.heap.size w.heap.size vk2 vv2 (kks l (i + 1)) (vvs (i + 1)) w2) := show Mk _ _ _ _ _ _ _ from by rw [kks_succ, vvs_succ, ht1.out]; exact hM2
      have e1 : Hid (((tot l (i + 1) : Nat) : Int) = (t : Int) + ((x : Int) + 1)) := show _ = _ from by rw [ht1.out]; omega
      clear hM2 hB2 HM ht1
      rw [fold7_9]
      go_wp2_with (fail)
      go_roundw
      case rel => exact ⟨i + 1, vk2, vv2, by rw [e1.out], by go_num, by omega, HM2, bl⟩
      case measure => simp [intOf]; omega
    · have hi2 : i = l.length := by omega
      obtain ⟨p, X1, A1⟩ := HM.out.hat HD.out (by omega)
      have d12 := right_any (made l i) true (made_good l i (by omega)).symm p wr A1
      have HQ : Hid (∀ W, Below wr.heap.size wr W → Box W w.heap.size (made l i) p ∧ HAt (In W) W (made l i) p) := fun W b => ⟨X1.later b, A1.later b⟩
      have HI : Hid (i = l.length) := hi2
      have hbw : w.heap.size < wr.heap.size := X1.lt
      clear hi2 HM A1
      go_wp2_with (refine wpList_load_row rfl 25 (.tmp 5) rfl w.heap.size rfl 25 (hv (made l i) p) (0, 0) _ X1 Try.underlying25 rfl info25 ?_)
      go_at_call 12
      refine d12.mono ?_
      rintro e w2 ⟨rfl, b2⟩
      obtain ⟨X2, A2⟩ := HQ.out w2 b2
      have k1 := X2.c1
      have hlen : (made l i).keys.length = i := kks_len l i
      rw [hlen] at k1
      obtain ⟨f3, f4⟩ := (show i ≤ p.kc ∧ p.kc ≤ 9223372036854775807 from ⟨by have := A2.rk.fit; rw [hlen] at this; exact this, A2.rk.top⟩)
      have HLn : Hid ((made l i).keys.length = i) := hlen
      clear d12 X1 hlen A2 X2
      go_wp2_with (fail)
      have HI0 : Hid (InSo l 0 k false) := ⟨(fun h => by cases h), (fun ⟨j, hj, _⟩ => by omega)⟩
      obtain ⟨w0, rfl⟩ : ∃ w0 : World, w0 = wr := ⟨wr, rfl⟩
      go_loopw [9, 55] (fun x y wq => ∃ (j : Nat) (b : Bool), x = .bool b ∧ y = .int .i64 (j : Int) ∧ j ≤ i ∧ Hid (InSo l j k b) ∧ Below w0.heap.size w0 wq) (fun _ y _ => i - (intOf y).toNat)
      case atStart => exact ⟨0, false, rfl, rfl, by omega, HI0, b2⟩
      case round =>
        obtain ⟨j, b, rfl, rfl, hji, HS2, hB2⟩ := hrel
        obtain ⟨X3, A3⟩ := HQ.out _ hB2
        by_cases hj : j < i
        · obtain ⟨bb, off, ho, hbb, hc⟩ := A3.rk.at (show j < (made l i).keys.length by rw [HLn.out]; exact hj)
          rw [show (made l i).keys = kks l i from rfl, kks_get l hj] at hc
          have hz : tot l (j + 1) < 18446744073709551616 := by have := tot_le l HD.out (j + 1); omega
          have d8 := get_any (made l i) (tot l (j + 1)) hz (j + 7) true (made_getV l i hj).symm (made_getB l i hj).symm p _ A3
          have HN := (show Hid (InSo l (j + 1) k (b || decide (tot l (j + 1) = k))) from HS2.out.next)
          clear A3
          generalize hg : tot l (j + 1) = x at *
          clear hg
          have e7 : ((j + 7 : Nat) : Int) = (j : Int) + 7 := by omega
          rw [e7] at d8
          clear e7
          have dn : (((j : Int) + 7) != ((j : Int) + 7)) = false := by simp
          rw [ho]
          go_wp2_with (refine wpList_load_row rfl 25 (.tmp 5) rfl w.heap.size rfl 25 (hv (made l i) p) (0, 0) _ X3 Try.underlying25 rfl info25 ?_)
          go_at_call 8
          refine d8.mono ?_
          rintro e w4 ⟨rfl, b4⟩
          have bl4 : Below w0.heap.size w0 w4 := hB2.trans (b4.mono hB2.size)
          clear d8 X3
          cases b with
          | true =>
            go_wp2_with (fail)
            go_roundw
            case rel => exact ⟨j + 1, true, rfl, by go_num, by omega, HN, bl4⟩
            case measure => simp [intOf]; omega
          | false =>
            by_cases hxk : x = k
            · have dx : ((x : Int) == (k : Int)) = true := by rw [hxk]; simp
              have HN2 : Hid (InSo l (j + 1) k true) := by have := HN.out; rw [decide_eq_true hxk] at this; exact this
              clear hxk HN
              go_wp2_with (fail)
              go_roundw
              case rel => exact ⟨j + 1, true, rfl, by go_num, by omega, HN2, bl4⟩
              case measure => simp [intOf]; omega
            · have dx : ((x : Int) == (k : Int)) = false := by rw [beq_eq_false_iff_ne]; omega
              have HN2 : Hid (InSo l (j + 1) k false) := by have := HN.out; rw [decide_eq_false hxk] at this; exact this
              clear hxk HN
              go_wp2_with (fail)
              go_roundw
              case rel => exact ⟨j + 1, false, rfl, by go_num, by omega, HN2, bl4⟩
              case measure => simp [intOf]; omega
        · have d8 := get_any (made l i) k hk (getV (made l i) k) b rfl (by
            have h1 := made_other l i k
            have h2 := HS2.out
            obtain rfl : j = i := by omega
            unfold InSo at h2
            rw [← h2] at h1
            cases b with
            | true => rw [h1.2 rfl]
            | false =>
              cases hh : getB (made l j) k with
              | false => rfl
              | true => exact absurd (h1.1 hh) (by decide)) p _ A3
          clear A3
          generalize getV (made l i) k = vx at *
          have db : (b == b) = true := by cases b <;> rfl
          go_wp2_with (refine wpList_load_row rfl 25 (.tmp 5) rfl w.heap.size rfl 25 (hv (made l i) p) (0, 0) _ X3 Try.underlying25 rfl info25 ?_)
          go_at_call 8
          refine d8.mono ?_
          rintro e w4 ⟨rfl, b4⟩
          clear d8 X3
          go_wp2_with (fail)
          go_ret
          exact ⟨by first | rfl | (cases b <;> rfl), hB.trans ((hB2.trans (b4.mono hB2.size)).mono hB.size)⟩
set_option maxHeartbeats 8000000 in
set_option maxRecDepth 20000 in
theorem walk_long {o : Option Addr} {cap : Nat} {l0 l : List Nat} {w : World} (F0 : Row (In w) w hv16 o cap l0) (D0 : ∀ x ∈ l, x < 65536) (hl : l.length ≤ 1000) (hlong : 1000 < l0.length) (hl2 : l.length = 1000) (ht : l = l0.take 1000) (k : Nat) (hk : k < 18446744073709551616) :
    Calls Try.prog 7 #[.slice o l0.length cap, .int .u64 (k : Int)] w fun e w' => e = .returned (.bool true) ∧ Below w.heap.size w w' := by
  have f1 := F0.fit
  have f2 := F0.top
  have HR : Hid (∀ i, i < l.length → ∃ b off, o = some ⟨b, off, none⟩ ∧ In w b ∧ w.cell? ⟨b, off + i, none⟩ = some (.int .u16 ((l.getD i 0 : Nat) : Int)) ∧ l.getD i 0 < 65536) := fun i hi => by
    have h1 : i < l0.length := by rw [ht] at hi; simp at hi; omega
    obtain ⟨b, off, e, h2, h3⟩ := F0.at h1
    refine ⟨b, off, e, h2, ?_, getD_lt D0 (by omega) i⟩
    rw [h3, ht]
    have : (l0.take 1000).getD i 0 = l0.getD i 0 := by
      rw [ht] at hi
      simp only [List.length_take] at hi
      simp [List.getD, List.getElem?_take_of_lt (show i < 1000 by omega)]
    rw [this]
  have g1 : (1000 : Int) < (l0.length : Int) := by omega
  have e0 : (1000 : Int) = (l.length : Int) := by omega
  have HD : Hid (∀ x ∈ l, x < 65536) := D0
  have HT : Hid (l.length = l.length) := rfl
  clear F0 D0 ht
  have HL2 : Hid (l.length = 1000) := hl2
  clear hl2 e0
  go_enter Try.func7, Try.ntmps7
  go_wp2_with (fail)
  have HS : Hid (Mk w.heap.size w.heap.size nl nl (kks l 0) (vvs 0) (w.alloc (.cells #[.slice none 0 0, .slice none 0 0, .slice none 0 0] 25))) := mk_start _ _ _ (Nat.le_refl _) (World.alloc_heap_new w _) l
  have B0 := below_alloc w (.cells #[.slice none 0 0, .slice none 0 0, .slice none 0 0] 25)
  go_loopw [6, 24] (fun x y wr => ∃ (i : Nat) (vk vv : Value), x = .int .u64 ((tot l i : Nat) : Int) ∧ y = .int .i64 (i : Int) ∧ i ≤ l.length ∧ Hid (Mk w.heap.size w.heap.size vk vv (kks l i) (vvs i) wr) ∧ Below w.heap.size w wr) (fun _ y _ => l.length - (intOf y).toNat)
  case atStart => exact ⟨0, nl, nl, rfl, rfl, by omega, HS, B0⟩
  case round =>
    obtain ⟨i, vk, vv, rfl, rfl, hil, HM, hB⟩ := hrel
    clear HS B0
    by_cases hlt : i < l.length
    · obtain ⟨b, off, ho, hb, hc, hx⟩ := HR.out i hlt
      have hc1 := (hB.cell (p := ⟨b, off + i, none⟩) hb).trans hc
      have ht := tot_le l HD.out i
      have ht1 : Hid (tot l (i + 1) = tot l i + (l.getD i 0 + 1)) := show _ = _ from rfl
      generalize hg : l.getD i 0 = x at *
      generalize hg2 : tot l i = t at *
      have HG : Hid (l.getD i 0 = x ∧ tot l i = t) := ⟨hg, hg2⟩
      have ht2 : t ≤ 65536000 := by omega
      clear hg hg2 hc ht
      rw [ho]
      have hlt2 : i < 1000 := by rw [← HL2.out]; exact hlt
      go_wp2_with (fail)
      refine reg7_9 (ks := kks l i) (vs := vvs i) (by rfl) ⟨w.heap.size, vk, vv, t + (x + 1), i⟩ (by rfl) (by rfl) (by rfl) hB.size (by rw [kks_len]; omega) (by rw [vvs_len]; omega) (by show i ≤ 1000000; omega) HM.out ?_
      intro vals w2 vk2 vv2 hM2 hB2
      have bl : Below w.heap.size w w2 := hB.trans hB2
      have HM2 : Hid (Mk w.heap.size w.heap.size vk2 vv2 (kks l (i + 1)) (vvs (i + 1)) w2) := show Mk _ _ _ _ _ _ _ from by rw [kks_succ, vvs_succ, ht1.out]; exact hM2
      have e1 : Hid (((tot l (i + 1) : Nat) : Int) = (t : Int) + ((x : Int) + 1)) := show _ = _ from by rw [ht1.out]; omega
      clear hM2 hB2 HM ht1
      rw [fold7_9]
      go_wp2_with (fail)
      go_roundw
      case rel => exact ⟨i + 1, vk2, vv2, by rw [e1.out], by go_num, by omega, HM2, bl⟩
      case measure => simp [intOf]; omega
    · have hi2 : i = l.length := by omega
      have hge : ¬ i < 1000 := by rw [← HL2.out]; exact hlt
      obtain ⟨p, X1, A1⟩ := HM.out.hat HD.out (by omega)
      have d12 := right_any (made l i) true (made_good l i (by omega)).symm p wr A1
      have HQ : Hid (∀ W, Below wr.heap.size wr W → Box W w.heap.size (made l i) p ∧ HAt (In W) W (made l i) p) := fun W b => ⟨X1.later b, A1.later b⟩
      have HI : Hid (i = l.length) := hi2
      have hbw : w.heap.size < wr.heap.size := X1.lt
      clear hi2 HM A1
      go_wp2_with (refine wpList_load_row rfl 25 (.tmp 5) rfl w.heap.size rfl 25 (hv (made l i) p) (0, 0) _ X1 Try.underlying25 rfl info25 ?_)
      go_at_call 12
      refine d12.mono ?_
      rintro e w2 ⟨rfl, b2⟩
      obtain ⟨X2, A2⟩ := HQ.out w2 b2
      have k1 := X2.c1
      have hlen : (made l i).keys.length = i := kks_len l i
      rw [hlen] at k1
      obtain ⟨f3, f4⟩ := (show i ≤ p.kc ∧ p.kc ≤ 9223372036854775807 from ⟨by have := A2.rk.fit; rw [hlen] at this; exact this, A2.rk.top⟩)
      have HLn : Hid ((made l i).keys.length = i) := hlen
      clear d12 X1 hlen A2 X2
      go_wp2_with (fail)
      have HI0 : Hid (InSo l 0 k false) := ⟨(fun h => by cases h), (fun ⟨j, hj, _⟩ => by omega)⟩
      obtain ⟨w0, rfl⟩ : ∃ w0 : World, w0 = wr := ⟨wr, rfl⟩
      go_loopw [9, 55] (fun x y wq => ∃ (j : Nat) (b : Bool), x = .bool b ∧ y = .int .i64 (j : Int) ∧ j ≤ i ∧ Hid (InSo l j k b) ∧ Below w0.heap.size w0 wq) (fun _ y _ => i - (intOf y).toNat)
      case atStart => exact ⟨0, false, rfl, rfl, by omega, HI0, b2⟩
      case round =>
        obtain ⟨j, b, rfl, rfl, hji, HS2, hB2⟩ := hrel
        obtain ⟨X3, A3⟩ := HQ.out _ hB2
        by_cases hj : j < i
        · obtain ⟨bb, off, ho, hbb, hc⟩ := A3.rk.at (show j < (made l i).keys.length by rw [HLn.out]; exact hj)
          rw [show (made l i).keys = kks l i from rfl, kks_get l hj] at hc
          have hz : tot l (j + 1) < 18446744073709551616 := by have := tot_le l HD.out (j + 1); omega
          have d8 := get_any (made l i) (tot l (j + 1)) hz (j + 7) true (made_getV l i hj).symm (made_getB l i hj).symm p _ A3
          have HN := (show Hid (InSo l (j + 1) k (b || decide (tot l (j + 1) = k))) from HS2.out.next)
          clear A3
          generalize hg : tot l (j + 1) = x at *
          clear hg
          have e7 : ((j + 7 : Nat) : Int) = (j : Int) + 7 := by omega
          rw [e7] at d8
          clear e7
          have dn : (((j : Int) + 7) != ((j : Int) + 7)) = false := by simp
          rw [ho]
          go_wp2_with (refine wpList_load_row rfl 25 (.tmp 5) rfl w.heap.size rfl 25 (hv (made l i) p) (0, 0) _ X3 Try.underlying25 rfl info25 ?_)
          go_at_call 8
          refine d8.mono ?_
          rintro e w4 ⟨rfl, b4⟩
          have bl4 : Below w0.heap.size w0 w4 := hB2.trans (b4.mono hB2.size)
          clear d8 X3
          cases b with
          | true =>
            go_wp2_with (fail)
            go_roundw
            case rel => exact ⟨j + 1, true, rfl, by go_num, by omega, HN, bl4⟩
            case measure => simp [intOf]; omega
          | false =>
            by_cases hxk : x = k
            · have dx : ((x : Int) == (k : Int)) = true := by rw [hxk]; simp
              have HN2 : Hid (InSo l (j + 1) k true) := by have := HN.out; rw [decide_eq_true hxk] at this; exact this
              clear hxk HN
              go_wp2_with (fail)
              go_roundw
              case rel => exact ⟨j + 1, true, rfl, by go_num, by omega, HN2, bl4⟩
              case measure => simp [intOf]; omega
            · have dx : ((x : Int) == (k : Int)) = false := by rw [beq_eq_false_iff_ne]; omega
              have HN2 : Hid (InSo l (j + 1) k false) := by have := HN.out; rw [decide_eq_false hxk] at this; exact this
              clear hxk HN
              go_wp2_with (fail)
              go_roundw
              case rel => exact ⟨j + 1, false, rfl, by go_num, by omega, HN2, bl4⟩
              case measure => simp [intOf]; omega
        · have d8 := get_any (made l i) k hk (getV (made l i) k) b rfl (by
            have h1 := made_other l i k
            have h2 := HS2.out
            obtain rfl : j = i := by omega
            unfold InSo at h2
            rw [← h2] at h1
            cases b with
            | true => rw [h1.2 rfl]
            | false =>
              cases hh : getB (made l j) k with
              | false => rfl
              | true => exact absurd (h1.1 hh) (by decide)) p _ A3
          clear A3
          generalize getV (made l i) k = vx at *
          have db : (b == b) = true := by cases b <;> rfl
          go_wp2_with (refine wpList_load_row rfl 25 (.tmp 5) rfl w.heap.size rfl 25 (hv (made l i) p) (0, 0) _ X3 Try.underlying25 rfl info25 ?_)
          go_at_call 8
          refine d8.mono ?_
          rintro e w4 ⟨rfl, b4⟩
          clear d8 X3
          go_wp2_with (fail)
          go_ret
          exact ⟨by first | rfl | (cases b <;> rfl), hB.trans ((hB2.trans (b4.mono hB2.size)).mono hB.size)⟩

theorem walk {o : Option Addr} {cap : Nat} {l : List Nat} {a1 : Int} {w : World} (F0 : Row (In w) w hv16 o cap l) (D0 : ∀ x ∈ l, x < 65536) (w1 : (Lit.int .u64 a1).wf = true) (W : World) (hW : W = w) :
    Calls Try.prog 7 #[.slice o l.length cap, .int .u64 a1] w fun e w' => e = .returned (.bool true) ∧ Below w.heap.size w w' := by
  have r2 := u64_range w1
  obtain ⟨k, rfl⟩ := Int.eq_ofNat_of_zero_le r2.1
  by_cases h : 1000 < l.length
  · exact walk_long (l := l.take 1000) F0 (fun x hx => D0 x (List.mem_of_mem_take hx)) (by simp; omega) h (by simp; omega) rfl k (by omega)
  · exact walk_short (l := l) F0 D0 (by omega) h rfl (by rw [List.take_of_length_le (by omega)]) k (by omega)
set_option maxRecDepth 100000 in
theorem lifted (os : Os) (started : os.Started) (H : Type) (enc : TypeId × Value → H) :
    ReturnsInHanded {} Try.checked os 7 .any (Rows.hashHalvesSpec.pre6 enc Try.prog Try.f7 Rows.hashHalvesRow.domain false) (Rows.hashHalvesSpec.post enc Try.prog Try.f7 false true false false) := by
  refine returnsInHanded_of_change_sized (C := Try.checked) own started (by kernel_rfl) Try.func7
    (ChangeSpec.witness6 (enc := enc) (C := Try.checked) false ⟨#[], #[.slice none 0 0, .int .u64 0], []⟩ 8 (by kernel_rfl) (by kernel_rfl) (by kernel_rfl) (by kernel_rfl)) ?_
  intro W base args ds gs before hval0 hW hcnd hsz0 _
  have hsz : (DataW.weightsEach Try.prog (Try.f7.params.toList ++ Rows.hashHalvesSpec.plain.varTypes Try.prog) (ds ++ gs)).all (· ≤ reachBytes) = true := hsz0
  have hval : ∀ (j : Nat) t v, Try.f7.params[j]? = some t → args[j]? = some v → Value.okWide Try.prog W .any base t v := hval0
  have hW' := hW
  obtain ⟨p, q, hA0, hV, rfl, hfz, hnd⟩ := hW
  have hA : DataW.TrodAll enc Try.prog W 0 (fun _ => true) true Try.f7.params.toList args.toList ds p := hA0
  rw [Try.params7] at hA hval hsz
  obtain ⟨v0, vs0, d0, ds0, p0, q0, hargs, rfl, rfl, h0, r0⟩ := trodAll_cons hA
  obtain ⟨v1, vs1, d1, ds1, p1, q1, rfl, rfl, rfl, h1, r1⟩ := trodAll_cons r0
  obtain ⟨rfl, rfl, rfl⟩ := trodAll_nil r1
  obtain rfl : args = #[v0, v1] := by cases args; simp_all
  obtain ⟨rfl, rfl⟩ := trodVars_none hV
  have k0 := h0
  have lt0 : ∀ x ∈ p0, x.block < W.heap.size := by obtain ⟨m, hm⟩ := k0; exact DataW.trod_lt m _ _ _ hm
  obtain ⟨o0, cap0, l0, rfl, F0, D0, G0⟩ := hs.open43 (hval 0 43 v0 rfl rfl) h0
  obtain ⟨a1, rfl, rfl, rfl, w1⟩ := open_int Try.underlying27 (hval 1 27 v1 rfl rfl) h1
  clear hA0 hval0
  refine (walk F0 D0 w1 W rfl).mono fun e W' ⟨he, bel⟩ => ?_
  subst he
  exact ⟨_, rfl, _, _, _, [], _, [], hW', trodAll_mk1 (shut_bool Try.underlying4 _), (trodAll_cons_mk (Below.trod laidOut (by kernel_rfl) (of_decide_eq_true (by kernel_rfl)) k0 bel lt0) (trodAll_cons_mk (shut_int Try.underlying27 w1) trodAll_mk0)), rfl, bel.frame _, fun h => by cases h⟩

theorem over : Rows.hashHalvesRow.holds Try.pinned (OpenSpec.ofChange Rows.hashHalvesSpec) :=
  OpenClaim.holds_of_wide 7 Try.f7 rfl rfl rfl rfl rfl rfl rfl ⟨rfl, rfl, rfl, rfl, rfl⟩ rfl rfl rfl rfl rfl (by kernel_rfl) Try.func7 (by kernel_rfl)
    (of_decide_eq_true (by kernel_rfl)) (by unfold Func.isWrapper; first | (rw [if_pos (by decide +kernel)]; kernel_rfl) | (rw [if_neg (by decide +kernel)]; exact ⟨rfl, rfl⟩))
    (fun os started H enc _ => lifted os started H enc)

theorem proved : Rows.HashHalvesSaid :=
  over
#print axioms proved
end Go.Proofs.Ytfpkjgalokbkcaa.hashHalves
