/-
  Contracts over this program: whether a text begins with the mark, whether its sum fits (pack.unbroken), and what it is read as (pack.Get).
-/
import Derived.Test.YtjnjjbacfodacaaAgain
namespace Go.Proofs.Ytjnjjbacfodacaa.pk
open Go.ChangeShapes Go.WideShapes Go.ChangeAt Go.RowKit
set_option linter.unusedVariables false

theorem mark_toList : mark.toList = [70, 83, 65, 87, 1] := by rw [ByteArray.toList_eq]; rfl
theorem chain2 {w w1 w2 : World} (h1 : Below w.heap.size w w1) (h2 : Below w1.heap.size w1 w2) : Below w.heap.size w w2 := h1.trans (h2.mono h1.size)

def PrefixIs (s : ByteArray) (r : Bool) : Prop := ∀ w, Calls Try.prog 25 #[.string s, .string ⟨#[70, 83, 65, 87, 1]⟩] w fun e w' => e = .returned (.bool r) ∧ w' = w

theorem prefix_any (s : ByteArray) (h9 : 9 ≤ s.size) (r : Bool) (hr : r = ((s.extract 0 5).toList == [70, 83, 65, 87, 1])) : PrefixIs s r := by
  intro w
  obtain ⟨m, hm⟩ : ∃ m, s.extract 0 5 = m := ⟨_, rfl⟩
  rw [hm] at hr
  have hr2 := hr.symm
  clear hr
  have h41 : ∀ w, Calls Try.prog 41 #[.string s, .string ⟨#[70, 83, 65, 87, 1]⟩] w fun e w' => e = .returned (.bool r) ∧ w' = w := by
    intro w
    go_enter Try.func41, Try.ntmps41
    go_wp2
    go_ret
    exact ⟨rfl, rfl⟩
  go_enter Try.func25, Try.ntmps25
  go_wp2_with (go_at_call 41; refine (h41 _).mono ?_; rintro e w1 ⟨rfl, rfl⟩)
  go_ret
  exact ⟨rfl, rfl⟩
theorem prefix_yes (s : ByteArray) (h9 : 9 ≤ s.size) (h : s.extract 0 5 = mark) : PrefixIs s true := prefix_any s h9 true (by rw [h, mark_toList]; simp)
theorem prefix_no (s : ByteArray) (h9 : 9 ≤ s.size) (h : s.extract 0 5 ≠ mark) : PrefixIs s false := prefix_any s h9 false (by
  rw [← mark_toList]
  exact (crc.unlike h).symm)

def UnbrokenIs (s : ByteArray) (r : Bool) : Prop := ∀ w, Calls Try.prog 26 #[.string s] w fun e w' => e = .returned (.bool r) ∧ Below w.heap.size w w'

set_option maxRecDepth 100000 in
theorem unbroken_any (s : ByteArray) (h9 : 9 ≤ s.size) (hs : s.size ≤ 140737488351232) (r : Bool) (hr : r = ((s.extract (s.size - 4) s.size).toList == (seal4 (s.extract 0 (s.size - 4))).toList)) : UnbrokenIs s r := by
  intro w
  obtain ⟨k, hk⟩ : ∃ k, k = s.size - 4 := ⟨_, rfl⟩
  rw [← hk] at hr
  have hlen : (s.size : Int) - 4 = (k : Int) := by omega
  have hle : k ≤ s.size := by omega
  obtain ⟨n, hn⟩ : ∃ n, n = crc.crc 0 (s.extract 0 k) := ⟨_, rfl⟩
  have hez : (s.extract 0 k).size ≤ 140737488351232 := by rw [ByteArray.size_extract]; omega
  have p38 := crc.of_is (s.extract 0 k) n (by omega) hn
  have p37 := num.putFour_is n (by rw [hn]; exact crc.crc_lt 0 _) (seal4 (s.extract 0 k)) (by
    rw [seal4_list, hn]
    rfl)
  generalize seal4 (s.extract 0 k) = f at *
  have hr2 := hr.symm
  clear hr hn hk hez
  go_enter Try.func26, Try.ntmps26
  go_wp2
  go_region_held3 (fun _ => True) (trivial) (first | (go_at_call 38; refine (p38 _).mono ?_; rintro e w1 ⟨rfl, b1⟩) | (go_at_call 37; refine (p37 _).mono ?_; rintro e w2 ⟨rfl, b2⟩))
  go_wp2
  go_ret
  exact ⟨rfl, chain2 (chain2 ((Below.refl _ _).drew) b1) b2⟩
theorem unbroken_yes (s : ByteArray) (h9 : 9 ≤ s.size) (hs : s.size ≤ 140737488351232) (h : s.extract (s.size - 4) s.size = seal4 (s.extract 0 (s.size - 4))) : UnbrokenIs s true := unbroken_any s h9 hs true (by rw [h]; simp)
theorem unbroken_no (s : ByteArray) (h9 : 9 ≤ s.size) (hs : s.size ≤ 140737488351232) (h : s.extract (s.size - 4) s.size ≠ seal4 (s.extract 0 (s.size - 4))) : UnbrokenIs s false := unbroken_any s h9 hs false (crc.unlike h).symm

def GetsIs (s : ByteArray) (ls : List Sec) (e : Nat) : Prop := ∀ w, Calls Try.prog 12 #[.string s] w fun r w' => ∃ v, r = .returned (.tuple #[v, .int .i64 e]) ∧ Secs w' v ls ∧ Below w.heap.size w w'

theorem secs_none (w : World) : Secs w (.slice none 0 0) [] := .inl ⟨rfl, _, _, rfl⟩

theorem gets_short (s : ByteArray) (h : s.size < 9) : GetsIs s [] 20 := by
  intro w
  go_enter Try.func12, Try.ntmps12
  go_wp2
  go_ret2
  exact ⟨_, rfl, secs_none _, Below.refl _ _⟩
theorem gets_magic (s : ByteArray) (h9 : 9 ≤ s.size) (hs : s.size ≤ 140737488351232) (p25 : PrefixIs s false) : GetsIs s [] 40 := by
  intro w
  go_enter Try.func12, Try.ntmps12
  go_wp2_with (go_at_call 25; refine (p25 _).mono ?_; rintro e w1 ⟨rfl, rfl⟩)
  go_ret2
  exact ⟨_, rfl, secs_none _, Below.refl _ _⟩
theorem gets_sum (s : ByteArray) (h9 : 9 ≤ s.size) (hs : s.size ≤ 140737488351232) (p25 : PrefixIs s true) (p26 : UnbrokenIs s false) : GetsIs s [] 41 := by
  intro w
  go_enter Try.func12, Try.ntmps12
  go_wp2_with (first | (go_at_call 25; refine (p25 _).mono ?_; rintro e w1 ⟨rfl, rfl⟩) | (go_at_call 26; refine (p26 _).mono ?_; rintro e w2 ⟨rfl, b2⟩))
  go_ret2
  exact ⟨_, rfl, secs_none _, b2⟩

theorem new_blk (w : World) (u : ByteArray) : Blk (w.alloc (.cells #[.string u, .int .i64 5, .int .i64 0, .slice none 0 0] 48)) w.heap.size u 5 0 (.slice none 0 0) := heap_alloc_new w _

/-- how the reader ends with an error -/
def Ends (u : ByteArray) (n p1 e1 e : Nat) : Prop := ∀ (B g : Nat) (w0 w : World), Blk w g u p1 e1 (.slice none 0 0) → B ≤ g → Below B w0 w → Calls Try.prog 27 #[.pointer (some ⟨g, 0, none⟩), .int .u64 n, .func (.func 29) #[.pointer (some ⟨g, 0, none⟩)] #[]] w fun r w' => r = .returned (.tuple #[]) ∧ ∃ p v, Blk w' g u p e v ∧ Below B w0 w'
/-- how the reader ends with sections -/
def Brings (u : ByteArray) (n p1 p : Nat) (l : List Sec) : Prop := ∀ (B g : Nat) (w0 w : World), Blk w g u p1 0 (.slice none 0 0) → B ≤ g → Below B w0 w → Calls Try.prog 27 #[.pointer (some ⟨g, 0, none⟩), .int .u64 n, .func (.func 29) #[.pointer (some ⟨g, 0, none⟩)] #[]] w fun r w' => r = .returned (.tuple #[]) ∧ ∃ v, Blk w' g u p 0 v ∧ Own B w' v l ∧ Below B w0 w'

set_option maxHeartbeats 1000000 in
set_option maxRecDepth 100000 in
theorem gets_ends (s u : ByteArray) (k : Nat) (hk : (s.size : Int) - 4 = (k : Int)) (hle : k ≤ s.size) (hu : s.extract 0 k = u) (h9 : 9 ≤ s.size) (hs : s.size ≤ 140737488351232) (p25 : PrefixIs s true) (p26 : UnbrokenIs s true) (n p1 e1 e : Nat) (he : e ≠ 0) (p28 : ∀ g, CountIs g u n p1 e1) (p27 : Ends u n p1 e1 e) : GetsIs s [] e := by
  intro w
  have hne : ((e : Int) != 0) = true := by rw [bne_iff_ne]; omega
  go_enter Try.func12, Try.ntmps12
  go_wp2_with (first | (go_at_call 25; refine (p25 _).mono ?_; rintro e w1 ⟨rfl, hw1⟩; obtain rfl := hw1.symm) | (go_at_call 26; refine (p26 _).mono ?_; rintro e w2 ⟨rfl, b2⟩; have hnb := new_blk w2 u; have hB2 : Below w.heap.size w (w2.alloc (.cells #[.string u, .int .i64 5, .int .i64 0, .slice none 0 0] 48)) := b2.alloc b2.size _) | (go_at_call 28; refine (p28 _ _ _ hnb).mono ?_; rintro e w3 ⟨rfl, b3, t3⟩) | (go_at_call 27; refine (p27 w.heap.size _ w _ b3 b2.size (hB2.grown t3 (by first | exact hB2.size) (by intro j hj; simp at hj; have := b2.size; omega))).mono ?_; rintro e w4 ⟨rfl, p, v, b4, t4⟩; have c4 := b4.c2))
  go_quiet (fail)
  go_wp2
  go_ret2
  exact ⟨_, rfl, secs_none _, drewN_below t4 _⟩

set_option maxHeartbeats 1000000 in
set_option maxRecDepth 100000 in
theorem gets_left (s u : ByteArray) (k : Nat) (hk : (s.size : Int) - 4 = (k : Int)) (hle : k ≤ s.size) (hu : s.extract 0 k = u) (h9 : 9 ≤ s.size) (hs : s.size ≤ 140737488351232) (p25 : PrefixIs s true) (p26 : UnbrokenIs s true) (n p1 p : Nat) (l : List Sec) (hp : p < u.size) (p28 : ∀ g, CountIs g u n p1 0) (p27 : Brings u n p1 p l) : GetsIs s [] 21 := by
  intro w
  go_enter Try.func12, Try.ntmps12
  go_wp2_with (first | (go_at_call 25; refine (p25 _).mono ?_; rintro e w1 ⟨rfl, hw1⟩; obtain rfl := hw1.symm) | (go_at_call 26; refine (p26 _).mono ?_; rintro e w2 ⟨rfl, b2⟩; have hnb := new_blk w2 u; have hB2 : Below w.heap.size w (w2.alloc (.cells #[.string u, .int .i64 5, .int .i64 0, .slice none 0 0] 48)) := b2.alloc b2.size _) | (go_at_call 28; refine (p28 _ _ _ hnb).mono ?_; rintro e w3 ⟨rfl, b3, t3⟩) | (go_at_call 27; refine (p27 w.heap.size _ w _ b3 b2.size (hB2.grown t3 (by first | exact hB2.size) (by intro j hj; simp at hj; have := b2.size; omega))).mono ?_; rintro e w4 ⟨rfl, v, b4, o4, t4⟩; have c4 := b4.c2; have d4 := b4.c1; have f4 := b4.c0))
  go_quiet (fail)
  go_wp2
  go_ret2
  exact ⟨_, rfl, secs_none _, drewN_below t4 _⟩

set_option maxHeartbeats 1000000 in
set_option maxRecDepth 100000 in
theorem gets_heavy (s u : ByteArray) (k : Nat) (hk : (s.size : Int) - 4 = (k : Int)) (hle : k ≤ s.size) (hu : s.extract 0 k = u) (h9 : 9 ≤ s.size) (hs : s.size ≤ 140737488351232) (p25 : PrefixIs s true) (p26 : UnbrokenIs s true) (n p1 p : Nat) (l : List Sec) (hp : u.size ≤ p) (p28 : ∀ g, CountIs g u n p1 0) (p27 : Brings u n p1 p l) (p18 : HeavyIs l true) : GetsIs s [] 2 := by
  intro w
  go_enter Try.func12, Try.ntmps12
  go_wp2_with (first | (go_at_call 25; refine (p25 _).mono ?_; rintro e w1 ⟨rfl, hw1⟩; obtain rfl := hw1.symm) | (go_at_call 26; refine (p26 _).mono ?_; rintro e w2 ⟨rfl, b2⟩; have hnb := new_blk w2 u; have hB2 : Below w.heap.size w (w2.alloc (.cells #[.string u, .int .i64 5, .int .i64 0, .slice none 0 0] 48)) := b2.alloc b2.size _) | (go_at_call 28; refine (p28 _ _ _ hnb).mono ?_; rintro e w3 ⟨rfl, b3, t3⟩) | (go_at_call 27; refine (p27 w.heap.size _ w _ b3 b2.size (hB2.grown t3 (by first | exact hB2.size) (by intro j hj; simp at hj; have := b2.size; omega))).mono ?_; rintro e w4 ⟨rfl, v, b4, o4, t4⟩; have c4 := b4.c2; have d4 := b4.c1; have f4 := b4.c0; have g4 := b4.c3))
  go_quiet (fail)
  go_wp2_with (go_at_call 18; refine (p18 _ _ (o4.secs.below (drewN_below (Below.refl _ _) _))).mono ?_; rintro e w5 ⟨rfl, b5⟩)
  go_ret2
  exact ⟨_, rfl, secs_none _, chain2 (drewN_below t4 _) b5⟩

set_option maxHeartbeats 1000000 in
set_option maxRecDepth 100000 in
theorem gets_ok (s u : ByteArray) (k : Nat) (hk : (s.size : Int) - 4 = (k : Int)) (hle : k ≤ s.size) (hu : s.extract 0 k = u) (h9 : 9 ≤ s.size) (hs : s.size ≤ 140737488351232) (p25 : PrefixIs s true) (p26 : UnbrokenIs s true) (n p1 p : Nat) (l : List Sec) (hp : u.size ≤ p) (p28 : ∀ g, CountIs g u n p1 0) (p27 : Brings u n p1 p l) (p18 : HeavyIs l false) : GetsIs s l 0 := by
  intro w
  go_enter Try.func12, Try.ntmps12
  go_wp2_with (first | (go_at_call 25; refine (p25 _).mono ?_; rintro e w1 ⟨rfl, hw1⟩; obtain rfl := hw1.symm) | (go_at_call 26; refine (p26 _).mono ?_; rintro e w2 ⟨rfl, b2⟩; have hnb := new_blk w2 u; have hB2 : Below w.heap.size w (w2.alloc (.cells #[.string u, .int .i64 5, .int .i64 0, .slice none 0 0] 48)) := b2.alloc b2.size _) | (go_at_call 28; refine (p28 _ _ _ hnb).mono ?_; rintro e w3 ⟨rfl, b3, t3⟩) | (go_at_call 27; refine (p27 w.heap.size _ w _ b3 b2.size (hB2.grown t3 (by first | exact hB2.size) (by intro j hj; simp at hj; have := b2.size; omega))).mono ?_; rintro e w4 ⟨rfl, v, b4, o4, t4⟩; have c4 := b4.c2; have d4 := b4.c1; have f4 := b4.c0; have g4 := b4.c3))
  go_quiet (fail)
  go_wp2_with (go_at_call 18; refine (p18 _ _ (o4.secs.below (drewN_below (Below.refl _ _) _))).mono ?_; rintro e w5 ⟨rfl, b5⟩; have g5 := (b4.later (chain2 (drewN_below (Below.refl _ _) _) b5)).c3)
  go_ret2
  exact ⟨v, rfl, o4.secs.below (chain2 (drewN_below (Below.refl _ _) _) b5), chain2 (drewN_below t4 _) b5⟩

theorem own_none (B : Nat) (w : World) : Own B w (.slice none 0 0) [] := World.ownsRow_nil w B 40 2

theorem ends_count (u : ByteArray) (n p1 e : Nat) (he : e ≠ 0) (hn : n < 18446744073709551616) : Ends u n p1 e e := by
  intro B g w0 w hb hBg hB
  refine (again_later g u p1 e n _ he hn w hb).mono ?_
  rintro r w' ⟨rfl, rfl⟩
  exact ⟨rfl, p1, _, hb, hB⟩
theorem ends_again (u : ByteArray) (n q e : Nat) (hn : n ≤ 64) (hs : u.size ≤ 140737488351232) (hq : q ≤ u.size) (he : e ≠ 0) (hR : jn [] (rdS u n none q) = ([], 0, e)) : Ends u n q 0 e := by
  intro B g w0 w hb hBg hB
  refine (again_any B g u n ([], 0, e) hn hs hBg w0 w ⟨q, 0, _, [], hb, own_none B w, hB, by simp, .inl ⟨rfl, hq, by simp, by simpa using hn, hR⟩⟩).mono ?_
  rintro r w' ⟨rfl, p, e2, v, acc, b, o, l, _, h⟩
  rcases h with ⟨_, _, _, _, h⟩ | ⟨_, _, h⟩
  · rw [jn_end] at h
    simp only [Prod.mk.injEq] at h
    omega
  · simp only [Prod.mk.injEq] at h
    obtain ⟨_, _, rfl⟩ := h
    exact ⟨rfl, p, v, b, l⟩
theorem brings_any (u : ByteArray) (n q P : Nat) (L : List Sec) (hn : n ≤ 64) (hs : u.size ≤ 140737488351232) (hq : q ≤ u.size) (hR : jn [] (rdS u n none q) = (L, P, 0)) : Brings u n q P L := by
  intro B g w0 w hb hBg hB
  refine (again_any B g u n (L, P, 0) hn hs hBg w0 w ⟨q, 0, _, [], hb, own_none B w, hB, by simp, .inl ⟨rfl, hq, by simp, by simpa using hn, hR⟩⟩).mono ?_
  rintro r w' ⟨rfl, p, e2, v, acc, b, o, l, _, h⟩
  rcases h with ⟨rfl, _, _, _, h⟩ | ⟨h1, _, h⟩
  · rw [jn_end] at h
    simp only [Prod.mk.injEq] at h
    obtain ⟨rfl, rfl, _⟩ := h
    exact ⟨rfl, v, b, o, l⟩
  · simp only [Prod.mk.injEq] at h
    omega

theorem jn_nil (r : List Sec × Nat × Nat) (h : r.2.2 = 0) : jn [] r = (r.1, r.2.1, 0) := by simp [jn, h]
theorem jn_bad (r : List Sec × Nat × Nat) (h : r.2.2 ≠ 0) : jn [] r = ([], 0, r.2.2) := by simp [jn, h]

theorem gets_any (s : ByteArray) (hs : s.size ≤ 140737488351232) (ls : List Sec) (e : Nat) (h : getP s = (ls, e)) : GetsIs s ls e := by
  unfold getP at h
  by_cases h9 : s.size < 9
  · rw [if_pos h9] at h
    simp only [Prod.mk.injEq] at h
    obtain ⟨rfl, rfl⟩ := h
    exact gets_short s h9
  · rw [if_neg h9] at h
    have h9 : 9 ≤ s.size := by omega
    by_cases hm : s.extract 0 5 ≠ mark
    · rw [if_pos hm] at h
      simp only [Prod.mk.injEq] at h
      obtain ⟨rfl, rfl⟩ := h
      exact gets_magic s h9 hs (prefix_no s h9 hm)
    · rw [if_neg hm] at h
      have p25 := prefix_yes s h9 (Classical.not_not.1 hm)
      by_cases h4 : s.extract (s.size - 4) s.size ≠ seal4 (s.extract 0 (s.size - 4))
      · rw [if_pos h4] at h
        simp only [Prod.mk.injEq] at h
        obtain ⟨rfl, rfl⟩ := h
        exact gets_sum s h9 hs p25 (unbroken_no s h9 hs h4)
      · rw [if_neg h4] at h
        have p26 := unbroken_yes s h9 hs (Classical.not_not.1 h4)
        obtain ⟨u, hu⟩ : ∃ u, s.extract 0 (s.size - 4) = u := ⟨_, rfl⟩
        have huz : u.size = s.size - 4 := by rw [← hu, ByteArray.size_extract]; omega
        have hk : (s.size : Int) - 4 = ((s.size - 4 : Nat) : Int) := by omega
        rw [hu] at h
        obtain ⟨n, q, f, hg⟩ : ∃ n q f, num.gets u.data.toList 5 = (n, q, f) := ⟨_, _, _, rfl⟩
        have hb := num.gets_bounds hg (by rw [num.size_list]; omega)
        rw [num.size_list] at hb
        have hget := num.get_in u 5 (by omega) (by omega) n q f hg
        unfold inner at h
        rw [hg] at h
        simp only at h
        by_cases hf : f = 0
        · subst hf
          rw [if_neg (by simp)] at h
          have hq : q ≤ u.size := by rcases hb.2 with h1 | h1 <;> omega
          have h42 : ∀ g, NumberIs g u 5 0 n q 0 := fun g => number_any g u 5 n q 0 q 0 hget (goOn_ok g u 5 q)
          by_cases hn : 64 < n
          · rw [if_pos hn] at h
            simp only [Prod.mk.injEq] at h
            obtain ⟨rfl, rfl⟩ := h
            exact gets_ends s u _ hk (by omega) hu h9 hs p25 p26 n q 2 2 (by omega) (fun g => count_many g u n q 0 2 hn (h42 g) (fail_first g u q 2)) (ends_count u n q 2 (by omega) hb.1)
          · rw [if_neg hn] at h
            have p28 : ∀ g, CountIs g u n q 0 := fun g => count_few g u n q 0 (by omega) (h42 g)
            by_cases h0 : (rdS u n none q).2.2 = 0
            · rw [if_neg (by simpa using h0)] at h
              have hR := jn_nil _ h0
              have p27 := brings_any u n q _ _ (by omega) (by omega) hq hR
              have hfit := secs_rdS u n none q (by omega) hq (rdS u n none q).1 (rdS u n none q).2.1 (by rw [← h0])
              generalize (rdS u n none q).1 = L at *
              generalize (rdS u n none q).2.1 = P at *
              by_cases hP : P ≠ u.size
              · rw [if_pos hP] at h
                simp only [Prod.mk.injEq] at h
                obtain ⟨rfl, rfl⟩ := h
                exact gets_left s u _ hk (by omega) hu h9 hs p25 p26 n q P L (by omega) p28 p27
              · rw [if_neg hP] at h
                by_cases hT : 8388608 < total L
                · rw [if_pos hT] at h
                  simp only [Prod.mk.injEq] at h
                  obtain ⟨rfl, rfl⟩ := h
                  exact gets_heavy s u _ hk (by omega) hu h9 hs p25 p26 n q P L (by omega) p28 p27 (heavy_any L true (by simp [hT]) (fun x hx => (hfit.2.2.2.2.2 x hx).1))
                · rw [if_neg hT] at h
                  simp only [Prod.mk.injEq] at h
                  obtain ⟨rfl, rfl⟩ := h
                  exact gets_ok s u _ hk (by omega) hu h9 hs p25 p26 n q P L (by omega) p28 p27 (heavy_any L false (by simp; omega) (fun x hx => (hfit.2.2.2.2.2 x hx).1))
            · rw [if_pos h0] at h
              simp only [Prod.mk.injEq] at h
              obtain ⟨rfl, rfl⟩ := h
              exact gets_ends s u _ hk (by omega) hu h9 hs p25 p26 n q 0 _ h0 p28 (ends_again u n q _ (by omega) (by omega) hq h0 (jn_bad _ h0))
        · rw [if_pos hf] at h
          simp only [Prod.mk.injEq] at h
          obtain ⟨rfl, rfl⟩ := h
          have hn0 : n = 0 := by rcases hb.2 with h1 | h1 <;> omega
          exact gets_ends s u _ hk (by omega) hu h9 hs p25 p26 n 5 f f hf (fun g => count_few g u n 5 f (by omega) (number_any g u 5 n q f 5 f hget (goOn_err g u 5 q f hf))) (ends_count u n 5 f hf hb.1)
end Go.Proofs.Ytjnjjbacfodacaa.pk
