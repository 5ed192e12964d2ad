/-
  Texts put together: Contracts over this program: the document's Longest (fretsawref08), Ints (fretsawref07), short. Plain mathematics: what a dfa takes of a text's beginning. Plain mathematics: what a dfa takes from a state at a place on; the bits of places from which nothing is taken; the pieces of a text. Over this program: a region that draws its order, walked by hand: loads, moves and assignments are taken first, calls come up one behind the other. Over this program: a walk along a text in memory (piece.walk); contracts: bit, isVain, setVain, next.
-/
import Derived.Test.YtfilndgbgdnpiaaM00
import Derived.Deep.RegionHeld3
import Derived.Deep.MidRow
import Derived.OrdersHeld
import Derived.Laws.BitsAllLaws
import Derived.Lib.Builder
import Derived.ProofKit
import Derived.OpenShut
namespace Go.Proofs.Ytfilndgbgdnpiaa.df
open Go.RowKit Go.Shelf
set_option linter.unusedVariables false

theorem ints_last {w : World} {o : Option Addr} {cap : Nat} {l : List Int} (h : Row (In w) w iv o cap l) (hl : 1 ≤ l.length) :
    ∃ b off, o = some ⟨b, off, none⟩ ∧ b < w.heap.size ∧ w.cell? ⟨b, off + (l.length - 1), none⟩ = some (.int .i64 (l.getLast?.getD (-1))) := by
  obtain ⟨b, off, e, hb, hc⟩ := h.lie (l.length - 1) (by omega)
  refine ⟨b, off, e, hb, ?_⟩
  rw [hc, List.getLast?_eq_getElem?, List.getElem?_eq_getElem (by omega)]
  rfl
def IntsIs (l m : List Int) (r : Bool) : Prop := ∀ v1 v2 w, IntsV w v1 l → IntsV w v2 m → Calls Try.prog 14 #[v1, v2] w fun e w' => e = .returned (.bool r) ∧ Below w.heap.size w w'
theorem take_snoc {l : List Int} {i : Nat} (h : i < l.length) : l.take (i + 1) = l.take i ++ [l[i]] := by
  rw [List.take_add_one, List.getElem?_eq_getElem h]; rfl
set_option maxHeartbeats 1000000 in
theorem ints_any (l m : List Int) (r : Bool) (hr : r = decide (l = m)) : IntsIs l m r := by
  intro v1 v2 w h1 h2
  obtain ⟨o, cap, rfl, h1⟩ := h1
  obtain ⟨o', cap', rfl, h2⟩ := h2
  have f1 := h1.fit
  have f2 := h1.top
  have f3 := h2.fit
  have f4 := h2.top
  have H1 : Hid (Row (In w) w iv o cap l) := h1
  have H2 : Hid (Row (In w) w iv o' cap' m) := h2
  have HR : Hid (r = decide (l = m)) := hr
  clear h1 h2 hr
  by_cases hne : l.length = m.length
  · have g1 : ((l.length : Int) == (m.length : Int)) = true := beq_iff_eq.2 (by omega)
    have g2 : ((l.length : Int) != (m.length : Int)) = false := by rw [bne, g1]; rfl
    have HL : Hid (l.length = m.length) := hne
    clear hne
    go_enter Try.func14, Try.ntmps14
    go_wp2_with (fail)
    go_loopw [13] (fun y wr => ∃ i : Nat, y = .int .i64 i ∧ i ≤ l.length ∧ Hid (l.take i = m.take i) ∧ Below w.heap.size w wr) (fun y _ => l.length - (intOf y).toNat)
    case atStart => exact ⟨0, rfl, by omega, by show _ = _; simp, Below.refl _ _⟩
    case round =>
      obtain ⟨i, rfl, hil, HI, hB⟩ := hrel
      by_cases hend : i < l.length
      · have hend2 : i < m.length := by have := HL.out; omega
        obtain ⟨b, off, rfl, hb, hc⟩ := H1.out.lie i hend
        obtain ⟨b', off', rfl, hb', hc'⟩ := H2.out.lie i hend2
        have k1 := (hB.cell (p := ⟨b, off + i, none⟩) hb).trans hc
        have k2 := (hB.cell (p := ⟨b', off' + i, none⟩) hb').trans hc'
        have HT : Hid (l[i] = m[i] → l.take (i + 1) = m.take (i + 1)) := fun h => by rw [take_snoc hend, take_snoc hend2, HI.out, h]
        have HN : Hid (l[i] ≠ m[i] → r = false) := fun h => by
          rw [HR.out]
          exact decide_eq_false (fun e => h (by subst e; rfl))
        generalize l[i] = x at *
        generalize m[i] = y at *
        clear hc hc' HI
        by_cases hxy : x = y
        · have q1 : (x == y) = true := beq_iff_eq.2 hxy
          have q2 : (x != y) = false := by rw [bne, q1]; rfl
          have HT2 : Hid (l.take (i + 1) = m.take (i + 1)) := HT.out hxy
          clear hxy HT HN
          go_wp2_with (fail)
          go_quiet (fail)
          go_wp2_with (fail)
          go_roundw
          case rel => exact ⟨i + 1, by go_num, by omega, HT2, below_drewN hB _⟩
          case measure => simp [intOf]; omega
        · have q1 : (x == y) = false := beq_eq_false_iff_ne.2 hxy
          have q2 : (x != y) = true := bne_iff_ne.2 hxy
          have HF : Hid (r = false) := HN.out hxy
          clear hxy HT HN
          go_wp2_with (fail)
          go_quiet (fail)
          go_wp2_with (fail)
          go_ret
          exact ⟨by rw [HF.out]; rfl, below_drewN hB _⟩
      · have HF : Hid (r = true) := by
          show _ = _
          rw [HR.out]
          refine decide_eq_true ?_
          have := HI.out
          rw [List.take_of_length_le (by omega), List.take_of_length_le (by have := HL.out; omega)] at this
          exact this
        go_wp2_with (fail)
        go_ret
        exact ⟨by rw [HF.out]; rfl, hB⟩
  · have g1 : ((l.length : Int) == (m.length : Int)) = false := beq_eq_false_iff_ne.2 (by omega)
    have g2 : ((l.length : Int) != (m.length : Int)) = true := bne_iff_ne.2 (by omega)
    have HF : Hid (r = false) := by
      show _ = _
      rw [HR.out]
      exact decide_eq_false (fun e => hne (by rw [e]))
    clear hne
    go_enter Try.func14, Try.ntmps14
    go_wp2_with (fail)
    go_ret
    exact ⟨by rw [HF.out]; rfl, Below.refl _ _⟩

def cut (s : ByteArray) (n : Nat) : ByteArray := if s.size ≤ n then s else s.extract 0 n
theorem cut_size (s : ByteArray) (n : Nat) : (cut s n).size ≤ n := by
  unfold cut
  split
  · assumption
  · simp; omega
set_option maxHeartbeats 1000000 in
theorem short_any (f : Nat) (hf : f = 20) (s : ByteArray) (n : Nat) (hs : s.size ≤ 9223372036854775807) (hn : n ≤ 100000) (w : World) : Calls Try.prog 20 #[.string s, .int .i64 (n : Int)] w fun e w' => e = .returned (.string (cut s n)) ∧ w' = w := by
  by_cases h : s.size ≤ n
  · have e : cut s n = s := by unfold cut; rw [if_pos h]
    rw [e]
    go_enter Try.func20, Try.ntmps20
    go_wp2
    go_ret
    exact ⟨rfl, rfl⟩
  · have HE : Hid (cut s n = s.extract 0 n) := by show _ = _; unfold cut; rw [if_neg h]
    have hn2 : n < s.size := by omega
    clear h
    go_enter Try.func20, Try.ntmps20
    go_wp2
    go_ret
    exact ⟨by rw [HE.out]; rfl, rfl⟩
end Go.Proofs.Ytfilndgbgdnpiaa.df

namespace Go.Proofs.Ytfilndgbgdnpiaa.df
set_option linter.unusedVariables false

theorem here_mem (d : Dfa) (q t : Nat) : ∀ x ∈ here d q t, x = (t : Int) := by
  intro x hx
  unfold here at hx
  split at hx
  · simpa using hx
  · cases hx
theorem ends_ge (d : Dfa) (s : ByteArray) : ∀ f q t, ∀ x ∈ ends d s f q t, (t : Int) ≤ x
  | 0, q, t, x, hx => by
    unfold ends at hx
    split at hx
    · cases hx
    · rw [here_mem d _ _ x hx]; omega
  | f + 1, q, t, x, hx => by
    unfold ends at hx
    split at hx
    · cases hx
    · rcases List.mem_append.1 hx with h | h
      · rw [here_mem d _ _ x h]; omega
      · have := ends_ge d s f _ _ x h; omega
theorem begins (d : Dfa) (u v : ByteArray) (n : Nat) (hn : n ≤ u.size) (hv : v.size = n) (hb : ∀ i, i < n → byteAt v i = byteAt u i) : ∀ k t q, t + k = n →
    (ends d u (u.size - t) q t).filter (fun x => decide (x ≤ (n : Int))) = ends d v (v.size - t) q t := by
  intro k
  induction k with
  | zero =>
    intro t q ht
    have e : v.size - t = 0 := by omega
    rw [e]
    by_cases hq : q < 0
    · rw [ends_neg d u _ q t hq, ends_neg d v _ q t hq]; rfl
    · obtain ⟨q', rfl⟩ : ∃ q' : Nat, q = (q' : Int) := ⟨q.toNat, by omega⟩
      rw [ends_zero]
      by_cases h0 : u.size - t = 0
      · rw [h0, ends_zero]
        refine List.filter_eq_self.2 (fun x hx => ?_)
        rw [here_mem d _ _ x hx]
        exact decide_eq_true (by omega)
      · obtain ⟨f, hf⟩ : ∃ f, u.size - t = f + 1 := ⟨u.size - t - 1, by omega⟩
        rw [hf, ends_succ, List.filter_append]
        have e1 : (here d q' t).filter (fun x => decide (x ≤ (n : Int))) = here d q' t := List.filter_eq_self.2 (fun x hx => by
          rw [here_mem d _ _ x hx]
          exact decide_eq_true (by omega))
        have e2 : (ends d u f (nxt d q' (d.cls (byteAt u t))) (t + 1)).filter (fun x => decide (x ≤ (n : Int))) = [] := List.filter_eq_nil_iff.2 (fun x hx => by
          have := ends_ge d u f _ _ x hx
          simp
          omega)
        rw [e1, e2, List.append_nil]
  | succ k ih =>
    intro t q ht
    obtain ⟨f, hf⟩ : ∃ f, u.size - t = f + 1 := ⟨u.size - t - 1, by omega⟩
    obtain ⟨g, hg⟩ : ∃ g, v.size - t = g + 1 := ⟨v.size - t - 1, by omega⟩
    rw [hf, hg]
    by_cases hq : q < 0
    · rw [ends_neg d u _ q t hq, ends_neg d v _ q t hq]; rfl
    · obtain ⟨q', rfl⟩ : ∃ q' : Nat, q = (q' : Int) := ⟨q.toNat, by omega⟩
      rw [ends_succ, ends_succ, List.filter_append, hb t (by omega)]
      have e1 : (here d q' t).filter (fun x => decide (x ≤ (n : Int))) = here d q' t := List.filter_eq_self.2 (fun x hx => by
        rw [here_mem d _ _ x hx]
        exact decide_eq_true (by omega))
      have i1 := ih (t + 1) (nxt d q' (d.cls (byteAt u t))) (by omega)
      have f1 : u.size - (t + 1) = f := by omega
      have g1 : v.size - (t + 1) = g := by omega
      rw [f1, g1] at i1
      rw [e1, i1]
theorem byte_cut (u : ByteArray) (n i : Nat) (hn : n ≤ u.size) (hi : i < n) : byteAt (u.extract 0 n) i = byteAt u i := by
  have h1 : i < (u.extract 0 n).size := by simp; omega
  rw [byte_eq _ _ h1, byte_eq _ _ (by omega)]
  congr 1
  rw [ByteArray.getElem_extract]
  simp
theorem begins_all (d : Dfa) (u : ByteArray) (n : Nat) (hn : n ≤ u.size) : (endsOf d u 0).filter (fun x => decide (x ≤ (n : Int))) = endsOf d (u.extract 0 n) 0 := by
  have hv : (u.extract 0 n).size = n := by simp; omega
  unfold endsOf
  by_cases hr : right d = true
  · rw [if_pos ⟨hr, by omega, by omega⟩, if_pos ⟨hr, by omega, by omega⟩]
    have := begins d u (u.extract 0 n) n hn hv (fun i hi => byte_cut u n i hn hi) n 0 0 (by omega)
    simpa using this
  · rw [if_neg (fun h => hr h.1), if_neg (fun h => hr h.1)]
    rfl
end Go.Proofs.Ytfilndgbgdnpiaa.df

namespace Go.Proofs.Ytfilndgbgdnpiaa.pc
open df (Dfa ends nxt acpt byteAt here Ok right width endsOf)
set_option linter.unusedVariables false

/-- what is taken from a state at a place on -/
def E (d : Dfa) (s : ByteArray) (q : Int) (t : Nat) : List Int := ends d s (s.size - t) q t
theorem E_none (d : Dfa) (s : ByteArray) (q : Int) (t : Nat) (h : q < 0) : E d s q t = [] := df.ends_neg d s _ q t h
/-- where one goes from a state at a place -/
def to' (d : Dfa) (s : ByteArray) (t q : Nat) : Int := if t = s.size then -1 else nxt d q (d.cls (byteAt s t))
theorem E_step (d : Dfa) (s : ByteArray) (q t : Nat) (h : t ≤ s.size) : E d s (q : Int) t = here d q t ++ E d s (to' d s t q) (t + 1) := by
  unfold E to'
  by_cases e : t = s.size
  · rw [if_pos e, df.ends_end d s q t e, df.ends_neg d s _ (-1) _ (by omega), List.append_nil]
  · rw [if_neg e, df.ends_more d s q t (by omega), df.byte_eq s t (by omega)]
theorem E_yes (d : Dfa) (s : ByteArray) (q t : Nat) (h : t ≤ s.size) (ha : acpt d q = true) : E d s (q : Int) t = (t : Int) :: E d s (to' d s t q) (t + 1) := by
  rw [E_step d s q t h, df.here_yes d q t ha]; rfl
theorem E_no (d : Dfa) (s : ByteArray) (q t : Nat) (h : t ≤ s.size) (ha : acpt d q = false) : E d s (q : Int) t = E d s (to' d s t q) (t + 1) := by
  rw [E_step d s q t h, df.here_no d q t ha]; rfl
theorem to_ok {d : Dfa} (h : Ok d) (s : ByteArray) (t q : Nat) (hq : q < d.next.length) : -1 ≤ to' d s t q ∧ to' d s t q < (d.next.length : Int) := by
  unfold to'
  split
  · have := h.one; omega
  · exact df.nxt_ok h q _ hq (h.cl _ (df.byte_lt s t))
theorem to_end (d : Dfa) (s : ByteArray) (t q : Nat) (h : 0 ≤ to' d s t q) (ht : t ≤ s.size) : t + 1 ≤ s.size := by
  unfold to' at h
  split at h
  · omega
  · omega
def lastOr (l : List Int) (z : Int) : Int := l.getLast?.getD z
theorem lastOr_cons (x : Int) (l : List Int) (z : Int) : lastOr (x :: l) z = lastOr l x := by
  unfold lastOr
  rw [List.getLast?_cons]
  rfl
theorem lastOr_nil (z : Int) : lastOr [] z = z := rfl

/-! bits -/
def bitOn (ws : List Nat) (k : Nat) : Bool := (ws.getD (k / 64) 0).testBit (k % 64)
def putBit (ws : List Nat) (k : Nat) : List Nat := ws.set (k / 64) (ws.getD (k / 64) 0 ||| 2 ^ (k % 64))
theorem putBit_len (ws : List Nat) (k : Nat) : (putBit ws k).length = ws.length := by simp [putBit]
theorem putBit_on (ws : List Nat) (k j : Nat) (h : bitOn (putBit ws k) j = true) : j = k ∨ bitOn ws j = true := by
  unfold bitOn putBit at h
  by_cases e : j / 64 = k / 64
  · by_cases hl : k / 64 < ws.length
    · rw [List.getD_eq_getElem?_getD, e, List.getElem?_set_self hl, Option.getD_some, Nat.testBit_or, Bool.or_eq_true] at h
      rcases h with h | h
      · right; unfold bitOn; rw [e]; exact h
      · left
        rw [Nat.testBit_two_pow] at h
        have : k % 64 = j % 64 := by simpa using h
        omega
    · rw [List.set_eq_of_length_le (by omega)] at h
      exact .inr h
  · rw [List.getD_eq_getElem?_getD, List.getElem?_set_ne (Ne.symm e), ← List.getD_eq_getElem?_getD] at h
    exact .inr h
theorem putBit_lt (ws : List Nat) (k : Nat) (h : ∀ x ∈ ws, x < 18446744073709551616) : ∀ x ∈ putBit ws k, x < 18446744073709551616 := by
  intro x hx
  unfold putBit at hx
  rcases List.mem_or_eq_of_mem_set hx with hx | rfl
  · exact h x hx
  · have h1 : ws.getD (k / 64) 0 < 2 ^ 64 := by
      rw [List.getD_eq_getElem?_getD]
      cases hq : ws[k / 64]? with
      | none => simp
      | some y => simpa using h y (List.mem_of_getElem? hq)
    have h2 : 2 ^ (k % 64) < 2 ^ 64 := Nat.pow_lt_pow_right (by omega) (Nat.mod_lt _ (by omega))
    exact Nat.or_lt_two_pow h1 h2
/-- from marked places nothing is taken -/
def Sound (d : Dfa) (s : ByteArray) (ws : List Nat) : Prop := ∀ t q : Nat, t ≤ s.size → q < d.next.length → bitOn ws (t * d.next.length + q) = true → E d s (q : Int) t = []
theorem key_inj {N t q t0 q0 : Nat} (h : q < N) (h0 : q0 < N) (e : t * N + q = t0 * N + q0) : t = t0 ∧ q = q0 := by
  have hN : 0 < N := by omega
  have e1 : (t * N + q) / N = t := by rw [Nat.mul_comm, Nat.mul_add_div hN, Nat.div_eq_of_lt h]; omega
  have e2 : (t0 * N + q0) / N = t0 := by rw [Nat.mul_comm, Nat.mul_add_div hN, Nat.div_eq_of_lt h0]; omega
  have : t = t0 := by rw [← e1, ← e2, e]
  subst this
  omega
theorem Sound.put {d : Dfa} {s : ByteArray} {ws : List Nat} (h : Sound d s ws) {t0 q0 : Nat} (h0 : q0 < d.next.length) (he : E d s (q0 : Int) t0 = []) : Sound d s (putBit ws (t0 * d.next.length + q0)) := by
  intro t q ht hq hb
  rcases putBit_on ws _ _ hb with e | e
  · obtain ⟨rfl, rfl⟩ := key_inj hq h0 e
    exact he
  · exact h t q ht hq e
theorem sound_none (d : Dfa) (s : ByteArray) (n : Nat) : Sound d s (List.replicate n 0) := by
  intro t q _ _ hb
  unfold bitOn at hb
  rw [List.getD_eq_getElem?_getD, List.getElem?_replicate] at hb
  split at hb <;> simp at hb

/-- the walk from a place on: at a place, in a state, behind the last one that accepts -/
structure Go (d : Dfa) (s : ByteArray) (fr t : Nat) (q z : Int) (si : List Int) : Prop where
  len : z + 1 + (si.length : Int) = (t : Int)
  lo : (fr : Int) - 1 ≤ z
  q1 : -1 ≤ q
  q2 : q < (d.next.length : Int)
  t1 : 0 ≤ q → t ≤ s.size
  t2 : t ≤ s.size + 1
  eq : lastOr (E d s 0 fr) ((fr : Int) - 1) = lastOr (E d s q t) z
  st : ∀ i (h : i < si.length), ∃ k : Nat, si[i] = (k : Int) ∧ k < d.next.length ∧ E d s (k : Int) ((z + 1 + (i : Int)).toNat) = E d s q t
theorem Go.start {d : Dfa} (h : Ok d) (s : ByteArray) (fr : Nat) (hf : fr ≤ s.size) : Go d s fr fr 0 ((fr : Int) - 1) [] :=
  ⟨by simp, Int.le_refl _, by omega, by have := h.one; omega, fun _ => hf, by omega, rfl, fun i hi => by simp at hi⟩
theorem Go.yes {d : Dfa} (hk : Ok d) {s : ByteArray} {fr t q : Nat} {z : Int} {si : List Int} (g : Go d s fr t (q : Int) z si) (ha : acpt d q = true) : Go d s fr (t + 1) (to' d s t q) (t : Int) [] := by
  have ht := g.t1 (by omega)
  have hq : q < d.next.length := by have := g.q2; omega
  obtain ⟨a, b⟩ := to_ok hk s t q hq
  refine ⟨by simp, by have := g.lo; have := g.len; omega, a, b, fun h => to_end d s t q h ht, by omega, ?_, fun i hi => by simp at hi⟩
  rw [g.eq, E_yes d s q t ht ha, lastOr_cons]
theorem Go.no {d : Dfa} (hk : Ok d) {s : ByteArray} {fr t q : Nat} {z : Int} {si : List Int} (g : Go d s fr t (q : Int) z si) (ha : acpt d q = false) : Go d s fr (t + 1) (to' d s t q) z (si ++ [(q : Int)]) := by
  have ht := g.t1 (by omega)
  have hq : q < d.next.length := by have := g.q2; omega
  obtain ⟨a, b⟩ := to_ok hk s t q hq
  have he := E_no d s q t ht ha
  have hl := g.len
  refine ⟨by rw [List.length_append]; simp; omega, g.lo, a, b, fun h => to_end d s t q h ht, by omega, by rw [g.eq, he], fun i hi => ?_⟩
  by_cases h : i < si.length
  · rw [List.getElem_append_left h, ← he]
    exact g.st i h
  · rw [List.length_append] at hi
    have e : i = si.length := by simp at hi; omega
    subst e
    refine ⟨q, by simp, hq, ?_⟩
    rw [hl, Int.toNat_natCast, he]
theorem Go.done {d : Dfa} {s : ByteArray} {fr t : Nat} {q z : Int} {si : List Int} (g : Go d s fr t q z si) (h : E d s q t = []) : lastOr (E d s 0 fr) ((fr : Int) - 1) = z ∧ ∀ i (h : i < si.length), ∃ k : Nat, si[i] = (k : Int) ∧ k < d.next.length ∧ E d s (k : Int) ((z + 1 + (i : Int)).toNat) = [] := by
  refine ⟨by rw [g.eq, h, lastOr_nil], fun i hi => ?_⟩
  obtain ⟨k, a, b, c⟩ := g.st i hi
  exact ⟨k, a, b, c.trans h⟩

/-! the pieces -/
theorem E_le (d : Dfa) (s : ByteArray) : ∀ f q t, t + f ≤ s.size → ∀ x ∈ ends d s f q t, x ≤ (s.size : Int)
  | 0, q, t, h, x, hx => by
    unfold ends at hx
    split at hx
    · simp at hx
    · have := df.here_mem d _ _ x hx; omega
  | f + 1, q, t, h, x, hx => by
    unfold ends at hx
    split at hx
    · simp at hx
    · rcases List.mem_append.1 hx with hx | hx
      · have := df.here_mem d _ _ x hx; omega
      · exact E_le d s f _ (t + 1) (by omega) x hx
theorem last_mem {l : List Int} {z : Int} : lastOr l z = z ∨ lastOr l z ∈ l := by
  unfold lastOr
  cases h : l.getLast? with
  | none => exact .inl rfl
  | some y => exact .inr (List.mem_of_getLast? h)
/-- where a piece ends that begins at a place -/
def stop (d : Dfa) (s : ByteArray) (t : Nat) : Nat := (max (lastOr (E d s 0 t) ((t : Int) - 1)) ((t : Int) + 1)).toNat
theorem stop_gt (d : Dfa) (s : ByteArray) (t : Nat) : t < stop d s t := by unfold stop; omega
theorem stop_eq (d : Dfa) (s : ByteArray) (t : Nat) : ((stop d s t : Nat) : Int) = max (lastOr (E d s 0 t) ((t : Int) - 1)) ((t : Int) + 1) := by unfold stop; omega
theorem stop_le (d : Dfa) (s : ByteArray) (t : Nat) (h : t < s.size) : stop d s t ≤ s.size := by
  have h1 : lastOr (E d s 0 t) ((t : Int) - 1) ≤ (s.size : Int) := by
    rcases last_mem (l := E d s 0 t) (z := (t : Int) - 1) with e | e
    · omega
    · exact E_le d s (s.size - t) 0 t (by omega) _ e
  unfold stop
  omega
/-- the places at which the pieces begin and end, from a place on -/
def pcs (d : Dfa) (s : ByteArray) : Nat → Nat → List (Nat × Nat)
  | 0, _ => []
  | f + 1, t => if t < s.size then (t, stop d s t) :: pcs d s f (stop d s t) else []
theorem pcs_more (d : Dfa) (s : ByteArray) : ∀ f t g, s.size ≤ t + f → s.size ≤ t + g → pcs d s f t = pcs d s g t
  | 0, t, 0, _, _ => rfl
  | 0, t, g + 1, h, _ => by simp [pcs]; omega
  | f + 1, t, 0, _, h => by simp [pcs]; omega
  | f + 1, t, g + 1, h1, h2 => by
    unfold pcs
    split
    · have := stop_gt d s t
      rw [pcs_more d s f (stop d s t) g (by omega) (by omega)]
    · rfl
def all (d : Dfa) (s : ByteArray) (t : Nat) : List (Nat × Nat) := pcs d s (s.size - t) t
theorem all_end (d : Dfa) (s : ByteArray) (t : Nat) (h : s.size ≤ t) : all d s t = [] := by
  unfold all
  rw [show s.size - t = 0 by omega]
  rfl
theorem all_more (d : Dfa) (s : ByteArray) (t : Nat) (h : t < s.size) : all d s t = (t, stop d s t) :: all d s (stop d s t) := by
  unfold all
  rw [show s.size - t = (s.size - t - 1) + 1 by omega, pcs, if_pos h]
  have := stop_gt d s t
  rw [pcs_more d s (s.size - t - 1) (stop d s t) (s.size - stop d s t) (by omega) (by omega)]
theorem all_len (d : Dfa) (s : ByteArray) : ∀ f t, s.size ≤ t + f → (all d s t).length ≤ f
  | 0, t, h => by rw [all_end d s t (by omega)]; simp
  | f + 1, t, h => by
    by_cases e : t < s.size
    · rw [all_more d s t e]
      have := stop_gt d s t
      have := all_len d s f (stop d s t) (by omega)
      simp; omega
    · rw [all_end d s t (by omega)]; simp
end Go.Proofs.Ytfilndgbgdnpiaa.pc

namespace Go.Proofs.Ytfilndgbgdnpiaa.df
open Go.RowKit
set_option linter.unusedVariables false

section
variable {ops : Array Oper} {S : World → Prop} {op : Oper} {a : Act} {Q : Exit → Act → World → Prop} {fuel : Nat} {listed : Array Bool} {w : World}
theorem yields_load (hw : Region.wanted op (yielded ops a.tmps) = true) (x : Operand) (ho : op.op = .load 51 x) (g : Nat) (hx : a.eval x = .pointer (some ⟨g, 0, none⟩)) (cs : Array Value) (hs : cs.size = 258) (hS : ∀ W, S W → DBox W g cs) : YieldsIf Try.prog ops S op (.agg cs) a :=
  .inl ⟨hw, fun w h => by
    unfold execOp
    simp only [ho, hx, Instr.loadAt, Instr.sureAddr, Sem.run_bind, Sem.run_pure, Result.andThen_ok, run_loadVar_row w g 51 51 cs (0, 0) _ (hS w h) Try.underlying51 rfl (info51 cs hs)]⟩
theorem yields_move (hw : Region.wanted op (yielded ops a.tmps) = true) (x : Operand) (ho : op.op = .move x) : YieldsIf Try.prog ops S op (a.eval x) a :=
  .inl ⟨hw, fun w h => by unfold execOp; rw [ho]; rfl⟩
theorem yields_assign (hw : Region.wanted op (yielded ops a.tmps) = true) (x : Operand) (ho : op.op = .assign x) : YieldsIf Try.prog ops S op (a.eval x) a :=
  .inl ⟨hw, fun w h => by unfold execOp; rw [ho]; rfl⟩
theorem take_op {i : Nat} (k : Nat) {v : Value} (hi : ops[i]? = some op) (hd : op.dst = some k) (hy : YieldsIf Try.prog ops S op v a) (hs : Region.noSelect ops = true) (hf : Region.free .any ops listed i = true) (hr : (Region.ready .any ops listed).contains i = true)
    (hQ : ∀ c a w, Q (.panic c) (a.put (some k) v) w → Q (.panic c) a w) (hS : S w)
    (h : wpAnyH Try.prog .any ops Q S fuel (listed.setIfInBounds i true) (a.put (some k) v) w) : wpAnyH Try.prog .any ops Q S (fuel + 1) listed a w :=
  wpAnyH_take hi hs hf hr (by rw [hd]; exact hQ) hy hS (by rw [hd]; exact h)
theorem call_op (i k : Nat) {f : FuncId} {args : Array Value} (hr : Region.ready .any ops listed = [i]) (ho : ops[i]? = some op) (hd : op.dst = some k) (hw : Region.wanted op (yielded ops a.tmps) = true) (hx : (execOp a.eval op).run Try.prog w = .ok (.enter f args) w)
    (hc : Calls Try.prog f args w fun e w' => ∃ v, e = .returned v ∧ S w' ∧ wpAnyH Try.prog .any ops Q S fuel (listed.setIfInBounds i true) (a.put (some k) v) w') : wpAnyH Try.prog .any ops Q S (fuel + 1) listed a w := by
  refine wpAnyH_all hr (by simp) (fun j hj => ?_)
  simp at hj
  subst hj
  unfold wpOp
  simp only [ho, hw, if_true]
  refine .inl ?_
  unfold Oper.wp
  rw [hx]
  simp only [Oper.upon]
  refine hc.mono ?_
  rintro e w' ⟨v, rfl, h1, h2⟩
  rw [hd]
  exact ⟨h1, h2⟩
theorem done_op (hr : Region.ready .any ops listed = []) (h : Q .normal a w) : wpAnyH Try.prog .any ops Q S fuel listed a w := wpAnyH_done hr h fuel
end
end Go.Proofs.Ytfilndgbgdnpiaa.df

namespace Go.Proofs.Ytfilndgbgdnpiaa.pc
open Go.ChangeShapes Go.WideShapes Go.ChangeAt Go.RowKit
open df (Dfa ends nxt acpt byteAt here Ok right width endsOf DAt DBox Row RowRow iv bv In Owns IntsV)
set_option linter.unusedVariables false
set_option maxRecDepth 10000

theorem bit_and (x m : Nat) (hx : x < 18446744073709551616) : (bits .and .u64 ((x : Int) / 2 ^ m) 1 == 1) = x.testBit m := by
  have h1 : ((x : Int) / 2 ^ m) = ((x / 2 ^ m : Nat) : Int) := by simp
  have h2 := u64_and_nat (x / 2 ^ m) 1 (Nat.lt_of_le_of_lt (Nat.div_le_self _ _) hx) (by omega)
  rw [h1, show ((1 : Nat) : Int) = (1 : Int) from rfl] at *
  rw [h2, Nat.and_one_is_mod, Nat.testBit_eq_decide_div_mod_eq]
  generalize x / 2 ^ m = y
  by_cases h : y % 2 = 1
  · rw [h]; rfl
  · have : y % 2 = 0 := by omega
    rw [this]; rfl
theorem bit_or (x m : Nat) (hx : x < 18446744073709551616) (hm : m < 64) : bits .or .u64 (x : Int) (IntKind.u64.wrap (2 ^ m)) = ((x ||| 2 ^ m : Nat) : Int) := by
  have hp : (2 : Nat) ^ m < 18446744073709551616 := Nat.lt_of_lt_of_le (Nat.pow_lt_pow_right (by omega) hm) (by decide)
  have h1 : IntKind.u64.wrap (2 ^ m) = ((2 ^ m : Nat) : Int) := by
    have e : ((2 : Int) ^ m) = ((2 ^ m : Nat) : Int) := by simp
    rw [e, IntKind.wrap_u64]
    generalize 2 ^ m = y at *
    omega
  rw [h1]
  exact u64_or_nat _ _ hx hp
theorem set_heap (w : World) (g : Nat) (cs : Array Value) (t : TypeId) (i : Nat) (v : Value) (h : w.heap[g]? = some (.cells cs t (0, 0))) : (w.setCell ⟨g, i, none⟩ v).heap[g]? = some (.cells (cs.setIfInBounds i v) t (0, 0)) := by
  show (w.heap.modify g _)[g]? = _
  rw [Array.getElem?_modify, if_pos rfl, h]
  rfl

structure WBox (W : World) (g : Nat) (cs : Array Value) (s : ByteArray) (vv vs : Value) : Prop where
  blk : W.heap[g]? = some (.cells (cs ++ #[.string s, vv, vs]) 144 (0, 0))
  sz : cs.size = 258
section
variable {P : Nat → Prop} {W W' w' : World} {g : Nat} {cs : Array Value} {s : ByteArray} {vv vs : Value} {d : Dfa} {o ao : Option Addr} {cap acap : Nat}
theorem WBox.lt (k : WBox W g cs s vv vs) : g < W.heap.size := (Array.getElem?_eq_some_iff.1 k.blk).1
theorem WBox.keep (k : WBox W g cs s vv vs) (e : W'.heap[g]? = W.heap[g]?) : WBox W' g cs s vv vs := ⟨e.trans k.blk, k.sz⟩
theorem WBox.fz (k : WBox W g cs s vv vs) (i : Nat) : W.frozen? ⟨g, i, none⟩ = false := Lib.frozen_of_heap k.blk i
theorem WBox.left (k : WBox W g cs s vv vs) (i : Nat) (hi : i < 258) : W.cell? ⟨g, i, none⟩ = cs[i]? := by
  rw [Lib.cell_of_heap k.blk, Array.getElem?_append_left (by rw [k.sz]; exact hi)]
theorem WBox.cl (k : WBox W g cs s vv vs) (h : DAt P w' d cs o cap ao acap) (i : Nat) (hi : i < 256) : W.cell? ⟨g, i, none⟩ = some (.int .u8 (d.cls i : Nat)) := by rw [k.left i (by omega)]; exact h.cl i hi
theorem WBox.nx (k : WBox W g cs s vv vs) (h : DAt P w' d cs o cap ao acap) : W.cell? ⟨g, 256, none⟩ = some (.slice o d.next.length cap) := by rw [k.left 256 (by omega)]; exact h.nx
theorem WBox.ac (k : WBox W g cs s vv vs) (h : DAt P w' d cs o cap ao acap) : W.cell? ⟨g, 257, none⟩ = some (.slice ao d.acc.length acap) := by rw [k.left 257 (by omega)]; exact h.ac
theorem WBox.right (k : WBox W g cs s vv vs) (i : Nat) : W.cell? ⟨g, 258 + i, none⟩ = #[Value.string s, vv, vs][i]? := by
  rw [Lib.cell_of_heap k.blk, Array.getElem?_append_right (by rw [k.sz]; omega), k.sz, Nat.add_sub_cancel_left]
theorem WBox.c258 (k : WBox W g cs s vv vs) : W.cell? ⟨g, 258, none⟩ = some (.string s) := k.right 0
theorem WBox.c259 (k : WBox W g cs s vv vs) : W.cell? ⟨g, 259, none⟩ = some vv := k.right 1
theorem WBox.c260 (k : WBox W g cs s vv vs) : W.cell? ⟨g, 260, none⟩ = some vs := k.right 2
theorem WBox.set (k : WBox W g cs s vv vs) (v : Value) : WBox (W.setCell ⟨g, 260, none⟩ v) g cs s vv v := by
  refine ⟨?_, k.sz⟩
  rw [set_heap _ _ _ _ 260 _ k.blk]
  congr 2
  rw [Array.setIfInBounds_append_right (by rw [k.sz]; omega), k.sz]
  rfl
end
def ucells (ws : List Nat) : Array Value := (ws.map fun x : Nat => Value.int .u64 (x : Int)).toArray
def URow (W : World) (g : Nat) (ws : List Nat) : Prop := W.heap[g]? = some (.cells (ucells ws) 22 (0, 0))
theorem URow.lt {W : World} {g : Nat} {ws : List Nat} (h : URow W g ws) : g < W.heap.size := (Array.getElem?_eq_some_iff.1 h).1
theorem URow.cell {W : World} {g : Nat} {ws : List Nat} (h : URow W g ws) (i : Nat) (hi : i < ws.length) : W.cell? ⟨g, i, none⟩ = some (.int .u64 ((ws.getD i 0 : Nat) : Int)) := by
  rw [Lib.cell_of_heap h, List.getD_eq_getElem?_getD, List.getElem?_eq_getElem hi]
  simp [ucells, hi]
theorem URow.fz {W : World} {g : Nat} {ws : List Nat} (h : URow W g ws) (i : Nat) : W.frozen? ⟨g, i, none⟩ = false := Lib.frozen_of_heap h i
theorem URow.put {W : World} {g : Nat} {ws : List Nat} (h : URow W g ws) (i x : Nat) : URow (W.setCell ⟨g, i, none⟩ (.int .u64 (x : Int))) g (ws.set i x) := by
  unfold URow
  rw [set_heap W g _ _ i _ h]
  congr 2
  simp [ucells]
set_option maxHeartbeats 1000000 in
theorem bit_any (W : World) (g t q N : Nat) (o : Option Addr) (cap : Nat) (hc : W.cell? ⟨g, 256, none⟩ = some (.slice o N cap)) (hN : N ≤ cap) (hcap : cap ≤ 9223372036854775807) (hb : t * N + q ≤ 100000000) : Calls Try.prog 93 #[.pointer (some ⟨g, 0, none⟩), .int .i64 (t : Int), .int .i64 (q : Int)] W fun e w' => e = .returned (.int .i64 ((t * N + q : Nat) : Int)) ∧ w' = W := by
  have h1 : IntKind.i64.wrap ((t : Int) * (N : Int)) = ((t * N : Nat) : Int) := by
    rw [← Int.natCast_mul]
    generalize t * N = m at *
    rw [IntKind.wrap_i64]; omega
  have h2 : IntKind.i64.wrap (((t * N : Nat) : Int) + (q : Int)) = ((t * N + q : Nat) : Int) := by
    generalize t * N = m at *
    rw [IntKind.wrap_i64]; omega
  go_enter Try.func93, Try.ntmps93
  go_wp2_with (fail)
  go_ret
  exact ⟨by show Ending.returned (.int .i64 ((t : Int) * (N : Int) + (q : Int))) = _; rw [Int.natCast_add, Int.natCast_mul], rfl⟩

/-- what a walk holds: its dfa, its text, its marks, its states since -/
structure Wk (X : Nat → Prop) (W : World) (B g vg : Nat) (d : Dfa) (s : ByteArray) (cs : Array Value) (o : Option Addr) (cap : Nat) (ao : Option Addr) (acap : Nat) (ws : List Nat) (vs : Value) (si : List Int) : Prop where
  box : WBox W g cs s (.slice (some ⟨vg, 0, none⟩) ws.length ws.length) vs
  dt : DAt X W d cs o cap ao acap
  vn : URow W vg ws
  sn : Owns W B vs si
  wl : ∀ x ∈ ws, x < 18446744073709551616
  bg : B ≤ g
  bv : B ≤ vg
  ap : ∀ k, X k → k < W.heap.size ∧ k ≠ g ∧ k ≠ vg ∧ some k ≠ vs.ownBlock
/-- what a walk changes: its own blocks alone -/
structure Ch (X : Nat → Prop) (B g vg : Nat) (vs vs' : Value) (W W' : World) : Prop where
  os : W'.os = W.os
  tape : W'.tape = W.tape
  output : W'.output = W.output
  size : W.heap.size ≤ W'.heap.size
  block : ∀ k, k < W.heap.size → k ≠ g → k ≠ vg → some k ≠ vs.ownBlock → W'.heap[k]? = W.heap[k]?
  own : ∀ k, vs'.ownBlock = some k → vs.ownBlock = some k ∨ W.heap.size ≤ k
section
variable {X : Nat → Prop} {W W' W'' : World} {B g vg : Nat} {d : Dfa} {s : ByteArray} {cs : Array Value} {o ao : Option Addr} {cap acap : Nat} {ws : List Nat} {vs vs' vs'' : Value} {si : List Int}
theorem Ch.refl (X : Nat → Prop) (B g vg : Nat) (vs : Value) (W : World) : Ch X B g vg vs vs W W := ⟨rfl, rfl, rfl, Nat.le_refl _, fun _ _ _ _ _ => rfl, fun _ e => .inl e⟩
theorem Ch.trans (h : Ch X B g vg vs vs' W W') (k : Ch X B g vg vs' vs'' W' W'') : Ch X B g vg vs vs'' W W'' :=
  ⟨k.os.trans h.os, k.tape.trans h.tape, k.output.trans h.output, Nat.le_trans h.size k.size, fun b h1 h2 h3 h4 => by
    rw [k.block b (Nat.lt_of_lt_of_le h1 h.size) h2 h3 (fun e => (h.own b e.symm).elim (fun e2 => h4 e2.symm) (fun e2 => by omega)), h.block b h1 h2 h3 h4],
   fun b e => by
    rcases k.own b e with e1 | e1
    · exact h.own b e1
    · exact .inr (Nat.le_trans h.size e1)⟩
theorem Ch.below (c : Below W.heap.size W W') : Ch X B g vg vs vs W W' := ⟨c.os, c.tape, c.output, c.size, fun k h _ _ _ => c.block k h, fun _ e => .inl e⟩
theorem Wk.ne (k : Wk X W B g vg d s cs o cap ao acap ws vs si) : g ≠ vg ∧ some g ≠ vs.ownBlock ∧ some vg ≠ vs.ownBlock := by
  have ht : ∀ {b : Nat} {cs : Array Value} {t : TypeId} {fr : Nat × Nat}, W.heap[b]? = some (.cells cs t fr) → t ≠ 3 → some b ≠ vs.ownBlock := by
    intro b cs t fr hb ht e
    rcases k.sn.2 with ⟨rfl, _⟩ | ⟨gg, cap, cur, rfl, _, hgg, _⟩
    · cases e
    · cases e
      rw [hb] at hgg
      cases hgg
      exact ht rfl
  refine ⟨fun e => ?_, ht k.box.blk (by decide), ht k.vn (by decide)⟩
  have h1 := k.box.blk
  rw [e, k.vn] at h1
  injection h1 with h1
  injection h1 with _ h1
  exact absurd h1 (by decide)
theorem owns_lt {v : Value} {l : List Int} (h : Owns W B v l) {k : Nat} (e : v.ownBlock = some k) : B ≤ k ∧ k < W.heap.size := by
  rcases h.2 with ⟨rfl, _⟩ | ⟨gg, cap, cur, rfl, hb, hgg, _⟩
  · cases e
  · cases e; exact ⟨hb, (Array.getElem?_eq_some_iff.1 hgg).1⟩
theorem owns_keep {v : Value} {l : List Int} (h : Owns W B v l) (hh : ∀ k, v.ownBlock = some k → W'.heap[k]? = W.heap[k]?) : Owns W' B v l := by
  refine ⟨h.1, ?_⟩
  rcases h.2 with h0 | ⟨g, cap, cur, rfl, hb, hg, hr⟩
  · exact .inl h0
  · exact .inr ⟨g, cap, cur, rfl, hb, (hh g rfl).trans hg, hr⟩
theorem Wk.later (k : Wk X W B g vg d s cs o cap ao acap ws vs si) (c : Below W.heap.size W W') : Wk X W' B g vg d s cs o cap ao acap ws vs si :=
  ⟨k.box.keep (c.block _ k.box.lt), k.dt.carry (fun b hb => c.block b (k.ap b hb).1) (fun _ h => h), (c.block _ k.vn.lt).trans k.vn, owns_keep k.sn (fun b e => c.block b (owns_lt k.sn e).2), k.wl, k.bg, k.bv, fun b hb => ⟨Nat.lt_of_lt_of_le (k.ap b hb).1 c.size, (k.ap b hb).2⟩⟩
/-- a mark is put -/
theorem Wk.mark (k : Wk X W B g vg d s cs o cap ao acap ws vs si) (b : Nat) : Wk X (W.setCell ⟨vg, b / 64, none⟩ (.int .u64 ((ws.getD (b / 64) 0 ||| 2 ^ (b % 64) : Nat) : Int))) B g vg d s cs o cap ao acap (putBit ws b) vs si ∧ Ch X B g vg vs vs W (W.setCell ⟨vg, b / 64, none⟩ (.int .u64 ((ws.getD (b / 64) 0 ||| 2 ^ (b % 64) : Nat) : Int))) := by
  have hh : ∀ j, j ≠ vg → (W.setCell ⟨vg, b / 64, none⟩ (.int .u64 ((ws.getD (b / 64) 0 ||| 2 ^ (b % 64) : Nat) : Int))).heap[j]? = W.heap[j]? := fun j hj => Below.heap_setCell _ _ _ j hj
  obtain ⟨n1, n2, n3⟩ := k.ne
  refine ⟨⟨?_, k.dt.carry (fun j hj => hh j (k.ap j hj).2.2.1) (fun _ h => h), k.vn.put _ _, owns_keep k.sn (fun j e => hh j (fun e2 => n3 (by rw [← e2]; exact e.symm))), putBit_lt ws b k.wl, k.bg, k.bv, fun j hj => ⟨by simpa using (k.ap j hj).1, (k.ap j hj).2⟩⟩, rfl, rfl, rfl, by simp, fun j _ _ h3 _ => hh j h3, fun _ e => .inl e⟩
  rw [putBit_len]
  exact k.box.keep (hh g n1)
/-- the states since are set -/
theorem Wk.since (k : Wk X W B g vg d s cs o cap ao acap ws vs si) {si' : List Int} (ho : Owns W' B vs' si') (hg : W.grownBy W' vs.ownBlock) (hn : ∀ j, vs'.ownBlock = some j → vs.ownBlock = some j ∨ W.heap.size ≤ j) :
    WBox W' g cs s (.slice (some ⟨vg, 0, none⟩) ws.length ws.length) vs ∧ Wk X (W'.setCell ⟨g, 260, none⟩ vs') B g vg d s cs o cap ao acap ws vs' si' ∧ Ch X B g vg vs vs' W (W'.setCell ⟨g, 260, none⟩ vs') := by
  obtain ⟨n1, n2, n3⟩ := k.ne
  have hh : ∀ j, j ≠ g → (W'.setCell ⟨g, 260, none⟩ vs').heap[j]? = W'.heap[j]? := fun j hj => Below.heap_setCell _ _ _ j hj
  have b1 := k.box.keep (hg.block g k.box.lt n2)
  have hX : ∀ j, X j → (W'.setCell ⟨g, 260, none⟩ vs').heap[j]? = W.heap[j]? := fun j hj => by
    obtain ⟨a1, a2, a3, a4⟩ := k.ap j hj
    rw [hh j a2, hg.block j a1 a4]
  have ng : some g ≠ vs'.ownBlock := fun e => by
    rcases ho.2 with ⟨rfl, _⟩ | ⟨gg, cap, cur, rfl, _, hgg, _⟩
    · cases e
    · cases e
      rw [b1.blk] at hgg
      injection hgg with hgg
      injection hgg with _ hgg
      exact absurd hgg (by decide)
  refine ⟨b1, ⟨b1.set vs', k.dt.carry hX (fun _ h => h), (hh vg (Ne.symm n1)).trans ((hg.block vg k.vn.lt n3).trans k.vn), owns_keep ho (fun j e => hh j (fun e2 => ng (by rw [← e2]; exact e.symm))), k.wl, k.bg, k.bv, fun j hj => ?_⟩, hg.os, hg.tape, hg.output, by have := hg.size; simpa using this, fun j h1 h2 h3 h4 => by rw [hh j h2, hg.block j h1 h4], hn⟩
  obtain ⟨a1, a2, a3, a4⟩ := k.ap j hj
  refine ⟨by have := hg.size; simp; omega, a2, a3, fun e => ?_⟩
  rcases hn j e.symm with e2 | e2
  · exact a4 e2.symm
  · omega
end

section
variable {X : Nat → Prop} {W : World} {B g vg : Nat} {d : Dfa} {s : ByteArray} {cs : Array Value} {o ao : Option Addr} {cap acap : Nat} {ws : List Nat} {vs : Value} {si : List Int}
set_option maxHeartbeats 1000000 in
theorem vain_any (k : Wk X W B g vg d s cs o cap ao acap ws vs si) (t q b : Nat) (hb : b = t * d.next.length + q) (h8 : b ≤ 100000000) (hlt : b / 64 < ws.length) (hws : ws.length ≤ 100000000) (r : Bool) (hr : r = bitOn ws b) : Calls Try.prog 86 #[.pointer (some ⟨g, 0, none⟩), .int .i64 (t : Int), .int .i64 (q : Int)] W fun e w' => e = .returned (.bool r) ∧ w' = W := by
  have h84 : Calls Try.prog 93 #[.pointer (some ⟨g, 0, none⟩), .int .i64 (t : Int), .int .i64 (q : Int)] W fun e w' => e = .returned (.int .i64 (b : Int)) ∧ w' = W := by rw [hb]; exact bit_any W g t q d.next.length o cap (k.box.nx k.dt) k.dt.rows.fit k.dt.rows.top (by omega)
  obtain ⟨m, hm⟩ : ∃ m, m = b / 64 := ⟨_, rfl⟩
  obtain ⟨j, hj⟩ : ∃ j, j = b % 64 := ⟨_, rfl⟩
  have e2 : ((b : Int) / 64) = (m : Int) := by omega
  have e3 : ((b : Int) % 64) = (j : Int) := by omega
  have c259 := k.box.c259
  have hc := k.vn.cell m (by omega)
  have hy : ws.getD m 0 < 18446744073709551616 := by
    rw [List.getD_eq_getElem?_getD, List.getElem?_eq_getElem (by omega)]
    exact k.wl _ (List.getElem_mem _)
  have HB : Hid ((bits BinOp.and IntKind.u64 (((ws.getD m 0 : Nat) : Int) / 2 ^ j) 1 == 1) = r) := by show _ = _; rw [hr, bit_and _ j hy, hm, hj]; rfl
  have hml : m < ws.length := by omega
  have hj64 : j < 64 := by omega
  clear k hb hr hm hj hlt hy
  generalize ws.getD m 0 = y at *
  go_enter Try.func86, Try.ntmps86
  go_wp2_with (go_at_call 93; refine h84.mono ?_; rintro e w1 ⟨rfl, hw⟩; obtain rfl := hw.symm)
  go_ret
  exact ⟨by rw [← HB.out]; rfl, rfl⟩
set_option maxHeartbeats 1000000 in
theorem mark_any (k : Wk X W B g vg d s cs o cap ao acap ws vs si) (t q b : Nat) (hb : b = t * d.next.length + q) (h8 : b ≤ 100000000) (hlt : b / 64 < ws.length) (hws : ws.length ≤ 100000000) : Calls Try.prog 88 #[.pointer (some ⟨g, 0, none⟩), .int .i64 (t : Int), .int .i64 (q : Int)] W fun e w' => (∃ v, e = .returned v) ∧ Wk X w' B g vg d s cs o cap ao acap (putBit ws b) vs si ∧ Ch X B g vg vs vs W w' := by
  have h84 : Calls Try.prog 93 #[.pointer (some ⟨g, 0, none⟩), .int .i64 (t : Int), .int .i64 (q : Int)] W fun e w' => e = .returned (.int .i64 (b : Int)) ∧ w' = W := by rw [hb]; exact bit_any W g t q d.next.length o cap (k.box.nx k.dt) k.dt.rows.fit k.dt.rows.top (by omega)
  obtain ⟨q1, q2⟩ := k.mark b
  have HF := (show Hid (Wk X (W.setCell ⟨vg, b / 64, none⟩ (.int .u64 ((ws.getD (b / 64) 0 ||| 2 ^ (b % 64) : Nat) : Int))).drew B g vg d s cs o cap ao acap (putBit ws b) vs si ∧ Ch X B g vg vs vs W (W.setCell ⟨vg, b / 64, none⟩ (.int .u64 ((ws.getD (b / 64) 0 ||| 2 ^ (b % 64) : Nat) : Int))).drew) from ⟨q1.later (Below.drew (Below.refl _ _)), q2.trans (Ch.below (Below.drew (Below.refl _ _)))⟩)
  obtain ⟨m, hm⟩ : ∃ m, m = b / 64 := ⟨_, rfl⟩
  obtain ⟨j, hj⟩ : ∃ j, j = b % 64 := ⟨_, rfl⟩
  have e2 : ((b : Int) / 64) = (m : Int) := by omega
  have e3 : ((b : Int) % 64) = (j : Int) := by omega
  have c259 := k.box.c259
  have hc := k.vn.cell m (by omega)
  have hz := k.vn.fz m
  have hy : ws.getD m 0 < 18446744073709551616 := by
    rw [List.getD_eq_getElem?_getD, List.getElem?_eq_getElem (by omega)]
    exact k.wl _ (List.getElem_mem _)
  have e4 := bit_or (ws.getD m 0) j hy (by omega)
  have hml : m < ws.length := by omega
  rw [← hm, ← hj] at HF
  have hj64 : j < 64 := by omega
  clear k hb hm hj hlt hy q1 q2
  generalize ws.getD m 0 = y at *
  go_enter Try.func88, Try.ntmps88
  go_wp2_with (go_at_call 93; refine h84.mono ?_; rintro e w1 ⟨rfl, hw⟩; obtain rfl := hw.symm)
  go_region
  all_goals go_wp2
  all_goals go_end0
  all_goals exact ⟨⟨_, rfl⟩, HF.out⟩
end
end Go.Proofs.Ytfilndgbgdnpiaa.pc
