/-
  Contracts over this program: trie.walk, trie.Find.
-/
import Derived.Test.YtbappfbojehkeaaYd
import Derived.Maps.AppendAt
import Derived.Laws.OwnMore
namespace Go.Proofs.Ytbappfbojehkeaa.ti
open Go.RowKit Go.Shelf Go.Sort
set_option linter.unusedVariables false
attribute [local go_sem] Oper.semAt_some

def fullOf (t : Tr) (s : ByteArray) : List (Nat × Nat) := if right t = true then prs t (byte s) s.size 0 0 else []
def roomOf (t : Tr) (s : ByteArray) : Nat := if right t = true then s.size + 1 else 0
def cl (m n : Nat) (x : Nat × Nat) : Nat × Nat := (kl m x.1, kl n x.2)
theorem fullOf_cl (t : Tr) (s : ByteArray) : (fullOf t s).map (cl (s.size + 1) t.word.length) = fullOf t s := by
  unfold fullOf
  split
  · rename_i hr
    obtain ⟨g1, g2, g3, g4⟩ := (right_iff t).1 hr
    refine (List.map_congr_left fun x hx => ?_).trans (List.map_id _)
    have := prs_lt (byte s) s.size 0 0 (by omega) x hx
    unfold cl
    rw [kl_lt (by omega), kl_lt (by omega)]
    rfl
  · rfl
set_option maxHeartbeats 1000000 in
theorem walk_in (t : Tr) (p : Tp) (s : ByteArray) (w : World) :
    Calls Try.prog 17 #[.agg (tv t p), .string s] w fun e w' => e = .returned (.func (.func 25) #[] #[.pointer (some ⟨w.heap.size, 0, none⟩), .pointer (some ⟨w.heap.size + 1, 0, none⟩)]) ∧
      w' = (w.alloc (.cells (tv t p) 24)).alloc (.cells #[.string s] 9) := by
  go_enter Try.func17, Try.ntmps17
  go_wp2
  go_ret
  exact ⟨rfl, rfl⟩
theorem walk_stops (P : Nat → Prop) (gd gs : Nat) (t : Tr) (p : Tp) (s : ByteArray) (hs : s.size ≤ 1000000)
    (w : World) (hM : Mem P w t p s gd gs) :
    SeqStopsK Fence.wide 5 Try.prog 25 #[.pointer (some ⟨gd, 0, none⟩), .pointer (some ⟨gs, 0, none⟩)] (ev (s.size + 1) t.word.length) (Kp P) (fun ys => ys = fullOf t s) (fun pre => pre <+: fullOf t s) (roomOf t s) w := fun l J Jx W hW hJ hJx hY h0 => by
  have hM2 := hM.carry (Kp.below hW hW.size hM.lt)
  unfold fullOf
  cases h : right t with
  | true =>
    rw [if_pos rfl]
    exact walk1_yes P l gd gs t p s J Jx h hs (fun pre x W1 h1 h2 => hY pre x W1 h1 (by unfold roomOf; rw [if_pos h]; exact h2)) W hM2 hJ h0
  | false =>
    rw [if_neg (by decide)]
    exact walk1_no P l gd gs t p s J Jx h W hM2 hJ h0
theorem walk_mem (Q : Nat → Prop) {t : Tr} {p : Tp} {w1 : World} (s : ByteArray) (D1 : TAt (fun b => In w1 b ∧ Q b) w1 t p) :
    Mem (fun b => (b < w1.heap.size ∧ Q b) ∨ (w1.heap.size ≤ b ∧ b < w1.heap.size + 1 + 1)) ((w1.alloc (.cells (tv t p) 24)).alloc (.cells #[.string s] 9)) t p s w1.heap.size (w1.heap.size + 1) ∧
    Below w1.heap.size w1 ((w1.alloc (.cells (tv t p) 24)).alloc (.cells #[.string s] 9)) := by
  have X1 := box_new w1 t p
  have Y1 := Boxed.new (w1.alloc (.cells (tv t p) 24)) 9 (.string s)
  have HB3 : Below w1.heap.size w1 ((w1.alloc (.cells (tv t p) 24)).alloc (.cells #[.string s] 9)) := ((Below.refl _ w1).alloc (Nat.le_refl _) _).alloc (by simp) _
  simp only [World.size_alloc] at Y1
  refine ⟨⟨D1.carry (fun b hb => HB3.block b hb.1) (fun b hb => .inl hb), (Below.heap_alloc _ _ _ (by simp)).trans X1, Y1, .inr (by omega), .inr (by omega), fun b hb => ?_⟩, HB3⟩
  simp only [World.size_alloc]
  rcases hb with h | h <;> omega

set_option maxRecDepth 100000 in
set_option maxHeartbeats 2000000 in
theorem find_in (t : Tr) (s : ByteArray) (hs : s.size ≤ 1000000) (p : Tp) (w : World) (hD : TAt (In w) w t p) (r : Int) (hrr : r = max (lastAt t s.size (fullOf t s)) (-1)) :
    CallsIn Fence.wide 6 Try.prog 11 #[.agg (tv t p), .string s] w fun e W' => e = .returned (.int .i64 r) ∧ Below w.heap.size w W' := by
  have HRR : Hid (r = max (lastAt t s.size (fullOf t s)) (-1)) := hrr
  clear hrr
  obtain ⟨wA, hwA⟩ : ∃ wA, wA = (w.alloc (.cells (tv t p) 24)).alloc (.cells #[.string s] 9) := ⟨_, rfl⟩
  obtain ⟨M0, HA⟩ := walk_mem (fun _ => True) s (hD.carry (fun _ _ => rfl) (fun b hb => ⟨hb, trivial⟩))
  rw [← hwA] at M0 HA
  have hsA : wA.heap.size = w.heap.size + 1 + 1 := by rw [hwA]; simp
  obtain ⟨wB, hwB⟩ : ∃ wB, wB = wA.alloc (.cells #[.int .i64 (-1)] 3) := ⟨_, rfl⟩
  have HAB : Below wA.heap.size wA wB := by rw [hwB]; exact below_alloc _ _
  have hsB : wB.heap.size = w.heap.size + 1 + 1 + 1 := by rw [hwB]; simp [hsA]
  have bL : Boxed wB (w.heap.size + 1 + 1) 3 (.int .i64 (-1)) := by rw [hwB, ← hsA]; exact Boxed.new _ _ _
  have bT : Box wB w.heap.size t p := M0.bx.later HAB
  have bS : Boxed wB (w.heap.size + 1) 9 (.string s) := (HAB.block _ (by omega)).trans M0.sx
  have kS := bS.cell
  have h17 := fun w => walk_in t p s w
  have HAX : Hid (∀ W, Below wA.heap.size wA W → Box W w.heap.size t p ∧ Boxed W (w.heap.size + 1) 9 (.string s) ∧ TAt (In wA) W t p) := fun W b => ⟨M0.bx.later b, (b.block _ (by omega)).trans M0.sx, M0.in.carry (fun k hk => b.block k hk) (fun _ => id)⟩
  refine callsIn_of_wp_marks Try.func11 rfl trivial ?_ rfl
  simp only [Try.ntmps11, List.size_toArray, List.length_cons, List.length_nil, Nat.reduceAdd, Nat.reduceSub, Array.replicate_succ, Array.replicate_zero, List.push_toArray, List.append_toArray, List.nil_append, List.cons_append]
  gi_wp2
  refine ⟨trivial, ?_⟩
  rw [← hwA, ← hwB]
  refine (callsIn_wide.2 (h17 _)).mono ?_
  rintro e w2 ⟨rfl, rfl⟩
  obtain ⟨M, B⟩ := walk_mem (fun b => b ≠ w.heap.size + 1 + 1) s (hD.carry (w' := wB) (Q := fun b => In wB b ∧ b ≠ w.heap.size + 1 + 1) (fun b hb => (chain HA HAB).block b hb) (fun b hb => ⟨Nat.lt_of_lt_of_le hb (chain HA HAB).size, by unfold In at hb; omega⟩))
  obtain ⟨wC, hwC⟩ : ∃ wC, wC = (wB.alloc (.cells (tv t p) 24)).alloc (.cells #[.string s] 9) := ⟨_, rfl⟩
  have hsC : wC.heap.size = wB.heap.size + 1 + 1 := by rw [hwC]; simp
  rw [← hwC] at M B ⊢
  have hst := walk_stops _ _ _ t p s hs _ M
  have HS : Hid (wA.heap.size = w.heap.size + 1 + 1 ∧ wB.heap.size = w.heap.size + 1 + 1 + 1 ∧ wC.heap.size = wB.heap.size + 1 + 1) := ⟨hsA, hsB, hsC⟩
  clear M0 h17 kS bT bS hwA hwB hwC hsA hsB hsC
  gi_wp2
  refine wpIn_rangeFunc_ownG rfl (by omega) (gf := 25) (lb := #[.pointer (some ⟨wB.heap.size, 0, none⟩), .pointer (some ⟨wB.heap.size + 1, 0, none⟩)]) rfl trivial (enters_of Try.func25 (by kernel_rfl) rfl)
    hst (fun h k => h.trans k) (Kp.book (fun b hb => by have := HS.out; omega)) (Below.refl _ _) (fun _ => rfl)
    (fun pre W => Boxed W (w.heap.size + 1 + 1) 3 (.int .i64 (lastAt t s.size (pre.map (cl (s.size + 1) t.word.length)))) ∧ Below wA.heap.size wA W)
    (fun _ _ _ => False)
    (OwnFrom.and (Own.from (boxed_own _ _ (fun pre : List (Nat × Nat) => Value.int .i64 (lastAt t s.size (pre.map (cl (s.size + 1) t.word.length))))) _) (ownFrom_below (Nat.le_refl _) (by have := HS.out; omega)))
    (fun _ _ _ _ _ hs _ _ => hs)
    ⟨(B.block _ (by have := HS.out; omega)).trans bL, chain HAB B⟩
    (fun x => { tmps := #[.agg (tv t p), .string s, .pointer (some ⟨w.heap.size, 0, none⟩), .pointer (some ⟨w.heap.size + 1, 0, none⟩), .int .i64 0, .pointer (some ⟨w.heap.size + 1 + 1, 0, none⟩), .int .i64 (kl (s.size + 1) x.1 : Int), .int .i64 (kl t.word.length x.2 : Int), .agg (tv t p), .string s, .func (.func 25) #[] #[.pointer (some ⟨wB.heap.size, 0, none⟩), .pointer (some ⟨wB.heap.size + 1, 0, none⟩)], .int .i64 (kl (s.size + 1) x.1 : Int), .int .i64 (kl t.word.length x.2 : Int), undef, undef, undef, undef, undef, undef, undef, undef, undef, undef, undef], defers := [] }) ?assign ?body ?done ?stop
  case assign =>
    intro l x W K hK
    gi_wp2
    exact hK
  case body =>
    rintro l pre ⟨e, q⟩ W ⟨hv, hB⟩ hlt
    have hr : right t = true := by
      unfold roomOf at hlt
      by_cases h : right t = true
      · exact h
      · rw [if_neg h] at hlt; omega
    obtain ⟨g1, g2, g3, g4⟩ := (right_iff t).1 hr
    obtain ⟨kT, kS, kA⟩ := HAX.out W hB
    have HSN : Hid (∀ z : Nat × Nat, lastAt t s.size ((pre ++ [z]).map (cl (s.size + 1) t.word.length)) = if (cl (s.size + 1) t.word.length z).1 = s.size then t.word.getD (cl (s.size + 1) t.word.length z).2 0 else lastAt t s.size (pre.map (cl (s.size + 1) t.word.length))) := fun z => by rw [List.map_append, List.map_cons, List.map_nil, lastAt_snoc]
    have hc := hv.cell
    have hf := hv.frozen
    have ks := kS.cell
    have kt := kT.c2
    have HN : Hid (lastAt t s.size ((pre ++ [(e, q)]).map (cl (s.size + 1) t.word.length)) = if kl (s.size + 1) e = s.size then t.word.getD (kl t.word.length q) 0 else lastAt t s.size (pre.map (cl (s.size + 1) t.word.length))) := HSN.out (e, q)
    have hql := kl_in (show 0 < t.word.length by omega) q
    have f1 := kA.rw.fit
    have f2 := kA.rw.top
    obtain ⟨bb, off, ho, hbb, hcw⟩ := kA.rw.at hql
    have hi := getD_I64 kA.dw (kl t.word.length q)
    rw [ho] at kt
    generalize lastAt t s.size (pre.map (cl (s.size + 1) t.word.length)) = z0 at hv hc HN
    generalize t.word.getD (kl t.word.length q) 0 = z2 at *
    have hel := kl_in (show 0 < s.size + 1 by omega) e
    generalize kl (s.size + 1) e = e' at *
    clear HSN kA kT kS g3 g4
    by_cases he : e' = s.size
    · have e1 : Hid (lastAt t s.size ((pre ++ [(e, q)]).map (cl (s.size + 1) t.word.length)) = z2) := by show _ = _; rw [HN.out, if_pos he]
      have e2 : ((e' : Int) == (s.size : Int)) = true := beq_iff_eq.2 (by omega)
      clear HN he
      gi_wp2
      exact ⟨(KeepsOthers.setCell _ _ _).from _, ⟨by simp, fun b hb => Below.heap_setCell _ _ _ b (fun e => by simp at e; have := HS.out; omega)⟩, by rw [e1.out]; exact hv.set _, hB.setCell (p := ⟨w.heap.size + 1 + 1, 0, none⟩) (by have := HS.out; simp; omega) _⟩
    · have e1 : Hid (lastAt t s.size ((pre ++ [(e, q)]).map (cl (s.size + 1) t.word.length)) = z0) := by show _ = _; rw [HN.out, if_neg he]
      have e2 : ((e' : Int) == (s.size : Int)) = false := beq_eq_false_iff_ne.2 (by omega)
      clear HN
      gi_wp2
      exact ⟨(KeepsOthers.refl _).from _, ⟨Nat.le_refl _, fun b hb => rfl⟩, by rw [e1.out]; exact hv, hB⟩
  case done =>
    rintro D ys W hD2 rfl ⟨hv, hB⟩ hK
    have hc := hv.cell
    rw [fullOf_cl] at hc
    have HE : Hid (Below w.heap.size w (W.putObj D (.deferred none))) := (chain HA hB).trans (belowK_b (w := w) (Nat.le_refl _) W D _ _ (by have := HS.out; omega) hK rfl rfl)
    clear hv
    have HR2 := HRR.out
    generalize lastAt t s.size (fullOf t s) = z at hc HR2
    rcases Int.lt_or_le z (-1) with hz | hz
    · obtain rfl : r = -1 := by omega
      clear HR2
      gi_wp2
      refine ⟨by simp, .inl ⟨_, _, rfl, run_takeDeferred hK, ?_⟩⟩
      exact ⟨_, results_tmp rfl _ _ _, rfl, HE.out⟩
    · obtain rfl : r = z := by omega
      clear HR2
      gi_wp2
      refine ⟨by simp, .inl ⟨_, _, rfl, run_takeDeferred hK, ?_⟩⟩
      exact ⟨_, results_tmp rfl _ _ _, rfl, HE.out⟩
  case stop =>
    rintro D c pre W _ _ h _
    exact h.elim
theorem find_any (t : Tr) (s : ByteArray) (hs : s.size ≤ 1000000) (r : Int) (hr : r = if right t = true then num t (byte s) s.size 0 0 else -1) (p : Tp) (w : World) (hD : TAt (In w) w t p) :
    Calls Try.prog 11 #[.agg (tv t p), .string s] w fun e W' => e = .returned (.int .i64 r) ∧ Below w.heap.size w W' := by
  refine callsIn_wide.1 (find_in t s hs p w hD r ?_)
  rw [hr]
  unfold fullOf
  split
  · exact (lastAt_all t (byte s) s.size 0).symm
  · rfl
end Go.Proofs.Ytbappfbojehkeaa.ti
