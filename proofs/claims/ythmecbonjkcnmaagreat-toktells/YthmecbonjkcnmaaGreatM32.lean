/-
  Texts put together: Plain mathematics: what the ids of a text write is its normal text. Contracts over this program: the law TokLoses.
-/
import Derived.Test.YthmecbonjkcnmaaGreatKKp
import Derived.Test.YthmecbonjkcnmaaGreatM31
namespace Go.Proofs.YthmecbonjkcnmaaGreat.tk
open Go.ChangeShapes Go.WideShapes Go.ChangeAt Go.RowKit
open cf (Cf Cp cv CfAt CBox cfE cbox_new)
open mg (Row In app idsOf Mgs IntsV cat atI textsOf AllIn InR Fine oneB)
open nb (built)
set_option linter.unusedVariables false
set_option maxRecDepth 100000

theorem rest_ok {c : Cf} (h : cfE c = 0) : cf.NamesOk c.ns ∧ cf.FrameOk c.bf c.ns.length ∧ cf.FrameOk c.af c.ns.length := by
  obtain ⟨h1, h2, h3, h4⟩ := split_ok h
  rw [cf.cfE_eq] at h
  have g1 : cf.passE c.ps = 0 := by
    by_cases e : cf.passE c.ps = 0
    · exact e
    · rw [if_pos e] at h; exact absurd h e
  rw [if_neg (by simp [g1])] at h
  have g2 : cf.splitE c.t = 0 := by
    by_cases e : cf.splitE c.t = 0
    · exact e
    · rw [if_pos e] at h; exact absurd h e
  rw [if_neg (by simp [g2]), if_neg (by simp [h4])] at h
  unfold cf.rest at h
  split at h
  · rename_i hl; exact hl
  · cases h
theorem cat_append (ts : List ByteArray) (a b : List Int) : cat ts (a ++ b) = cat ts a ++ cat ts b := by simp [cat]
theorem cat_tsF {c : Cf} (h : cfE c = 0) (ids : List Int) (hin : AllIn (256 + c.ms.length) ids) : cat (tw.tsF c) ids = cat (textsOf c.ms) ids := by
  have F := mg.fine (split_ok h).2.2.2
  induction ids with
  | nil => rfl
  | cons x l ih =>
    have hx := hin x (by simp)
    have h1 : atI (tw.tsF c) x = atI (textsOf c.ms) x := mg.atI_left _ _ _ (by rw [F.len]; obtain ⟨a, b⟩ := hx; omega)
    have h2 := ih fun y hy => hin y (by simp [hy])
    show (atI (tw.tsF c) x).data.toList ++ cat (tw.tsF c) l = (atI (textsOf c.ms) x).data.toList ++ cat (textsOf c.ms) l
    rw [h1, h2]
theorem cat_bytes {l : List mg.Mg} {ts : List ByteArray} (F : Fine l ts) : ∀ bs : List UInt8, cat ts (bs.map fun b => (b.toNat : Int)) = bs
  | [] => rfl
  | b :: bs => by
    have h1 : atI ts (b.toNat : Int) = oneB b.toNat := by
      unfold atI
      rw [List.getD_eq_getElem?_getD, Int.toNat_natCast, F.low _ b.toNat_lt]
      rfl
    show (atI ts (b.toNat : Int)).data.toList ++ cat ts (bs.map fun b => (b.toNat : Int)) = b :: bs
    rw [h1, cat_bytes F bs]
    simp [oneB]
theorem cat_names {c : Cf} (h : cfE c = 0) : ∀ l : List Int, (∀ x ∈ l, 0 ≤ x ∧ x < (c.ns.length : Int)) → cat (tw.tsF c) (nameIds c l) = []
  | [], _ => rfl
  | x :: l, hl => by
    have hx := hl x (by simp)
    have F := mg.fine (split_ok h).2.2.2
    have h1 : atI (tw.tsF c) (256 + (c.ms.length : Int) + x) = tw.e0 := by
      unfold atI tw.tsF
      rw [List.getD_eq_getElem?_getD, List.getElem?_append_right (by rw [F.len]; omega), List.getElem?_replicate, if_pos (by rw [F.len]; omega)]
      rfl
    show (atI (tw.tsF c) (256 + (c.ms.length : Int) + x)).data.toList ++ cat (tw.tsF c) (nameIds c l) = []
    rw [h1, cat_names h l fun y hy => hl y (by simp [hy])]
    rfl
theorem extract_list (s : ByteArray) (a b : Nat) : (s.extract a b).data.toList = (s.data.toList.drop a).take (b - a) := by
  show ((s.extract a b).data).toList = _
  rw [ByteArray.data_extract, Array.toList_extract, List.extract_eq_take_drop]
theorem mids_cat {c : Cf} (h : cfE c = 0) {es : List nf.Ed} {s : ByteArray} {fr : Nat} {ids : List Int} (m : Mids es s c.ms fr ids) : cat (tw.tsF c) ids = s.data.toList.drop fr ∧ AllIn (256 + c.ms.length) ids := by
  have F := mg.fine (split_ok h).2.2.2
  induction m with
  | done =>
    refine ⟨?_, fun x hx => by simp at hx⟩
    rw [List.drop_of_length_le (by cases s; exact Nat.le_refl _)]
    rfl
  | @more fr to ids h1 h2 h3 h4 ih =>
    have hin : AllIn (256 + c.ms.length) (app c.ms (idsOf (s.extract fr to))) := mg.app_in _ _ (mg.idsOf_in _ _ (by omega))
    refine ⟨?_, fun x hx => (List.mem_append.1 hx).elim (hin x) (ih.2 x)⟩
    rw [cat_append, cat_tsF h _ hin, mg.cat_app F, ih.1]
    unfold idsOf
    rw [cat_bytes F, extract_list]
    have e : s.data.toList.drop to = (s.data.toList.drop fr).drop (to - fr) := by rw [List.drop_drop]; congr 1; omega
    rw [e, List.take_append_drop]
theorem nrm_le : ∀ {ps : List (List ru.Ru)} {t : ByteArray}, Fit ps t → (∀ p ∈ ps, ru.Good p) → (nrm ps t).size ≤ cf.grs 1 ps * t.size
  | [], t, _, _ => by show t.size ≤ 1 * t.size; omega
  | p :: ps, t, h, hg => by
    have h1 : cf.grs 1 (p :: ps) = ru.growN 1 p * cf.grs 1 ps := by
      show cf.grs (1 * ru.growN 1 p) ps = _
      rw [grs_mul, Nat.one_mul]
    have h2 := nrm_le (h.step (hg p (by simp))) fun q hq => hg q (by simp [hq])
    have h3 := apT_size (hg p (by simp)) t h.small
    refine Nat.le_trans h2 (Nat.le_trans (Nat.mul_le_mul_left _ h3) (Nat.le_of_eq ?_))
    rw [h1, ← Nat.mul_assoc, Nat.mul_comm (cf.grs 1 ps)]
theorem nrm_few {c : Cf} (h : cfE c = 0) {s : ByteArray} (hs : s.size ≤ 60) : (nrm c.ps s).size ≤ 1920 := by
  have h1 := nrm_le (fit_of h (Nat.le_trans hs (by decide))) (passes_ok h).2.1
  exact Nat.le_trans h1 (Nat.le_trans (Nat.mul_le_mul (passes_ok h).2.2 hs) (by decide))
/-- nothing is lost -/
theorem loses {c : Cf} (h : cfE c = 0) {s : ByteArray} (hs : s.size ≤ 60) {mid : List Int} (m : Mids (built c.t).es (nrm c.ps s) c.ms 0 mid) (hm : mid.length ≤ (nrm c.ps s).size) {r : Nat} {t : ByteArray} (ht : tw.Txt c (nameIds c c.bf ++ mid ++ nameIds c c.af) r t) : r = 0 ∧ t = nrm c.ps s := by
  obtain ⟨h1, h2⟩ := mids_cat h m
  obtain ⟨q1, q2, q3⟩ := rest_ok h
  have hlen : (nameIds c c.bf ++ mid ++ nameIds c c.af).length ≤ 262144 := by
    have := nrm_few h hs
    have := q2.1
    have := q3.1
    simp [nameIds]
    omega
  have hok : tw.okB c (nameIds c c.bf ++ mid ++ nameIds c c.af) = true := by
    unfold tw.okB
    rw [List.all_eq_true]
    intro x hx
    have hl := tw.tsF_len h
    have nm : ∀ l : List Int, (∀ x ∈ l, 0 ≤ x ∧ x < (c.ns.length : Int)) → x ∈ nameIds c l → tw.inB c x = true := by
      intro l hl2 hx
      obtain ⟨y, hy, rfl⟩ := List.mem_map.1 hx
      have := hl2 y hy
      unfold tw.inB
      rw [hl]
      exact decide_eq_true ⟨by omega, by omega⟩
    rcases List.mem_append.1 hx with hx | hx
    · rcases List.mem_append.1 hx with hx | hx
      · exact nm _ q2.2 hx
      · have := h2 x hx
        unfold tw.inB
        rw [hl]
        obtain ⟨a, b⟩ := this
        exact decide_eq_true ⟨a, by omega⟩
    · exact nm _ q3.2 hx
  rcases ht with ⟨e, _⟩ | ⟨_, e, _⟩ | ⟨_, _, e, _⟩ | ⟨_, _, _, e1, e2⟩
  · exact absurd h e
  · omega
  · rw [hok] at e; cases e
  · refine ⟨e1, ?_⟩
    rw [e2]
    unfold tw.outB
    rw [cat_append, cat_append, cat_names h _ q2.2, cat_names h _ q3.2, h1, List.drop_zero, List.nil_append, List.append_nil]
end Go.Proofs.YthmecbonjkcnmaaGreat.tk

namespace Go.Proofs.YthmecbonjkcnmaaGreat.tk
open Go.ChangeShapes Go.WideShapes Go.ChangeAt Go.RowKit
open cf (Cf Cp cv CfAt CBox cfE cbox_new)
open mg (Row In IntsV)
open nb (built)
set_option linter.unusedVariables false
set_option maxRecDepth 100000

def cutN (s : ByteArray) (n : Nat) : ByteArray := if s.size ≤ n then s else s.extract 0 n
theorem cutN_size (s : ByteArray) (n : Nat) : (cutN s n).size ≤ n := by
  unfold cutN
  split
  · assumption
  · simp; omega
theorem short_any (s : ByteArray) (n : Nat) (hs : s.size ≤ 9223372036854775807) (hn : n ≤ 100000) (w : World) : Calls Tryz.prog 14 #[.string s, .int .i64 (n : Int)] w fun e w' => e = .returned (.string (cutN s n)) ∧ w' = w := by
  unfold cutN
  by_cases h : s.size ≤ n
  · rw [if_pos h]
    go_enter Tryz.func14, Tryz.ntmps14
    go_wp2
    go_ret
    exact ⟨rfl, rfl⟩
  · rw [if_neg h]
    have hn2 : n < s.size := by omega
    clear h
    go_enter Tryz.func14, Tryz.ntmps14
    go_wp2
    go_ret
    exact ⟨rfl, rfl⟩
theorem ids_ints {w : World} {B : Nat} {v : Value} {l : List Int} (h : Ids w B v l) : IntsV w v l := by
  obtain ⟨o, cap, rfl, h1, h2⟩ := ow.form h
  refine ⟨o, cap, rfl, h1, h2, fun i hi => ?_⟩
  obtain ⟨g, cap', e, hg, hc⟩ := ow.cell h i (by simpa using hi)
  cases e
  exact ⟨g, 0, rfl, hg, by rw [Nat.zero_add]; simpa using hc⟩
set_option maxHeartbeats 4000000 in
theorem loses_any (c : Cf) (p : Cp) (s : ByteArray) (hs : s.size ≤ 140737488351232) (hsane : c.t.sane) (w : World) (hv : CfAt w c p) : Calls Tryz.prog 4 #[.agg (cv c p), .string s] w fun e w' => e = .returned (.bool true) ∧ Below w.heap.size w w' := by
  obtain ⟨wA, hwA⟩ : ∃ wA, wA = w.alloc (.cells (cv c p) 34) := ⟨_, rfl⟩
  have B0 : Below w.heap.size w wA := by rw [hwA]; exact below_alloc w _
  have hX0 : (w.alloc (.cells (cv c p) 34)).heap[w.heap.size]? = some (.cells (cv c p) 34 (0, 0)) := cbox_new w c p
  have HX := (show Hid (CBox wA w.heap.size c p) from by rw [hwA]; exact cbox_new w c p)
  have hi34 := info34 c p
  have HC := (show Hid (CfAt wA c p) from hv.later B0)
  have c14 := short_any s 60 (by omega) (by omega) wA
  have hz := cutN_size s 60
  generalize cutN s 60 = u at *
  have c9 := tok_any c p u (by omega) hsane wA (hv.later B0)
  clear hv
  rw [show ((60 : Nat) : Int) = 60 from rfl] at c14
  go_enter Tryz.func4, Tryz.ntmps4
  go_wp2_with (fail)
  rw [← hwA]
  go_at_call 14
  refine c14.mono ?_
  rintro e w0 ⟨rfl, rfl⟩
  have hX0' : w0.heap[w.heap.size]? = some (.cells (cv c p) 34 (0, 0)) := HX.out
  clear c14 hX0 hwA
  go_wp2_with (first | (refine wpList_load_row rfl 34 (.tmp 2) rfl w.heap.size rfl 34 (cv c p) (0, 0) _ hX0' Tryz.underlying34 rfl hi34 ?_))
  go_at_call 9
  refine c9.mono ?_
  rintro e w1 ⟨r, v, l, rfl, hr, hi, hl0, hl1, b1⟩
  have hX1 : w1.heap[w.heap.size]? = some (.cells (cv c p) 34 (0, 0)) := HX.out.later b1
  have c8 := norm_any c p u (by omega) w1 (HC.out.later b1)
  obtain ⟨o, cap, rfl, ho1, ho2⟩ := ow.form hi
  have HRR := (show Hid (r = cfE c) from hr)
  have HL0 := (show Hid (r ≠ 0 → l = []) from hl0)
  have HL1 := (show Hid (r = 0 → ∃ mid, Mids (built c.t).es (nrm c.ps u) c.ms 0 mid ∧ mid.length ≤ (nrm c.ps u).size ∧ l = nameIds c c.bf ++ mid ++ nameIds c c.af) from hl1)
  have HI := (show Hid (Ids w1 w0.heap.size (.slice o l.length cap) l) from hi)
  clear c9 hX0' hi hr hl0 hl1
  go_wp2_with (first | (refine wpList_load_row rfl 34 (.tmp 2) rfl w.heap.size rfl 34 (cv c p) (0, 0) _ hX1 Tryz.underlying34 rfl hi34 ?_))
  go_at_call 8
  refine c8.mono ?_
  rintro e w2 ⟨r2, n, rfl, hr2, hn0, hn1, b2⟩
  have b12 := chain b1 b2
  have hX2 : w2.heap[w.heap.size]? = some (.cells (cv c p) 34 (0, 0)) := HX.out.later b12
  have hr := HRR.out
  obtain rfl : r2 = r := by rw [hr2, hr]
  have hl0 := HL0.out
  have hl1 := HL1.out
  clear HRR HL0 HL1
  have HB2 := (show Hid (Below w.heap.size w w2) from chain B0 b12)
  clear c8 hX1
  by_cases h0 : r2 = 0
  · obtain ⟨mid, hm1, hm2, hl⟩ := hl1 h0
    have hn := hn0 h0
    have j1 : n.size ≤ 1920 := by rw [hn]; exact nrm_few (by rw [← hr2]; exact h0) hz
    obtain ⟨⟨j2, _⟩, ⟨j3, _⟩⟩ := frame_ok (c := c) (by rw [← hr2]; exact h0)
    have hE : cfE c = 0 := by rw [← hr2]; exact h0
    subst h0
    have c15 := tw.text_any c p l (.slice o l.length cap) w2 (HC.out.later b12) ((ids_ints HI.out).later b2)
    have HLEN := (show Hid (l.length ≤ n.size + c.bf.length + c.af.length ∧ c.bf.length + c.af.length ≤ l.length) from by
      have hll : l.length = c.bf.length + mid.length + c.af.length := by rw [hl]; simp [nameIds]; omega
      rw [hn]
      exact ⟨by omega, by omega⟩)
    have HTX := (show Hid (∀ r t, tw.Txt c l r t → r = 0 ∧ t = n) from fun r t h => by rw [hl] at h; rw [hn]; exact loses hE hz hm1 hm2 h)
    clear hl hl0 hl1 hn0 hn1 hr hr2 hm1 hm2 hn
    go_wp2_with (first | (refine wpList_load_row rfl 34 (.tmp 2) rfl w.heap.size rfl 34 (cv c p) (0, 0) _ hX2 Tryz.underlying34 rfl hi34 ?_))
    go_at_call 15
    refine c15.mono ?_
    rintro e w3 ⟨r3, t3, rfl, htx, b3⟩
    obtain ⟨rfl, rfl⟩ := HTX.out r3 t3 htx
    have HB3 := (show Hid (Below w.heap.size w w3) from chain HB2.out b3)
    have k11 := (HX.out.later (chain b12 b3)).c11
    have k12 := (HX.out.later (chain b12 b3)).c12
    obtain ⟨g1, g2⟩ := HLEN.out
    have i1 : (l.length : Int) ≤ (t3.size : Int) + (c.bf.length : Int) + (c.af.length : Int) := by omega
    have i2 : (c.bf.length : Int) + (c.af.length : Int) ≤ (l.length : Int) := by omega
    clear c15 hX2 htx HTX HLEN
    go_wp2_with (fail)
    go_ret
    exact ⟨rfl, HB3.out⟩
  · have hne : (((r2 : Nat) : Int) == 0) = false := beq_eq_false_iff_ne.2 (by omega)
    have hne2 : (((r2 : Nat) : Int) != 0) = true := by rw [bne_iff_ne]; omega
    have hl := hl0 h0
    subst hl
    clear hl0 hl1 hn0 hn1 hr hr2 hX2
    go_wp2_with (fail)
    go_ret
    exact ⟨rfl, HB2.out⟩
end Go.Proofs.YthmecbonjkcnmaaGreat.tk
