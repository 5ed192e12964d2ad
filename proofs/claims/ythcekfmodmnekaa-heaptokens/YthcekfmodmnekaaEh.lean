/-
  Contracts over this program: a row begins with the bytes of a text (row.fill).
-/
import Derived.Test.YthcekfmodmnekaaEg
namespace Go.Proofs.Ythcekfmodmnekaa.en
open Go.ChangeShapes Go.WideShapes Go.ChangeAt Go.RowKit Go.Shelf Go.Maps
open mg (Mg iv OkM I64 below_alloc chain rk nx joinAt joinAt_len joinAt_get app app_some app_none IntsV RowV idsOf idsOf_len idsOf_at)
open pp (Pr plt Pil cs2)
open hp (RMap Heap Mv own_keep)
set_option linter.unusedVariables false
set_option maxRecDepth 100000

def FillOut (W : World) (B rb mb : Nat) (K : List Mg) (s : ByteArray) (e : Ending) (W' : World) : Prop :=
  ∃ vs' vp' S L, e = .returned (.tuple #[]) ∧ Rw W' B rb mb vs' vp' K S L ∧ Inv K S (List.range s.size) (idsOf s) L ∧ Heap plt L ∧ L.length ≤ s.size ∧ S.length = s.size ∧ Ch B W W'
theorem Half.mono {K : List Mg} {S : List Sg} {ps : List Nat} {ids : List Int} {L : List Pr} {X Y : Nat → Prop} (h : Half K S ps ids L X) (hXY : ∀ j, X j → Y j) : Half K S ps ids L Y :=
  ⟨h.lk, fun i hi hn => h.rank i hi (fun hx => hn (hXY i hx)), h.dead, fun i hi hn => h.pile i hi (fun hx => hn (hXY i hx)), h.pok, h.first⟩
set_option maxHeartbeats 4000000 in
theorem fill_any {W : World} {B rb mb : Nat} {vs vp : Value} {K : List Mg} {So : List Sg} (h : Rw W B rb mb vs vp K So []) (hB : B ≤ W.heap.size) (hK : K.length ≤ 1024) (s : ByteArray) (hs : s.size ≤ 300000) :
    Calls Try.prog 26 #[.pointer (some ⟨rb, 0, none⟩), .string s] W (FillOut W B rb mb K s) := by
  obtain ⟨o, cap, hv, o1, o2⟩ := ow.form h.sg
  subst hv
  have hc1 := h.c1
  have hf1 := h.fz 1
  obtain ⟨R1, C1⟩ := h.none
  have HR1 := (show Hid _ from R1)
  have HC1 := (show Hid (Ch B W (W.setCell ⟨rb, 1, none⟩ (.slice o 0 cap))) from C1)
  clear h R1 C1
  generalize So.length = no at *
  go_enter Try.func26, Try.ntmps26
  go_wp2_with (fail)
  generalize W.setCell ⟨rb, 1, none⟩ (.slice o 0 cap) = w1 at *
  clear hc1 hf1
  go_loopw [16] (fun y wr => ∃ (i : Nat) (vs : Value), y = .int .i64 i ∧ i ≤ s.size ∧ Hid (Rw wr B rb mb vs vp K (part s i) []) ∧ Hid (Ch B W wr)) (fun y _ => s.size - (intOf y).toNat)
  case atStart => exact ⟨0, _, rfl, by omega, HR1, HC1⟩
  case round =>
    clear HR1 HC1
    obtain ⟨i, vs, rfl, hil, HR, HC⟩ := hrel
    by_cases hend : i < s.size
    · have hc1 := HR.out.c1
      have hf1 := HR.out.fz 1
      have h256 : s[i].toNat < 256 := s[i].toNat_lt
      have HX := (show Hid (sgn s i = { id := (s[i].toNat : Int), before := (i : Int) - 1, after := (i : Int) + 1, rank := 0 }) from by show _ = _; unfold sgn; rw [idsOf_at s i hend])
      have ba := below_alloc wr (.cells #[.int .i64 (s[i].toNat : Int), .int .i64 ((i : Int) - 1), .int .i64 ((i : Int) + 1), .int .i64 0] 84)
      have HBw : Hid (B ≤ (wr.alloc (.cells #[.int .i64 (s[i].toNat : Int), .int .i64 ((i : Int) - 1), .int .i64 ((i : Int) + 1), .int .i64 0] 84)).drew.heap.size) := Nat.le_trans hB (Nat.le_trans HC.out.size ba.size)
      have hc2 := (ba.cell (p := ⟨rb, 1, none⟩) HR.out.lt).trans hc1
      have HO : Hid ((wr.alloc (.cells #[.int .i64 (s[i].toNat : Int), .int .i64 ((i : Int) - 1), .int .i64 ((i : Int) + 1), .int .i64 0] 84)).drew.ownsRow B 84 4 vs i (cs4 (part s i))) := by
        have := (HR.out.sg.alloc (.cells #[.int .i64 (s[i].toNat : Int), .int .i64 ((i : Int) - 1), .int .i64 ((i : Int) + 1), .int .i64 0] 84)).drew
        rw [part_len] at this
        exact this
      have HN : Hid (∀ j u, [Value.int .i64 (s[i].toNat : Int), .int .i64 ((i : Int) - 1), .int .i64 ((i : Int) + 1), .int .i64 0][j]? = some u → (wr.alloc (.cells #[.int .i64 (s[i].toNat : Int), .int .i64 ((i : Int) - 1), .int .i64 ((i : Int) + 1), .int .i64 0] 84)).drew.cell? ((⟨wr.heap.size, 0, none⟩ : Addr).add j) = some u) := new4 wr { id := (s[i].toNat : Int), before := (i : Int) - 1, after := (i : Int) + 1, rank := 0 } 84
      have HM : Hid (∀ (g cp : Nat) (w2 : World), w2.ownsRow B 84 4 (.slice (some ⟨g, 0, none⟩) (i + 1) cp) (i + 1) (cs4 (part s i) ++ [.int .i64 (s[i].toNat : Int), .int .i64 ((i : Int) - 1), .int .i64 ((i : Int) + 1), .int .i64 0]) → (wr.alloc (.cells #[.int .i64 (s[i].toNat : Int), .int .i64 ((i : Int) - 1), .int .i64 ((i : Int) + 1), .int .i64 0] 84)).drew.grownBy w2 vs.ownBlock → (some g = vs.ownBlock ∨ (wr.alloc (.cells #[.int .i64 (s[i].toNat : Int), .int .i64 ((i : Int) - 1), .int .i64 ((i : Int) + 1), .int .i64 0] 84)).drew.heap.size ≤ g) → Rw (w2.setCell ⟨rb, 1, none⟩ (.slice (some ⟨g, 0, none⟩) (i + 1) cp)) B rb mb (.slice (some ⟨g, 0, none⟩) (i + 1) cp) vp K (part s (i + 1)) [] ∧ Ch B wr (w2.setCell ⟨rb, 1, none⟩ (.slice (some ⟨g, 0, none⟩) (i + 1) cp)) ∧ w2.cell? ⟨rb, 1, none⟩ = some vs ∧ w2.frozen? ⟨rb, 1, none⟩ = false) := fun g cp w2 a1 a2 a3 => by
        have := HR.out.more (w2 := w2) (g := g) (cap := cp) (x := { id := (s[i].toNat : Int), before := (i : Int) - 1, after := (i : Int) + 1, rank := 0 }) (by rw [part_len]; exact a1) ⟨a2.os, a2.tape, a2.output, a2.size, a2.block⟩ a3
        rw [part_len] at this
        rw [part_succ, HX.out]
        exact this
      generalize hb0 : s[i].toNat = b0 at *
      clear ba
      have hw0 : IntKind.i64.wrap (b0 : Int) = (b0 : Int) := IntWalk.i64_in _ (by omega)
      have hw1 : IntKind.i64.wrap ((i : Int) - 1) = (i : Int) - 1 := IntWalk.i64_in _ (by omega)
      have hw2 : IntKind.i64.wrap ((i : Int) + 1) = (i : Int) + 1 := IntWalk.i64_in _ (by omega)
      go_wp2_with (fail)
      go_region_law (refine ow.step_append (by rfl) (.tmp 23) (.tmp 33) 77 (by rfl) 84 (.agg #[.int .i64 0, .int .i64 0, .int .i64 0, .int .i64 0]) 4 32 Try.underlying77 info84 rfl (by omega) (by omega) B vs i (cs4 (part s i)) wr.heap.size [.int .i64 (b0 : Int), .int .i64 ((i : Int) - 1), .int .i64 ((i : Int) + 1), .int .i64 0] (by rfl) (by rfl) HO.out rfl HN.out (one4 { id := (b0 : Int), before := (i : Int) - 1, after := (i : Int) + 1, rank := 0 }) (by omega) HBw.out ?_; intro g' cap' w2 h1 h2 h3; obtain ⟨p1, p2, p3, p4⟩ := HM.out g' cap' w2 h1 h2 h3)
      all_goals (
        have HC3 := (show Hid (Ch B W (w2.setCell ⟨rb, 1, none⟩ (.slice (some ⟨g', 0, none⟩) (i + 1) cap'))) from HC.out.trans p2)
        have HP1 := (show Hid _ from p1)
        clear HO HN HM HBw HX p1 p2 p3 p4 h1 h2 h3 hc1 hc2 hf1 hw0 hw1 hw2 hb0 h256
        go_wp2_with (fail)
        go_roundw
        case rel => exact ⟨i + 1, _, by go_num, by omega, HP1, HC3⟩
        case measure => simp [intOf]; omega)
    · have e : i = s.size := by omega
      subst e
      rcases hn0 : s.size with _ | n
      · have e0 : S0 s = [] := by unfold S0; rw [if_neg (by omega)]
        obtain ⟨o', cap', hv, q1, q2⟩ := ow.form HR.out.sg
        rw [part_len, hn0] at hv q1
        subst hv
        have hc1 := HR.out.c1
        have HR2 := (show Hid (Rw wr B rb mb (.slice o' 0 cap') vp K (S0 s) []) from by
          have := HR.out
          rw [hn0] at this
          rw [e0]
          exact this)
        have HC2 := HC
        have HN0 := (show Hid (s.size = 0) from hn0)
        have hz : decide (0 < s.size) = false := decide_eq_false (by omega)
        have hz2 : ¬ 0 < s.size := by omega
        clear HR HC e0 hil hend hn0
        go_wp2_with (fail)
        go_loopw [55] (fun y wz => y = .int .i64 0 ∧ Hid (Rw wz B rb mb (.slice o' 0 cap') vp K (S0 s) []) ∧ Hid (Ch B W wz)) (fun y _ => 0)
        case atStart => exact ⟨rfl, HR2, HC2⟩
        case round =>
          clear HR2 HC2
          obtain ⟨rfl, HR, HC⟩ := hrel
          have HF := (show Hid (FillOut W B rb mb K s (.returned (.tuple #[])) wr) from ⟨_, vp, S0 s, [], rfl, HR.out, (half0 K s).inv (fun x hx hx2 => by have := HN0.out; simp at hx; omega), Heap.nil, by simp, S0_len s, HC.out⟩)
          clear HR HC
          go_wp2_with (fail)
          first | go_end0 | refine bodyPost_ret (results_none rfl _ _ _) rfl ?_
          exact HF.out
      · have HN0 := (show Hid (s.size = n + 1) from hn0)
        have hnn : n + 1 ≤ 300000 := by omega
        have R0 := HR.out
        rw [hn0] at R0
        obtain ⟨gs, cap', hv⟩ := R0.full (by rw [part_len]; omega)
        rw [part_len] at hv
        subst hv
        have hpn := part_at s (n + 1) n (by omega)
        obtain ⟨k0, k1, k2, k3, kf, -, q1, q2⟩ := R0.sign hpn
        have kf2 := kf (n * 4 + 2)
        have hc1 := R0.c1
        obtain ⟨R2, C2⟩ := R0.put (n * 4 + 2) (.int .i64 (-1)) (S' := S0 s) (by rw [S0_len, part_len, hn0]) (by
          rw [(cs4_set _ n _ hpn (-1)).2.2.1]
          unfold S0
          rw [if_pos (by omega), hn0]
          rfl)
        have HR2 := (show Hid (Rw (wr.setCell ⟨gs, n * 4 + 2, none⟩ (.int .i64 (-1))) B rb mb (.slice (some ⟨gs, 0, none⟩) (n + 1) cap') vp K (S0 s) []) from R2)
        have HC2 := (show Hid (Ch B W (wr.setCell ⟨gs, n * 4 + 2, none⟩ (.int .i64 (-1)))) from HC.out.trans C2)
        have hc2 := R2.c1
        have hz2 : 0 < s.size := by omega
        have hsw : IntKind.i64.wrap ((s.size : Int) - 1) = (n : Int) := by rw [hn0, show ((n + 1 : Nat) : Int) - 1 = (n : Int) by omega]; exact IntWalk.i64_in _ (by omega)
        clear HR HC hil hend hn0 R0 R2 C2 k0 k1 k3 kf hpn
        go_wp2_with (fail)
        rw [show (((n + 1 : Nat)) : Int) = (n : Int) + 1 from rfl]
        go_loopw [55] (fun y wz => ∃ (j : Nat) (vp' : Value) (S' : List Sg) (L' : List Pr), y = .int .i64 j ∧ j ≤ n + 1 ∧ Hid (Rw wz B rb mb (.slice (some ⟨gs, 0, none⟩) (n + 1) cap') vp' K S' L') ∧ Hid (Half K S' (List.range s.size) (idsOf s) L' (fun x => j ≤ x)) ∧ Hid (Heap plt L') ∧ Hid (L'.length ≤ j) ∧ Hid (S'.length = s.size) ∧ Hid (Ch B W wz)) (fun y _ => n + 1 - (intOf y).toNat)
        case atStart => exact ⟨0, vp, S0 s, [], rfl, by omega, HR2, half0 K s, Heap.nil, by show _ ≤ _; simp, S0_len s, HC2⟩
        case round =>
          clear HR2 HC2
          obtain ⟨j, vp2, S2, L2, rfl, hj, HR, HH, HP, HL, HN, HC⟩ := hrel
          by_cases he2 : j < n + 1
          · have he3 : j < s.size := by rw [HN0.out]; exact he2
            have c38 := look_alive HR.out (Nat.le_trans hB HC.out.size) HP.out (by have := HL.out; omega) (by rw [HN.out]; omega) hK HH.out (allSm s) (i := j) (by simpa using he3)
            rw [range_pl _ _ he3] at c38
            clear he3
            go_wp2_with (go_at_call 38; refine c38.mono ?_; rintro e w3 ⟨vp3, S3, L3, rfl, r3, H3, q3, l3, n3, ch3⟩)
            go_roundw
            case rel => exact ⟨j + 1, vp3, S3, L3, by go_num, by omega, r3, H3.mono (fun x hx => by have := hx.1; have := hx.2; omega), q3, by show _ ≤ _; have := HL.out; omega, n3.trans HN.out, HC.out.trans ch3⟩
            case measure => simp [intOf]; omega
          · have HF := (show Hid (FillOut W B rb mb K s (.returned (.tuple #[])) wr) from ⟨_, vp2, S2, L2, rfl, HR.out, HH.out.inv (fun x hx hx2 => by have := HN0.out; simp at hx; omega), HP.out, by have := HN0.out; have := HL.out; omega, HN.out, HC.out⟩)
            clear HR HH HP HL HN HC
            go_wp2_with (fail)
            first | go_end0 | refine bodyPost_ret (results_none rfl _ _ _) rfl ?_
            exact HF.out
end Go.Proofs.Ythcekfmodmnekaa.en
