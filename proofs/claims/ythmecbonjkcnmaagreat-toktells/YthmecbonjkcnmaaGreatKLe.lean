/-
  Contracts over this program: the document's ids of a text by a configuration (fretsawref18's Tok).
-/
import Derived.Test.YthmecbonjkcnmaaGreatM35
import Derived.Test.YthmecbonjkcnmaaGreatM37
namespace Go.Proofs.YthmecbonjkcnmaaGreat.tk
open Go.ChangeShapes Go.WideShapes Go.ChangeAt Go.RowKit
open cf (Cf Cp cv CfAt CBox cfE cbox_new)
open mg (Row In IntsV StrsV RowV app idsOf)
open st (Tr Is)
open nb (built)
set_option linter.unusedVariables false
set_option maxRecDepth 100000

theorem idsC_snoc (K : List mg.Mg) (l : List ByteArray) (t : ByteArray) : idsC K (l ++ [t]) = idsC K l ++ app K (idsOf t) := by simp [idsC]
theorem idsC_len (K : List mg.Mg) : ∀ (l : List ByteArray), (∀ t ∈ l, t.size ≤ 100) → (idsC K l).length ≤ 100 * l.length
  | [], _ => by simp [idsC]
  | t :: l, h => by
    have h1 := idsC_len K l fun u hu => h u (by simp [hu])
    have h2 := mg.app_len K (idsOf t)
    rw [mg.idsOf_len] at h2
    have h3 := h t (by simp)
    have e : idsC K (t :: l) = app K (idsOf t) ++ idsC K l := by simp [idsC]
    rw [e, List.length_append, List.length_cons]
    omega
theorem list_take {α : Type} (l : List α) (i : Nat) (h : i < l.length) : l.take (i + 1) = l.take i ++ [l[i]] := by
  rw [List.take_add_one, List.getElem?_eq_getElem h]; rfl
theorem Gw.below {w1 W wr : World} {v v' : Value} {l k : List Int} (h : Gw w1.heap.size v W wr v' k) (hb : Below w1.heap.size w1 W) (hi : Ids W w1.heap.size v l) : Below w1.heap.size w1 wr := below_of hb hi h.ch
theorem Gw.start {B : Nat} {W : World} {v : Value} {l : List Int} (hi : Ids W B v l) : Gw B v W W v l := ⟨hi, Chr.refl _ _, .inl rfl⟩
theorem Gw.then {B : Nat} {v v1 v2 : Value} {w w1 wx w2 : World} {l1 l2 : List Int} (h : Gw B v w w1 v1 l1) (b : Below w1.heap.size w1 wx) (k : Gw B v1 wx w2 v2 l2) : Gw B v w w2 v2 l2 :=
  ⟨k.ids, h.ch.trans (v' := v1) ((Chr.below (ob := v1.ownBlock) b).trans (v := v1) (v' := v1) k.ch (.inl rfl)) h.same, h.same.trans (Same.trans (.inl rfl : Same w1 v1 v1) k.same b.size) h.ch.size⟩
/-- a row in a block that the ids' row is not -/
theorem apart_row {W W' : World} {B B' e sz n : Nat} {v u : Value} {l : List Int} {xs : List Value} (hi : Ids W B v l) (ho : W.ownsRow B' e sz u n xs) (hne : e ≠ 3 ∨ (∀ g, v.ownBlock = some g → g < B')) (c : Chr v.ownBlock W W') : W'.ownsRow B' e sz u n xs := by
  refine ow.keep ho fun g hg => c.block g (ow.lt ho hg).2 fun k => ?_
  rcases hne with h | h
  · rcases ho.2 with ⟨rfl, _⟩ | ⟨gg, cap, cur, rfl, _, hgg, _⟩
    · cases hg
    · cases hg; exact ow.type hi hgg h k.symm
  · have := h g k
    have := (ow.lt ho hg).1
    omega
set_option maxHeartbeats 8000000 in
theorem rtok_any (c : Cf) (p : Cp) (s : ByteArray) (hs : s.size ≤ 60) (h0 : cfE c = 0) (ps : List (Nat × Nat)) (hps : Cuts (StopS (built c.t).es (nrm c.ps s)) (nrm c.ps s).size 0 ps) (hsz : (nrm c.ps s).size ≤ 60) (hw : Words (nrm c.ps s) c.t (StopS (built c.t).es (nrm c.ps s))) (w : World) (hv : CfAt w c p) : Calls Tryz.prog 13 #[.agg (cv c p), .string s] w fun e w' => ∃ v, e = .returned v ∧ IntsV w' v (nameIds c c.bf ++ idsC c.ms (textsC (nrm c.ps s) ps) ++ nameIds c c.af) ∧ Below w.heap.size w w' := by
  obtain ⟨w1, HW1⟩ : ∃ w1, Hid (w1 = w.alloc (.cells (cv c p) 34)) := ⟨_, rfl⟩
  have b1 : Below w.heap.size w w1 := by rw [HW1.out]; exact below_alloc w _
  have hbx : CBox w1 w.heap.size c p := by rw [HW1.out]; exact cbox_new w c p
  have HB1 := (show Hid (Below w.heap.size w w1) from b1)
  have HCB := (show Hid (∀ W, Below w1.heap.size w1 W → CBox W w.heap.size c p) from fun W b => hbx.later b)
  have HC := (show Hid (∀ W, Below w1.heap.size w1 W → CfAt W c p) from fun W b => (hv.later b1).later b)
  have hw1s : w1.heap.size = w.heap.size + 1 := by rw [HW1.out]; simp
  obtain ⟨⟨f1, f2⟩, ⟨f3, f4⟩⟩ := frame_ok h0
  have hms := (mg.ok_run (split_ok h0).2.2.2).1
  obtain ⟨n, hn⟩ : ∃ n, n = nrm c.ps s := ⟨_, rfl⟩
  have H11 := (show Hid (∀ W, Below w1.heap.size w1 W → Calls Tryz.prog 11 #[.agg (cv c p), .string s] W fun e w' => e = .returned (.string n) ∧ Below W.heap.size W w') from fun W b => by rw [hn]; exact rnorm_any c p s hs h0 W ((hv.later b1).later b))
  rw [← hn] at hps hsz hw ⊢
  have H31 := (show Hid (∀ W, Below w1.heap.size w1 W → Calls Tryz.prog 31 #[nb.trV c.t (.slice p.ko c.t.kids.length p.kc), .string n] W fun e w' => ∃ v, e = .returned v ∧ w'.ownsRow (W.heap.size + 1) 9 1 v (textsC n ps).length ((textsC n ps).map Value.string) ∧ Below W.heap.size W w') from fun W b => pieces_any n hsz c.t _ ps hps hw _ W ((hv.later b1).later b).t)
  have hK1 : (textsC n ps).length ≤ 60 := by unfold textsC; rw [List.length_map]; have := hps.few; omega
  have hK2 : ∀ t ∈ textsC n ps, t.size ≤ 60 := fun t ht => by
    obtain ⟨q, _, rfl⟩ := List.mem_map.1 ht
    simp
    omega
  generalize textsC n ps = K at *
  have HK2 := (show Hid (∀ t ∈ K, t.size ≤ 60) from hK2)
  have HF2 := (show Hid (∀ x ∈ c.bf, 0 ≤ x ∧ x ≤ 1000) from f2)
  have HF4 := (show Hid (∀ x ∈ c.af, 0 ≤ x ∧ x ≤ 1000) from f4)
  obtain ⟨w2, HW2⟩ : ∃ w2, Hid (w2 = w1.alloc (.cells #[] 3)) := ⟨_, rfl⟩
  have b2 : Below w1.heap.size w1 w2 := by rw [HW2.out]; exact below_alloc _ _
  have hO2 : Ids w2 w1.heap.size (.slice (some ⟨w1.heap.size, 0, none⟩) 0 0) [] := ⟨rfl, .inr ⟨w1.heap.size, 0, #[], rfl, Nat.le_refl _, by rw [HW2.out]; exact heap_alloc_new _ _, Nat.le_refl _, by unfold maxLen; omega, rfl, rfl⟩⟩
  obtain ⟨b0, hb0⟩ : ∃ b0, b0 = w1.heap.size := ⟨_, rfl⟩
  have HO2 : Hid (Ids w2 w1.heap.size (.slice (some ⟨b0, 0, none⟩) 0 0) []) := by rw [hb0]; exact hO2
  rw [hb0.trans hw1s] at HO2
  have HB2 := (show Hid (Below w1.heap.size w1 w2) from b2)
  have k11 := (HCB.out w2 b2).c11
  have z1 : IntKind.i64.wrap (256 + (c.ms.length : Int)) = 256 + (c.ms.length : Int) := IntWalk.i64_in _ (by omega)
  have g1 := hv.bf.fit
  have g2 := hv.bf.top
  have g3 := hv.af.fit
  have g4 := hv.af.top
  have W1 := HW1
  unfold cv at W1 H11 ⊢
  unfold nb.trV at H31
  clear hv b1 hbx hps hw hn hK2 f2 f4 b2 hw1s HW1 h0 hb0 hO2
  go_enter Tryz.func13, Tryz.ntmps13
  go_wp2_with (fail)
  rw [← W1.out, ← HW2.out]
  clear W1 HW2
  go_loopw [5, 18] (fun y z wr => ∃ (i : Nat) (k : List Int) (gy : Option Addr) (cy : Nat), y = .slice gy k.length cy ∧ z = .int .i64 i ∧ i ≤ c.bf.length ∧ Hid (k = nameIds c (c.bf.take i)) ∧ Hid (Gw w1.heap.size (.slice (some ⟨w.heap.size + 1, 0, none⟩) 0 0) w2 wr (.slice gy k.length cy) k)) (fun _ z _ => c.bf.length - (intOf z).toNat)
  case atStart => exact ⟨0, [], _, 0, rfl, rfl, by omega, by show _ = _; simp [nameIds], Gw.start HO2.out⟩
  case round =>
    clear k11
    obtain ⟨i, k, gy, cy, rfl, rfl, hi, HK, HG⟩ := hrel
    have hB := HG.out.below HB2.out HO2.out
    by_cases hin : i < c.bf.length
    · obtain ⟨b, off, hbo, hb, hc⟩ := (HC.out wr hB).bf.lie i hin
      have k9 := (HCB.out wr hB).c9
      have hx := HF2.out c.bf[i] (List.getElem_mem hin)
      have HNX := (show Hid (nameIds c (c.bf.take (i + 1)) = k ++ [256 + (c.ms.length : Int) + c.bf[i]]) from by
        show _ = _
        rw [HK.out, list_take _ _ hin]
        unfold nameIds
        rw [List.map_append]
        rfl)
      have hkl : k.length ≤ 400000 := by rw [HK.out]; simp [nameIds]; omega
      rw [hbo]
      generalize c.bf[i] = x at *
      have z2 : IntKind.i64.wrap (256 + (c.ms.length : Int) + x) = 256 + (c.ms.length : Int) + x := IntWalk.i64_in _ (by omega)
      have hBs := hB.size
      clear HK hbo hB
      go_wp2_with (at_builtin; refine ow.wpList_append (by rfl) (.tmp 22) (.tmp 29) 32 (by rfl) 3 _ 1 8 Tryz.underlying32 info3 (by rfl) (by decide) (by decide) w1.heap.size (.slice gy k.length cy) k.length (k.map zv) wr.heap.size [zv (256 + (c.ms.length : Int) + x)] (by rfl) (by rfl) (by exact ow.later HG.out.ids (below_alloc' _ _)) (by rfl) (by exact ow.new1 wr _ 3) (by exact ow.one1 _ rfl) (by omega) (by rw [World.size_alloc]; omega) ?_; intro g' cap' w6 ho hg hnw)
      have HN := (show Hid (Gw w1.heap.size (.slice (some ⟨w.heap.size + 1, 0, none⟩) 0 0) w2 w6 (.slice (some ⟨g', 0, none⟩) (k.length + 1) cap') (k ++ [256 + (c.ms.length : Int) + x])) from HG.out.more ho hg hnw)
      clear ho hg hnw HG k9 hc hBs
      go_roundw
      case rel => exact ⟨i + 1, k ++ [256 + (c.ms.length : Int) + x], some ⟨g', 0, none⟩, cap', by simp, by go_num, by omega, by show _ = _; rw [HNX.out], by show Gw _ _ _ _ _ _; rw [show (k ++ [256 + (c.ms.length : Int) + x]).length = k.length + 1 by simp]; exact HN.out⟩
      case measure => simp [intOf]; omega
    · have hie : i = c.bf.length := by omega
      subst hie
      have HKE := (show Hid (k = nameIds c c.bf) from by have := HK.out; rw [List.take_length] at this; exact this)
      have hkl : k.length ≤ 64 := by rw [HKE.out]; simp [nameIds]; omega
      have HI := (show Hid (Ids wr w1.heap.size (.slice gy k.length cy) k) from HG.out.ids)
      have HBr := (show Hid (Below w1.heap.size w1 wr) from hB)
      obtain ⟨q0, q1, q2, q3, q4, q5, q6, q7, q8, q9, q10, q11, q12⟩ := cells13 (show _ = _ from HCB.out wr hB)
      clear HK HG HO2 HB2
      go_wp2_with (fail)
      go_region_with (first | (have hh := H11; clear H11; go_at_call 11; refine (hh.out _ hB.drew).mono ?_; rintro e w3 ⟨rfl, b3⟩; have bb3 := mg.chain hB.drew b3; have bx3 := (Below.drew (Below.refl wr.heap.size wr)).trans b3; obtain ⟨u0, u1, u2, u3, u4, u5, u6, u7, u8, u9, u10, u11, u12⟩ := cells13 (show _ = _ from HCB.out _ bb3)) | (go_at_call 31; refine (H31.out _ bb3).mono ?_; rintro e w4 ⟨v4, rfl, ho4, b4⟩; obtain ⟨so, sc, rfl, hs1, hs2⟩ := ow.form ho4))
      all_goals (
        rename_i K9 hK9
        refine hK9 _ _ ?_
        clear hK9
        generalize hact : Act.put _ _ _ = act
        simp [Act.put] at hact
        subst hact
        have b34 := bx3.trans (b4.mono bx3.size)
        have HB4 := (show Hid (Below w1.heap.size w1 w4) from mg.chain bb3 b4)
        have HI4 := (show Hid (Ids w4 w1.heap.size (.slice gy k.length cy) k) from ow.later HI.out b34)
        have HO4 := (show Hid (w4.ownsRow (w3.heap.size + 1) 9 1 (.slice so K.length sc) K.length (K.map Value.string)) from ho4)
        clear q0 q1 q2 q3 q4 q5 q6 q7 q8 q9 q10 q11 q12 u0 u1 u2 u3 u4 u5 u6 u7 u8 u9 u10 u11 u12 hh H31 ho4 b4 b3 bx3 bb3 hB b34 HBr HI
        go_wp2_with (fail)
        go_loopw [5, 39] (fun y z wr => ∃ (i : Nat) (k' : List Int) (gy' : Option Addr) (cy' : Nat), y = .slice gy' k'.length cy' ∧ z = .int .i64 i ∧ i ≤ K.length ∧ Hid (k' = k ++ idsC c.ms (K.take i)) ∧ Hid (Gw w1.heap.size (.slice gy k.length cy) w4 wr (.slice gy' k'.length cy') k')) (fun _ z _ => K.length - (intOf z).toNat)
        case atStart => exact ⟨0, k, gy, cy, rfl, rfl, by omega, by show _ = _; simp [idsC], Gw.start HI4.out⟩
        case round =>
          obtain ⟨i, k', gy', cy', rfl, rfl, hi2, HK', HG'⟩ := hrel
          have hB' := HG'.out.below HB4.out HI4.out
          by_cases hin2 : i < K.length
          · obtain ⟨pb, pcap, hpe, hpl, hpc⟩ := ow.cell (apart_row HI4.out HO4.out (.inl (by decide)) HG'.out.ch) i (by simpa using hin2)
            obtain ⟨rfl, rfl⟩ : so = some ⟨pb, 0, none⟩ ∧ sc = pcap := by simpa using hpe
            rw [List.getElem_map] at hpc
            have hts := HK2.out K[i] (List.getElem_mem hin2)
            have hkl' : k'.length ≤ 100000 := by
              rw [HK'.out, List.length_append]
              have := idsC_len c.ms (K.take i) (fun t ht => Nat.le_trans (HK2.out t (List.mem_of_mem_take ht)) (by decide))
              rw [List.length_take] at this
              omega
            have HNX := (show Hid (k ++ idsC c.ms (K.take (i + 1)) = k' ++ app c.ms (idsOf K[i])) from by
              show _ = _
              rw [HK'.out, list_take _ _ hin2, idsC_snoc, List.append_assoc])
            have k9 := (HCB.out wr hB').c9
            have hal := mg.app_len c.ms (idsOf K[i])
            rw [mg.idsOf_len] at hal
            have H33 := (show Hid (∀ W, Calls Tryz.prog 33 #[.string K[i]] W fun e w' => ∃ v', e = .returned v' ∧ IntsV w' v' (idsOf K[i]) ∧ Below W.heap.size W w') from fun W => mg.bytes_any K[i] (by omega) W)
            have H32 := (show Hid (∀ v' W, Below w1.heap.size w1 W → IntsV W v' (idsOf K[i]) → Calls Tryz.prog 32 #[.slice p.mo c.ms.length p.mc, v'] W (mg.MergedOwn c.ms (idsOf K[i]) W)) from fun v' W b h => mg.rapply_any c.ms hms _ (by rw [mg.idsOf_len]; omega) _ v' W (HC.out W b).ms h)
            obtain ⟨L, hL⟩ : ∃ L, L = app c.ms (idsOf K[i]) := ⟨_, rfl⟩
            unfold mg.MergedOwn at H32
            rw [← hL] at hal HNX H32
            generalize idsOf K[i] = bl at *
            generalize K[i] = tx at *
            have hBs' := hB'.size
            clear HK' hpe hL
            go_wp2_with (fail)
            go_region_with (first | (go_at_call 33; refine (H33.out _).mono ?_; rintro e w5 ⟨v5, rfl, hi5, b5⟩; have bb5 := mg.chain hB'.drew b5; have bx5 := (Below.drew (Below.refl wr.heap.size wr)).trans b5; have y9 := (HCB.out _ bb5).c9) | (go_at_call 32; refine (H32.out _ _ bb5 hi5).mono ?_; rintro e w6 ⟨v6, rfl, ho6, b6⟩; obtain ⟨lo, lc, rfl, hl1, hl2⟩ := ow.form ho6))
            all_goals (
              rename_i K8 hK8
              refine hK8 _ _ ?_
              clear hK8
              generalize hact : Act.put _ _ _ = act
              simp [Act.put] at hact
              subst hact
              have b56 := bx5.trans (b6.mono bx5.size)
              have HB6 := (show Hid (Below wr.heap.size wr w6) from b56)
              have HI6 := (show Hid (Ids w6 w1.heap.size (.slice gy' k'.length cy') k') from ow.later HG'.out.ids b56)
              have hfar : ∀ g, (Value.slice gy' k'.length cy').ownBlock = some g → g < w5.heap.size := fun g hg => Nat.lt_of_lt_of_le (ow.lt HG'.out.ids hg).2 bx5.size
              have HL6 := (show Hid (∀ W, Chr (Value.slice gy' k'.length cy').ownBlock w6 W → W.ownsRow w5.heap.size 3 1 (.slice lo L.length lc) L.length (L.map zv)) from fun W c => apart_row HI6.out ho6 (.inr hfar) c)
              clear k9 y9 H33 H32 hi5 b5 bb5 bx5 b6 b56 ho6 hfar hB'
              go_wp2_with (fail)
              go_loopw [5, 49] (fun y z wi => ∃ (j : Nat) (k2 : List Int) (g2 : Option Addr) (c2 : Nat), y = .slice g2 k2.length c2 ∧ z = .int .i64 j ∧ j ≤ L.length ∧ Hid (k2 = k' ++ L.take j) ∧ Hid (Gw w1.heap.size (.slice gy' k'.length cy') w6 wi (.slice g2 k2.length c2) k2)) (fun _ z _ => L.length - (intOf z).toNat)
              case atStart => exact ⟨0, k', gy', cy', rfl, rfl, by omega, by show _ = _; simp, Gw.start HI6.out⟩
              case round =>
                rename_i wr wi
                obtain ⟨j, k2, g2, c2, rfl, rfl, hj, HK2', HG2⟩ := hrel
                by_cases hjn : j < L.length
                · obtain ⟨lb, lcap, hle, hll, hlc⟩ := ow.cell (HL6.out _ HG2.out.ch) j (by simpa using hjn)
                  obtain ⟨rfl, rfl⟩ : lo = some ⟨lb, 0, none⟩ ∧ lc = lcap := by simpa using hle
                  rw [List.getElem_map] at hlc
                  have HNX2 := (show Hid (k' ++ L.take (j + 1) = k2 ++ [L[j]]) from by
                    show _ = _
                    rw [HK2'.out, list_take _ _ hjn, List.append_assoc])
                  have hk2l : k2.length ≤ 200000 := by rw [HK2'.out, List.length_append, List.length_take]; omega
                  generalize L[j] = x at *
                  have hsz2 := HG2.out.ch.size
                  have hsz6 := HB6.out.size
                  clear HK2' hle
                  go_wp2_with (at_builtin; refine ow.wpList_append (by rfl) (.tmp 53) (.tmp 55) 32 (by rfl) 3 _ 1 8 Tryz.underlying32 info3 (by rfl) (by decide) (by decide) w1.heap.size (.slice g2 k2.length c2) k2.length (k2.map zv) _ [zv x] (by rfl) (by rfl) (by exact ow.later HG2.out.ids (below_alloc' _ _)) (by rfl) (by exact ow.new1 _ _ 3) (by exact ow.one1 _ rfl) (by omega) (by rw [World.size_alloc]; omega) ?_; intro g' cap' w7 ho hg hnw)
                  have HN := (show Hid (Gw w1.heap.size (.slice gy' k'.length cy') w6 w7 (.slice (some ⟨g', 0, none⟩) (k2.length + 1) cap') (k2 ++ [x])) from HG2.out.more ho hg hnw)
                  clear ho hg hnw HG2 hlc
                  go_roundw
                  case rel => exact ⟨j + 1, k2 ++ [x], some ⟨g', 0, none⟩, cap', by simp, by go_num, by omega, by show _ = _; rw [HNX2.out], by show Gw _ _ _ _ _ _; rw [show (k2 ++ [x]).length = k2.length + 1 by simp]; exact HN.out⟩
                  case measure => simp [intOf]; omega
                · have hje : j = L.length := by omega
                  subst hje
                  have HKE2 := (show Hid (k2 = k' ++ L) from by have := HK2'.out; rw [List.take_length] at this; exact this)
                  have HN := (show Hid (Gw w1.heap.size (.slice gy k.length cy) w4 _ (.slice g2 k2.length c2) k2) from HG'.out.then HB6.out HG2.out)
                  clear HK2' HG2 HL6
                  go_wp2_with (fail)
                  go_roundw
                  case rel => exact ⟨i + 1, k2, g2, c2, rfl, by go_num, by omega, by show _ = _; rw [HKE2.out, HNX.out], HN.out⟩
                  case measure => simp [intOf]; omega)
          · have hie2 : i = K.length := by omega
            subst hie2
            have HKE2 := (show Hid (k' = k ++ idsC c.ms K) from by have := HK'.out; rw [List.take_length] at this; exact this)
            have hkl' : k'.length ≤ 100000 := by
              rw [HKE2.out, List.length_append]
              have := idsC_len c.ms K (fun t ht => Nat.le_trans (HK2.out t ht) (by decide))
              omega
            have HI5 := (show Hid (Ids wr w1.heap.size (.slice gy' k'.length cy') k') from HG'.out.ids)
            have HB5 := (show Hid (Below w1.heap.size w1 wr) from hB')
            have k12 := (HCB.out wr hB').c12
            clear HK' HG' HO4 HI4 HB4 hB'
            obtain ⟨w8, rfl⟩ : ∃ w8 : World, w8 = wr := ⟨_, rfl⟩
            go_wp2_with (fail)
            go_loopw [5, 62] (fun y z wr => ∃ (j : Nat) (k3 : List Int) (g3 : Option Addr) (c3 : Nat), y = .slice g3 k3.length c3 ∧ z = .int .i64 j ∧ j ≤ c.af.length ∧ Hid (k3 = k' ++ nameIds c (c.af.take j)) ∧ Hid (Gw w1.heap.size (.slice gy' k'.length cy') w8 wr (.slice g3 k3.length c3) k3)) (fun _ z _ => c.af.length - (intOf z).toNat)
            case atStart => exact ⟨0, k', gy', cy', rfl, rfl, by omega, by show _ = _; simp [nameIds], Gw.start HI5.out⟩
            case round =>
              clear k12
              obtain ⟨j, k3, g3, c3, rfl, rfl, hj, HK3, HG3⟩ := hrel
              have hB3 := HG3.out.below HB5.out HI5.out
              by_cases hjn : j < c.af.length
              · obtain ⟨b, off, hbo, hb, hc⟩ := (HC.out wr hB3).af.lie j hjn
                have k9 := (HCB.out wr hB3).c9
                have hx := HF4.out c.af[j] (List.getElem_mem hjn)
                have HNX := (show Hid (k' ++ nameIds c (c.af.take (j + 1)) = k3 ++ [256 + (c.ms.length : Int) + c.af[j]]) from by
                  show _ = _
                  rw [HK3.out, list_take _ _ hjn]
                  unfold nameIds
                  rw [List.map_append, List.append_assoc]
                  rfl)
                have hkl3 : k3.length ≤ 400000 := by rw [HK3.out, List.length_append]; simp [nameIds]; omega
                rw [hbo]
                generalize c.af[j] = x at *
                have z2 : IntKind.i64.wrap (256 + (c.ms.length : Int) + x) = 256 + (c.ms.length : Int) + x := IntWalk.i64_in _ (by omega)
                have hBs := hB3.size
                clear HK3 hbo hB3
                go_wp2_with (at_builtin; refine ow.wpList_append (by rfl) (.tmp 66) (.tmp 73) 32 (by rfl) 3 _ 1 8 Tryz.underlying32 info3 (by rfl) (by decide) (by decide) w1.heap.size (.slice g3 k3.length c3) k3.length (k3.map zv) wr.heap.size [zv (256 + (c.ms.length : Int) + x)] (by rfl) (by rfl) (by exact ow.later HG3.out.ids (below_alloc' _ _)) (by rfl) (by exact ow.new1 wr _ 3) (by exact ow.one1 _ rfl) (by omega) (by rw [World.size_alloc]; omega) ?_; intro g' cap' w6 ho hg hnw)
                have HN := (show Hid (Gw w1.heap.size (.slice gy' k'.length cy') w8 w6 (.slice (some ⟨g', 0, none⟩) (k3.length + 1) cap') (k3 ++ [256 + (c.ms.length : Int) + x])) from HG3.out.more ho hg hnw)
                clear ho hg hnw HG3 k9 hc hBs
                go_roundw
                case rel => exact ⟨j + 1, k3 ++ [256 + (c.ms.length : Int) + x], some ⟨g', 0, none⟩, cap', by simp, by go_num, by omega, by show _ = _; rw [HNX.out], by show Gw _ _ _ _ _ _; rw [show (k3 ++ [256 + (c.ms.length : Int) + x]).length = k3.length + 1 by simp]; exact HN.out⟩
                case measure => simp [intOf]; omega
              · have hje : j = c.af.length := by omega
                subst hje
                have HKE3 := (show Hid (k3 = k' ++ nameIds c c.af) from by have := HK3.out; rw [List.take_length] at this; exact this)
                clear HK3
                go_wp2_with (fail)
                go_ret
                refine ⟨_, rfl, ?_, mg.chain HB1.out hB3⟩
                rw [← HKE.out, ← HKE2.out, ← HKE3.out]
                exact RowV.own HG3.out.ids)
end Go.Proofs.YthmecbonjkcnmaaGreat.tk
