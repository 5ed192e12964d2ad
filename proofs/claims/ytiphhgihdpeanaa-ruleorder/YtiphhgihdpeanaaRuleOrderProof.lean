/-
  For every list of rules, any two texts and every number the law RuleOrder of package fretsawlaw11 returns true (the order of rules does not matter; a rule more, whose From does not stand in the text, changes nothing; nor does one whose To is its From, where no other From stands), and the arguments read as before. No condition.
-/
import Derived.Test.YtiphhgihdpeanaaRows
import Derived.Test.YtiphhgihdpeanaaKUp
import Derived.WalkKit
import Derived.ProofKit
import Derived.OpenShut
import Derived.ChangeOld
import Derived.SizedLaws
import Derived.HandedShaped
import Derived.ShutString
import Derived.Below
namespace Go.Proofs.Ytiphhgihdpeanaa.ruleOrder
open Go.ChangeShapes Go.WideShapes Go.ChangeAt Go.RowKit
open Go.ChangeMaps (open_string shut_string)
open ru (Ru Rus)
set_option linter.unusedVariables false

theorem own : ownKnob Try.prog.godebug = none := by kernel_rfl
theorem laidOut : laidOutB Try.prog = true := by kernel_rfl

open ru in
theorem wp_app22 {ops : Array Oper} {rest : List Oper} {o : Oper} {a : Act} {w : World} {Q : Exit → Act → World → Prop} (hgd : o.guard = none) (x y : Operand) (ho : o.op = .call { callee := .builtin .append, args := #[x, y], argTypes := #[22, 22] }) (v u : Value) (hx : a.eval x = v) (hy : a.eval y = u) {v' : Value} {w' : World} (hr : (Builtin.append_ #[22, 22] 22 #[v, u]).run Try.prog w = .ok v' w') (ht : o.type = 22 := by rfl) (h : wpList Try.prog ops Q rest (a.put o.dst v') w') : wpList Try.prog ops Q (o :: rest) a w := by
  refine wpList_plain hgd fun K hK => ?_
  unfold Oper.wp
  rw [x_app22 ho hx hy (by rw [ht]; exact hr)]
  exact hK _ _ h
open ru in
theorem rem_of (by' : Int) (n : Nat) (hn : 1 ≤ n) (hn2 : n ≤ 64) : ∃ b : Nat, b < n ∧ ((by'.tmod (n : Int)) + (n : Int)).tmod (n : Int) = (b : Int) ∧ -64 ≤ by'.tmod (n : Int) ∧ by'.tmod (n : Int) ≤ 64 := by
  have h0 : (n : Int) ≠ 0 := by omega
  have h1 : by'.tmod (n : Int) < (n : Int) := Int.tmod_lt_of_pos _ (by omega)
  have h2 : -(n : Int) < by'.tmod (n : Int) := by
    have := Int.lt_tmod_of_pos by' (show (0 : Int) < (n : Int) by omega)
    omega
  have h3 : 0 ≤ by'.tmod (n : Int) + (n : Int) := by omega
  have h4 : ((by'.tmod (n : Int)) + (n : Int)).tmod (n : Int) < (n : Int) := Int.tmod_lt_of_pos _ (by omega)
  have h5 : 0 ≤ ((by'.tmod (n : Int)) + (n : Int)).tmod (n : Int) := Int.tmod_nonneg _ h3
  exact ⟨(((by'.tmod (n : Int)) + (n : Int)).tmod (n : Int)).toNat, by omega, by omega, by omega, by omega⟩
open ru in
set_option maxHeartbeats 4000000 in
set_option maxRecDepth 100000 in
/-- nothing is said where no text is rewritten, or of long ones -/
theorem walk_out {l : List Ru} {v : Value} {w : World} (hS : Rus w v l) {s : ByteArray} (hs : s.size ≤ 140737488351232) {by' : Int} {more : ByteArray} (h : ¬ (ru.Good l ∧ s.size ≤ 3000)) :
    Calls Try.prog 5 #[v, .string s, .int .i64 by', .string more] w fun e w' => e = .returned (.bool true) ∧ Below w.heap.size w w' := by
  have c7 := ap_any l s (by omega) _ _ rfl rfl
  obtain ⟨av, cap, rfl, _, _⟩ := hS.form
  by_cases hx : apE l s = 0
  · rw [hx] at c7
    have hbig : 3000 < s.size := by
      rcases Nat.lt_or_ge 3000 s.size with h1 | h1
      · exact h1
      · refine absurd ⟨?_, h1⟩ h
        unfold apE at hx
        split at hx
        · assumption
        · exact rightE_zero hx
    have f2 : (3000 : Int) < (s.size : Int) := by omega
    clear h hx hbig
    generalize apT l s = t at *
    go_enter Try.func5, Try.ntmps5
    go_wp2_with (go_at_call 7; refine (c7 _ _ hS).mono ?_; rintro e w1 ⟨rfl, b1⟩)
    go_ret
    exact ⟨rfl, b1⟩
  · have hq2 : ((apE l s : Int) != 0) = true := bne_iff_ne.2 (by omega)
    clear h hx
    generalize apT l s = t at *
    generalize apE l s = x at *
    go_enter Try.func5, Try.ntmps5
    go_wp2_with (go_at_call 7; refine (c7 _ _ hS).mono ?_; rintro e w1 ⟨rfl, b1⟩)
    go_ret
    exact ⟨rfl, b1⟩
open ru in
set_option maxHeartbeats 8000000 in
set_option maxRecDepth 100000 in
theorem walk_in {l : List Ru} {rb roff cap : Nat} {w : World} (hS : Rus w (.slice (some ⟨rb, roff, none⟩) l.length cap) l) (hM : Mx w) {s : ByteArray} (hg : ru.Good l) (hs : s.size ≤ 3000) {by' : Int} {more : ByteArray} (hmo : more.size ≤ 140737488351232) (hne : 1 ≤ l.length) :
    Calls Try.prog 5 #[.slice (some ⟨rb, roff, none⟩) l.length cap, .string s, .int .i64 by', .string more] w fun e w' => e = .returned (.bool true) ∧ Below w.heap.size w w' := by
  have e0 : ∀ k : List Ru, ru.Good k → apE k s = 0 := fun k hk => by unfold apE; rw [if_pos hk, if_pos (by omega)]
  have c7 := ap_any l s (by omega) _ _ rfl rfl
  rw [e0 l hg] at c7
  have h64 := hg.1
  have f2 : ¬ (3000 : Int) < (s.size : Int) := by omega
  have fn : (0 : Int) < (l.length : Int) := by omega
  obtain ⟨b, hb, hb2, hb3, hb4⟩ := rem_of by' l.length hne h64
  have hro := rot_ap hg b s hs
  have c7r := ap_any (rot l b) s (by omega) _ _ rfl rfl
  rw [e0 _ (rot_good hg b), hro] at c7r
  have hu : ((apT l s).toList == (apT l s).toList) = true := by simp
  have hu2 : ((apT l s).toList != (apT l s).toList) = false := by simp
  have hnl : ¬ (l.length : Int) = 0 := by omega
  unfold ApIs at c7 c7r
  have HT := (show Hid (∃ t, t = apT l s) from ⟨_, rfl⟩)
  obtain ⟨t, ht⟩ : ∃ t, t = apT l s := ⟨_, rfl⟩
  rw [← ht] at c7 c7r hu hu2
  have HTT := (show Hid (t = apT l s) from ht)
  have HR := (show Hid _ from c7r)
  clear hro ht HT e0 c7r
  go_enter Try.func5, Try.ntmps5
  go_wp2_with (go_at_call 7; refine (c7 _ _ hS).mono ?_; rintro e w1 ⟨rfl, b1⟩)
  obtain ⟨hcapl, hcapm⟩ : l.length ≤ cap ∧ cap ≤ 9223372036854775807 := by
    obtain ⟨a1, a2, a3, h1, h2⟩ := hS.form
    obtain ⟨_, rfl⟩ : some ⟨rb, roff, none⟩ = a1 ∧ cap = a2 := by simpa using a3
    omega
  have k1 : Kept w1 w1 := Below.refl _ _
  refine wp_region_held (S := Kept w1) (by kernel_rfl) ?_
  refine df.take_op (i := 1) 48 rfl rfl (df.yields_run rfl (v := .slice (some ⟨rb, roff, none⟩) l.length cap) (fun W h => by kernel_rfl)) (by kernel_rfl) (by kernel_rfl) (by kernel_rfl) (fun _ _ _ h => h) k1.drew ?_
  simp only [Act.put, List.setIfInBounds_toArray, List.set_cons_zero, List.set_cons_succ]
  refine df.take_op (i := 2) 49 rfl rfl (df.yields_run rfl (v := .int .i64 (b : Int)) (fun W h => by kernel_rfl)) (by kernel_rfl) (by kernel_rfl) (by kernel_rfl) (fun _ _ _ h => h) k1.drew ?_
  simp only [Act.put, List.setIfInBounds_toArray, List.set_cons_zero, List.set_cons_succ]
  refine df.take_op (i := 3) 50 rfl rfl (df.yields_run rfl (fun W h => x_slice22f (x := .tmp 48) (y := .tmp 49) rfl rfl rfl hb hcapl)) (by kernel_rfl) (by kernel_rfl) (by kernel_rfl) (fun _ _ _ h => h) k1.drew ?_
  simp only [Act.put, List.setIfInBounds_toArray, List.set_cons_zero, List.set_cons_succ]
  refine df.take_op (i := 5) 52 rfl rfl (df.yields_run rfl (v := .slice (some ⟨rb, roff, none⟩) l.length cap) (fun W h => by kernel_rfl)) (by kernel_rfl) (by kernel_rfl) (by kernel_rfl) (fun _ _ _ h => h) k1.drew ?_
  simp only [Act.put, List.setIfInBounds_toArray, List.set_cons_zero, List.set_cons_succ]
  refine df.take_op (i := 6) 53 rfl rfl (df.yields_run rfl (v := .int .i64 (b : Int)) (fun W h => by kernel_rfl)) (by kernel_rfl) (by kernel_rfl) (by kernel_rfl) (fun _ _ _ h => h) k1.drew ?_
  simp only [Act.put, List.setIfInBounds_toArray, List.set_cons_zero, List.set_cons_succ]
  refine df.take_op (i := 7) 54 rfl rfl (df.yields_run rfl (fun W h => x_slice22t (x := .tmp 52) (y := .tmp 53) rfl rfl rfl (Nat.le_of_lt hb) hcapl)) (by kernel_rfl) (by kernel_rfl) (by kernel_rfl) (fun _ _ _ h => h) k1.drew ?_
  simp only [Act.put, List.setIfInBounds_toArray, List.set_cons_zero, List.set_cons_succ]
  refine df.take_op (i := 9) 56 rfl rfl (df.yields_run rfl (v := .string s) (fun W h => by kernel_rfl)) (by kernel_rfl) (by kernel_rfl) (by kernel_rfl) (fun _ _ _ h => h) k1.drew ?_
  simp only [Act.put, List.setIfInBounds_toArray, List.set_cons_zero, List.set_cons_succ]
  obtain ⟨wX, hwX⟩ : ∃ wX, wX = w1.drew.alloc (.cells #[] 34) := ⟨_, rfl⟩
  have kX : Kept w1 wX := by rw [hwX]; exact k1.drew.alloc (Nat.le_refl _) _
  have hsX : w1.drew.heap.size = w1.heap.size := rfl
  have oX : wX.ownsRow w1.heap.size 34 2 (.slice (some ⟨w1.heap.size, 0, none⟩) 0 0) ([] : List Ru).length (cellsR []) := ⟨rfl, .inr ⟨w1.heap.size, 0, #[], rfl, Nat.le_refl _, by rw [hwX]; exact heap_alloc_new w1.drew _, Nat.le_refl _, by unfold maxLen; omega, rfl, rfl⟩⟩
  have rusOf : ∀ W, Kept w1 W → Rus W (.slice (some ⟨rb, roff, none⟩) l.length cap) l := fun W h => hS.below (chain b1 h)
  have cellOf : ∀ W, Kept w1 W → ∀ i, i < l.length → W.cell? ⟨rb, roff + i * 2, none⟩ = some (.string (nth l i).fr) ∧ W.cell? ⟨rb, roff + i * 2 + 1, none⟩ = some (.string (nth l i).to) := fun W h i hi => by
    obtain ⟨b', off', cap', he, _, _, _, h1, h2⟩ := (rusOf W h).at hi
    obtain ⟨⟨rfl, rfl⟩, rfl⟩ : (rb = b' ∧ roff = off') ∧ cap = cap' := by simpa using he
    exact ⟨h1, h2⟩
  have hdl : (l.drop b).length = l.length - b := List.length_drop
  have htl : (l.take b).length = b := by rw [List.length_take]; omega
  obtain ⟨v2, w2, r2, o2, g2⟩ := app22 wX w1.heap.size _ [] (l.drop b) oX ⟨rb, roff + b * 2, none⟩ (cap - b) 22 (news_of fun i hi => by
    have := cellOf wX kX (b + i) (by omega)
    rw [nth_drop, show roff + b * 2 + i * 2 = roff + (b + i) * 2 by omega]
    exact this) (by rw [hdl]; simp; omega) kX.size
  have k2 : Kept w1 w2 := kX.grown g2 kX.size (by intro k hk; cases hk; exact Nat.le_refl _)
  obtain ⟨v3, w3, r3, o3, g3⟩ := app22 w2 w1.heap.size v2 _ (l.take b) o2 ⟨rb, roff, none⟩ cap 22 (news_of fun i hi => by
    rw [nth_take l b i (by omega)]
    exact cellOf w2 k2 i (by omega)) (by rw [htl]; simp; omega) k2.size
  have k3 : Kept w1 w3 := k2.grown g3 k2.size (fun k hk => (ow.lt o2 hk).1)
  have hrot : [] ++ l.drop b ++ l.take b = rot l b := rfl
  rw [hrot] at o3
  have c7r := HR.out _ _ (rus_owns o3)
  rw [hdl] at r2
  rw [htl] at r3
  refine eff_op 0 47 (by kernel_rfl) rfl rfl rfl (x_none22 rfl) (w' := w1.drew.alloc (.cells #[] 34)) (by rw [← hwX]; exact kX) ?_
  simp only [Act.put, List.setIfInBounds_toArray, List.set_cons_zero, List.set_cons_succ]
  rw [← hwX]
  refine eff_op 4 51 (by kernel_rfl) rfl rfl rfl (x_app22 (x := .tmp 47) (y := .tmp 50) rfl rfl rfl r2) k2 ?_
  simp only [Act.put, List.setIfInBounds_toArray, List.set_cons_zero, List.set_cons_succ]
  refine eff_op 8 55 (by kernel_rfl) rfl rfl rfl (x_app22 (x := .tmp 51) (y := .tmp 54) rfl rfl rfl r3) k3 ?_
  simp only [Act.put, List.setIfInBounds_toArray, List.set_cons_zero, List.set_cons_succ]
  refine df.call_op 10 57 (f := 7) (args := #[v3, .string s]) (by kernel_rfl) rfl rfl rfl (by kernel_rfl) (c7r.mono ?_)
  rintro e w4 ⟨rfl, b4⟩
  have k4 : Kept w1 w4 := chain k3 b4
  refine ⟨_, rfl, k4, ?_⟩
  simp only [Act.put, List.setIfInBounds_toArray, List.set_cons_zero, List.set_cons_succ]
  refine df.take_op (i := 11) 46 rfl rfl (df.yields_run rfl (v := .tuple #[.string t, .int .i64 0]) (fun W h => by kernel_rfl)) (by kernel_rfl) (by kernel_rfl) (by kernel_rfl) (fun _ _ _ h => h) k4 ?_
  simp only [Act.put, List.setIfInBounds_toArray, List.set_cons_zero, List.set_cons_succ]
  refine df.take_op (i := 12) 58 rfl rfl (df.yields_run rfl (v := .string t) (fun W h => by kernel_rfl)) (by kernel_rfl) (by kernel_rfl) (by kernel_rfl) (fun _ _ _ h => h) k4 ?_
  simp only [Act.put, List.setIfInBounds_toArray, List.set_cons_zero, List.set_cons_succ]
  refine df.take_op (i := 14) 12 rfl rfl (df.yields_run rfl (v := .string t) (fun W h => by kernel_rfl)) (by kernel_rfl) (by kernel_rfl) (by kernel_rfl) (fun _ _ _ h => h) k4 ?_
  simp only [Act.put, List.setIfInBounds_toArray, List.set_cons_zero, List.set_cons_succ]
  refine df.take_op (i := 13) 59 rfl rfl (df.yields_run rfl (v := .int .i64 0) (fun W h => by kernel_rfl)) (by kernel_rfl) (by kernel_rfl) (by kernel_rfl) (fun _ _ _ h => h) k4 ?_
  simp only [Act.put, List.setIfInBounds_toArray, List.set_cons_zero, List.set_cons_succ]
  refine df.take_op (i := 15) 13 rfl rfl (df.yields_run rfl (v := .int .i64 0) (fun W h => by kernel_rfl)) (by kernel_rfl) (by kernel_rfl) (by kernel_rfl) (fun _ _ _ h => h) k4 ?_
  simp only [Act.put, List.setIfInBounds_toArray, List.set_cons_zero, List.set_cons_succ]
  refine df.done_op (by kernel_rfl) ?_
  have hB4 : Below w.heap.size w w4 := chain b1 k4
  clear hnl hu oX rusOf cellOf r2 o2 g2 r3 o3 g3 c7r HR kX k2 k3 hwX hrot hdl htl k1 b4 k4 c7 hb hb2 hb3 hb4
  go_wp2
  rw [show decide (0 < l.length) = true from decide_eq_true (by omega)]
  clear f2 fn hu2
  go_loopw [14, 69] (fun u x wr => ∃ (i : Nat) (z : Bool), u = .bool z ∧ x = .int .i64 i ∧ i ≤ l.length ∧ Below w.heap.size w wr ∧ Hid (z = ru.stands (l.take i) s)) (fun _ x _ => l.length - (intOf x).toNat)
  case atStart => exact ⟨0, false, rfl, rfl, by omega, hB4, by rw [List.take_zero]; rfl⟩
  case round =>
    obtain ⟨i, z, rfl, rfl, hi, hB3, HZ⟩ := hrel
    clear hB4
    by_cases hend : i < l.length
    · obtain ⟨rb', roff', cap', hre, _, _, hrlt, hr1, hr2⟩ := hS.at hend
      obtain ⟨⟨rfl, rfl⟩, rfl⟩ : (rb = rb' ∧ roff = roff') ∧ cap = cap' := by simpa using hre
      rw [← hB3.cell (p := ⟨rb, roff + i * 2, none⟩) hrlt] at hr1
      rw [← hB3.cell (p := ⟨rb, roff + i * 2 + 1, none⟩) hrlt] at hr2
      have HZ2 := (show Hid (ru.stands (l.take (i + 1)) s = (z || inn s (nth l i).fr)) from by
        show _ = _
        unfold ru.stands
        rw [take_nth l i hend, List.any_append, HZ.out]
        simp [ru.stands])
      generalize nth l i = r at *
      have hB6 : Below w.heap.size w (wr.alloc (.cells #[.string r.fr, .string r.to] 34)) := hB3.alloc hB3.size _
      have c14 := inn_any s r.fr hs _ (hM.below hB6) _ rfl
      clear hre HZ
      cases z
      · rw [Bool.false_or] at HZ2
        generalize inn s r.fr = y at *
        go_wp2_with (go_at_call 14; refine c14.mono ?_; rintro e w10 ⟨rfl, rfl⟩)
        refine ⟨⟨.bool y, _, .int .i64 ((i : Int) + 1), _, _, _, _, _, _, _, _, _, _, _, ⟨i + 1, y, rfl, by go_num, by omega, hB6, HZ2.out.symm⟩, rfl⟩, ?_⟩
        show l.length - (intOf (.int .i64 ((i : Int) + 1))).toNat < l.length - (intOf (.int .i64 (i : Int))).toNat
        simp [intOf]
        omega
      · rw [Bool.true_or] at HZ2
        clear c14
        go_wp2
        exact ⟨⟨i + 1, true, rfl, by go_num, by omega, hB6, HZ2.out.symm⟩, by simp [intOf]; omega⟩
    · have he : i = l.length := by omega
      subst he
      have hzz := HZ.out.symm
      rw [List.take_length] at hzz
      have HZZ := (show Hid _ from hzz)
      clear hi hend hne h64 HZ hzz
      cases z
      · have hts : (t.toList == s.toList) = true := by rw [HTT.out, stands_no hg s hs HZZ.out]; simp
        have hts2 : (t.toList != s.toList) = false := by rw [HTT.out, stands_no hg s hs HZZ.out]; simp
        by_cases g1 : 64 ≤ l.length
        · have g1' : (64 : Int) ≤ (l.length : Int) := by omega
          have g1'' : decide ((64 : Int) ≤ (l.length : Int)) = true := decide_eq_true g1'
          go_wp2
          go_ret
          exact ⟨rfl, hB3⟩
        · have g1' : ¬ (64 : Int) ≤ (l.length : Int) := by omega
          have g1'' : decide ((64 : Int) ≤ (l.length : Int)) = false := decide_eq_false g1'
          by_cases g2 : more.size = 0
          · have g2' : more.toList.isEmpty = true := by rw [empty_eq, g2]; rfl
            go_wp2
            go_ret
            exact ⟨rfl, hB3⟩
          · have g2' : more.toList.isEmpty = false := by rw [empty_eq]; exact beq_eq_false_iff_ne.2 g2
            by_cases g3 : 16 < more.size
            · have g3' : (16 : Int) < (more.size : Int) := by omega
              go_wp2
              go_ret
              exact ⟨rfl, hB3⟩
            · have g3' : ¬ (16 : Int) < (more.size : Int) := by omega
              have hm1 : 1 ≤ more.size := by omega
              have hm2 : more.size ≤ 16 := by omega
              go_wp2
              go_loopw [109] (fun x wr => ∃ (i : Nat), x = .int .i64 i ∧ i ≤ l.length ∧ Below w.heap.size w wr ∧ Hid (∀ r ∈ l.take i, r.fr ≠ more)) (fun x _ => l.length - (intOf x).toNat)
              case atStart => exact ⟨0, rfl, by omega, hB3, fun r hr => absurd hr (by simp)⟩
              case round =>
                obtain ⟨i, rfl, hi, hB5, HI⟩ := hrel
                by_cases hend : i < l.length
                · obtain ⟨rb', roff', cap', hre, _, _, hrlt, hr1, hr2⟩ := hS.at hend
                  obtain ⟨⟨rfl, rfl⟩, rfl⟩ : (rb = rb' ∧ roff = roff') ∧ cap = cap' := by simpa using hre
                  rw [← hB5.cell (p := ⟨rb, roff + i * 2, none⟩) hrlt] at hr1
                  rw [← hB5.cell (p := ⟨rb, roff + i * 2 + 1, none⟩) hrlt] at hr2
                  have HTK := (show Hid ((nth l i).fr ≠ more → ∀ r ∈ l.take (i + 1), r.fr ≠ more) from fun h r hr => by
                    rw [take_nth l i hend] at hr
                    rcases List.mem_append.1 hr with hr | hr
                    · exact HI.out r hr
                    · rw [List.mem_singleton] at hr
                      rw [hr]
                      exact h)
                  generalize nth l i = r at *
                  have hB6 : Below w.heap.size w (wr.alloc (.cells #[.string r.fr, .string r.to] 34)) := hB5.alloc hB5.size _
                  clear hre HI
                  by_cases he : r.fr = more
                  · have hq : (r.fr.toList == more.toList) = true := by rw [he]; simp
                    clear he HTK
                    go_wp2
                    go_ret
                    exact ⟨rfl, hB6⟩
                  · have hq : (r.fr.toList == more.toList) = false := by
                      rw [beq_eq_false_iff_ne, ByteArray.toList_eq, ByteArray.toList_eq]
                      exact fun e => he (ba_ext e)
                    have HN2 := (show Hid _ from HTK.out he)
                    clear he HTK
                    go_wp2
                    go_roundw
                    case rel => exact ⟨i + 1, by go_num, by omega, hB6, HN2⟩
                    case measure => simp [intOf]; omega
                · have hnm : ∀ r ∈ l, r.fr ≠ more := by
                    have := HI.out
                    rw [List.take_of_length_le (by omega)] at this
                    exact this
                  have hwg := wide_good hg (by omega) hm1 hm2 hnm
                  have c7w := ap_any (wide l more) s (by omega) _ _ rfl rfl
                  have ew : apE (wide l more) s = 0 := by unfold apE; rw [if_pos hwg, if_pos (by omega)]
                  rw [ew] at c7w
                  have HV1 := (show Hid (inn s more = false → ((apT (wide l more) s).toList == t.toList) = true) from fun h => by rw [wide_same hg hwg s hs h, HTT.out]; simp)
                  have HV2 := (show Hid (ru.stands l s = false → ((apT (wide l more) s).toList == s.toList) = true) from fun h => by rw [wide_idle hwg s hs h]; simp)
                  unfold ApIs at c7w
                  generalize apT (wide l more) s = vt at *
                  obtain ⟨wX, hwX⟩ : ∃ wX, wX = wr.alloc (.cells #[] 34) := ⟨_, rfl⟩
                  have kX : Below wr.heap.size wr wX := by rw [hwX]; exact (Below.refl _ _).alloc (Nat.le_refl _) _
                  have oX : wX.ownsRow wr.heap.size 34 2 (.slice (some ⟨wr.heap.size, 0, none⟩) 0 0) ([] : List Ru).length (cellsR []) := ⟨rfl, .inr ⟨wr.heap.size, 0, #[], rfl, Nat.le_refl _, by rw [hwX]; exact heap_alloc_new wr _, Nat.le_refl _, by unfold maxLen; omega, rfl, rfl⟩⟩
                  obtain ⟨v2, w2, r2, o2, g2⟩ := app22 wX wr.heap.size _ [] l oX ⟨rb, roff, none⟩ cap 22 (news_of fun i hi => by
                    obtain ⟨b', off', cap', he, _, _, _, h1, h2⟩ := (hS.below (chain hB5 kX)).at hi
                    obtain ⟨⟨rfl, rfl⟩, rfl⟩ : (rb = b' ∧ roff = off') ∧ cap = cap' := by simpa using he
                    exact ⟨h1, h2⟩) (by simp; omega) kX.size
                  have k2 : Below wr.heap.size wr w2 := kX.grown g2 kX.size (by intro k hk; cases hk; exact Nat.le_refl _)
                  obtain ⟨g2', c2', hv2, _, _⟩ := ow.form o2
                  subst hv2
                  obtain ⟨wY, hwY⟩ : ∃ wY, wY = w2.alloc (.cells #[.string more, .string more] 34) := ⟨_, rfl⟩
                  have kY2 : Below w2.heap.size w2 wY := by rw [hwY]; exact (Below.refl _ _).alloc (Nat.le_refl _) _
                  have kY : Below wr.heap.size wr wY := chain k2 kY2
                  have hnY : wY.heap[w2.heap.size]? = some (.cells #[.string more, .string more] 34 (0, 0)) := by rw [hwY]; exact heap_alloc_new w2 _
                  obtain ⟨v3, w3, r3, o3, g3⟩ := app22 wY wr.heap.size _ _ [⟨more, more⟩] (ow.later o2 kY2) ⟨w2.heap.size, 0, none⟩ 1 22 (news_of fun i hi => by
                    obtain rfl : i = 0 := by simp at hi; omega
                    refine ⟨?_, ?_⟩
                    · rw [Lib.cell_of_heap hnY]; rfl
                    · rw [Lib.cell_of_heap hnY]; rfl) (by simp; omega) kY.size
                  have k3 : Below wr.heap.size wr w3 := kY.grown g3 kY.size (fun k hk => (ow.lt o2 hk).1)
                  obtain ⟨g3', c3', hv3, _, _⟩ := ow.form o3
                  subst hv3
                  have hwd : [] ++ l ++ [⟨more, more⟩] = wide l more := rfl
                  rw [hwd] at o3 r3
                  have c7x := c7w _ _ (rus_owns o3)
                  have hB8 : Below w.heap.size w w3 := chain hB5 k3
                  have HIN := (show Hid (∀ W, Below w.heap.size w W → ∀ x, x = inn s more → Calls Try.prog 14 #[.string s, .string more] W fun e w' => e = .returned (.bool x) ∧ w' = W) from fun W h x hx => inn_any s more hs W (hM.below h) x hx)
                  rw [hwX] at r2
                  rw [hwY] at r3
                  simp only [List.nil_append, List.length_cons, List.length_nil, Nat.zero_add] at r2 r3 c7x
                  have HBB := (show Hid _ from hB8)
                  clear oX o2 g2 g3 o3 kX k2 kY2 kY hnY k3 hwX hwY hwd c7w ew hwg hnm HI hB8
                  cases hcc : inn s more
                  · have hv1 := HV1.out hcc
                    have hv2 := HV2.out HZZ.out
                    clear HV1 HV2
                    go_wp2_with (first | (at_builtin; refine wp_app22 (by rfl) (.tmp 118) (.tmp 119) (by rfl) _ _ (by rfl) (by rfl) r2 (by rfl) ?_) | (at_builtin; refine wp_app22 (by rfl) (.tmp 120) (.tmp 124) (by rfl) _ _ (by rfl) (by rfl) r3 (by rfl) ?_) | (go_at_call 7; refine c7x.mono ?_; rintro e w9 ⟨rfl, b9⟩; have hB9 := chain HBB.out b9; have c14 := HIN.out w9 hB9 _ hcc.symm) | (go_at_call 14; refine c14.mono ?_; rintro e w10 ⟨rfl, rfl⟩))
                    go_ret
                    exact ⟨rfl, hB9⟩
                  · have hv2 := HV2.out HZZ.out
                    clear HV1 HV2
                    go_wp2_with (first | (at_builtin; refine wp_app22 (by rfl) (.tmp 118) (.tmp 119) (by rfl) _ _ (by rfl) (by rfl) r2 (by rfl) ?_) | (at_builtin; refine wp_app22 (by rfl) (.tmp 120) (.tmp 124) (by rfl) _ _ (by rfl) (by rfl) r3 (by rfl) ?_) | (go_at_call 7; refine c7x.mono ?_; rintro e w9 ⟨rfl, b9⟩; have hB9 := chain HBB.out b9; have c14 := HIN.out w9 hB9 _ hcc.symm) | (go_at_call 14; refine c14.mono ?_; rintro e w10 ⟨rfl, rfl⟩))
                    go_ret
                    exact ⟨rfl, hB9⟩
      · skip
        by_cases g1 : 64 ≤ l.length
        · have g1' : (64 : Int) ≤ (l.length : Int) := by omega
          have g1'' : decide ((64 : Int) ≤ (l.length : Int)) = true := decide_eq_true g1'
          go_wp2
          go_ret
          exact ⟨rfl, hB3⟩
        · have g1' : ¬ (64 : Int) ≤ (l.length : Int) := by omega
          have g1'' : decide ((64 : Int) ≤ (l.length : Int)) = false := decide_eq_false g1'
          by_cases g2 : more.size = 0
          · have g2' : more.toList.isEmpty = true := by rw [empty_eq, g2]; rfl
            go_wp2
            go_ret
            exact ⟨rfl, hB3⟩
          · have g2' : more.toList.isEmpty = false := by rw [empty_eq]; exact beq_eq_false_iff_ne.2 g2
            by_cases g3 : 16 < more.size
            · have g3' : (16 : Int) < (more.size : Int) := by omega
              go_wp2
              go_ret
              exact ⟨rfl, hB3⟩
            · have g3' : ¬ (16 : Int) < (more.size : Int) := by omega
              have hm1 : 1 ≤ more.size := by omega
              have hm2 : more.size ≤ 16 := by omega
              go_wp2
              go_loopw [109] (fun x wr => ∃ (i : Nat), x = .int .i64 i ∧ i ≤ l.length ∧ Below w.heap.size w wr ∧ Hid (∀ r ∈ l.take i, r.fr ≠ more)) (fun x _ => l.length - (intOf x).toNat)
              case atStart => exact ⟨0, rfl, by omega, hB3, fun r hr => absurd hr (by simp)⟩
              case round =>
                obtain ⟨i, rfl, hi, hB5, HI⟩ := hrel
                by_cases hend : i < l.length
                · obtain ⟨rb', roff', cap', hre, _, _, hrlt, hr1, hr2⟩ := hS.at hend
                  obtain ⟨⟨rfl, rfl⟩, rfl⟩ : (rb = rb' ∧ roff = roff') ∧ cap = cap' := by simpa using hre
                  rw [← hB5.cell (p := ⟨rb, roff + i * 2, none⟩) hrlt] at hr1
                  rw [← hB5.cell (p := ⟨rb, roff + i * 2 + 1, none⟩) hrlt] at hr2
                  have HTK := (show Hid ((nth l i).fr ≠ more → ∀ r ∈ l.take (i + 1), r.fr ≠ more) from fun h r hr => by
                    rw [take_nth l i hend] at hr
                    rcases List.mem_append.1 hr with hr | hr
                    · exact HI.out r hr
                    · rw [List.mem_singleton] at hr
                      rw [hr]
                      exact h)
                  generalize nth l i = r at *
                  have hB6 : Below w.heap.size w (wr.alloc (.cells #[.string r.fr, .string r.to] 34)) := hB5.alloc hB5.size _
                  clear hre HI
                  by_cases he : r.fr = more
                  · have hq : (r.fr.toList == more.toList) = true := by rw [he]; simp
                    clear he HTK
                    go_wp2
                    go_ret
                    exact ⟨rfl, hB6⟩
                  · have hq : (r.fr.toList == more.toList) = false := by
                      rw [beq_eq_false_iff_ne, ByteArray.toList_eq, ByteArray.toList_eq]
                      exact fun e => he (ba_ext e)
                    have HN2 := (show Hid _ from HTK.out he)
                    clear he HTK
                    go_wp2
                    go_roundw
                    case rel => exact ⟨i + 1, by go_num, by omega, hB6, HN2⟩
                    case measure => simp [intOf]; omega
                · have hnm : ∀ r ∈ l, r.fr ≠ more := by
                    have := HI.out
                    rw [List.take_of_length_le (by omega)] at this
                    exact this
                  have hwg := wide_good hg (by omega) hm1 hm2 hnm
                  have c7w := ap_any (wide l more) s (by omega) _ _ rfl rfl
                  have ew : apE (wide l more) s = 0 := by unfold apE; rw [if_pos hwg, if_pos (by omega)]
                  rw [ew] at c7w
                  have HV1 := (show Hid (inn s more = false → ((apT (wide l more) s).toList == t.toList) = true) from fun h => by rw [wide_same hg hwg s hs h, HTT.out]; simp)
                  have HV2 := (show Hid (ru.stands l s = false → ((apT (wide l more) s).toList == s.toList) = true) from fun h => by rw [wide_idle hwg s hs h]; simp)
                  unfold ApIs at c7w
                  generalize apT (wide l more) s = vt at *
                  obtain ⟨wX, hwX⟩ : ∃ wX, wX = wr.alloc (.cells #[] 34) := ⟨_, rfl⟩
                  have kX : Below wr.heap.size wr wX := by rw [hwX]; exact (Below.refl _ _).alloc (Nat.le_refl _) _
                  have oX : wX.ownsRow wr.heap.size 34 2 (.slice (some ⟨wr.heap.size, 0, none⟩) 0 0) ([] : List Ru).length (cellsR []) := ⟨rfl, .inr ⟨wr.heap.size, 0, #[], rfl, Nat.le_refl _, by rw [hwX]; exact heap_alloc_new wr _, Nat.le_refl _, by unfold maxLen; omega, rfl, rfl⟩⟩
                  obtain ⟨v2, w2, r2, o2, g2⟩ := app22 wX wr.heap.size _ [] l oX ⟨rb, roff, none⟩ cap 22 (news_of fun i hi => by
                    obtain ⟨b', off', cap', he, _, _, _, h1, h2⟩ := (hS.below (chain hB5 kX)).at hi
                    obtain ⟨⟨rfl, rfl⟩, rfl⟩ : (rb = b' ∧ roff = off') ∧ cap = cap' := by simpa using he
                    exact ⟨h1, h2⟩) (by simp; omega) kX.size
                  have k2 : Below wr.heap.size wr w2 := kX.grown g2 kX.size (by intro k hk; cases hk; exact Nat.le_refl _)
                  obtain ⟨g2', c2', hv2, _, _⟩ := ow.form o2
                  subst hv2
                  obtain ⟨wY, hwY⟩ : ∃ wY, wY = w2.alloc (.cells #[.string more, .string more] 34) := ⟨_, rfl⟩
                  have kY2 : Below w2.heap.size w2 wY := by rw [hwY]; exact (Below.refl _ _).alloc (Nat.le_refl _) _
                  have kY : Below wr.heap.size wr wY := chain k2 kY2
                  have hnY : wY.heap[w2.heap.size]? = some (.cells #[.string more, .string more] 34 (0, 0)) := by rw [hwY]; exact heap_alloc_new w2 _
                  obtain ⟨v3, w3, r3, o3, g3⟩ := app22 wY wr.heap.size _ _ [⟨more, more⟩] (ow.later o2 kY2) ⟨w2.heap.size, 0, none⟩ 1 22 (news_of fun i hi => by
                    obtain rfl : i = 0 := by simp at hi; omega
                    refine ⟨?_, ?_⟩
                    · rw [Lib.cell_of_heap hnY]; rfl
                    · rw [Lib.cell_of_heap hnY]; rfl) (by simp; omega) kY.size
                  have k3 : Below wr.heap.size wr w3 := kY.grown g3 kY.size (fun k hk => (ow.lt o2 hk).1)
                  obtain ⟨g3', c3', hv3, _, _⟩ := ow.form o3
                  subst hv3
                  have hwd : [] ++ l ++ [⟨more, more⟩] = wide l more := rfl
                  rw [hwd] at o3 r3
                  have c7x := c7w _ _ (rus_owns o3)
                  have hB8 : Below w.heap.size w w3 := chain hB5 k3
                  have HIN := (show Hid (∀ W, Below w.heap.size w W → ∀ x, x = inn s more → Calls Try.prog 14 #[.string s, .string more] W fun e w' => e = .returned (.bool x) ∧ w' = W) from fun W h x hx => inn_any s more hs W (hM.below h) x hx)
                  rw [hwX] at r2
                  rw [hwY] at r3
                  simp only [List.nil_append, List.length_cons, List.length_nil, Nat.zero_add] at r2 r3 c7x
                  have HBB := (show Hid _ from hB8)
                  clear oX o2 g2 g3 o3 kX k2 kY2 kY hnY k3 hwX hwY hwd c7w ew hwg hnm HI hB8
                  cases hcc : inn s more
                  · have hv1 := HV1.out hcc
                    skip
                    clear HV1 HV2
                    go_wp2_with (first | (at_builtin; refine wp_app22 (by rfl) (.tmp 118) (.tmp 119) (by rfl) _ _ (by rfl) (by rfl) r2 (by rfl) ?_) | (at_builtin; refine wp_app22 (by rfl) (.tmp 120) (.tmp 124) (by rfl) _ _ (by rfl) (by rfl) r3 (by rfl) ?_) | (go_at_call 7; refine c7x.mono ?_; rintro e w9 ⟨rfl, b9⟩; have hB9 := chain HBB.out b9; have c14 := HIN.out w9 hB9 _ hcc.symm) | (go_at_call 14; refine c14.mono ?_; rintro e w10 ⟨rfl, rfl⟩))
                    go_ret
                    exact ⟨rfl, hB9⟩
                  · skip
                    clear HV1 HV2
                    go_wp2_with (first | (at_builtin; refine wp_app22 (by rfl) (.tmp 118) (.tmp 119) (by rfl) _ _ (by rfl) (by rfl) r2 (by rfl) ?_) | (at_builtin; refine wp_app22 (by rfl) (.tmp 120) (.tmp 124) (by rfl) _ _ (by rfl) (by rfl) r3 (by rfl) ?_) | (go_at_call 7; refine c7x.mono ?_; rintro e w9 ⟨rfl, b9⟩; have hB9 := chain HBB.out b9; have c14 := HIN.out w9 hB9 _ hcc.symm) | (go_at_call 14; refine c14.mono ?_; rintro e w10 ⟨rfl, rfl⟩))
                    go_ret
                    exact ⟨rfl, hB9⟩
open ru in
theorem app_none (w : World) (g cap : Nat) : (Builtin.append_ #[22, 22] 22 #[.slice (some ⟨g, 0, none⟩) 0 0, .slice none 0 cap]).run Try.prog w = .ok (.slice (some ⟨g, 0, none⟩) 0 0) w := by kernel_rfl
open ru in
theorem app_nil (wX : World) (B g : Nat) (o : Option Addr) (cap : Nat) (oX : wX.ownsRow B 34 2 (.slice (some ⟨g, 0, none⟩) 0 0) ([] : List Ru).length (cellsR [])) (hB : B ≤ wX.heap.size) (hg : B ≤ g) :
    ∃ v2 w2, (Builtin.append_ #[22, 22] 22 #[.slice (some ⟨g, 0, none⟩) 0 0, .slice o 0 cap]).run Try.prog wX = .ok v2 w2 ∧ w2.ownsRow B 34 2 v2 ([] : List Ru).length (cellsR []) ∧ Below B wX w2 := by
  cases o with
  | none => exact ⟨_, _, app_none wX g cap, oX, Below.refl _ _⟩
  | some a =>
    obtain ⟨v2, w2, r2, o2, g2⟩ := app22 wX B _ [] [] oX a cap 22 (fun j u h => by simp [cellsR] at h) (by simp) hB
    exact ⟨v2, w2, r2, o2, (Below.refl B wX).grown g2 hB (by intro k hk; cases hk; exact hg)⟩
open ru in
set_option maxHeartbeats 8000000 in
set_option maxRecDepth 100000 in
theorem walk_nil {a : Option Addr} {cap : Nat} {w : World} (hM : Mx w) {s : ByteArray} (hs : s.size ≤ 3000) {by' : Int} {more : ByteArray} (hmo : more.size ≤ 140737488351232) :
    Calls Try.prog 5 #[.slice a 0 cap, .string s, .int .i64 by', .string more] w fun e w' => e = .returned (.bool true) ∧ Below w.heap.size w w' := by
  have hS : Rus w (.slice a 0 cap) [] := .inl ⟨rfl, _, _, rfl⟩
  have hg : ru.Good [] := ⟨by simp, fun r hr => absurd hr (by simp), List.nodup_nil⟩
  have c7 := ap_any [] s (by omega) _ _ rfl rfl
  have e1 : apE [] s = 0 := by unfold apE; rw [if_pos hg, if_pos (by omega)]
  have e2 : apT [] s = s := stands_no hg s hs rfl
  rw [e1, e2] at c7
  have hts : (s.toList == s.toList) = true := by simp
  have hts2 : (s.toList != s.toList) = false := by simp
  have f2 : ¬ (3000 : Int) < (s.size : Int) := by omega
  unfold ApIs at c7
  have c7' := c7 _ _ hS
  clear c7 e1 e2
  go_enter Try.func5, Try.ntmps5
  go_wp2_with (go_at_call 7; refine c7'.mono ?_; rintro e w1 ⟨rfl, b1⟩)
  clear c7' f2
  go_loopw [14, 69] (fun u x wr => u = .bool false ∧ x = .int .i64 0 ∧ wr = w1) (fun _ _ _ => 0)
  case atStart => exact ⟨rfl, rfl, rfl⟩
  case round =>
    obtain ⟨rfl, rfl, rfl⟩ := hrel
    by_cases g2 : more.size = 0
    · have g2' : more.toList.isEmpty = true := by rw [empty_eq, g2]; rfl
      go_wp2
      go_ret
      exact ⟨rfl, b1⟩
    · have g2' : more.toList.isEmpty = false := by rw [empty_eq]; exact beq_eq_false_iff_ne.2 g2
      by_cases g3 : 16 < more.size
      · have g3' : (16 : Int) < (more.size : Int) := by omega
        go_wp2
        go_ret
        exact ⟨rfl, b1⟩
      · have g3' : ¬ (16 : Int) < (more.size : Int) := by omega
        have hm1 : 1 ≤ more.size := by omega
        have hm2 : more.size ≤ 16 := by omega
        go_wp2
        go_loopw [109] (fun x wr2 => x = .int .i64 0 ∧ wr2 = wr) (fun _ _ => 0)
        case atStart => exact ⟨rfl, rfl⟩
        case round =>
          obtain ⟨rfl, rfl⟩ := hrel
          have hwg := wide_good hg (m := more) (by simp) hm1 hm2 (fun r hr => absurd hr (by simp))
          have c7w := ap_any (wide [] more) s (by omega) _ _ rfl rfl
          have ew : apE (wide [] more) s = 0 := by unfold apE; rw [if_pos hwg, if_pos (by omega)]
          have et : apT (wide [] more) s = s := wide_idle hwg s hs rfl
          rw [ew, et] at c7w
          unfold ApIs at c7w
          obtain ⟨wX, hwX⟩ : ∃ wX, wX = wr.alloc (.cells #[] 34) := ⟨_, rfl⟩
          have kX : Below wr.heap.size wr wX := by rw [hwX]; exact (Below.refl _ _).alloc (Nat.le_refl _) _
          have oX : wX.ownsRow wr.heap.size 34 2 (.slice (some ⟨wr.heap.size, 0, none⟩) 0 0) ([] : List Ru).length (cellsR []) := ⟨rfl, .inr ⟨wr.heap.size, 0, #[], rfl, Nat.le_refl _, by rw [hwX]; exact heap_alloc_new wr _, Nat.le_refl _, by unfold maxLen; omega, rfl, rfl⟩⟩
          obtain ⟨v2, w2, r2, o2, g2⟩ := app_nil wX wr.heap.size wr.heap.size a cap oX kX.size (Nat.le_refl _)
          have k2 : Below wr.heap.size wr w2 := kX.trans g2
          obtain ⟨g2', c2', hv2, _, _⟩ := ow.form o2
          subst hv2
          obtain ⟨wY, hwY⟩ : ∃ wY, wY = w2.alloc (.cells #[.string more, .string more] 34) := ⟨_, rfl⟩
          have kY2 : Below w2.heap.size w2 wY := by rw [hwY]; exact (Below.refl _ _).alloc (Nat.le_refl _) _
          have kY : Below wr.heap.size wr wY := chain k2 kY2
          have hnY : wY.heap[w2.heap.size]? = some (.cells #[.string more, .string more] 34 (0, 0)) := by rw [hwY]; exact heap_alloc_new w2 _
          obtain ⟨v3, w3, r3, o3, g3⟩ := app22 wY wr.heap.size _ [] [⟨more, more⟩] (ow.later o2 kY2) ⟨w2.heap.size, 0, none⟩ 1 22 (news_of fun i hi => by
            obtain rfl : i = 0 := by simp at hi; omega
            refine ⟨?_, ?_⟩
            · rw [Lib.cell_of_heap hnY]; rfl
            · rw [Lib.cell_of_heap hnY]; rfl) (by simp) kY.size
          have k3 : Below wr.heap.size wr w3 := kY.grown g3 kY.size (fun k hk => (ow.lt o2 hk).1)
          obtain ⟨g3', c3', hv3, _, _⟩ := ow.form o3
          subst hv3
          have hwd : [] ++ [⟨more, more⟩] = wide [] more := rfl
          rw [hwd] at o3 r3
          have c7x := c7w _ _ (rus_owns o3)
          have hB8 : Below w.heap.size w w3 := chain b1 k3
          have HIN := (show Hid (∀ W, Below w.heap.size w W → ∀ x, x = inn s more → Calls Try.prog 14 #[.string s, .string more] W fun e w' => e = .returned (.bool x) ∧ w' = W) from fun W h x hx => inn_any s more hs W (hM.below h) x hx)
          rw [hwX] at r2
          rw [hwY] at r3
          simp only [List.length_cons, List.length_nil, Nat.zero_add] at r2 r3
          have HBB := (show Hid _ from hB8)
          clear oX o2 g2 g3 o3 kX k2 kY2 kY hnY k3 hwX hwY hwd c7w ew et hwg hB8
          cases hcc : inn s more
          · go_wp2_with (first | (at_builtin; refine wp_app22 (by rfl) (.tmp 118) (.tmp 119) (by rfl) _ _ (by rfl) (by rfl) r2 (by rfl) ?_) | (at_builtin; refine wp_app22 (by rfl) (.tmp 120) (.tmp 124) (by rfl) _ _ (by rfl) (by rfl) r3 (by rfl) ?_) | (go_at_call 7; refine c7x.mono ?_; rintro e w9 ⟨rfl, b9⟩; have hB9 := chain HBB.out b9; have c14 := HIN.out w9 hB9 _ hcc.symm) | (go_at_call 14; refine c14.mono ?_; rintro e w10 ⟨rfl, rfl⟩))
            go_ret
            exact ⟨rfl, hB9⟩
          · go_wp2_with (first | (at_builtin; refine wp_app22 (by rfl) (.tmp 118) (.tmp 119) (by rfl) _ _ (by rfl) (by rfl) r2 (by rfl) ?_) | (at_builtin; refine wp_app22 (by rfl) (.tmp 120) (.tmp 124) (by rfl) _ _ (by rfl) (by rfl) r3 (by rfl) ?_) | (go_at_call 7; refine c7x.mono ?_; rintro e w9 ⟨rfl, b9⟩; have hB9 := chain HBB.out b9; have c14 := HIN.out w9 hB9 _ hcc.symm) | (go_at_call 14; refine c14.mono ?_; rintro e w10 ⟨rfl, rfl⟩))
            go_ret
            exact ⟨rfl, hB9⟩
open ru in
theorem walk {l : List Ru} {v : Value} {w : World} (hM : Mx w) (hS : Rus w v l) {s : ByteArray} (hs : s.size ≤ 140737488351232) {by' : Int} (wa : (Lit.int .i64 by').wf = true) {more : ByteArray} (hmo : more.size ≤ 140737488351232) (w0 : World) (hw0 : w0 = w := by rfl) :
    Calls Try.prog 5 #[v, .string s, .int .i64 by', .string more] w0 fun e w' => e = .returned (.bool true) ∧ Below w0.heap.size w0 w' := by
  subst hw0
  by_cases h : ru.Good l ∧ s.size ≤ 3000
  · rcases hS with ⟨rfl, a, cap, rfl⟩ | ⟨b, off, cap, rfl, hl, hm, hlt, hc⟩
    · exact walk_nil hM h.2 hmo
    · by_cases hne : 1 ≤ l.length
      · exact walk_in (.inr ⟨b, off, cap, rfl, hl, hm, hlt, hc⟩) hM h.1 h.2 hmo hne
      · obtain rfl : l = [] := List.length_eq_zero_iff.1 (by omega)
        exact walk_nil hM h.2 hmo
  · exact walk_out hS hs h

set_option maxRecDepth 100000 in
theorem lifted (os : Os) (started : os.Started) (H : Type) (enc : TypeId × Value → H) :
    ReturnsInHanded {} Try.checked os 5 .any (Rows.ruleOrderSpec.pre6 enc Try.prog Try.f5 Rows.ruleOrderRow.domain false) (Rows.ruleOrderSpec.post enc Try.prog Try.f5 false true false false) := by
  refine returnsInHanded_of_change_shaped (C := Try.checked) own started (by kernel_rfl) Try.func5
    (ChangeSpec.witness6 (enc := enc) (C := Try.checked) false ⟨#[], #[.slice none 0 0, .string ByteArray.empty, .int .i64 0, .string ByteArray.empty], []⟩ 8 (by kernel_rfl) (by kernel_rfl) (by kernel_rfl) (by kernel_rfl)) ?_
  intro W base args ds gs before hval0 hW hcnd hsz0 hsh _
  have hsz : (DataW.weightsEach Try.prog (Try.f5.params.toList ++ Rows.ruleOrderSpec.plain.varTypes Try.prog) (ds ++ gs)).all (· ≤ reachBytes) = true := hsz0
  have hval : ∀ (j : Nat) t v, Try.f5.params[j]? = some t → args[j]? = some v → Value.okWide Try.prog W .any base t v := hval0
  have hW' := hW
  obtain ⟨p, q, hA0, hV, rfl, hfz, hnd⟩ := hW
  have hA : DataW.TrodAll enc Try.prog W 0 (fun _ => true) true Try.f5.params.toList args.toList ds p := hA0
  rw [Try.params5] at hA hval hsz
  obtain ⟨v0, vs0, d0, ds0, p0, q0, hargs, rfl, rfl, h0, r0⟩ := trodAll_cons hA
  obtain ⟨v1, vs1, d1, ds1, p1, q1, rfl, rfl, rfl, h1, r1⟩ := trodAll_cons r0
  obtain ⟨v2, vs2, d2, ds2, p2, q2, rfl, rfl, rfl, h2, r2⟩ := trodAll_cons r1
  obtain ⟨v3, vs3, d3, ds3, p3, q3, rfl, rfl, rfl, h3, r3⟩ := trodAll_cons r2
  obtain ⟨rfl, rfl, rfl⟩ := trodAll_nil r3
  obtain rfl : args = #[v0, v1, v2, v3] := by cases args; simp_all
  obtain ⟨rfl, rfl⟩ := trodVars_none hV
  have k0 := h0
  have lt0 : ∀ x ∈ p0, x.block < W.heap.size := by obtain ⟨m, hm⟩ := k0; exact DataW.trod_lt m _ _ _ hm
  obtain ⟨l0, F0⟩ := ru.open22 (hval 0 22 v0 rfl rfl) h0
  obtain ⟨a1, rfl, rfl, rfl, w1⟩ := open_string Try.underlying9 (hval 1 9 v1 rfl rfl) h1
  have F1 : a1.size ≤ 140737488351232 := by
    have := sized_string hsz (j := 1) (t := 9) rfl rfl
    simpa [reachBytes] using this
  obtain ⟨a2, rfl, rfl, rfl, w2⟩ := open_int Try.underlying3 (hval 2 3 v2 rfl rfl) h2
  obtain ⟨a3, rfl, rfl, rfl, w3⟩ := open_string Try.underlying9 (hval 3 9 v3 rfl rfl) h3
  have F3 : a3.size ≤ 140737488351232 := by
    have := sized_string hsz (j := 3) (t := 9) rfl rfl
    simpa [reachBytes] using this
  clear hA0 hval0
  refine (walk (ru.maxLen_cell hsh) F0 F1 w2 F3 W).mono fun e W' ⟨he, bel⟩ => ?_
  subst he
  exact ⟨_, rfl, _, _, _, [], _, [], hW', trodAll_mk1 (shut_bool Try.underlying4 _), (trodAll_cons_mk (Below.trod laidOut (by kernel_rfl) (of_decide_eq_true (by kernel_rfl)) k0 bel lt0) (trodAll_cons_mk (shut_string Try.underlying9 w1) (trodAll_cons_mk (shut_int Try.underlying3 w2) (trodAll_cons_mk (shut_string Try.underlying9 w3) trodAll_mk0)))), rfl, bel.frame _, fun h => by cases h⟩

theorem over : Rows.ruleOrderRow.holds Try.pinned (OpenSpec.ofChange Rows.ruleOrderSpec) :=
  OpenClaim.holds_of_wide 5 Try.f5 rfl rfl rfl rfl rfl rfl rfl ⟨rfl, rfl, rfl, rfl, rfl⟩ rfl rfl rfl rfl rfl (by kernel_rfl) Try.func5 (by kernel_rfl)
    (of_decide_eq_true (by kernel_rfl)) (by unfold Func.isWrapper; first | (rw [if_pos (by decide +kernel)]; kernel_rfl) | (rw [if_neg (by decide +kernel)]; exact ⟨rfl, rfl⟩))
    (fun os started H enc _ => lifted os started H enc)

theorem proved : Rows.RuleOrderSaid :=
  over
#print axioms proved
end Go.Proofs.Ytiphhgihdpeanaa.ruleOrder
