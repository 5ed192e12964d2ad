/-
  Contracts over this program: a byte more (rewriter.step), in all its ways.
-/
import Derived.Test.YtlmodfeiphffcaaKRm
namespace Go.Proofs.Ytlmodfeiphffcaa.wr
open Go.ChangeShapes Go.WideShapes Go.ChangeAt Go.RowKit Go.Shelf Go.Maps
open tr
open mk (law9 OkT kt key9 kt_inj map_keep)
open ru (Ru Rus)
open ru.rw (waits whole stp fall states)
set_option linter.unusedVariables false
set_option maxRecDepth 100000

theorem BufG.step_text {ops : Array Oper} {o : Oper} {a : Act} {w : World} {K : Act → World → Prop} {Q : Exit → Act → World → Prop} {E : Prop} (hgd : o.guard = none) (sl x : Operand)
    (ho : o.op = .call { callee := .builtin .append, args := #[sl, x], argTypes := #[51, 9] })
    (f : Bool) (B : Nat) (v : Value) (xs : List UInt8) (hs : a.eval sl = v) (hb : BufG f B v xs w) (s : ByteArray) (hx : a.eval x = .string s) (hlen : xs.length + s.size ≤ 1000000)
    (h : ∀ v' w', BufG f B v' (xs ++ s.data.toList) w' → Gr w v w' v' → K (a.put o.dst v') w') : if Region.wanted o (yielded ops a.tmps) = true then Oper.wp Try.prog o a w K Q else E := by
  have hw : Region.wanted o (yielded ops a.tmps) = true := by simp [Region.wanted, hgd]
  rw [if_pos hw]
  obtain ⟨v', w', hr, h2, h3⟩ := hb.run_text s hlen o.type
  unfold Oper.wp execOp
  simp only [ho, resolve, invoke, builtin, Sem.run_bind, Sem.run_pure, Result.andThen_ok, List.map_toArray, List.map_cons, List.map_nil, hs, hx, hr]
  exact h v' w' h2 h3
theorem fall_any (l : List Ru) (hg : ru.Good l) (B rb : Nat) (lv : Value) (sm fm : Nat) (W : World) (hR : Rw B rb l lv sm fm W) (u : ByteArray) (h0 : 0 < u.size) (hw : waits l u.data.toList = true)
    (IH : ∀ w : ByteArray, w.size < u.size → (w.data.toList = [] ∨ waits l w.data.toList = true) → StepOk l w) :
    Calls Try.prog 57 #[.pointer (some ⟨rb, 0, none⟩), .string u] W (FallOut B rb l lv sm fm u W) := by
  obtain ⟨ks, D, hD, hF⟩ := hR.fl
  by_cases hu : u ∈ ks
  · exact fall_found l B rb lv sm fm W hR ks D hD hF u hu
  · exact fall_new l hg B rb lv sm fm W hR ks D hD hF u hu h0 hw IH
theorem Gw.fw {fm : Nat} {W W' : World} (v : Value) (h : Fw fm W W') : Gw fm W v W' v := ⟨h.os, h.tape, h.output, h.size, fun i hi _ hf => h.block i hi hf, .inl rfl⟩
/-- what the step behind a fall answers -/
theorem step_on (l : List Ru) (hg : ru.Good l) (f : Bool) (B rb : Nat) (lv : Value) (sm fm : Nat) (v : Value) (out : List UInt8) (W W2 w3 : World) (w : ByteArray) (b : UInt8) (hR : Rw B rb l lv sm fm W) (hB : BufG f B v out W) (hlen : out.length + 3300 * (w.size + 1) ≤ 90000)
    (hx : waits l (w.data.toList ++ [b]) = false) (hr : whole l (w.data.toList ++ [b]) = none) (hne : w.data.toList ≠ []) (h15 : w.size ≤ 15)
    (B2 : Below W.heap.size W W2) (hR3 : Rw B rb l lv sm fm w3) (hF3 : Fw fm W2 w3) (hN3 : NewLt (w.size + 1) fm W2 w3) (P Q : ByteArray) (hP : P = tr.bs (fall l w.data.toList).1) (hQ : Q = tr.bs (fall l w.data.toList).2) (IH : StepOk l Q)
    (v' : Value) (w' : World) (hb' : BufG f B v' (out ++ P.data.toList) w') (hG : Gr (w3.alloc (.cells #[.string P, .string Q] 106)) v w' v') :
    w'.cell? ⟨w3.heap.size, 0, none⟩ = some (.string P) ∧ w'.cell? ⟨w3.heap.size, 1, none⟩ = some (.string Q) ∧ ∃ g n c, v' = .slice g n c ∧ n ≤ c ∧ c ≤ 9223372036854775807 ∧ Calls Try.prog 35 #[.pointer (some ⟨rb, 0, none⟩), .slice g n c, .string Q, .int .u8 (b.toNat : Int)] w' (fun e w4 => ∃ g n c s, e = .returned (.tuple #[.slice g n c, .string s]) ∧ n ≤ c ∧ c ≤ 9223372036854775807 ∧ StpOut f B rb l lv sm fm v out w.data.toList b W (.returned (.tuple #[.slice g n c, .string s])) w4) := by
  have ePl : P.data.toList = (fall l w.data.toList).1 := by rw [hP]
  have eQl : Q.data.toList = (fall l w.data.toList).2 := by rw [hQ]
  obtain ⟨es, cl, ef⟩ := hR.fobj
  have efl := (Array.getElem?_eq_some_iff.1 ef).1
  have ef2 := (B2.block fm efl).trans ef
  have hB2 : BufG f B v out W2 := hB.later B2
  have hB3 : BufG f B v out w3 := hB2.keep (Nat.le_trans hB2.1 hF3.size) fun g e => hF3.block g (hB2.lt e).2 (fun e2 => hB2.kind ef2 (by rw [e, e2]))
  have ba := below_alloc w3 (.cells #[.string P, .string Q] 106)
  have hB4 := hB3.later ba
  have hR4 := hR3.later ba
  have x4 : (w3.alloc (.cells #[.string P, .string Q] 106)).heap[w3.heap.size]? = some (.cells #[.string P, .string Q] 106 (0, 0)) := World.alloc_heap_new w3 _
  have x5 := (hG.gr.block w3.heap.size (by simp) (hB4.type x4 (by decide))).trans x4
  have hR5 := hR4.bufG hB4 hG
  have gw5 : Gw fm W v w' v' := Gw.ahead B2 ((Gw.fw v hF3).trans (Gw.ahead ba (Gw.of hG)))
  obtain ⟨es3, cl3, ef3⟩ := hR3.fobj
  have efl3 := (Array.getElem?_eq_some_iff.1 ef3).1
  have ef4 := (ba.block fm efl3).trans ef3
  have n2 : NewLt (w.size + 1) fm W W2 := NewLt.same hR (B2.block fm efl)
  have n4 : NewLt (w.size + 1) fm w3 (w3.alloc (.cells #[.string P, .string Q] 106)) := NewLt.same hR3 (ba.block fm efl3)
  have n5 : NewLt (w.size + 1) fm (w3.alloc (.cells #[.string P, .string Q] 106)) w' := NewLt.same hR4 (hG.gr.block fm (Nat.lt_of_lt_of_le efl3 ba.size) (hB4.kind ef4))
  have nn := ((n2.trans hN3).trans n4).trans n5
  have hpl := ru.rw.fall_out hg hne
  have hql := ru.rw.fall_len hg hne
  have hwl := list_len w
  have hQl := list_len Q
  rw [eQl] at hQl
  obtain ⟨g, n, c, rfl, l1, l2, HN, HB⟩ := bstart hb'
  refine ⟨by rw [Lib.cell_of_heap x5]; rfl, by rw [Lib.cell_of_heap x5]; rfl, g, n, c, rfl, l1, l2, ?_⟩
  refine (IH f B rb lv sm fm (.slice g n c) (out ++ P.data.toList) w' b hR5 hb' (by rw [List.length_append, ePl]; omega)).mono ?_
  rintro e w4 ⟨v4, rfl, b4, r4, g4, m4⟩
  obtain ⟨g', n', c', rfl, q1, q2, N4, BG4⟩ := bstart b4
  have es := ru.rw.stp_fall hg hx hr hne
  refine ⟨g', n', c', _, rfl, q1, q2, .slice g' n' c', by rw [es, eQl], ?_, r4, gw5.trans g4, (nn.mono (by omega)).trans (m4.mono (by rw [eQl]; omega))⟩
  rw [es]
  rw [eQl, ePl, List.append_assoc] at b4
  exact b4
set_option maxHeartbeats 4000000 in
theorem step_fall (l : List Ru) (hg : ru.Good l) (f : Bool) (B rb : Nat) (lv : Value) (sm fm : Nat) (v : Value) (out : List UInt8) (W : World) (w : ByteArray) (b : UInt8) (hR : Rw B rb l lv sm fm W) (hB : BufG f B v out W) (hlen : out.length + 3300 * (w.size + 1) ≤ 90000)
    (hx : waits l (w.data.toList ++ [b]) = false) (hr : whole l (w.data.toList ++ [b]) = none) (hwt : waits l w.data.toList = true) (h0 : 0 < w.size)
    (IH : ∀ u : ByteArray, u.size < w.size → (u.data.toList = [] ∨ waits l u.data.toList = true) → StepOk l u) :
    Calls Try.prog 35 #[.pointer (some ⟨rb, 0, none⟩), v, .string w, .int .u8 (b.toNat : Int)] W (StpOut f B rb l lv sm fm v out w.data.toList b W) := by
  have hwl := list_len w
  have hne : w.data.toList ≠ [] := fun e => by rw [e] at hwl; simp at hwl; omega
  have hnm : w.toList.isEmpty = false := by rw [ByteArray.toList_eq]; cases h : w.data.toList with | nil => exact absurd h hne | cons _ _ => rfl
  have h15 : w.size ≤ 15 := by rw [← hwl]; exact ru.rw.wait_len hg (.inr hwt)
  have hcv := conv_byte W b
  have BA := below_alloc W (.cells #[.int .u8 (b.toNat : Int)] 5)
  have KA := hR.later BA
  have c1 := KA.c1
  have hOk : OkT (w ++ (⟨#[b]⟩ : ByteArray)) := by unfold OkT; rw [ByteArray.size_append]; show w.size + 1 ≤ _; omega
  have hlk := KA.look (w ++ (⟨#[b]⟩ : ByteArray)) hOk
  have e1 : (w ++ (⟨#[b]⟩ : ByteArray)).data.toList = w.data.toList ++ [b] := by simp
  have e2 : toOf l (w.data.toList ++ [b]) = [] := by unfold toOf; rw [hr]
  rw [e1, hx, hr, e2] at hlk
  simp only [Option.isSome_none] at hlk
  generalize tr.bs [] = tt at *
  have B2 := ru.chain BA (below_alloc (W.alloc (.cells #[.int .u8 (b.toNat : Int)] 5)) (.cells #[.bool false, .bool false, .string tt] 100))
  have K2 := KA.later (below_alloc _ (.cells #[.bool false, .bool false, .string tt] 100))
  have c59 := fall_any l hg B rb lv sm fm _ K2 w h0 hwt IH
  obtain ⟨P, hP⟩ : ∃ P, P = tr.bs (fall l w.data.toList).1 := ⟨_, rfl⟩
  obtain ⟨Q, hQ⟩ : ∃ Q, Q = tr.bs (fall l w.data.toList).2 := ⟨_, rfl⟩
  have hPz : P.size ≤ 480 := by
    rw [hP, bs_size]
    have := ru.rw.fall_out hg hne
    omega
  have hQo : StepOk l Q := IH Q (by rw [hQ, bs_size, ← hwl]; exact ru.rw.fall_len hg hne) (by rw [hQ]; exact (ru.rw.fall_does hg hne).1)
  have HON := (show Hid (∀ w3, Rw B rb l lv sm fm w3 → Fw fm ((W.alloc (.cells #[.int .u8 (b.toNat : Int)] 5)).alloc (.cells #[.bool false, .bool false, .string tt] 100)) w3 → NewLt (w.size + 1) fm ((W.alloc (.cells #[.int .u8 (b.toNat : Int)] 5)).alloc (.cells #[.bool false, .bool false, .string tt] 100)) w3 → BufG f B v out (w3.alloc (.cells #[.string P, .string Q] 106)) ∧ ∀ v' w', BufG f B v' (out ++ P.data.toList) w' → Gr (w3.alloc (.cells #[.string P, .string Q] 106)) v w' v' → w'.cell? ⟨w3.heap.size, 0, none⟩ = some (.string P) ∧ w'.cell? ⟨w3.heap.size, 1, none⟩ = some (.string Q) ∧ ∃ g n c, v' = .slice g n c ∧ n ≤ c ∧ c ≤ 9223372036854775807 ∧ Calls Try.prog 35 #[.pointer (some ⟨rb, 0, none⟩), .slice g n c, .string Q, .int .u8 (b.toNat : Int)] w' (fun e w4 => ∃ g n c s, e = .returned (.tuple #[.slice g n c, .string s]) ∧ n ≤ c ∧ c ≤ 9223372036854775807 ∧ StpOut f B rb l lv sm fm v out w.data.toList b W (.returned (.tuple #[.slice g n c, .string s])) w4)) from fun w3 q1 q2 q3 => by
    refine ⟨?_, fun v' w' => step_on l hg f B rb lv sm fm v out W _ w3 w b hR hB hlen hx hr hne h15 B2 q1 q2 q3 P Q hP hQ hQo v' w'⟩
    obtain ⟨es, cl, ef⟩ := hR.fobj
    have ef2 := (B2.block fm (Array.getElem?_eq_some_iff.1 ef).1).trans ef
    have hB2 := hB.later B2
    have hB3 : BufG f B v out w3 := hB2.keep (Nat.le_trans hB2.1 q2.size) fun g e => q2.block g (hB2.lt e).2 (fun e2 => hB2.kind ef2 (by rw [e, e2]))
    exact hB3.later (below_alloc w3 _))
  unfold FallOut at c59
  rw [← hP, ← hQ] at c59
  obtain ⟨vg, vc, rfl, v1, v2⟩ := hB.form
  clear hR hB KA K2 e1 e2 BA B2 IH hQo hP hQ hx hr hwt hne hwl hOk
  go_enter Try.func35, Try.ntmps35
  go_wp2_with (fail)
  go_at_call 57
  (with_reducible refine c59.mono ?_)
  rintro e w3 ⟨rfl, r3, f3, n3⟩
  obtain ⟨hB3, hon⟩ := HON.out w3 r3 f3 n3
  have b50 : (w3.alloc (.cells #[.string P, .string Q] 106)).heap[w3.heap.size]? = some (.cells #[.string P, .string Q] 106 (0, 0)) := World.alloc_heap_new w3 _
  have b51 : (w3.alloc (.cells #[.string P, .string Q] 106)).cell? ⟨w3.heap.size, 0, none⟩ = some (.string P) := by rw [Lib.cell_of_heap b50]; rfl
  have b52 : (w3.alloc (.cells #[.string P, .string Q] 106)).cell? ⟨w3.heap.size, 1, none⟩ = some (.string Q) := by rw [Lib.cell_of_heap b50]; rfl
  have HB3 := (show Hid (BufG f B (.slice vg out.length vc) out (w3.alloc (.cells #[.string P, .string Q] 106)).drew) from hB3.keep hB3.1 fun _ _ => rfl)
  have HO := (show Hid _ from hon)
  clear HON c59 r3 f3 n3 hB3 hon b50 hcv hlk c1
  go_wp2_with (fail)
  go_region_law (first | (have c := c37; clear c; go_simp; go_at_call 35; refine c37.mono ?_; rintro e w4 ⟨vg4, vn4, vc4, s4, rfl, v14, v24, HS4⟩) | (refine BufG.step_text (by rfl) (.tmp 47) (.tmp 49) (by rfl) f B _ out (by rfl) HB3.out P (by rfl) (by omega) ?_; intro v' w' hb' hG'; obtain ⟨y1, y2, vg', vn', vc', hv', v1', v2', c37⟩ := HO.out v' w' hb' hG'.undrew; subst hv'; clear hb' hG'))
  all_goals
    have HS4 := (show Hid _ from HS4)
    clear c37
    go_wp2_with (fail)
    go_ret2
    exact HS4.out
theorem step_any (l : List Ru) (hg : ru.Good l) : ∀ (n : Nat) (w : ByteArray), w.size < n → (w.data.toList = [] ∨ waits l w.data.toList = true) → StepOk l w := by
  intro n
  induction n with
  | zero => intro w h; omega
  | succ n ih =>
    intro w hn hw f B rb lv sm fm v out W b hR hB hlen
    have hwl := list_len w
    have h15 : w.size ≤ 15 := by rw [← hwl]; exact ru.rw.wait_len hg hw
    by_cases hx : waits l (w.data.toList ++ [b]) = true
    · exact step_wait l hg f B rb lv sm fm v out W w b hR hB (by omega) hx
    · have hx : waits l (w.data.toList ++ [b]) = false := by simpa using hx
      cases hr : whole l (w.data.toList ++ [b]) with
      | some r => exact step_whole l hg f B rb lv sm fm v out W w b hR hB (by omega) (by omega) hx r hr
      | none =>
        by_cases h0 : w.size = 0
        · have e : w = ⟨#[]⟩ := by
            cases w with
            | mk a => cases a with
              | mk q => cases q with
                | nil => rfl
                | cons x q => simp [ByteArray.size] at h0
          subst e
          exact step_none l hg f B rb lv sm fm v out W b hR hB (by omega) hx hr
        · rcases hw with hw | hw
          · rw [hw] at hwl; simp at hwl; omega
          · exact step_fall l hg f B rb lv sm fm v out W w b hR hB hlen hx hr hw (by omega) (fun u hu hq => ih u (by omega) hq)
end Go.Proofs.Ytlmodfeiphffcaa.wr
