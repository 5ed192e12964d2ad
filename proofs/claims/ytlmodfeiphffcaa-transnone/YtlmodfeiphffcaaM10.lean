/-
  Texts put together: Over this program: a rewriter in memory: its rules, what texts are to them, what became of texts that wait; the end of a text (rewriter.end). Contracts over this program: what is put where a text begins (rewriter.first).
-/
import Derived.Test.YtlmodfeiphffcaaM06
import Derived.Test.YtlmodfeiphffcaaM09
import Derived.Test.YtlmodfeiphffcaaKSg
import Derived.Lib.ConvBytes
namespace Go.Proofs.Ytlmodfeiphffcaa.wr
open Go.ChangeShapes Go.WideShapes Go.ChangeAt Go.RowKit Go.Shelf Go.Maps
open tr
open mk (law9 OkT kt key9 kt_inj map_keep)
open ru (Ru Rus)
open ru.rw (waits whole stp fall states)
set_option linter.unusedVariables false

/-- how what a text is to the rules reads -/
def eS (x y : Bool) (s : List UInt8) : DataW Unit := .agg [.lit (.bool x), .lit (.bool y), .lit (.string s)]
def RS (v : Value) : Option (DataW Unit × List MemPlace) := match v with
  | .agg a => match a.toList with
    | [.bool x, .bool y, .string s] => some (eS x y s.data.toList, [])
    | _ => none
  | _ => none
theorem RS_of (x y : Bool) (s : ByteArray) : RS (.agg #[.bool x, .bool y, .string s]) = some (eS x y s.data.toList, []) := rfl
theorem RS_inv {v : Value} {z : DataW Unit × List MemPlace} (h : RS v = some z) : ∃ x y s, v = .agg #[.bool x, .bool y, .string s] ∧ z = (eS x y s.data.toList, []) := by
  unfold RS at h
  split at h
  · rename_i a
    split at h
    · rename_i x y s e
      cases h
      refine ⟨x, y, s, ?_, rfl⟩
      cases a with
      | mk l => simp at e; subst e; rfl
    · cases h
  · cases h
theorem eS_inj {x y x' y' : Bool} {s s' : List UInt8} (h : eS x y s = eS x' y' s') : x = x' ∧ y = y' ∧ s = s' := by
  simpa [eS] using h
/-- how what became of a text reads -/
def eF (p w : List UInt8) : DataW Unit := .agg [.lit (.string p), .lit (.string w)]
def RF (v : Value) : Option (DataW Unit × List MemPlace) := match v with
  | .agg a => match a.toList with
    | [.string p, .string w] => some (eF p.data.toList w.data.toList, [])
    | _ => none
  | _ => none
theorem RF_of (p w : ByteArray) : RF (.agg #[.string p, .string w]) = some (eF p.data.toList w.data.toList, []) := rfl
theorem RF_inv {v : Value} {z : DataW Unit × List MemPlace} (h : RF v = some z) : ∃ p w, v = .agg #[.string p, .string w] ∧ z = (eF p.data.toList w.data.toList, []) := by
  unfold RF at h
  split at h
  · rename_i a
    split at h
    · rename_i p w e
      cases h
      refine ⟨p, w, ?_, rfl⟩
      cases a with
      | mk l => simp at e; subst e; rfl
    · cases h
  · cases h
theorem eF_inj {p w p' w' : List UInt8} (h : eF p w = eF p' w') : p = p' ∧ w = w' := by
  simpa [eF] using h
def toOf (l : List Ru) (u : List UInt8) : List UInt8 := match whole l u with
  | some r => r.t
  | none => []
def IsSt (l : List Ru) (D : DataW Unit) : Prop := ∀ u : ByteArray, OkT u → D.atKey (kt u) (eS false false []) = eS (waits l u.data.toList) (whole l u.data.toList).isSome (toOf l u.data.toList)
structure IsFl (l : List Ru) (ks : List ByteArray) (D : DataW Unit) : Prop where
  nd : ks.Nodup
  ok : ∀ u ∈ ks, OkT u ∧ waits l u.data.toList = true
  has : ∀ u : ByteArray, OkT u → (Maps.has D (kt u) = true ↔ u ∈ ks)
  at' : ∀ u ∈ ks, D.atKey (kt u) (eF [] []) = eF (fall l u.data.toList).1 (fall l u.data.toList).2
/-- a rewriter in memory -/
structure Rw (B rb : Nat) (l : List Ru) (lv : Value) (sm fm : Nat) (W : World) : Prop where
  box : W.heap[rb]? = some (.cells #[lv, .map (some sm), .map (some fm)] 98 (0, 0))
  rus : ∃ w0 : World, Rus w0 lv l ∧ w0.heap.size = B ∧ Below B w0 W
  st : ∃ n D, n ≤ 100000 ∧ W.ownsMap Try.prog 9 RS sm n D ∧ IsSt l D
  fl : ∃ ks D, W.ownsMap Try.prog 9 RF fm ks.length D ∧ IsFl l ks D
  bb : B ≤ rb
  bs : B ≤ sm
  bf : B ≤ fm
  ne : sm ≠ fm
section
variable {B rb : Nat} {l : List Ru} {lv : Value} {sm fm : Nat} {W W' : World}
theorem Rw.rl (h : Rw B rb l lv sm fm W) : rb < W.heap.size := (Array.getElem?_eq_some_iff.1 h.box).1
theorem Rw.hb (h : Rw B rb l lv sm fm W) : B ≤ W.heap.size := Nat.le_trans h.bb (Nat.le_of_lt h.rl)
theorem Rw.rules (h : Rw B rb l lv sm fm W) : Rus W lv l := by
  obtain ⟨w0, h1, h2, h3⟩ := h.rus
  subst h2
  exact h1.below h3
theorem Rw.c0 (h : Rw B rb l lv sm fm W) : W.cell? ⟨rb, 0, none⟩ = some lv := by rw [Lib.cell_of_heap h.box]; rfl
theorem Rw.c1 (h : Rw B rb l lv sm fm W) : W.cell? ⟨rb, 1, none⟩ = some (.map (some sm)) := by rw [Lib.cell_of_heap h.box]; rfl
theorem Rw.c2 (h : Rw B rb l lv sm fm W) : W.cell? ⟨rb, 2, none⟩ = some (.map (some fm)) := by rw [Lib.cell_of_heap h.box]; rfl
theorem map_same {R : Value → Option (DataW Unit × List MemPlace)} {b n : Nat} {D : DataW Unit} (h : W.ownsMap Try.prog 9 R b n D) (hh : W'.heap[b]? = W.heap[b]?) : W'.ownsMap Try.prog 9 R b n D := by
  obtain ⟨es, c, h1, h2, h3, h4⟩ := h
  exact ⟨es, c, hh.trans h1, h2, h3, h4⟩
theorem Rw.keep (h : Rw B rb l lv sm fm W) (hb : Below B W W') (h1 : W'.heap[rb]? = W.heap[rb]?) (h2 : W'.heap[sm]? = W.heap[sm]?) (h3 : W'.heap[fm]? = W.heap[fm]?) : Rw B rb l lv sm fm W' := by
  obtain ⟨w0, r1, r2, r3⟩ := h.rus
  obtain ⟨n, D, s1, s2, s3⟩ := h.st
  obtain ⟨ks, D', f1, f2⟩ := h.fl
  exact ⟨h1.trans h.box, ⟨w0, r1, r2, r3.trans hb⟩, ⟨n, D, s1, map_same s2 h2, s3⟩, ⟨ks, D', map_same f1 h3, f2⟩, h.bb, h.bs, h.bf, h.ne⟩
theorem Rw.sobj (h : Rw B rb l lv sm fm W) : ∃ es clock, W.heap[sm]? = some (.map es clock) := by
  obtain ⟨n, D, _, ⟨es, c, h1, _⟩, _⟩ := h.st
  exact ⟨es, c, h1⟩
theorem Rw.fobj (h : Rw B rb l lv sm fm W) : ∃ es clock, W.heap[fm]? = some (.map es clock) := by
  obtain ⟨ks, D, ⟨es, c, h1, _⟩, _⟩ := h.fl
  exact ⟨es, c, h1⟩
theorem Rw.later (h : Rw B rb l lv sm fm W) (c : Below W.heap.size W W') : Rw B rb l lv sm fm W' := by
  obtain ⟨e1, c1, n1⟩ := h.sobj
  obtain ⟨e2, c2, n2⟩ := h.fobj
  exact h.keep (c.mono h.hb) (c.block _ h.rl) (c.block _ (Array.getElem?_eq_some_iff.1 n1).1) (c.block _ (Array.getElem?_eq_some_iff.1 n2).1)
theorem Rw.buf (h : Rw B rb l lv sm fm W) {v v' : Value} {xs : List UInt8} (hu : Buf B v xs W) (hG : Gr W v W' v') : Rw B rb l lv sm fm W' := by
  obtain ⟨e1, c1, n1⟩ := h.sobj
  obtain ⟨e2, c2, n2⟩ := h.fobj
  exact h.keep (hG.below hu) (hG.gr.block _ h.rl (ow.type hu.1 h.box (by decide))) (hG.gr.block _ (Array.getElem?_eq_some_iff.1 n1).1 (ow.kind hu.1 n1 rfl)) (hG.gr.block _ (Array.getElem?_eq_some_iff.1 n2).1 (ow.kind hu.1 n2 rfl))
theorem zero100 (W : World) : (zeroValue 100).run Try.prog W = .ok (.agg #[.bool false, .bool false, .string ⟨#[]⟩]) W := by kernel_rfl
theorem zero106 (W : World) : (zeroValue 106).run Try.prog W = .ok (.agg #[.string ⟨#[]⟩, .string ⟨#[]⟩]) W := by kernel_rfl
theorem Rw.look (h : Rw B rb l lv sm fm W) (u : ByteArray) (hu : OkT u) : (Instr.lookup 95 (.map (some sm)) (.string u) false).run Try.prog W = .ok (.agg #[.bool (waits l u.data.toList), .bool (whole l u.data.toList).isSome, .string (tr.bs (toOf l u.data.toList))]) W := by
  obtain ⟨n, D, s1, s2, s3⟩ := h.st
  obtain ⟨v, ps, hrun, hv⟩ := s2.lookup law9 Try.underlying95 (zero100 W) (RS_of false false ⟨#[]⟩) (key9 u hu)
  have e0 : eS false false (⟨#[]⟩ : ByteArray).data.toList = eS false false [] := rfl
  rw [e0, s3 u hu] at hv
  obtain ⟨x, y, s, rfl, hz⟩ := RS_inv hv
  obtain ⟨rfl, rfl, e3⟩ := eS_inj (congrArg Prod.fst hz)
  rw [hrun]
  have : s = tr.bs (toOf l u.data.toList) := by
    cases s with
    | mk a => cases a with | mk q => simp at e3; subst e3; rfl
  rw [this]
end
def EndIs (l : List Ru) : Prop := ∀ B rb lv sm fm v out w (s : ByteArray), Rw B rb l lv sm fm w → Buf B v out w → out.length ≤ 1000000 → s.size ≤ 100 → Calls Try.prog 36 #[.pointer (some ⟨rb, 0, none⟩), v, .string s] w fun e w' => ∃ v', e = .returned v' ∧ Buf B v' (out ++ ru.ap l s.data.toList) w' ∧ Gr w v w' v'
set_option maxHeartbeats 1000000 in
set_option maxRecDepth 100000 in
theorem end_any (l : List Ru) (hg : ru.Good l) : EndIs l := by
  intro B rb lv sm fm v out w s hR hB hlen hs
  have c0 := hR.c0
  have c21 := ru.ap_any l s (by omega) _ _ rfl rfl lv w hR.rules
  have e1 : ru.apT l s = ru.txt (ru.ap l s.data.toList) := by unfold ru.apT; rw [if_pos ⟨hg, by omega⟩]
  have hz : (ru.txt (ru.ap l s.data.toList)).size ≤ 3200 := by
    have := ru.rw.end_len hg s.data.toList
    have e : (ru.txt (ru.ap l s.data.toList)).size = (ru.ap l s.data.toList).length := by rw [← list_len]; rfl
    have e2 := list_len s
    omega
  have HT : Hid ((ru.txt (ru.ap l s.data.toList)).data.toList = ru.ap l s.data.toList) := rfl
  rw [e1] at c21
  generalize ru.txt (ru.ap l s.data.toList) = t at *
  generalize ru.apE l s = x at *
  obtain ⟨vg, vc, rfl, v1, v2⟩ := hB.form
  clear hR e1
  go_enter Try.func36, Try.ntmps36
  go_wp2_with (first | (go_at_call 21; refine c21.mono ?_; rintro e w1 ⟨rfl, b1⟩; have hB1 := hB.later b1) | (at_builtin; refine Buf.text2 (by rfl) (.tmp 18) (.tmp 19) (by rfl) B _ out (by rfl) hB1 t (by rfl) (by omega) ?_; intro v' w' hb' bl'))
  go_ret
  exact ⟨v', rfl, by rw [← HT.out]; exact hb', Gr.ahead b1 bl'⟩
end Go.Proofs.Ytlmodfeiphffcaa.wr

namespace Go.Proofs.Ytlmodfeiphffcaa.wr
open Go.ChangeShapes Go.WideShapes Go.ChangeAt Go.RowKit Go.Shelf Go.Maps
open tr
open mk (law9 OkT kt key9 kt_inj map_keep)
open ru (Ru Rus)
open ru.rw (waits whole stp fall states)
set_option linter.unusedVariables false

/-- bytes of its own of which nothing is frozen: also such as a conversion makes, whose mark stands behind them -/
def BufX (B : Nat) (v : Value) (xs : List UInt8) (W : World) : Prop := ∃ g cap cur fz, v = .slice (some ⟨g, 0, none⟩) xs.length cap ∧ B ≤ g ∧ W.heap[g]? = some (.cells cur 5 fz) ∧ (fz = (0, 0) ∨ cap ≤ fz.1) ∧ xs.length ≤ cap ∧ cap ≤ maxLen ∧ cur.size = cap ∧ cur.toList.take xs.length = Lib.byteCells xs
theorem conv51 (B : Nat) (W : World) (t : ByteArray) (hB : B ≤ W.heap.size) (ht : t.size ≤ 1000) : ∃ v' W', (convert 9 51 (.string t)).run Try.prog W = .ok v' W' ∧ BufX B v' t.data.toList W' ∧ Below W.heap.size W W' := by
  have hl := list_len t
  have h1 := grownCap_ge W t.size 0 5
  have h2 := grownCap_le_maxLen W t.size 0 5 (by unfold maxLen; omega)
  have hsz : (Lib.bytesCells W 5 t).size = grownCap W t.size 0 5 := by
    have : t.data.size = t.size := rfl
    simp [Lib.bytesCells]
    omega
  refine ⟨_, _, Lib.run_convert_string_bytes W 9 51 5 t Try.underlying9 Try.underlying51 Try.underlying5, ⟨W.heap.size, grownCap W t.size 0 5, _, _, by rw [hl], hB, Lib.bytesWorld_at_new W 5 t, .inr (by simp only [hsz]; exact Nat.le_refl _), by omega, h2, hsz, ?_⟩, ?_⟩
  · rw [hl]
    unfold Lib.bytesCells Lib.byteCells
    have : t.data.size = t.size := rfl
    simp [hl]
  · exact ⟨rfl, rfl, rfl, by rw [Lib.bytesWorld_size]; omega, fun j hj => Lib.bytesWorld_at_old W 5 t j hj⟩
theorem cut_end (s : ByteArray) (n : Nat) : s.extract n s.size = tr.bs (s.data.toList.drop n) := by
  apply ByteArray.ext
  apply Array.toList_inj.1
  have h := list_len s
  show (s.extract n s.size).data.toList = s.data.toList.drop n
  simp
  exact List.take_of_length_le (by rw [List.length_drop]; omega)
theorem one_bufx {B : Nat} {W : World} {s : ByteArray} (hB : B ≤ W.heap.size) (h0 : 0 < s.size) : BufX B (.slice (some ⟨W.heap.size, 0, none⟩) 1 1) (s.data.toList.take 1) (W.alloc (.cells #[.int .u8 (s[0].toNat : Int)] 5)).drew := by
  have hl := list_len s
  have e : s.data.toList.take 1 = [s[0]] := by
    rw [List.take_one, List.head?_eq_getElem?, List.getElem?_eq_getElem (by omega)]
    rfl
  rw [e]
  exact ⟨W.heap.size, 1, _, (0, 0), rfl, hB, heap_alloc_new W _, .inl rfl, Nat.le_refl _, by unfold maxLen; omega, rfl, rfl⟩
/-- nothing longer counts -/
def Past (l : List Ru) (s : List UInt8) (n : Nat) : Prop := ∀ r ∈ l, r.f <+: s → r.f.length ≤ n
theorem Past.start (l : List Ru) (s : List UInt8) : Past l s s.length := fun r hr hp => hp.length_le
theorem Past.found {l : List Ru} (h : ru.Good l) {s : List UInt8} {n : Nat} (hn : n ≤ s.length) (hp : Past l s n) {r : Ru} (hr : whole l (s.take n) = some r) : ru.rw.first l s = (r.t, s.drop n) := by
  obtain ⟨hm, hf⟩ := ru.rw.whole_some hr
  have hl : r.f.length = n := by rw [hf, List.length_take]; omega
  have hb : ru.best l s = some r := ru.isBest_unique h (ru.best_is _ _) ⟨fun q hq => by
    obtain rfl := Option.some.inj hq
    exact ⟨hm, by rw [hf]; exact List.take_prefix _ _⟩, fun q hq hp' => by
    show q.f.length ≤ r.f.length
    rw [hl]; exact hp q hq hp'⟩
  unfold ru.rw.first
  rw [hb]
  simp only [hl]
theorem Past.next {l : List Ru} {s : List UInt8} {n : Nat} (hp : Past l s n) (hr : whole l (s.take n) = none) : Past l s (n - 1) := fun r hm hf => by
  have h1 := hp r hm hf
  by_cases e : r.f.length = n
  · exact absurd (by rw [← e]; exact List.prefix_iff_eq_take.1 hf) (ru.rw.whole_none hr r hm)
  · omega
theorem Past.none {l : List Ru} (h : ru.Good l) {s : List UInt8} (hp : Past l s 0) : ru.rw.first l s = (s.take 1, s.drop 1) := by
  have : ru.best l s = Option.none := by
    cases e : ru.best l s with
    | none => rfl
    | some r =>
      have h1 := (ru.best_is l s).1 r e
      have h2 := (h.pos h1.1).1
      have := hp r h1.1 h1.2
      omega
  unfold ru.rw.first
  rw [this]
def FirstIs (l : List Ru) : Prop := ∀ B rb lv sm fm w (s : ByteArray), Rw B rb l lv sm fm w → 0 < s.size → s.size ≤ 100 → Calls Try.prog 70 #[.pointer (some ⟨rb, 0, none⟩), .string s] w fun e w' => ∃ v', e = .returned (.tuple #[v', .string (tr.bs (ru.rw.first l s.data.toList).2)]) ∧ BufX w.heap.size v' (ru.rw.first l s.data.toList).1 w' ∧ Below w.heap.size w w'
set_option maxHeartbeats 2000000 in
set_option maxRecDepth 100000 in
theorem first_any (l : List Ru) (hg : ru.Good l) : FirstIs l := by
  intro B rb lv sm fm w s hR h0 hs
  have hsl := list_len s
  have HR := (show Hid _ from hR)
  have c1 := hR.c1
  clear hR
  go_enter Try.func70, Try.ntmps70
  go_wp2_with (fail)
  go_loopw [6] (fun v wr => ∃ n : Nat, v = .int .i64 (n : Int) ∧ n ≤ s.size ∧ Hid (Past l s.data.toList n) ∧ Hid (Below w.heap.size w wr)) (fun v _ => match v with | .int _ n => n.toNat | _ => 0)
  case atStart => exact ⟨s.size, rfl, Nat.le_refl _, by rw [← hsl]; exact Past.start l _, Below.refl _ _⟩
  case round =>
    obtain ⟨n, rfl, hn, HP, HB⟩ := hrel
    have K := HR.out.later HB.out
    have d1 := K.c1
    by_cases hz : n = 0
    · subst hz
      have HF : Hid (ru.rw.first l s.data.toList = (s.data.toList.take 1, s.data.toList.drop 1)) := Past.none hg HP.out
      have HCUT := (show Hid _ from cut_end s 1)
      have f1 : ¬ (0 : Int) < ((0 : Nat) : Int) := by omega
      have f2 : (0 : Int) < (s.size : Int) := by omega
      have f3 : (1 : Int) ≤ (s.size : Int) := by omega
      have HK := (show Hid _ from K)
      clear K
      go_wp2_with (fail)
      go_region_law (fail)
      all_goals
        go_wp2_with (fail)
        go_ret2
        have b2 : Below wr.heap.size wr (wr.alloc (.cells #[.int .u8 (s[0].toNat : Int)] 5)).drew := Below.drew (below_alloc wr _)
        exact ⟨.slice (some ⟨wr.heap.size, 0, none⟩) 1 1, by rw [HF.out, ← HCUT.out]; rfl, by rw [HF.out]; exact one_bufx HB.out.size h0, ru.chain HB.out b2⟩
    · have hpos : 0 < n := by omega
      have hOk : OkT (s.extract 0 n) := by unfold OkT; rw [ByteArray.size_extract]; omega
      have e1 : (s.extract 0 n).data.toList = s.data.toList.take n := by simp
      have hlk0 := K.look (s.extract 0 n) hOk
      have hlk1 := (K.later (Below.drew (Below.refl _ wr))).look (s.extract 0 n) hOk
      have hlk2 := (K.later (Below.drew (below_alloc wr (.cells #[.bool false, .bool false, .string ⟨#[]⟩] 100)))).look (s.extract 0 n) hOk
      have d2 : (wr.alloc (.cells #[.bool false, .bool false, .string ⟨#[]⟩] 100)).cell? ⟨rb, 1, none⟩ = some (.map (some sm)) := (K.later (below_alloc wr _)).c1
      rw [e1] at hlk0 hlk1 hlk2
      have f1 : (0 : Int) < (n : Int) := by omega
      have HK := (show Hid _ from K)
      clear K
      have hcut := cut_end s n
      have hwr : IntKind.i64.wrap ((n : Int) - 1) = ((n - 1 : Nat) : Int) := by
        rw [show (n : Int) - 1 = ((n - 1 : Nat) : Int) by omega]
        exact IntWalk.i64_in _ (by omega)
      cases hw : whole l (s.data.toList.take n) with
      | some r =>
        rw [hw] at hlk0 hlk1 hlk2
        simp only [Option.isSome_some] at hlk0 hlk1 hlk2
        generalize waits l (s.data.toList.take n) = wt at *
        have htl : (tr.bs (toOf l (s.data.toList.take n))).data.toList = r.t := by show toOf _ _ = _; unfold toOf; rw [hw]
        generalize tr.bs (toOf l (s.data.toList.take n)) = tt at *
        have htz : tt.size ≤ 1000 := by
          have := (hg.pos (ru.rw.whole_some hw).1).2.2
          rw [← list_len, htl]; omega
        have HF : Hid (ru.rw.first l s.data.toList = (r.t, s.data.toList.drop n)) := Past.found hg (by omega) HP.out hw
        have HTL := (show Hid _ from htl)
        have HCUT := (show Hid _ from hcut)
        clear hw htl hcut
        go_wp2_with (fail)
        go_region_law (fail)
        all_goals
          obtain ⟨w1, HW1⟩ : ∃ w1, Hid (w1 = (wr.alloc (.cells #[.bool wt, .bool true, .string tt] 100)).drew) := ⟨_, rfl⟩
          have B1 : Below wr.heap.size wr w1 := by rw [HW1.out]; exact Below.drew (below_alloc wr _)
          have x1 : w1.heap[wr.heap.size]? = some (.cells #[.bool wt, .bool true, .string tt] 100 (0, 0)) := by rw [HW1.out]; exact heap_alloc_new wr _
          have y1 : w1.cell? ⟨wr.heap.size, 1, none⟩ = some (.bool true) := by rw [Lib.cell_of_heap x1]; rfl
          have y2 : w1.cell? ⟨wr.heap.size, 2, none⟩ = some (.string tt) := by rw [Lib.cell_of_heap x1]; rfl
          have hBw : w.heap.size ≤ w1.heap.size := Nat.le_trans HB.out.size B1.size
          rw [← HW1.out]
          clear HW1 hlk0 hlk1 hlk2 d2
          obtain ⟨v', w2, hcv, hbx, b2⟩ := conv51 w.heap.size w1.drew tt hBw htz
          go_wp2_with (fail)
          go_region_law (fail)
          all_goals
            go_wp2_with (fail)
            go_ret2
            have b2' : Below w1.heap.size w1 w2 := ⟨b2.os, b2.tape, b2.output, b2.size, b2.block⟩
            exact ⟨v', by rw [HF.out, ← HCUT.out]; rfl, by rw [HF.out]; show BufX w.heap.size v' r.t w2; rw [← HTL.out]; exact hbx, ru.chain (ru.chain HB.out B1) b2'⟩
      | none =>
        rw [hw] at hlk0 hlk1 hlk2
        simp only [Option.isSome_none] at hlk0 hlk1 hlk2
        generalize waits l (s.data.toList.take n) = wt at *
        generalize tr.bs (toOf l (s.data.toList.take n)) = tt at *
        have HN : Hid (Past l s.data.toList (n - 1)) := HP.out.next hw
        clear hw hcut
        go_wp2_with (fail)
        go_region_law (fail)
        all_goals
          obtain ⟨w1, HW1⟩ : ∃ w1, Hid (w1 = (wr.alloc (.cells #[.bool wt, .bool false, .string tt] 100)).drew) := ⟨_, rfl⟩
          have B1 : Below wr.heap.size wr w1 := by rw [HW1.out]; exact Below.drew (below_alloc wr _)
          have x1 : w1.heap[wr.heap.size]? = some (.cells #[.bool wt, .bool false, .string tt] 100 (0, 0)) := by rw [HW1.out]; exact heap_alloc_new wr _
          have y1 : w1.cell? ⟨wr.heap.size, 1, none⟩ = some (.bool false) := by rw [Lib.cell_of_heap x1]; rfl
          rw [← HW1.out]
          clear HW1 hlk0 hlk1 hlk2 d2
          go_wp2_with (fail)
          go_roundw
          case rel => exact ⟨n - 1, rfl, by omega, HN, ru.chain HB.out B1⟩
          case measure => simp; omega
end Go.Proofs.Ytlmodfeiphffcaa.wr
