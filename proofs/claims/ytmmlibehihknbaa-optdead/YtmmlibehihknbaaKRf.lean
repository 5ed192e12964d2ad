/-
  Contracts over this program: what a merger does.
-/
import Derived.Test.YtmmlibehihknbaaKRe
import Derived.Test.YtmmlibehihknbaaM11
namespace Go.Proofs.Ytmmlibehihknbaa.ir
open Go.ChangeShapes Go.WideShapes Go.ChangeAt Go.RowKit
open mg (Row In iv IntsV chain below_alloc Mg Mgs app idsOf)
set_option linter.unusedVariables false
set_option maxRecDepth 100000

theorem eng_grown {W W' : World} {B eb mb : Nat} {K : List mg.Mg} (h : en.Eng W B eb mb K) {B' n : Nat} {v : Value} {xs : List Value} (ho : W.ownsRow B' 3 1 v n xs) (c : W.grownBy W' v.ownBlock) : en.Eng W' B eb mb K := by
  obtain ⟨sp, h1, h2, h4⟩ := h
  have key : ∀ {b : Nat} {cs : Array Value} {t : TypeId}, W.heap[b]? = some (.cells cs t (0, 0)) → t ≠ 3 → W'.heap[b]? = W.heap[b]? := fun hb ht => c.block _ (Array.getElem?_eq_some_iff.1 hb).1 (ow.type ho hb ht)
  have hm : W'.heap[mb]? = W.heap[mb]? := by
    obtain ⟨es, c0, hb⟩ := h2.obj
    exact c.block mb (Array.getElem?_eq_some_iff.1 hb).1 (ow.kind ho hb rfl)
  have hw : ∀ {e sz n : Nat} {u : Value} {ys : List Value}, W.ownsRow B e sz u n ys → e ≠ 3 → W'.ownsRow B e sz u n ys := by
    intro e sz n u ys h n1
    refine ow.keep h fun g hg => ?_
    rcases h.2 with ⟨rfl, _⟩ | ⟨gg, cp, cur, rfl, _, hgg, _⟩
    · cases hg
    · cases hg; exact key hgg n1
  refine ⟨sp, (key h1 (by decide)).trans h1, h2.keep hm, ?_⟩
  rcases h4 with h4 | ⟨rb, vs, vp, S, e, r⟩
  · exact .inl h4
  · exact .inr ⟨rb, vs, vp, S, e, ⟨(key r.box (by decide)).trans r.box, hw r.sg (by decide), hw r.prs (by decide), r.map.keep hm, r.bb⟩⟩
theorem eng_set {W W' : World} {B eb mb : Nat} {K : List mg.Mg} (h : en.Eng W B eb mb K) {fb : Nat} {fc : Array Value} (hf : W.heap[fb]? = some (.cells fc 58 (0, 0))) (c : ∀ k, k ≠ fb → W'.heap[k]? = W.heap[k]?) : en.Eng W' B eb mb K := by
  obtain ⟨sp, h1, h2, h4⟩ := h
  have key : ∀ {b : Nat} {cs : Array Value} {t : TypeId}, W.heap[b]? = some (.cells cs t (0, 0)) → t ≠ 58 → W'.heap[b]? = W.heap[b]? := fun hb ht => c _ (fun e => by subst e; rw [hf] at hb; cases hb; exact ht rfl)
  have hm : W'.heap[mb]? = W.heap[mb]? := by
    obtain ⟨es, c0, hb⟩ := h2.obj
    exact c mb (fun e => by subst e; rw [hf] at hb; cases hb)
  have hw : ∀ {e sz n : Nat} {u : Value} {ys : List Value}, W.ownsRow B e sz u n ys → e ≠ 58 → W'.ownsRow B e sz u n ys := by
    intro e sz n u ys h n1
    refine ow.keep h fun g hg => ?_
    rcases h.2 with ⟨rfl, _⟩ | ⟨gg, cp, cur, rfl, _, hgg, _⟩
    · cases hg
    · cases hg; exact key hgg n1
  refine ⟨sp, (key h1 (by decide)).trans h1, h2.keep hm, ?_⟩
  rcases h4 with h4 | ⟨rb, vs, vp, S, e, r⟩
  · exact .inl h4
  · exact .inr ⟨rb, vs, vp, S, e, ⟨(key r.box (by decide)).trans r.box, hw r.sg (by decide), hw r.prs (by decide), r.map.keep hm, r.bb⟩⟩
def toksL (K : List Mg) (l : List ByteArray) : List Int := (l.map fun t => app K (idsOf t)).flatten
theorem toks_snoc (K : List Mg) (l : List ByteArray) (t : ByteArray) : toksL K (l ++ [t]) = toksL K l ++ app K (idsOf t) := by simp [toksL]
def sizes (l : List ByteArray) : Nat := (l.map ByteArray.size).sum
theorem toks_len (K : List Mg) : ∀ l : List ByteArray, (toksL K l).length ≤ sizes l
  | [] => by simp [toksL, sizes]
  | t :: l => by
    have h1 := toks_len K l
    have h2 := mg.app_len K (idsOf t)
    rw [mg.idsOf_len] at h2
    have e : toksL K (t :: l) = app K (idsOf t) ++ toksL K l := by simp [toksL]
    have e2 : sizes (t :: l) = t.size + sizes l := by simp [sizes]
    rw [e, List.length_append, e2]
    omega
theorem sizes_take (l : List ByteArray) (i : Nat) : sizes (l.take i) ≤ sizes l := by
  unfold sizes
  have e : l.map ByteArray.size = (l.take i).map ByteArray.size ++ (l.drop i).map ByteArray.size := by rw [← List.map_append, List.take_append_drop]
  rw [e, List.sum_append]
  exact Nat.le_add_right _ _
theorem size_at (l : List ByteArray) (i : Nat) (h : i < l.length) : l[i].size ≤ sizes l := by
  have h1 := sizes_take l (i + 1)
  have e : sizes (l.take (i + 1)) = sizes (l.take i) + l[i].size := by
    unfold sizes
    rw [list_take _ _ h, List.map_append, List.sum_append]
    rfl
  omega
theorem own9 {w w' : World} {B n fb : Nat} {v : Value} {xs : List Value} {fc : Array Value} (h : w.ownsRow B 9 1 v n xs) (hf : w.heap[fb]? = some (.cells fc 58 (0, 0))) (c : Ch fb w w') : w'.ownsRow B 9 1 v n xs := by
  refine ow.keep h fun g hg => c.block g (ow.lt h hg).2 fun e => ?_
  subst e
  exact ow.type h hf (by decide) hg.symm
/-- between the rounds -/
structure Lp (w : World) (B fb eb mb : Nat) (s : ByteArray) (vp : Value) (K : List Mg) (wr : World) (v : Value) (k : List Int) : Prop where
  box : FBox wr fb s vp v
  ids : Ids wr B v k
  eng : en.Eng wr B eb mb K
  ch : Ch fb w wr
  base : B ≤ wr.heap.size
theorem Lp.next {w : World} {B fb eb mb : Nat} {s t : ByteArray} {vp v v5 : Value} {K : List Mg} {wr w5 : World} {k : List Int} (h : Lp w B fb eb mb s vp K wr v k) (hw : w.heap.size ≤ B) (hfb : fb < w.heap.size) (heb : w.heap.size ≤ eb)
    (ho : w5.ownsRow B 3 1 v5 (app K (idsOf t)).length ((app K (idsOf t)).map iv)) (he : en.Eng w5 B eb mb K) (hc : en.EB B eb wr w5) (ht : ∀ (q : Nat) (cs : Array Value) (fr : Nat × Nat), wr.heap[q]? = some (Obj.cells cs 3 fr) → w5.heap[q]? = some (Obj.cells cs 3 fr)) : Lp w B fb eb mb s vp K w5 v k ∧ IntsV w5 v5 (app K (idsOf t)) := by
  refine ⟨⟨(hc.oth fb (by omega) (by omega)).trans h.box, ?_, he, ⟨hc.os.trans h.ch.os, hc.tape.trans h.ch.tape, hc.output.trans h.ch.output, Nat.le_trans h.ch.size hc.size, fun q hq hne => (hc.oth q (by omega) (by omega)).trans (h.ch.block q hq hne)⟩, Nat.le_trans h.base hc.size⟩, mg.RowV.own ho⟩
  · refine ⟨h.ids.1, ?_⟩
    rcases h.ids.2 with h0 | ⟨g, cap, cur, e, hb, hg, hr⟩
    · exact .inl h0
    · exact .inr ⟨g, cap, cur, e, hb, ht g cur _ hg, hr⟩
theorem Lp.put {w : World} {B fb eb mb : Nat} {s : ByteArray} {vp v v6 : Value} {K : List Mg} {wr w6 : World} {k m : List Int} (h : Lp w B fb eb mb s vp K wr v k) (hw : w.heap.size ≤ B) (hfb : fb < w.heap.size) (ho : Ids w6 B v6 m) (hg : wr.grownBy w6 v.ownBlock) : FBox w6 fb s vp v ∧ Lp w B fb eb mb s vp K (w6.setCell ⟨fb, 2, none⟩ v6) v6 m := by
  have hne : some fb ≠ v.ownBlock := fun e => by have := (ow.lt h.ids e.symm).1; omega
  have hb6 : FBox w6 fb s vp v := (hg.block fb h.box.lt hne).trans h.box
  refine ⟨hb6, ⟨?_, ?_, ?_, ?_, by have := hg.size; have := h.base; simp; omega⟩⟩
  · show _ = _
    rw [set_heap w6 fb _ _ 2 _ hb6]
    rfl
  · exact ow.keep ho fun q hq => Below.heap_setCell _ _ _ q (by have := (ow.lt ho hq).1; show q ≠ fb; omega)
  · exact eng_set (eng_grown h.eng h.ids hg) hb6 (fun q hq => Below.heap_setCell _ _ _ q hq)
  · refine ⟨hg.os.trans h.ch.os, hg.tape.trans h.ch.tape, hg.output.trans h.ch.output, Nat.le_trans h.ch.size (by have := hg.size; simpa using this), fun q hq hq2 => ?_⟩
    rw [show (w6.setCell ⟨fb, 2, none⟩ v6).heap[q]? = w6.heap[q]? from Below.heap_setCell _ _ _ q hq2]
    exact (hg.block q (Nat.lt_of_lt_of_le hq h.ch.size) (fun e => by have := (ow.lt h.ids e.symm).1; omega)).trans (h.ch.block q hq hq2)
def Do3 (K : List Mg) (ls : List ByteArray) (s : ByteArray) (fb : Nat) (vp : Value) (w : World) (e : Ending) (w' : World) : Prop := e = .returned (.int .i64 0) ∧ ∃ v, FBox w' fb s vp v ∧ Ids w' w.heap.size v (toksL K ls) ∧ Ch fb w w'
set_option maxHeartbeats 4000000 in
theorem do3 (g : Sg) (p : Sp) (w : World) (h : SgAt w g p) (h0 : hp.newE g.ms g.dr = 0) (s : ByteArray) (ls : List ByteArray) (hls : sizes ls ≤ 262144) (fb : Nat) (vp : Value) (B9 : Nat) (hpo : w.ownsRow B9 9 1 vp ls.length (ls.map Value.string)) (hf : FBox w fb s vp (.slice none 0 0)) : Calls Try.prog 83 #[.agg #[p.vm, p.vd], .pointer (some ⟨fb, 0, none⟩)] w (Do3 (hp.keptL g.ms g.dr) ls s fb vp w) := by
  have hB1 := below_alloc w (.cells #[p.vm, p.vd] 78)
  have c := hp.new_any g.ms g.dr p.vm p.vd _ (h.ms.later hB1) (h.dr.later hB1)
  have hK : (hp.keptL g.ms g.dr).length ≤ 1024 := by
    rw [hp.kept_len]
    by_cases e : mg.errOf g.ms = 0
    · exact (mg.ok_run e).1
    · unfold hp.newE at h0
      rw [if_pos e] at h0
      exact absurd h0 e
  unfold hp.NewOut at c
  rw [h0] at c
  have HB1 := (show Hid _ from hB1)
  have HF := (show Hid (FBox w fb s vp (.slice none 0 0)) from hf)
  have HP := (show Hid (∀ W, Ch fb w W → W.ownsRow B9 9 1 vp ls.length (ls.map Value.string)) from fun W k => own9 hpo hf k)
  have HSZ := (show Hid (sizes ls ≤ 262144) from hls)
  have hfl := hf.lt
  obtain ⟨o, cap, e1, _⟩ := h.ms.form
  obtain ⟨o2, cap2, e2, _⟩ := h.dr
  obtain ⟨po, pcap, rfl, hp1, hp2⟩ := ow.form hpo
  rw [e1, e2] at c HB1 ⊢
  generalize hp.keptL g.ms g.dr = K at *
  clear h hB1 e1 e2 h0 hls hf hpo
  go_enter Try.func83, Try.ntmps83
  go_wp2_with (fail)
  go_at_call 85
  refine c.mono ?_
  rintro e w1 ⟨v, rfl, b1, hd⟩
  rcases hd with ⟨hn, _⟩ | ⟨_, eb, mb, rfl, heb, hrm, hg1, hg2⟩
  · exact absurd rfl hn
  have b01 := chain HB1.out b1
  rw [World.size_alloc] at hg1
  have HEB := (show Hid (w.heap.size ≤ eb) from by show _ ≤ _; omega)
  have HL0 := (show Hid (Lp w w1.heap.size fb eb mb s (.slice po ls.length pcap) K w1 (.slice none 0 0) []) from
    ⟨HF.out.later b01, ⟨rfl, .inl ⟨rfl, rfl⟩⟩, ⟨.pointer none, heb, hrm, .inl rfl⟩, Ch.below b01, Nat.le_refl _⟩)
  have HW1 := (show Hid (w.heap.size ≤ w1.heap.size) from b01.size)
  have q1 := HL0.out.box.cells.2.1
  clear c heb hrm hg1 hg2 b1 b01
  go_wp2_with (fail)
  go_loopw [27] (fun z wr => ∃ (i : Nat) (k : List Int) (gy : Option Addr) (cy : Nat), z = .int .i64 i ∧ i ≤ ls.length ∧ Hid (k = toksL K (ls.take i)) ∧ Hid (Lp w w1.heap.size fb eb mb s (.slice po ls.length pcap) K wr (.slice gy k.length cy) k)) (fun z _ => ls.length - (intOf z).toNat)
  case atStart => exact ⟨0, [], none, 0, rfl, by omega, by show _ = _; simp [toksL], HL0⟩
  case round =>
    clear q1 HL0
    obtain ⟨i, k, gy, cy, rfl, hi, HK, HL⟩ := hrel
    by_cases hin : i < ls.length
    · obtain ⟨pb, pc2, hpe, hpl, hpc⟩ := ow.cell (HP.out wr HL.out.ch) i (by simpa using hin)
      obtain ⟨rfl, rfl⟩ : po = some ⟨pb, 0, none⟩ ∧ pcap = pc2 := by simpa using hpe
      rw [List.getElem_map] at hpc
      have htz : ls[i].size ≤ 262144 := Nat.le_trans (size_at ls i hin) (Nat.le_trans HSZ.out (by decide))
      have hkl : k.length ≤ 262144 := by
        rw [HK.out]
        exact Nat.le_trans (toks_len K _) (Nat.le_trans (sizes_take ls i) HSZ.out)
      have HNX := (show Hid (k ++ app K (idsOf ls[i]) = toksL K (ls.take (i + 1))) from by show _ = _; rw [HK.out, list_take _ _ hin, toks_snoc])
      have hal := mg.app_len K (idsOf ls[i])
      rw [mg.idsOf_len] at hal
      have c72 := en.tokens_any HL.out.eng HL.out.base hK ls[i] htz
      have hsz3 := size_at ls i hin
      have hsz4 := HSZ.out
      generalize ls[i] = t at *
      unfold en.TokOut at c72
      clear HK hpe
      go_wp2_with (fail)
      go_at_call 86
      refine c72.mono ?_
      rintro e w5 ⟨v5, rfl, ho5, he5, hc5, ht5⟩
      obtain ⟨hL5, hi5⟩ := HL.out.next HW1.out hfl HEB.out ho5 he5 hc5 ht5
      obtain ⟨v6, w6, hr6, hI6, hg6⟩ := append_ints w5 w1.heap.size _ k hL5.ids v5 _ hi5 (by omega) hL5.base
      obtain ⟨hb6, hL6⟩ := hL5.put HW1.out hfl hI6 hg6
      obtain ⟨o6, c6, rfl, _, _⟩ := ow.form hI6
      obtain ⟨o5, c5, rfl, _⟩ := hi5
      have q2 := hL5.box.cells.2.2
      have q3 := hb6.cells.2.2
      have f3 := Lib.frozen_of_heap (show w6.heap[fb]? = some (.cells #[.string s, .slice (some ⟨pb, 0, none⟩) ls.length pcap, .slice gy k.length cy] 58 (0, 0)) from hb6) 2
      have HL6 := (show Hid (Lp w w1.heap.size fb eb mb s (.slice (some ⟨pb, 0, none⟩) ls.length pcap) K (w6.setCell ⟨fb, 2, none⟩ (.slice o6 (k ++ app K (idsOf t)).length c6)) (.slice o6 (k ++ app K (idsOf t)).length c6) (k ++ app K (idsOf t))) from hL6)
      clear c72 hL5 hL6 hb6 ho5 he5 hc5 ht5 hI6 hg6 HL
      generalize app K (idsOf t) = m at *
      go_wp2_with (at_builtin; refine Lib.wpList_append_run _ rfl _ _ _ _ rfl _ _ rfl rfl _ _ hr6 ?_)
      go_roundw
      case rel => exact ⟨i + 1, k ++ m, o6, c6, by go_num, by omega, HNX, by first | exact HL6 | (show Lp _ _ _ _ _ _ _ _ _ _ _; simpa using HL6.out)⟩
      case measure => simp [intOf]; omega
    · have hie : i = ls.length := by omega
      subst hie
      have HE := (show Hid (k = toksL K ls) from by have := HK.out; rw [List.take_length] at this; exact this)
      clear HK
      go_wp2_with (fail)
      go_ret
      refine ⟨rfl, _, HL.out.box, ?_, HL.out.ch⟩
      rw [← HE.out]
      exact pc.base_down HL.out.ids HW1.out
end Go.Proofs.Ytmmlibehihknbaa.ir
