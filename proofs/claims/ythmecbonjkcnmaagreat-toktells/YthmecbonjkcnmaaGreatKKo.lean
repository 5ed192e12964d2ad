/-
  Contracts over this program: the ids of a normal text behind others (tok.merged).
-/
import Derived.Test.YthmecbonjkcnmaaGreatKKn
import Derived.Test.YthmecbonjkcnmaaGreatM12
import Derived.Lib.AppendZeros
namespace Go.Proofs.YthmecbonjkcnmaaGreat.tk
open Go.ChangeShapes Go.WideShapes Go.ChangeAt Go.RowKit
open cf (Cf Cp cv CfAt CBox cfE cbox_new)
open mg (Row In app idsOf Mgs IntsV)
open nb (Rl Pa EdR Tx built nfaOf Ans)
open nf (Ed Eds nfaV)
open wk (Wd Wk Ok Far Sb Rr)
open st (Tr Is)
set_option linter.unusedVariables false
set_option maxRecDepth 100000

def MergedOut (c : Cf) (s : ByteArray) (B : Nat) (v : Value) (l : List Int) (W : World) (e : Ending) (w' : World) : Prop :=
  ∃ mid, Mids (built c.t).es s c.ms 0 mid ∧ mid.length ≤ s.size ∧ IdsOut B v (l ++ mid) W e w'
/-- the next piece, or none -/
def PcOut (X : Wd) (fr : Nat) (W : World) (e : Ending) (w' : World) : Prop :=
  ∃ (pc : ByteArray) (to : Nat) (bs' : List Nat), e = .returned (.string pc) ∧ Wk X w' to bs' ∧ wk.Left (Rr X) 1 (Sb X bs') to ∧ to ≤ X.s.size ∧ wk.Cw X W w' ∧ ((fr = X.s.size ∧ pc = ⟨#[]⟩ ∧ to = fr) ∨ (fr < to ∧ wk.Stop X fr to ∧ pc = X.s.extract fr to))
theorem piece_all {X : Wd} {fr : Nat} {bs : List Nat} {W : World} (ok : Ok X) (k : Wk X W fr bs) (hn : 2 ≤ X.n) (hf : fr ≤ X.s.size) (h0 : wk.Left (Rr X) 1 (Sb X bs) fr) : Calls Tryz.prog 46 #[.pointer (some ⟨X.wb, 0, none⟩)] W (PcOut X fr W) := by
  by_cases e : fr = X.s.size
  · subst e
    refine (wk.piece_end ok k).mono ?_
    rintro e w' ⟨rfl, b⟩
    exact ⟨_, X.s.size, bs, rfl, k.later ok b, h0, Nat.le_refl _, wk.Cw.below b, .inl ⟨rfl, rfl, rfl⟩⟩
  · refine (wk.piece_any ok k hn (by omega) h0).mono ?_
    rintro e w' ⟨to, bs', rfl, h1, h2, h3, h4, h5, h6⟩
    exact ⟨_, to, bs', rfl, h4, h5, h2, h6, .inr ⟨h1, h3, rfl⟩⟩
theorem left_none (X : Wd) (n : Nat) : wk.Left (Rr X) 1 (Sb X (List.replicate n 0)) 0 := by
  have no : ∀ c, ¬ Sb X (List.replicate n 0) c := by
    rintro c ⟨_, h⟩
    unfold wk.on at h
    rw [List.getD_eq_getElem?_getD, List.getElem?_replicate] at h
    split at h <;> simp at h
  exact ⟨fun a b ha _ => absurd ha (no a), fun p hp => absurd hp (no _)⟩
theorem Gw.walk {B : Nat} {v : Value} {W w w' : World} {v' : Value} {l : List Int} {X : Wd} {fr : Nat} {bs : List Nat} (h : Gw B v W w v' l) (k : Wk X w fr bs) (c : wk.Cw X w w') (h1 : W.heap.size ≤ X.wb) (h2 : W.heap.size ≤ X.sb) : Gw B v W w' v' l := by
  refine ⟨ow.keep h.ids fun g hg => c.block g (ow.lt h.ids hg).2 (fun e => ow.type h.ids (e ▸ k.sn) (by decide) hg.symm) (fun e => ow.type h.ids (e ▸ k.box) (by decide) hg.symm), ⟨c.os.trans h.ch.os, c.tape.trans h.ch.tape, c.output.trans h.ch.output, Nat.le_trans h.ch.size c.size, fun b hb hne => ?_⟩, h.same⟩
  rw [c.block b (Nat.lt_of_lt_of_le hb h.ch.size) (by omega) (by omega)]
  exact h.ch.block b hb hne
theorem Gw.tokens {B : Nat} {v : Value} {W w w' : World} {v' : Value} {l : List Int} {B' eb : Nat} (h : Gw B v W w v' l) (c : en.EB B' eb w w') (ht : ∀ (k : Nat) (cs : Array Value) (fr : Nat × Nat), w.heap[k]? = some (Obj.cells cs 3 fr) → w'.heap[k]? = some (Obj.cells cs 3 fr)) (h1 : W.heap.size ≤ B') (h2 : W.heap.size ≤ eb) : Gw B v W w' v' l := by
  refine ⟨?_, ⟨c.os.trans h.ch.os, c.tape.trans h.ch.tape, c.output.trans h.ch.output, Nat.le_trans h.ch.size c.size, fun b hb hne => ?_⟩, h.same⟩
  · have := h.ids
    refine ⟨this.1, ?_⟩
    rcases this.2 with h0 | ⟨g, cap, cur, e, hb, hg, hr⟩
    · exact .inl h0
    · exact .inr ⟨g, cap, cur, e, hb, ht g cur _ hg, hr⟩
  · rw [c.oth b (by omega) (by omega)]
    exact h.ch.block b hb hne
theorem wk_tokens {X : Wd} (ok : Ok X) {w w' : World} {fr : Nat} {bs : List Nat} (k : Wk X w fr bs) {eb mb : Nat} {sp : Value} (he : w.heap[eb]? = some (.cells (hp.ecells mb sp) 126 (0, 0))) (c : en.EB X.B eb w w') : Wk X w' fr bs := by
  have ty : ∀ {b : Nat} {cs : Array Value} {t : TypeId}, w.heap[b]? = some (.cells cs t (0, 0)) → t ≠ 126 → b ≠ eb := by
    intro b cs t hb ht e
    rw [e, he] at hb
    cases hb
    exact ht rfl
  have hs := k.size
  refine ⟨(c.oth _ ok.bw (ty k.box (by decide))).trans k.box, (c.oth _ ok.bs (ty k.sn (by decide))).trans k.sn, fun q hq => ?_, k.lt, k.len, Nat.le_trans hs c.size⟩
  obtain ⟨⟨rs, rt⟩, o, cap, e1, e2, e3, e4⟩ := k.rows q hq
  have hrb := c.oth _ ok.br.2.2 (ty rt (by decide))
  refine ⟨⟨rs, hrb.trans rt⟩, o, cap, ?_, e2, e3, fun i hi => ?_⟩
  · rw [World.cell?_of_block hrb]; exact e1
  · obtain ⟨b, off, f1, f2, f3, f4, ⟨cs, ft⟩, f5⟩ := e4 i hi
    have hne : b ≠ eb := ty ft (by decide)
    exact ⟨b, off, f1, f2, f3, f4, ⟨cs, (c.oth b f2 hne).trans ft⟩, f5.same (c.oth b f2 hne)⟩
theorem eng_grown {W W' : World} {B eb mb : Nat} {K : List mg.Mg} (h : en.Eng W B eb mb K) {B' n : Nat} {v : Value} {xs : List Value} (ho : W.ownsRow B' 3 1 v n xs) (c : W.grownBy W' v.ownBlock) : en.Eng W' B eb mb K := by
  obtain ⟨sp, h1, h2, h4⟩ := h
  have key : ∀ {b : Nat} {cs : Array Value} {t : TypeId}, W.heap[b]? = some (.cells cs t (0, 0)) → t ≠ 3 → W'.heap[b]? = W.heap[b]? := fun hb ht => c.block _ (Array.getElem?_eq_some_iff.1 hb).1 (ow.type ho hb ht)
  have hm : W'.heap[mb]? = W.heap[mb]? := by
    obtain ⟨es, c0, hb⟩ := h2.obj
    exact c.block mb (Array.getElem?_eq_some_iff.1 hb).1 (ow.kind ho hb rfl)
  have hw : ∀ {e sz n : Nat} {u : Value} {ys : List Value}, W.ownsRow B e sz u n ys → e ≠ 3 → W'.ownsRow B e sz u n ys := by
    intro e sz n u ys h n1
    refine ow.keep h fun g hg => ?_
    rcases h.2 with ⟨rfl, _⟩ | ⟨gg, cp, cur, rfl, _, hgg, _⟩
    · cases hg
    · cases hg; exact key hgg n1
  refine ⟨sp, (key h1 (by decide)).trans h1, h2.keep hm, ?_⟩
  rcases h4 with h4 | ⟨rb, vs, vp, S, e, r⟩
  · exact .inl h4
  · exact .inr ⟨rb, vs, vp, S, e, ⟨(key r.box (by decide)).trans r.box, hw r.sg (by decide), hw r.prs (by decide), r.map.keep hm, r.bb⟩⟩
theorem Gw.list {B : Nat} {v : Value} {w w' w2 : World} {v' v2 : Value} {l tk : List Int} (h : Gw B v w w' v' l) (ho : w2.ownsRow B 3 1 v2 (l.length + tk.length) (l.map zv ++ tk.map zv)) (hg : w'.grownBy w2 v'.ownBlock) (sm : Same w' v' v2) : Gw B v w w2 v2 (l ++ tk) := by
  refine ⟨by simpa [Ids] using ho, h.ch.trans (v' := v') ⟨hg.os, hg.tape, hg.output, hg.size, fun k hk hne => hg.block k hk (fun e => hne e.symm)⟩ h.same, h.same.trans sm h.ch.size⟩
/-- between the rounds -/
structure Lp (es : List Ed) (s : ByteArray) (K : List mg.Mg) (X : Wd) (B : Nat) (v0 : Value) (W : World) (eb mb : Nat) (l0 : List Int) (wr : World) (vk : Value) (k : List Int) (pc : ByteArray) (fr0 fr : Nat) (bs : List Nat) (acc : List Int) : Prop where
  kx : Wk X wr fr bs
  left : wk.Left (Rr X) 1 (Sb X bs) fr
  le : fr ≤ s.size
  le0 : fr0 ≤ s.size
  gw : Gw B v0 W wr vk k
  eng : en.Eng wr X.B eb mb K
  eq : k = l0 ++ acc
  len : acc.length ≤ fr0
  fwd : ∀ r, Mids es s K fr0 r → Mids es s K 0 (acc ++ r)
  alt : (fr0 = s.size ∧ pc = ⟨#[]⟩ ∧ fr = fr0) ∨ (fr0 < fr ∧ StopS es s fr0 fr ∧ pc = s.extract fr0 fr)
theorem ga_nil (l : List mg.Mg) : hp.keptL l [] = l := hp.kept_nil l
theorem small_of {x : nb.St} (h : x.full = false) : x.n ≤ 2000 ∧ x.es.length ≤ 16000 := by
  unfold nb.St.full at h
  simp at h
  omega
/-- a walk is not touched where a list of ids grows -/
theorem wk_grown {X : Wd} (ok : Ok X) {w w' : World} {fr : Nat} {bs : List Nat} (k : Wk X w fr bs) {B n : Nat} {v : Value} {xs : List Value} (ho : w.ownsRow B 3 1 v n xs) (c : w.grownBy w' v.ownBlock) : Wk X w' fr bs := by
  have hs := k.size
  have key : ∀ {b : Nat} {cs : Array Value} {t : TypeId}, w.heap[b]? = some (.cells cs t (0, 0)) → t ≠ 3 → w'.heap[b]? = w.heap[b]? := fun hb ht => c.block _ (Array.getElem?_eq_some_iff.1 hb).1 (ow.type ho hb ht)
  refine ⟨(key k.box (by decide)).trans k.box, (key k.sn (by decide)).trans k.sn, fun q hq => ?_, k.lt, k.len, Nat.le_trans hs c.size⟩
  obtain ⟨⟨rs, rt⟩, o, cap, e1, e2, e3, e4⟩ := k.rows q hq
  have hrb := key rt (by decide)
  refine ⟨⟨rs, hrb.trans rt⟩, o, cap, ?_, e2, e3, fun i hi => ?_⟩
  · rw [World.cell?_of_block hrb]; exact e1
  · obtain ⟨b, off, f1, f2, f3, f4, ⟨cs, ft⟩, f5⟩ := e4 i hi
    exact ⟨b, off, f1, f2, f3, f4, ⟨cs, (key ft (by decide)).trans ft⟩, f5.same (key ft (by decide))⟩
set_option maxHeartbeats 4000000 in
theorem merged_any (c : Cf) (p : Cp) (s : ByteArray) (hs : s.size ≤ 262144) (W : World) (hc : CfAt W c p) (h0 : cfE c = 0) (hsane : c.t.sane) (B : Nat) (hB : B ≤ W.heap.size) (v : Value) (l : List Int) (hv : Ids W B v l) (hl : l.length ≤ 64) :
    Calls Tryz.prog 25 #[v, .agg (cv c p), .string s] W (MergedOut c s B v l W) := by
  obtain ⟨h1, h2, h3, h4⟩ := split_ok h0
  obtain ⟨ov, oc, rfl, ho1, ho2⟩ := ow.form hv
  obtain ⟨w1, HW1⟩ : ∃ w1, Hid (w1 = W.alloc (.cells (cv c p) 34)) := ⟨_, rfl⟩
  have b1 : Below W.heap.size W w1 := by rw [HW1.out]; exact below_alloc' W _
  have hbx : CBox w1 W.heap.size c p := by rw [HW1.out]; exact cbox_new W c p
  have HB1 := (show Hid (Below W.heap.size W w1) from b1)
  have hc1 := hc.later b1
  have h43 := nb.build_yes c.t h1 (.slice p.ko c.t.kids.length p.kc) w1 hc1.t
  have HMS := (show Hid (∀ w', Below w1.heap.size w1 w' → Mgs w' (.slice p.mo c.ms.length p.mc) c.ms) from fun w' b => hc1.ms.later b)
  have HCB := (show Hid (∀ w', Below w1.heap.size w1 w' → CBox w' W.heap.size c p) from fun w' b => hbx.later b)
  obtain ⟨t0, t1, t2, t3, t4, t5, t6, t7⟩ := hbx.tree
  have HV := (show Hid (Ids W B (.slice ov l.length oc) l) from hv)
  unfold cv at HW1
  unfold nb.trV at h43
  unfold cv
  clear hc hc1 hbx hv b1
  go_enter Tryz.func25, Tryz.ntmps25
  go_wp2_with (fail)
  rw [← HW1.out]
  refine h43.mono ?_
  rintro e w2 ⟨ans, b2⟩
  rcases ans with ⟨hf, _⟩ | ⟨_, o, cap, rfl, hes⟩
  · rw [h2] at hf; cases hf
  have b3 := below_alloc' w2 (.cells #[.int .i64 ((built c.t).n : Int), .int .i64 0, .int .i64 1, .slice o (built c.t).es.length cap] 86)
  have b23 := wk.chain b2 b3
  have q9 := (HCB.out _ b23).c9
  have h44 := hp.new_any c.ms [] _ (.slice none 0 0) _ (HMS.out _ b23) (mg.RowV.nil _)
  have hne : hp.newE c.ms [] = 0 := by unfold hp.newE; rw [if_neg (by simp [h4])]; rfl
  unfold nf.nfaV at *
  clear h43 t0 t1 t2 t3 t4 t5 t6 t7
  go_wp2_with (fail)
  go_at_call 44
  refine h44.mono ?_
  rintro e w4 ⟨ve, rfl, b4, hd⟩
  rcases hd with ⟨hn, _⟩ | ⟨_, eb, mb, rfl, heb, hrm, hg1, hg2⟩
  · exact absurd hne hn
  rw [ga_nil] at hrm
  have hbox := (b4.block _ (by rw [World.size_alloc]; omega)).trans (World.alloc_heap_new w2 (.cells #[.int .i64 ((built c.t).n : Int), .int .i64 0, .int .i64 1, .slice o (built c.t).es.length cap] 86))
  have d0 : w4.cell? ⟨w2.heap.size, 0, none⟩ = some (.int .i64 ((built c.t).n : Int)) := by rw [Lib.cell_of_heap hbox]; rfl
  have d1 : w4.cell? ⟨w2.heap.size, 1, none⟩ = some (.int .i64 0) := by rw [Lib.cell_of_heap hbox]; rfl
  have d2 : w4.cell? ⟨w2.heap.size, 2, none⟩ = some (.int .i64 1) := by rw [Lib.cell_of_heap hbox]; rfl
  have d3 : w4.cell? ⟨w2.heap.size, 3, none⟩ = some (.slice o (built c.t).es.length cap) := by rw [Lib.cell_of_heap hbox]; rfl
  have b34 := wk.chain b3 b4
  obtain ⟨hn2, he2⟩ := small_of h2
  have h45 := wk.new_any (built c.t).n (built c.t).es s o cap w4 (by omega) (hes.later b34) (nb.built_in c.t).1 (nb.built_fits c.t hsane) (by omega) (by omega)
  have HW4 := (show Hid (Below W.heap.size W w4) from wk.chain HB1.out (wk.chain b2 b34))
  clear h44 hne hbox q9 b3 b23
  go_wp2_with (fail)
  go_at_call 45
  refine h45.mono ?_
  rintro e w5 ⟨X, rfl, hXn, hXe, hXs, ok, kx, b5, hXB, hx1, hx2⟩
  have hs0 := HW4.out.size
  have HOK := (show Hid (Ok X) from ok)
  have HN2 := (show Hid (2 ≤ X.n) from by show _ ≤ _; rw [hXn]; exact (nb.built_in c.t).2)
  have HENG := (show Hid (en.Eng w5 X.B eb mb c.ms) from ⟨.pointer none, (b5.block eb (Array.getElem?_eq_some_iff.1 heb).1).trans heb, hrm.keep (b5.block mb hrm.lt), .inl rfl⟩)
  have HGW := (show Hid (Gw B (.slice ov l.length oc) W w5 (.slice ov l.length oc) l) from ⟨ow.later HV.out (wk.chain HW4.out b5), Chr.below (wk.chain HW4.out b5), .inl rfl⟩)
  have HX := (show Hid (W.heap.size ≤ X.wb ∧ W.heap.size ≤ X.sb ∧ W.heap.size ≤ X.B ∧ W.heap.size ≤ eb ∧ X.es = (built c.t).es ∧ X.s = s) from ⟨by omega, by omega, by have := b5.size; omega, by have := b2.size; have := HB1.out.size; rw [World.size_alloc] at hg1; omega, hXe, hXs⟩)
  have h46 := piece_all ok kx HN2.out (Nat.zero_le _) (left_none X _)
  clear h45 d0 d1 d2 d3 heb hrm hg1 hg2 hes b2 b34 b4 b5 hXB hx1 hx2 HV HB1 HMS HCB HW4 hs0 ok
  go_wp2_with (fail)
  go_at_call 46
  refine h46.mono ?_
  rintro e w6 ⟨pc, fr, b6, rfl, k6, l6, le6, c6, alt6⟩
  have HST := (show Hid (Lp (built c.t).es s c.ms X B (.slice ov l.length oc) W eb mb l w6 (.slice ov l.length oc) l pc 0 fr b6 []) from by
    obtain ⟨x1, x2, x3, x4, x5, x6⟩ := HX.out
    refine ⟨k6, l6, by rw [← x6]; exact le6, Nat.zero_le _, HGW.out.walk kx c6 x1 x2, eng_walk HENG.out kx c6, by simp, Nat.le_refl _, fun r h => h, ?_⟩
    rw [x6] at alt6
    rcases alt6 with ⟨e1, e2, e3⟩ | ⟨e1, e2, e3⟩
    · exact .inl ⟨e1, e2, e3⟩
    · refine .inr ⟨e1, ?_, e3⟩
      unfold wk.Stop Rr at e2
      rw [x5, x6] at e2
      exact e2)
  have hms := (mg.ok_run h4).1
  clear h46 HGW HENG k6 l6 le6 c6 alt6 kx
  go_wp2_with (fail)
  go_loopg [0, 12] (s.size + 1) (fun q y z wr => ∃ (k : List Int) (pc : ByteArray) (fr0 fr : Nat) (bs : List Nat) (acc : List Int) (gy : Option Addr) (cy : Nat), y = .slice gy k.length cy ∧ z = .string pc ∧ Hid (q = s.size + 1 - fr0) ∧ Hid (Lp (built c.t).es s c.ms X B (.slice ov l.length oc) W eb mb l wr (.slice gy k.length cy) k pc fr0 fr bs acc))
  case atStart => exact ⟨l, pc, 0, fr, b6, [], ov, oc, rfl, rfl, rfl, HST⟩
  case round =>
    obtain ⟨k, pc, fr0, fr, bs, acc, gy, cy, rfl, rfl, HQ, HL⟩ := hrel
    clear HST
    rcases HL.out.alt with ⟨e1, e2, e3⟩ | ⟨e1, e2, e3⟩
    · subst e2
      have HD := (show Hid (MergedOut c s B (.slice ov l.length oc) l W (.returned (.slice gy k.length cy)) wr) from by
        have hf := HL.out.fwd [] (by rw [e1]; exact Mids.done)
        rw [List.append_nil] at hf
        exact ⟨acc, hf, by have := HL.out.len; omega, _, rfl, by rw [← HL.out.eq]; exact HL.out.gw.ids, HL.out.gw.ch, HL.out.gw.same⟩)
      clear e1 e3 HL
      go_wp2_with (fail)
      go_ret
      exact HD.out
    · have hle := HL.out.le
      have hpz : pc.size = fr - fr0 := by rw [e3, ByteArray.size_extract]; omega
      have hpe := cf.empty_no pc (by omega)
      have h47 := en.tokens_any HL.out.eng HL.out.kx.size hms pc (by omega)
      have HSTP := (show Hid (fr0 < fr ∧ StopS (built c.t).es s fr0 fr ∧ pc = s.extract fr0 fr) from ⟨e1, e2, e3⟩)
      have hkl : k.length ≤ fr0 + 64 := by
        rw [HL.out.eq, List.length_append]
        have := HL.out.len
        omega
      have hle0 := HL.out.le0
      obtain ⟨tk, htk⟩ : ∃ tk, tk = app c.ms (idsOf pc) := ⟨_, rfl⟩
      have hpos : 0 < tk.length := by rw [htk]; exact en.app_pos _ _ (by rw [mg.idsOf_len]; omega)
      have htl : tk.length ≤ fr - fr0 := by
        have := mg.app_len c.ms (idsOf pc)
        rw [mg.idsOf_len] at this
        rw [htk]; omega
      have HTK := (show Hid (tk = app c.ms (idsOf pc)) from htk)
      clear e1 e2 e3
      go_wp2_with (fail)
      go_at_call 47
      refine h47.mono ?_
      rintro e w7 ⟨vt, rfl, ot, eng7, eb7, ty7⟩
      rw [← htk] at ot
      clear htk h47
      obtain ⟨sp, hebr, _⟩ := HL.out.eng
      have k7 := wk_tokens HOK.out HL.out.kx hebr eb7
      have g7 := HL.out.gw.tokens eb7 ty7 HX.out.2.2.1 HX.out.2.2.2.1
      obtain ⟨g, capt, rfl, hg, hc0⟩ := ow.cell ot 0 (by simpa using hpos)
      have hnews : ∀ j u, (tk.map zv)[j]? = some u → w7.cell? ((⟨g, 0, none⟩ : Addr).add j) = some u := by
        intro j u hu
        obtain ⟨hj, rfl⟩ := List.getElem?_eq_some_iff.1 hu
        obtain ⟨g', cap', e, _, hc⟩ := ow.cell ot j hj
        simp only [Value.slice.injEq, Option.some.injEq, Addr.mk.injEq] at e
        have e1 : ((⟨g, 0, none⟩ : Addr).add j) = ⟨g, j, none⟩ := by cases j <;> simp [Addr.add]
        rw [e1, e.1.1]; exact hc
      have hB7 : B ≤ w7.heap.size := Nat.le_trans hB g7.ch.size
      obtain ⟨v8, w8, happ, ho8, hg8, sm8⟩ := append_list w7 B (.slice gy k.length cy) k.length (k.map zv) g7.ids g tk.length capt (tk.map zv) (by simp) hpos hnews (fun u hu => by obtain ⟨x, _, rfl⟩ := List.mem_map.1 hu; rfl) (by omega) hB7
      have G8 := g7.list (tk := tk) ho8 hg8 sm8
      have k8 := wk_grown HOK.out k7 g7.ids hg8
      have e8 := eng_grown eng7 g7.ids hg8
      have h46 := piece_all HOK.out k8 HN2.out (by rw [HX.out.2.2.2.2.2]; exact hle) HL.out.left
      have HNX := (show Hid (∀ w9 pc9 fr9 b9, Wk X w9 fr9 b9 → wk.Left (Rr X) 1 (Sb X b9) fr9 → fr9 ≤ X.s.size → wk.Cw X w8 w9 → ((fr = X.s.size ∧ pc9 = ⟨#[]⟩ ∧ fr9 = fr) ∨ (fr < fr9 ∧ wk.Stop X fr fr9 ∧ pc9 = X.s.extract fr fr9)) → Lp (built c.t).es s c.ms X B (.slice ov l.length oc) W eb mb l w9 v8 (k ++ tk) pc9 fr fr9 b9 (acc ++ tk)) from by
        intro w9 pc9 fr9 b9 k9 l9 le9 c9 alt9
        obtain ⟨x1, x2, x3, x4, x5, x6⟩ := HX.out
        obtain ⟨s1, s2, s3⟩ := HSTP.out
        refine ⟨k9, l9, by rw [← x6]; exact le9, hle, G8.walk k8 c9 x1 x2, eng_walk e8 k8 c9, by rw [HL.out.eq, List.append_assoc], by have := HL.out.len; rw [List.length_append]; omega, fun r h => ?_, ?_⟩
        · rw [List.append_assoc, HTK.out, s3]
          exact HL.out.fwd _ (Mids.more s1 hle s2 h)
        · rw [x6] at alt9
          rcases alt9 with ⟨a1, a2, a3⟩ | ⟨a1, a2, a3⟩
          · exact .inl ⟨a1, a2, a3⟩
          · refine .inr ⟨a1, ?_, a3⟩
            unfold wk.Stop Rr at a2
            rw [x5, x6] at a2
            exact a2)
      obtain ⟨g8, cy8, rfl, hc81, hc82⟩ := ow.form G8.ids
      have HLT := (show Hid (fr0 < fr ∧ fr ≤ s.size) from ⟨HSTP.out.1, hle⟩)
      clear G8 k8 e8 sm8 hg8 ho8 hnews g7 k7 ty7 eb7 eng7 ot hc0 hebr HL HSTP HTK hpe hkl htl hle0 hpz hpos
      go_wp2_with (at_builtin; refine Lib.wpList_append_run _ rfl (.tmp 42) (.tmp 43) 32 32 rfl (.slice gy k.length cy) (.slice (some ⟨g, 0, none⟩) tk.length capt) rfl rfl _ w8 happ ?_)
      go_at_call 46
      refine h46.mono ?_
      rintro e w9 ⟨pc9, fr9, b9, rfl, k9, l9, le9, c9, alt9⟩
      have HN := (show Hid (Lp (built c.t).es s c.ms X B (.slice ov l.length oc) W eb mb l w9 (.slice g8 (k ++ tk).length cy8) (k ++ tk) pc9 fr fr9 b9 (acc ++ tk)) from HNX.out w9 pc9 fr9 b9 k9 l9 le9 c9 alt9)
      clear h46 k9 l9 le9 c9 alt9 HNX happ
      go_wp2_with (fail)
      go_roundg (s.size + 1 - fr)
      case rel => exact ⟨k ++ tk, pc9, fr, fr9, b9, acc ++ tk, g8, cy8, by simp, rfl, rfl, HN⟩
      case measure => have := HQ.out; have := HLT.out; omega
end Go.Proofs.YthmecbonjkcnmaaGreat.tk
