/-
  Texts put together: Plain: what stages tell of a text, but ahead and behind, is live. The law OptDead, walked.
-/
import Derived.Test.YtmmlibehihknbaaM32
import Derived.Test.YtmmlibehihknbaaM35
namespace Go.Proofs.Ytmmlibehihknbaa.op
open Go.ChangeShapes Go.WideShapes Go.ChangeAt Go.RowKit
open mg (chain below_alloc IntsV Mgs Mg app idsOf nx joinAt)
open tr (Mc Mp mv MAt Right pt en tx nx total go outp bs)
open ir (Sm SmAt Gs svL SBox Kinds rightL mcs chainT stepT)
set_option linter.unusedVariables false
set_option linter.unusedSimpArgs false
set_option maxRecDepth 100000

theorem has_mem (s : ByteArray) (c : UInt8) (h : c ∈ s.data.toList) : hasB s s.size c.toNat = true := by
  obtain ⟨i, hi, e⟩ := List.mem_iff_getElem.1 h
  have hl : s.data.toList.length = s.size := tr.list_len s
  unfold hasB
  rw [List.any_eq_true]
  refine ⟨i, List.mem_range.2 (by omega), ?_⟩
  rw [ir.byteAt_list, List.getD_eq_getElem?_getD, List.getElem?_eq_getElem hi, e]
  simp
theorem puts_text {m : Mc} {t : Nat} (ht : t < m.txt.length) (h : txAll m m.next.length t = true) (c : UInt8) (hc : c ∈ (tx m t).data.toList) : putsB m c.toNat = true := by
  unfold putsB put2
  have : (List.range m.txt.length).any (fun t => txAt m m.next.length 0 t && hasB (tx m t) (tx m t).size c.toNat) = true := by
    rw [List.any_eq_true]
    refine ⟨t, List.mem_range.2 ht, ?_⟩
    rw [txAll_eq, h, has_mem _ _ hc]
    rfl
  rw [this]
  simp
theorem puts_self {m : Mc} {s : Nat} (hs : s < m.next.length) (b : Nat) (h : odd m s b = true) : putsB m b = true := by
  unfold putsB put2
  have : mayAt m m.next.length 0 b = true := by
    unfold mayAt
    have : (List.range m.next.length).any (fun s => odd m s b) = true := by
      rw [List.any_eq_true]
      exact ⟨s, List.mem_range.2 hs, h⟩
    rw [this]
    rfl
  rw [this]
  simp
theorem txAll_put {m : Mc} {s b : Nat} (hs : s < m.next.length) (hb : b < 256) : txAll m m.next.length (pt m s b / 2) = true := by
  unfold txAll
  rw [List.any_eq_true]
  refine ⟨s, List.mem_range.2 hs, ?_⟩
  rw [Bool.or_eq_true]
  right
  rw [List.any_eq_true]
  exact ⟨b, List.mem_range.2 hb, by simp⟩
theorem txAll_end {m : Mc} {s : Nat} (hs : s < m.next.length) : txAll m m.next.length (en m s) = true := by
  unfold txAll
  rw [List.any_eq_true]
  exact ⟨s, List.mem_range.2 hs, by simp⟩
theorem out_puts {m : Mc} (hR : Right m) {s : Nat} (hs : s < m.next.length) (b c : UInt8) (h : c ∈ outp m s b) : putsB m c.toNat = true := by
  have hb := b.toNat_lt
  have hp := hR.pt_lt hs hb
  unfold outp at h
  rcases List.mem_append.1 h with h | h
  · exact puts_text (by omega) (txAll_put hs hb) c h
  · split at h
    · rename_i ho
      rw [List.mem_singleton] at h
      subst h
      exact puts_self hs _ (by unfold odd; exact decide_eq_true ho)
    · cases h
theorem go_puts {m : Mc} (hR : Right m) : ∀ (l : List UInt8) (s : Nat), s < m.next.length → (∀ c ∈ (go m s l).1, putsB m c.toNat = true) ∧ (go m s l).2 < m.next.length
  | [], s, hs => ⟨fun c hc => by simp [go] at hc, hs⟩
  | b :: l, s, hs => by
    obtain ⟨h1, h2⟩ := go_puts hR l (tr.nx m s b.toNat) (hR.nx_lt hs b.toNat_lt)
    unfold go
    refine ⟨fun c hc => ?_, h2⟩
    rcases List.mem_append.1 hc with hc | hc
    · exact out_puts hR hs b c hc
    · exact h1 c hc
theorem total_puts {m : Mc} (hR : Right m) (l : List UInt8) (c : UInt8) (h : c ∈ total m 0 l) : putsB m c.toNat = true := by
  obtain ⟨h1, h2⟩ := go_puts hR l 0 (by have := hR.one; omega)
  unfold total at h
  rcases List.mem_append.1 h with h | h
  · exact h1 c h
  · exact puts_text (hR.en_lt h2) (txAll_end h2) c h
/-- each byte of the text that comes to the splitter may come -/
theorem chain_coming {l : List Sm} {k : Nat} {x0 x1 x2 : Sm} (K : Kinds l k x0 x1 x2) {s t : ByteArray} (h : chainT (mcs l k) s = some t) (c : UInt8) (hc : c ∈ t.data.toList) : cmB l k c.toNat = true := by
  have hlen := K.len
  match k, K, h, hlen with
  | 0, K, h, hlen => rfl
  | k' + 1, K, h, hlen =>
    have hi : k' < l.length := by omega
    rw [cm_k hi]
    rw [ir.mcs_snoc l k' hi] at h
    obtain ⟨t', _, h2⟩ := ir.chain_step _ _ _ _ h
    unfold ir.stepT at h2
    split at h2
    · rw [← Option.some.inj h2] at hc
      have : c ∈ total l[k'].m 0 t'.data.toList := by
        unfold bs at hc
        simpa using hc
      exact total_puts (tr.right_iff.1 (K.ms k' hi (by omega)).2) _ c this
    · cases h2
def LiveIn (F : Nat → Bool) (n : Nat) (ids : List Int) : Prop := ∀ x ∈ ids, ∃ j : Nat, x = (j : Int) ∧ j < n ∧ F j = true
theorem join_live {F : Nat → Bool} {n : Nat} {ids : List Int} {k r : Nat} (h : LiveIn F n ids) (hr : 256 + r < n) (hf : F (256 + r) = true) : LiveIn F n (joinAt ids k r) := by
  intro x hx
  unfold joinAt at hx
  rcases List.mem_append.1 hx with h1 | h1
  · exact h x (List.mem_of_mem_take h1)
  · rcases List.mem_cons.1 h1 with h1 | h1
    · exact ⟨256 + r, by omega, hr, hf⟩
    · exact h x (List.mem_of_mem_drop h1)
section
variable (p : Nat → Bool) (mp : Nat → Nat) (ms : List Mg) (dr : List Int)
theorem fin_merge (herr : mg.errOf ms = 0) (r : Nat) (a b : Nat) (h : (hp.keptL ms dr)[r]? = some ((a : Int), (b : Int))) (ha : fin p mp ms dr a = true) (hb : fin p mp ms dr b = true) : r < ms.length ∧ fin p mp ms dr (256 + r) = true := by
  rw [hp.kept_at] at h
  cases hm : ms[r]? with
  | none => rw [hm] at h; cases h
  | some m =>
    rw [hm] at h
    simp only [Option.map_some, Option.some.injEq] at h
    have hr : r < ms.length := (List.getElem?_eq_some_iff.1 hm).1
    refine ⟨hr, ?_⟩
    split at h
    · have := congrArg Prod.fst h
      simp at this
    · rename_i hn
      subst h
      obtain ⟨r1, r2⟩ := (mg.fine herr).rng r _ hm
      unfold mg.InR at r1 r2
      simp only at r1 r2
      rw [fin_at p mp ms dr r hr]
      unfold live1
      have hg : ms.getD r (0, 0) = ((a : Int), (b : Int)) := by rw [List.getD_eq_getElem?_getD, hm]; rfl
      rw [hg]
      simp only [Int.toNat_natCast]
      rw [fin_before p mp ms dr r a (by omega) (by omega), fin_before p mp ms dr r b (by omega) (by omega), ha, hb]
      simp [hn]
theorem app_live (herr : mg.errOf ms = 0) (ids : List Int) (h : LiveIn (fin p mp ms dr) (256 + ms.length) ids) : LiveIn (fin p mp ms dr) (256 + ms.length) (app (hp.keptL ms dr) ids) :=
  mg.app_ind (hp.keptL ms dr) (fun ids out => LiveIn (fin p mp ms dr) (256 + ms.length) ids → LiveIn (fin p mp ms dr) (256 + ms.length) out) (fun _ _ h => h) (fun ids k r out h h2 h3 => by
    obtain ⟨h1, h4, _⟩ := mg.nx_some h
    have m1 : ids.getD k 0 ∈ ids := by rw [List.getD_eq_getElem?_getD, List.getElem?_eq_getElem (by omega)]; exact List.getElem_mem _
    have m2 : ids.getD (k + 1) 0 ∈ ids := by rw [List.getD_eq_getElem?_getD, List.getElem?_eq_getElem h1]; exact List.getElem_mem _
    obtain ⟨a, ea, _, fa⟩ := h3 _ m1
    obtain ⟨b, eb, _, fb⟩ := h3 _ m2
    rw [ea, eb] at h4
    obtain ⟨q1, q2⟩ := fin_merge p mp ms dr herr r a b h4 fa fb
    exact h2 (join_live h3 (by omega) q2)) ids h
end
theorem piece_sub (T : ByteArray) (a b : Nat) (c : UInt8) (h : c ∈ (T.extract a b).data.toList) : c ∈ T.data.toList := by
  rw [ByteArray.data_extract, Array.toList_extract] at h
  exact List.mem_of_mem_drop (List.mem_of_mem_take h)
/-- the middle of what is told -/
theorem toks_live {l : List Sm} {k : Nat} {x0 x1 x2 : Sm} (K : Kinds l k x0 x1 x2) (hmp : ∀ x, x < 256 → x0.g.mp x < 256) {s t : ByteArray} (h : chainT (mcs l k) s = some t) : LiveIn (fin (cmB l k) x0.g.mp x1.g.ms x1.g.dr) (256 + x1.g.ms.length) (ir.toks x0.g x1.g t) := by
  have herr := ((ir.newE_0 _ _).1 K.r1).1
  intro x hx
  unfold ir.toks ir.toksL at hx
  rw [List.mem_flatten] at hx
  obtain ⟨ids, hids, hx⟩ := hx
  rw [List.mem_map] at hids
  obtain ⟨u, hu, rfl⟩ := hids
  refine app_live _ _ _ _ herr (idsOf u) (fun y hy => ?_) x hx
  unfold idsOf at hy
  rw [List.mem_map] at hy
  obtain ⟨c, hc, rfl⟩ := hy
  unfold ir.pieces pc.textsL at hu
  rw [List.mem_map] at hu
  obtain ⟨q, _, rfl⟩ := hu
  have h1 := piece_sub _ _ _ _ hc
  rw [ir.tT_bs] at h1
  have h2 : c ∈ t.data.toList.map fun c => ir.by8 (x0.g.mp c.toNat) := by
    unfold bs at h1
    simpa using h1
  rw [List.mem_map] at h2
  obtain ⟨d, hd, rfl⟩ := h2
  have hlt := hmp d.toNat d.toNat_lt
  rw [ir.by8_nat _ hlt]
  refine ⟨x0.g.mp d.toNat, rfl, by omega, ?_⟩
  rw [fin_low _ _ _ _ _ hlt]
  unfold baseB
  rw [List.any_eq_true]
  exact ⟨d.toNat, List.mem_range.2 d.toNat_lt, by rw [chain_coming K h d hd]; simp⟩
end Go.Proofs.Ytmmlibehihknbaa.op

namespace Go.Proofs.Ytmmlibehihknbaa.op
open Go.ChangeShapes Go.WideShapes Go.ChangeAt Go.RowKit
open mg (chain below_alloc IntsV Mgs Mg)
open tr (Mc Mp mv MAt Right)
open ir (Sm SmAt Gs svL SBox Kinds rightL mcs chainT)
set_option linter.unusedVariables false
set_option linter.unusedSimpArgs false
set_option maxRecDepth 100000

set_option maxHeartbeats 4000000 in
theorem optdead_no (o : Option Addr) (cap : Nat) (l : List Sm) (w : World) (h : Gs w o cap l) (hr : rightL l = false) (s : ByteArray) (hs : s.size ≤ 140737488351232) : Calls Try.prog 5 #[.slice o l.length cap, .string s] w fun e w' => e = .returned (.bool true) ∧ Below w.heap.size w w' := by
  have H12 := (show Hid (∀ W, Below w.heap.size w W → Calls Try.prog 12 #[.slice o l.length cap] W fun e w' => e = .returned (.tuple #[.slice none 0 0, .int .i64 190]) ∧ Below W.heap.size W w') from fun W c => live_not o cap l W (h.later c) hr)
  have H9 := (show Hid (∀ W, Below w.heap.size w W → Calls Try.prog 9 #[.slice o l.length cap, .string (en.cutN s 60)] W fun e w' => e = .returned (.tuple #[.slice none 0 0, .int .i64 190]) ∧ Below W.heap.size W w') from fun W c => ir.eval_not o cap l W (h.later c) hr _)
  have H15 := (show Hid (∀ W, Calls Try.prog 15 #[.string s, .int .i64 60] W fun e w' => e = .returned (.string (en.cutN s 60)) ∧ w' = W) from fun W => en.short2_any s 60 (by omega) (by omega) W)
  have c14 := en.alive_any w
  clear h hr
  generalize l.length = n at *
  generalize en.cutN s 60 = u at *
  go_enter Try.func5, Try.ntmps5
  go_wp2_with (fail)
  go_at_call 14
  refine c14.mono ?_
  rintro e w1 ⟨rfl, b1⟩
  have c12 := H12.out w1 b1
  have HB1 := (show Hid (Below w.heap.size w w1) from b1)
  clear c14 b1
  go_wp2_with (fail)
  go_at_call 12
  refine c12.mono ?_
  rintro e w2 ⟨rfl, b2⟩
  have HB2 := (show Hid (Below w.heap.size w w2) from chain HB1.out b2)
  have c15 := H15.out w2
  clear c12 b2
  go_wp2_with (fail)
  go_at_call 15
  refine c15.mono ?_
  rintro e w3 ⟨rfl, rfl⟩
  have c9 := H9.out w3 HB2.out
  clear c15
  go_wp2_with (fail)
  go_at_call 9
  refine c9.mono ?_
  rintro e w4 ⟨rfl, b4⟩
  have HB4 := (show Hid (Below w.heap.size w w4) from chain HB2.out b4)
  clear c9 b4
  go_wp2_with (fail)
  go_ret
  exact ⟨rfl, HB4.out⟩
set_option maxHeartbeats 8000000 in
theorem optdead_yes (b off cap n k k2 : Nat) (hk : k ≤ 4) (hn : n = k + 3) (hk2 : k2 = k + 2) (l : List Sm) (x0 x1 x2 : Sm) (K : Kinds l k x0 x1 x2) (w : World) (h : Gs w (some ⟨b, off, none⟩) cap l) (hr : rightL l = true) (s : ByteArray) (hs : s.size ≤ 140737488351232) : Calls Try.prog 5 #[.slice (some ⟨b, off, none⟩) n cap, .string s] w fun e w' => e = .returned (.bool true) ∧ Below w.heap.size w w' := by
  have hlen := K.len
  have hc1 := h.fit
  have hc2 := h.top
  rw [hlen, ← hn] at hc1
  have H12 := (show Hid (∀ W, Below w.heap.size w W → Calls Try.prog 12 #[.slice (some ⟨b, off, none⟩) n cap] W fun e w' => ∃ v, e = .returned (.tuple #[v, .int .i64 0]) ∧ OwnB w' W.heap.size v (liveOf l k x0 x1) ∧ Below W.heap.size W w') from fun W c => live_yes b off cap n k hk hn l x0 x1 x2 K W (h.later c) hr)
  have hcs : (en.cutN s 60).size ≤ 60 := en.cutN_size s 60
  have H9 := (show Hid (∀ W, Below w.heap.size w W → Calls Try.prog 9 #[.slice (some ⟨b, off, none⟩) n cap, .string (en.cutN s 60)] W (ir.EvalOut l k x0 x1 x2 (en.cutN s 60) W)) from fun W c => ir.eval_all b off cap k n hn l x0 x1 x2 K W (h.later c) hr _ (by omega))
  have H15 := (show Hid (∀ W, Calls Try.prog 15 #[.string s, .int .i64 60] W fun e w' => e = .returned (.string (en.cutN s 60)) ∧ w' = W) from fun W => en.short2_any s 60 (by omega) (by omega) W)
  have HS : ∀ W, Below w.heap.size w W → ∀ i (hi : i < l.length), W.rangeAt b (off + i * 523) (svL l[i].g l[i].p) ∧ SmAt W l[i] := fun W k i hi => by
    obtain ⟨b', off', e, _, hr, hs⟩ := (h.later k).lie i hi
    simp at e
    obtain ⟨rfl, rfl⟩ := e
    exact ⟨hr, hs⟩
  have HX2 := (show Hid (∀ W, Below w.heap.size w W → W.rangeAt b (off + k2 * 523) (svL x2.g x2.p) ∧ SmAt W x2) from fun W c => by
    have a2 := HS W c k2 (by omega)
    have e2 := K.e2
    rw [← hk2] at e2
    rw [ir.at_k (by omega) e2] at a2
    exact a2)
  have HMP : ∀ x, x < 256 → x0.g.mp x < 256 := fun x _ => by
    have a0 := (HS w (Below.refl _ _) k (by omega)).2
    rw [ir.at_k (by omega) K.e0] at a0
    exact a0.s.mp x
  have h1024 := (mg.ok_run ((ir.newE_0 _ _).1 K.r1).1).1
  have HLL := (show Hid ((liveOf l k x0 x1).length = 256 + x1.g.ms.length) from lvL_len _ _ _ _ _)
  have HMID := (show Hid (∀ t, chainT (mcs l k) (en.cutN s 60) = some t → ∀ x ∈ ir.toks x0.g x1.g t, ∃ j : Nat, x = (j : Int) ∧ j < 256 + x1.g.ms.length ∧ ∀ hj : j < (liveOf l k x0 x1).length, (liveOf l k x0 x1)[j] = true) from fun t ht x hx => by
    obtain ⟨j, e, hj, hf⟩ := toks_live K HMP ht x hx
    refine ⟨j, e, hj, fun hj2 => ?_⟩
    unfold fin at hf
    have e3 : liveOf l k x0 x1 = lvL (cmB l k) x0.g.mp x1.g.ms x1.g.dr x1.g.ms.length := rfl
    rw [← e3, List.getD_eq_getElem?_getD, List.getElem?_eq_getElem hj2] at hf
    exact hf)
  have c14 := en.alive_any w
  obtain ⟨Z, hZ⟩ : ∃ Z, Z = ir.z39.toArray := ⟨_, rfl⟩
  have hzero : ∀ w, (zeroValue 39).run Try.prog w = .ok (.agg Z) w := by rw [hZ]; exact ir.zero39
  have hzs : Z.size = 523 := by rw [hZ, List.size_toArray]; exact ir.z39_len
  have f0 : ((n : Nat) : Int) - 1 = (k2 : Int) := by omega
  have f1 : decide ((n : Int) < 3) = false := decide_eq_false (by omega)
  have hkn : k2 < n := by omega
  obtain ⟨L, hL⟩ : ∃ L, L = liveOf l k x0 x1 := ⟨_, rfl⟩
  obtain ⟨nm, hnm⟩ : ∃ nm, nm = x1.g.ms.length := ⟨_, rfl⟩
  rw [← hL] at H12 HLL HMID
  rw [← hnm] at HLL HMID h1024
  clear h hr K hlen HS HMP hZ hn hk2 hL hnm
  generalize en.cutN s 60 = u at *
  go_enter Try.func5, Try.ntmps5
  go_wp2_with (fail)
  go_at_call 14
  refine c14.mono ?_
  rintro e w1 ⟨rfl, b1⟩
  have c12 := H12.out w1 b1
  have HB1 := (show Hid (Below w.heap.size w w1) from b1)
  clear c14 b1
  go_wp2_with (fail)
  go_at_call 12
  refine c12.mono ?_
  rintro e w2 ⟨v, rfl, hv, b2⟩
  have HB2 := (show Hid (Below w.heap.size w w2) from chain HB1.out b2)
  have HV2 := (show Hid (OwnB w2 w.heap.size v L) from pc.base_down hv HB1.out.size)
  have c15 := H15.out w2
  clear c12 b2 hv
  go_wp2_with (fail)
  go_at_call 15
  refine c15.mono ?_
  rintro e w3 ⟨rfl, rfl⟩
  have c9 := H9.out w3 HB2.out
  clear c15
  go_wp2_with (fail)
  go_at_call 9
  refine c9.mono ?_
  rintro e w4 h4
  rcases h4 with ⟨_, rfl, b4⟩ | ⟨t, v9, ht, _, rfl, hi9, b4⟩
  · have HB4 := (show Hid (Below w.heap.size w w4) from chain HB2.out b4)
    clear c9 b4
    go_wp2_with (fail)
    go_ret
    exact ⟨rfl, HB4.out⟩
  · have HB4 := (show Hid (Below w.heap.size w w4) from chain HB2.out b4)
    have HV4 := (show Hid (OwnB w4 w.heap.size v L) from ow.later HV2.out b4)
    obtain ⟨hrg, hsm⟩ := HX2.out w4 HB4.out
    have hs2 := hsm.s
    obtain ⟨W3, hW3, hbx, b3⟩ := ir.stage_new w4 Z hs2
    have hl1 := ir.info39c hs2
    have hl2 := ir.info39a hs2
    have hone := hs2.all
    have hold : Z.size = (svL x2.g x2.p).toArray.size := by rw [hzs, List.size_toArray, hs2.len]
    have hnew := World.alloc_heap_new w4 (.cells Z 39)
    obtain ⟨_, _, q521, q522⟩ := hbx.last (hs2.later b3)
    obtain ⟨bo, bc, ebf, hb1, hb2, _⟩ := ir.iv_of hs2.bf
    obtain ⟨ao, ac, eaf, ha1, ha2, _⟩ := ir.iv_of hs2.af
    rw [ebf] at q521
    rw [eaf] at q522
    have HI := (show Hid (ir.Ids W3 w3.heap.size v9 (ir.evalL x0.g x1.g x2.g t)) from ow.later hi9 b3)
    have HV := (show Hid (OwnB W3 w.heap.size v L) from ow.later HV4.out b3)
    have HB3 := (show Hid (Below w.heap.size w W3) from chain HB4.out b3)
    have HM2 := (show Hid (∀ i (hi : i < (ir.evalL x0.g x1.g x2.g t).length), x2.g.bf.length ≤ i → i < x2.g.bf.length + (ir.toks x0.g x1.g t).length → ∃ j : Nat, (ir.evalL x0.g x1.g x2.g t)[i] = (j : Int) ∧ j < 256 + nm ∧ ∀ hj : j < L.length, L[j] = true) from fun i hi h1 h2 => by
      refine HMID.out t ht _ ?_
      have e : (ir.evalL x0.g x1.g x2.g t)[i]? = (ir.toks x0.g x1.g t)[i - x2.g.bf.length]? := by
        unfold ir.evalL
        rw [List.getElem?_append_left (by rw [List.length_append]; omega), List.getElem?_append_right (by omega)]
      rw [List.getElem?_eq_getElem hi] at e
      exact List.mem_of_getElem? e.symm)
    have hel : (ir.evalL x0.g x1.g x2.g t).length = x2.g.bf.length + (ir.toks x0.g x1.g t).length + x2.g.af.length := by
      unfold ir.evalL
      rw [List.length_append, List.length_append]
    generalize x2.g.bf.length = nb at *
    generalize x2.g.af.length = na at *
    generalize (ir.toks x0.g x1.g t).length = nt at *
    generalize ir.evalL x0.g x1.g x2.g t = E at *
    generalize hCL : svL x2.g x2.p = CL at *
    obtain ⟨o9, c9', hv9e, hf1, hf2⟩ := ow.form HI.out
    subst hv9e
    obtain ⟨ov, cv, hve, _, _⟩ := ow.form HV.out
    rw [HLL.out] at hve
    subst hve
    have HE := (show Hid (E.length = nb + nt + na) from hel)
    have f2 : (E.length : Int) - (na : Int) = ((nb + nt : Nat) : Int) := by omega
    obtain ⟨q, hq⟩ : ∃ q, q = nb + nt := ⟨_, rfl⟩
    have HQ := (show Hid (q = nb + nt) from hq)
    rw [← hq] at f2
    clear hel hq hs2 hsm hbx b3 b4 c9 hi9 hCL HV2 HV4 hb1 hb2 ha1 ha2 ebf eaf
    go_upto_region 11 with (first | (refine wpList_load_mid rfl 39 (.tmp 40) rfl b (off + k2 * 523) rfl CL _ hrg Try.underlying39 rfl hl1 ?_) | (refine wpList_store_row rfl 39 (.tmp 9) (.tmp 41) rfl w4.heap.size CL.toArray rfl rfl 39 Z hnew hl2 hold hone ?_; rw [hW3]))
    clear hrg hl1 hl2 hone hold hnew hW3
    go_wp2_with (fail)
    go_loopw [44] (fun y wr => ∃ i : Nat, y = .int .i64 (i : Int) ∧ i ≤ E.length ∧ wr = W3) (fun y _ => E.length - (intOf y).toNat)
    case atStart => exact ⟨0, rfl, by omega, rfl⟩
    case round =>
      obtain ⟨i, rfl, hi, rfl⟩ := hrel
      by_cases hin : i < E.length
      · obtain ⟨ge, ce, hve2, _, hce⟩ := ow.cell HI.out i (by rw [List.length_map]; exact hin)
        rw [List.getElem_map] at hce
        simp only [Value.slice.injEq, true_and] at hve2
        obtain ⟨rfl, rfl⟩ := hve2
        have hce2 : wr.cell? ⟨ge, i, none⟩ = some (.int .i64 E[i]) := hce
        by_cases h1 : i < nb
        · have g1 : decide ((i : Int) < (nb : Int)) = true := decide_eq_true (by omega)
          generalize E[i] = x at *
          clear hce
          go_wp2_with (fail)
          go_roundw
          case rel => exact ⟨i + 1, by go_num, by omega, trivial⟩
          case measure => simp [intOf]; omega
        · have g1 : decide ((i : Int) < (nb : Int)) = false := decide_eq_false (by omega)
          by_cases h2 : q ≤ i
          · have g2 : decide ((q : Int) ≤ (i : Int)) = true := decide_eq_true (by omega)
            generalize E[i] = x at *
            clear hce
            go_wp2_with (fail)
            go_roundw
            case rel => exact ⟨i + 1, by go_num, by omega, trivial⟩
            case measure => simp [intOf]; omega
          · have g2 : decide ((q : Int) ≤ (i : Int)) = false := decide_eq_false (by omega)
            obtain ⟨j, ej, hj, hlv⟩ := HM2.out i hin (by omega) (by have := HQ.out; omega)
            have hjl : j < L.length := by rw [HLL.out]; exact hj
            obtain ⟨gl, cl, e2, q2⟩ := HV.out.at j hjl
            simp only [Value.slice.injEq] at e2
            obtain ⟨rfl, -, -⟩ := e2
            rw [hlv hjl] at q2
            rw [ej] at hce2
            have g3 : decide ((j : Int) < 0) = false := decide_eq_false (by omega)
            have g4 : decide ((256 : Int) + (nm : Int) ≤ (j : Int)) = false := decide_eq_false (by omega)
            have g5 : (j : Int) < (256 : Int) + (nm : Int) := by omega
            clear hce ej hlv hjl
            go_wp2_with (fail)
            go_roundw
            case rel => exact ⟨i + 1, by go_num, by omega, trivial⟩
            case measure => simp [intOf]; omega
      · go_wp2_with (fail)
        go_ret
        exact ⟨rfl, HB3.out⟩
theorem optdead_any (o : Option Addr) (cap : Nat) (l : List Sm) (w : World) (h : Gs w o cap l) (s : ByteArray) (hs : s.size ≤ 140737488351232) : Calls Try.prog 5 #[.slice o l.length cap, .string s] w fun e w' => e = .returned (.bool true) ∧ Below w.heap.size w w' := by
  cases hr : rightL l
  · exact optdead_no o cap l w h hr s hs
  · obtain ⟨k, x0, x1, x2, hk, K⟩ := ir.kinds_good hr
    have hlen := K.len
    obtain ⟨b, off, rfl, _, _⟩ := h.row (by omega)
    exact optdead_yes b off cap l.length k (k + 2) hk hlen rfl l x0 x1 x2 K w h hr s hs
end Go.Proofs.Ytmmlibehihknbaa.op
