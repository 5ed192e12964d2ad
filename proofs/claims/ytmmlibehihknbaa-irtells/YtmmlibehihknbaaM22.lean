/-
  Texts put together: Plain: how long texts become behind machines of short texts. The law IrTells, walked. The law IrTells at stages that fit and a text that is not too long.
-/
import Derived.Test.YtmmlibehihknbaaKVd
import Derived.Test.YtmmlibehihknbaaM11
namespace Go.Proofs.Ytmmlibehihknbaa.ir
open Go.ChangeShapes Go.WideShapes Go.ChangeAt Go.RowKit Go.Shelf
open mg (Row In iv IntsV chain below_alloc Mg Mgs app idsOf)
open tr (Mc Mp mv MAt Buf bs)
set_option linter.unusedVariables false
set_option maxRecDepth 100000

def Small (m : Mc) : Prop := ∀ t ∈ m.txt, t.size ≤ 4
theorem small_tx {m : Mc} (h : Small m) (k : Nat) : (tr.tx m k).size ≤ 4 := by
  unfold tr.tx
  rw [List.getD_eq_getElem?_getD]
  by_cases hk : k < m.txt.length
  · rw [List.getElem?_eq_getElem hk]
    exact h _ (List.getElem_mem _)
  · rw [List.getElem?_eq_none (by omega)]
    decide
theorem small_out {m : Mc} (h : Small m) (s : Nat) (b : UInt8) : (tr.outp m s b).length ≤ 5 := by
  have := small_tx h (tr.pt m s b.toNat / 2)
  unfold tr.outp
  rw [List.length_append, tr.list_len]
  split <;> simp <;> omega
theorem small_go {m : Mc} (h : Small m) : ∀ (l : List UInt8) (s : Nat), (tr.go m s l).1.length ≤ 5 * l.length
  | [], s => by simp [tr.go]
  | b :: l, s => by
    have h1 := small_out h s b
    have h2 := small_go h l (tr.nx m s b.toNat)
    unfold tr.go
    rw [List.length_append, List.length_cons]
    omega
theorem small_total {m : Mc} (h : Small m) (s : Nat) (l : List UInt8) : (tr.total m s l).length ≤ 5 * l.length + 4 := by
  have h1 := small_go h l s
  have h2 := small_tx h (tr.en m (tr.go m s l).2)
  unfold tr.total
  rw [List.length_append, tr.list_len]
  omega
theorem small_step {m : Mc} (h : Small m) {t u : ByteArray} (e : stepT m t = some u) : u.size ≤ 5 * t.size + 4 := by
  unfold stepT at e
  split at e
  · rw [← Option.some.inj e, bs_size]
    have := small_total h 0 t.data.toList
    rw [tr.list_len] at this
    exact this
  · cases e
theorem chain_step (ms : List Mc) (m : Mc) (s u : ByteArray) (h : chainT (ms ++ [m]) s = some u) : ∃ t, chainT ms s = some t ∧ stepT m t = some u := by
  cases e : chainT ms s with
  | none =>
    unfold chainT at h e
    rw [List.foldl_append, e] at h
    cases h
  | some t => exact ⟨t, rfl, by rw [← chain_snoc ms m s t e]; exact h⟩
theorem small_chain {l : List Sm} (h : ∀ i (hi : i < l.length), Small l[i].m) (k : Nat) (hk : k ≤ 2) (hl : k ≤ l.length) (s t : ByteArray) (hs : s.size ≤ 24) (e : chainT (mcs l k) s = some t) : t.size ≤ 100000 := by
  match k, hk with
  | 0, _ =>
    have : chainT (mcs l 0) s = some s := by simp [mcs, chainT]
    rw [this] at e
    rw [← Option.some.inj e]
    omega
  | 1, _ =>
    rw [mcs_snoc l 0 (by omega)] at e
    obtain ⟨t0, e0, e1⟩ := chain_step _ _ _ _ e
    have : chainT (mcs l 0) s = some s := by simp [mcs, chainT]
    rw [this] at e0
    have := small_step (h 0 (by omega)) e1
    rw [← Option.some.inj e0] at this
    omega
  | 2, _ =>
    rw [mcs_snoc l 1 (by omega)] at e
    obtain ⟨t1, e1, e2⟩ := chain_step _ _ _ _ e
    rw [mcs_snoc l 0 (by omega)] at e1
    obtain ⟨t0, e0, e1⟩ := chain_step _ _ _ _ e1
    have : chainT (mcs l 0) s = some s := by simp [mcs, chainT]
    rw [this] at e0
    have h1 := small_step (h 0 (by omega)) e1
    have h2 := small_step (h 1 (by omega)) e2
    rw [← Option.some.inj e0] at h1
    omega
set_option maxHeartbeats 4000000 in
theorem tells_no (o : Option Addr) (cap : Nat) (l : List Sm) (w : World) (h : Gs w o cap l) (hr : rightL l = false) (s : ByteArray) (hs : s.size ≤ 140737488351232) : Calls Try.prog 3 #[.slice o l.length cap, .string s] w fun e w' => e = .returned (.bool true) ∧ Below w.heap.size w w' := by
  have c6 := right_all o cap l w h
  have H7 := (show Hid (∀ W, Below w.heap.size w W → Calls Try.prog 7 #[.slice o l.length cap] W fun e w' => e = .returned (.bool false) ∧ Below W.heap.size W w') from fun W c => by rw [← hr]; exact rright_all o cap l W (h.later c))
  have H9 := (show Hid (∀ (u : ByteArray) W, Below w.heap.size w W → Calls Try.prog 9 #[.slice o l.length cap, .string u] W fun e w' => e = .returned (.tuple #[.slice none 0 0, .int .i64 190]) ∧ Below W.heap.size W w') from fun u W c => eval_not o cap l W (h.later c) hr u)
  rw [hr] at c6
  clear h hr
  generalize l.length = n at *
  go_enter Try.func3, Try.ntmps3
  go_wp2_with (fail)
  go_at_call 6
  refine c6.mono ?_
  rintro e w1 ⟨rfl, b1⟩
  have c7 := H7.out w1 b1
  have HB1 := (show Hid (Below w.heap.size w w1) from b1)
  clear c6 b1
  go_wp2_with (fail)
  go_at_call 7
  refine c7.mono ?_
  rintro e w2 ⟨rfl, b2⟩
  have HB2 := (show Hid (Below w.heap.size w w2) from chain HB1.out b2)
  clear c7 b2
  by_cases hl : s.size ≤ 4096
  · have f1 : decide ((s.size : Int) ≤ 4096) = true := decide_eq_true (by omega)
    have c8 := en.short_any s 24 (by omega) (by omega) w2
    have c9 := H9.out (en.cutN s 24) w2 HB2.out
    generalize en.cutN s 24 = u at *
    go_wp2_with (fail)
    go_at_call 8
    refine c8.mono ?_
    rintro e w3 ⟨rfl, rfl⟩
    clear c8
    go_wp2_with (fail)
    go_at_call 9
    refine c9.mono ?_
    rintro e w4 ⟨rfl, b4⟩
    have HB4 := (show Hid (Below w.heap.size w w4) from chain HB2.out b4)
    have c7 := H7.out w4 HB4.out
    clear c9 b4
    go_wp2_with (fail)
    go_at_call 7
    refine c7.mono ?_
    rintro e w5 ⟨rfl, b5⟩
    have HB5 := (show Hid (Below w.heap.size w w5) from chain HB4.out b5)
    clear c7 b5
    go_wp2_with (fail)
    go_ret
    exact ⟨rfl, HB5.out⟩
  · have f1 : decide ((s.size : Int) ≤ 4096) = false := decide_eq_false (by omega)
    have c9 := H9.out s w2 HB2.out
    go_wp2_with (fail)
    go_at_call 9
    refine c9.mono ?_
    rintro e w4 ⟨rfl, b4⟩
    have HB4 := (show Hid (Below w.heap.size w w4) from chain HB2.out b4)
    have c7 := H7.out w4 HB4.out
    clear c9 b4
    go_wp2_with (fail)
    go_at_call 7
    refine c7.mono ?_
    rintro e w5 ⟨rfl, b5⟩
    have HB5 := (show Hid (Below w.heap.size w w5) from chain HB4.out b5)
    clear c7 b5
    go_wp2_with (fail)
    go_ret
    exact ⟨rfl, HB5.out⟩
set_option maxHeartbeats 4000000 in
theorem tells_long (o : Option Addr) (cap : Nat) (l : List Sm) (w : World) (h : Gs w o cap l) (hr : rightL l = true) (s : ByteArray) (hl : 4096 < s.size) : Calls Try.prog 3 #[.slice o l.length cap, .string s] w fun e w' => e = .returned (.bool true) ∧ Below w.heap.size w w' := by
  have c6 := right_all o cap l w h
  have H7 := (show Hid (∀ W, Below w.heap.size w W → Calls Try.prog 7 #[.slice o l.length cap] W fun e w' => e = .returned (.bool true) ∧ Below W.heap.size W w') from fun W c => by rw [← hr]; exact rright_all o cap l W (h.later c))
  have H9 := (show Hid (∀ W, Below w.heap.size w W → Calls Try.prog 9 #[.slice o l.length cap, .string s] W fun e w' => e = .returned (.tuple #[.slice none 0 0, .int .i64 2]) ∧ Below W.heap.size W w') from fun W c => eval_long o cap l W (h.later c) hr s hl)
  rw [hr] at c6
  clear h hr
  generalize l.length = n at *
  go_enter Try.func3, Try.ntmps3
  go_wp2_with (fail)
  go_at_call 6
  refine c6.mono ?_
  rintro e w1 ⟨rfl, b1⟩
  have c7 := H7.out w1 b1
  have HB1 := (show Hid (Below w.heap.size w w1) from b1)
  clear c6 b1
  go_wp2_with (fail)
  go_at_call 7
  refine c7.mono ?_
  rintro e w2 ⟨rfl, b2⟩
  have HB2 := (show Hid (Below w.heap.size w w2) from chain HB1.out b2)
  clear c7 b2
  have f1 : decide ((s.size : Int) ≤ 4096) = false := decide_eq_false (by omega)
  have f2 : decide ((4096 : Int) < (s.size : Int)) = true := decide_eq_true (by omega)
  have c9 := H9.out w2 HB2.out
  go_wp2_with (fail)
  go_at_call 9
  refine c9.mono ?_
  rintro e w4 ⟨rfl, b4⟩
  have HB4 := (show Hid (Below w.heap.size w w4) from chain HB2.out b4)
  have c7 := H7.out w4 HB4.out
  clear c9 b4
  go_wp2_with (fail)
  go_at_call 7
  refine c7.mono ?_
  rintro e w5 ⟨rfl, b5⟩
  have HB5 := (show Hid (Below w.heap.size w w5) from chain HB4.out b5)
  clear c7 b5
  go_wp2_with (fail)
  go_ret
  exact ⟨rfl, HB5.out⟩
end Go.Proofs.Ytmmlibehihknbaa.ir

namespace Go.Proofs.Ytmmlibehihknbaa.ir
open Go.ChangeShapes Go.WideShapes Go.ChangeAt Go.RowKit Go.Shelf
open mg (Row In iv IntsV chain below_alloc Mg Mgs app idsOf)
open tr (Mc Mp mv MAt Buf bs)
set_option linter.unusedVariables false
set_option maxRecDepth 100000

/-- what ir.Eval answered, as letters -/
def Told (l : List Sm) (k : Nat) (x0 x1 x2 : Sm) (s : ByteArray) (B : Nat) (W : World) (v : Value) (nl : Nat) (ee : Int) : Prop :=
  (chainT (mcs l k) s = none ∧ nl = 0 ∧ ee = 2) ∨ (∃ t, chainT (mcs l k) s = some t ∧ ee = 0 ∧ Ids W B v (evalL x0.g x1.g x2.g t))
theorem Told.later {l : List Sm} {k : Nat} {x0 x1 x2 : Sm} {s : ByteArray} {B : Nat} {W W' : World} {v : Value} {nl : Nat} {ee : Int} (h : Told l k x0 x1 x2 s B W v nl ee) (b : Below W.heap.size W W') : Told l k x0 x1 x2 s B W' v nl ee := by
  rcases h with h | ⟨t, a, c, d⟩
  · exact .inl h
  · exact .inr ⟨t, a, c, ow.later d b⟩
theorem eval_told {l : List Sm} {k : Nat} {x0 x1 x2 : Sm} {s : ByteArray} {w : World} {e : Ending} {w' : World} (h : EvalOut l k x0 x1 x2 s w e w') : ∃ vo nl vc ee, e = .returned (.tuple #[.slice vo nl vc, .int .i64 ee]) ∧ Told l k x0 x1 x2 s w.heap.size w' (.slice vo nl vc) nl ee ∧ Below w.heap.size w w' := by
  rcases h with ⟨h1, rfl, b⟩ | ⟨t, v, h1, h2, rfl, hi, b⟩
  · exact ⟨none, 0, 0, 2, rfl, .inl ⟨h1, rfl, rfl⟩, b⟩
  · obtain ⟨vo, vc, rfl, _, _⟩ := ow.form hi
    exact ⟨vo, _, vc, 0, rfl, .inr ⟨t, h1, rfl, hi⟩, b⟩
set_option maxHeartbeats 8000000 in
theorem tells_yes (b off cap n k : Nat) (hk : k ≤ 4) (hn : n = k + 3) (l : List Sm) (x0 x1 x2 : Sm) (K : Kinds l k x0 x1 x2) (w : World) (h : Gs w (some ⟨b, off, none⟩) cap l) (hr : rightL l = true) (s : ByteArray) (hs : s.size ≤ 4096) : Calls Try.prog 3 #[.slice (some ⟨b, off, none⟩) n cap, .string s] w fun e w' => e = .returned (.bool true) ∧ Below w.heap.size w w' := by
  have hlen := K.len
  have hln : l.length = n := by omega
  have hc1 := h.fit
  have hc2 := h.top
  rw [hln] at hc1
  have c6 := right_all _ cap l w h
  rw [hr, hln] at c6
  have H7 := (show Hid (∀ W, Below w.heap.size w W → Calls Try.prog 7 #[.slice (some ⟨b, off, none⟩) n cap] W fun e w' => e = .returned (.bool true) ∧ Below W.heap.size W w') from fun W c => by
    have := rright_all _ cap l W (h.later c)
    rw [hr, hln] at this
    exact this)
  have hcs : (en.cutN s 24).size ≤ 24 := en.cutN_size s 24
  have H8 := (show Hid (∀ W, Calls Try.prog 8 #[.string s, .int .i64 24] W fun e w' => e = .returned (.string (en.cutN s 24)) ∧ w' = W) from fun W => en.short_any s 24 (by omega) (by omega) W)
  have H9 := (show Hid (∀ W, Below w.heap.size w W → Calls Try.prog 9 #[.slice (some ⟨b, off, none⟩) n cap, .string (en.cutN s 24)] W (EvalOut l k x0 x1 x2 (en.cutN s 24) W)) from fun W c => eval_all b off cap k n hn l x0 x1 x2 K W (h.later c) hr _ (by omega))
  have H10 := (show Hid (∀ W, Below w.heap.size w W → (∀ i (hi : i < l.length), Small l[i].m) → k ≤ 2 → Calls Try.prog 10 #[.slice (some ⟨b, off, none⟩) n cap, .string (en.cutN s 24)] W (REvalOut l k x0 x1 x2 (en.cutN s 24) W)) from fun W c hsm hk2 => reval_many b off cap n k (k + 1) (k + 2) hk hn rfl rfl l x0 x1 x2 K W (h.later c) _ (by omega) fun t e => small_chain hsm k hk2 (by omega) _ t hcs e)
  have HS := (show Hid (∀ W, Below w.heap.size w W → ∀ i (hi : i < l.length), W.rangeAt b (off + i * 523) (svL l[i].g l[i].p) ∧ SmAt W l[i]) from fun W k i hi => by
    obtain ⟨b', off', e, _, hr, hs⟩ := (h.later k).lie i hi
    simp at e
    obtain ⟨rfl, rfl⟩ := e
    exact ⟨hr, hs⟩)
  have HL := (show Hid (l.length = n ∧ n = k + 3) from ⟨hln, hn⟩)
  have f1 : decide ((s.size : Int) ≤ 4096) = true := decide_eq_true (by omega)
  obtain ⟨Z, hZ⟩ : ∃ Z, Z = z39.toArray := ⟨_, rfl⟩
  have hzero : ∀ w, (zeroValue 39).run Try.prog w = .ok (.agg Z) w := by rw [hZ]; exact zero39
  have hzs : Z.size = 523 := by rw [hZ, List.size_toArray]; exact z39_len
  clear h hr K hlen hln hZ hn
  generalize en.cutN s 24 = u at *
  have f2 : decide ((4096 : Int) < (u.size : Int)) = false := decide_eq_false (by omega)
  go_enter Try.func3, Try.ntmps3
  go_wp2_with (fail)
  go_at_call 6
  refine c6.mono ?_
  rintro e w1 ⟨rfl, b1⟩
  have c7 := H7.out w1 b1
  have HB1 := (show Hid (Below w.heap.size w w1) from b1)
  clear c6 b1
  go_wp2_with (fail)
  go_at_call 7
  refine c7.mono ?_
  rintro e w2 ⟨rfl, b2⟩
  have HB2 := (show Hid (Below w.heap.size w w2) from chain HB1.out b2)
  clear c7 b2
  have c8 := H8.out w2
  go_wp2_with (fail)
  go_at_call 8
  refine c8.mono ?_
  rintro e w3 ⟨rfl, rfl⟩
  have c9 := H9.out w3 HB2.out
  clear c8
  go_wp2_with (fail)
  go_at_call 9
  refine c9.mono ?_
  rintro e w4 h4
  obtain ⟨vo, nl, vc, ee, rfl, ht4, b4⟩ := eval_told h4
  obtain ⟨B4, HB4'⟩ : ∃ B4, Hid (B4 = w3.heap.size) := ⟨_, rfl⟩
  rw [← HB4'.out] at ht4
  have HT4 := (show Hid (Told l k x0 x1 x2 u B4 w4 (.slice vo nl vc) nl ee) from ht4)
  have HB4 := (show Hid (Below w.heap.size w w4) from chain HB2.out b4)
  have c7 := H7.out w4 HB4.out
  clear c9 b4 h4 ht4 HB4'
  go_wp2_with (fail)
  go_at_call 7
  refine c7.mono ?_
  rintro e w5 ⟨rfl, b5⟩
  have HT5 := (show Hid (Told l k x0 x1 x2 u B4 w5 (.slice vo nl vc) nl ee) from Told.later HT4.out b5)
  have HB5 := (show Hid (Below w.heap.size w w5) from chain HB4.out b5)
  clear c7 b5 HT4
  go_wp2_with (fail)
  go_loopw [51] (fun y wr => ∃ i : Nat, y = .int .i64 (i : Int) ∧ i ≤ n ∧ Hid (∀ j (hj : j < l.length), j < i → Small l[j].m) ∧ Hid (Below w5.heap.size w5 wr)) (fun y _ => n - (intOf y).toNat)
  case atStart => exact ⟨0, rfl, by omega, fun j hj h => by omega, Below.refl _ _⟩
  case round =>
    obtain ⟨i, rfl, hi, HU, HB⟩ := hrel
    have HBw := (show Hid (Below w.heap.size w wr) from chain HB5.out HB.out)
    by_cases hend : i < n
    · have hil : i < l.length := by rw [HL.out.1]; exact hend
      obtain ⟨hrg, hsm⟩ := HS.out wr HBw.out i hil
      have HA2 := (show Hid (Small l[i].m → ∀ j (hj : j < l.length), j < i + 1 → Small l[j].m) from fun e j hj hj2 => by
        by_cases q : j = i
        · subst q; exact e
        · exact HU.out j hj (by omega))
      clear HU
      generalize l[i] = x at *
      have hs' := hsm.s
      obtain ⟨W3, hW3, hbx, b3⟩ := stage_new wr Z hs'
      have hl1 := info39c hs'
      have hl2 := info39a hs'
      have hone := hs'.all
      have hold : Z.size = (svL x.g x.p).toArray.size := by rw [hzs, List.size_toArray, hs'.len]
      have hnew := World.alloc_heap_new wr (.cells Z 39)
      have hmc := hbx.rmc (hs'.later b3)
      rw [hsm.e] at hmc
      obtain ⟨_, _, _, m3⟩ := mc_cells hmc
      have hxr := (hsm.m.later b3).rtx
      have hx1 := hxr.fit
      have hx2 := hxr.top
      have HXL := (show Hid (∀ j (hj : j < x.m.txt.length), ∃ b off, x.q.xo = some ⟨b, off, none⟩ ∧ W3.cell? ⟨b, off + j, none⟩ = some (.string x.m.txt[j])) from fun j hj => by
        obtain ⟨b, off, e, _, hc⟩ := hxr.lie j hj
        exact ⟨b, off, e, hc⟩)
      have HSM := (show Hid ((∀ j (hj : j < x.m.txt.length), x.m.txt[j].size ≤ 4) → Small x.m) from fun e t ht => by
        obtain ⟨j, hj, rfl⟩ := List.mem_iff_getElem.1 ht
        exact e j hj)
      have HB3 := (show Hid (Below w5.heap.size w5 W3) from chain HB.out b3)
      generalize hCL : svL x.g x.p = CL at *
      generalize x.q.xo = xo at *
      generalize x.q.xc = xc at *
      obtain ⟨tl, htl⟩ : ∃ tl, tl = x.m.txt := ⟨_, rfl⟩
      rw [← htl] at m3 hx1 HXL HSM
      clear hs' hsm b3 hCL hbx hmc hxr htl
      go_upto_region 13 with (first | (refine wpList_load_mid rfl 39 (.tmp 53) rfl b (off + i * 523) rfl CL _ hrg Try.underlying39 rfl hl1 ?_) | (refine wpList_store_row rfl 39 (.tmp 8) (.tmp 54) rfl wr.heap.size CL.toArray rfl rfl 39 Z hnew hl2 hold hone ?_; rw [hW3]))
      go_wp2_with (fail)
      clear hW3 hrg hl1 hl2 hone hold hnew m3
      go_loopw [59] (fun y wz => ∃ j : Nat, y = .int .i64 (j : Int) ∧ j ≤ tl.length ∧ wz = W3 ∧ Hid (∀ q (hq : q < tl.length), q < j → tl[q].size ≤ 4)) (fun y _ => tl.length - (intOf y).toNat)
      case atStart => exact ⟨0, rfl, by omega, rfl, fun q hq h => by omega⟩
      case round =>
        obtain ⟨j, rfl, hj, rfl, HQ⟩ := hrel
        by_cases hjn : j < tl.length
        · obtain ⟨bx, boff, rfl, hc⟩ := HXL.out j hjn
          have HQ2 := (show Hid (tl[j].size ≤ 4 → ∀ q (hq : q < tl.length), q < j + 1 → tl[q].size ≤ 4) from fun e q hq hq2 => by
            by_cases r : q = j
            · subst r; exact e
            · exact HQ.out q hq (by omega))
          generalize tl[j] = t at *
          clear HQ
          by_cases h4 : t.size ≤ 4
          · have f5 : decide ((4 : Int) < (t.size : Int)) = false := decide_eq_false (by omega)
            have HQ3 := (show Hid (∀ q (hq : q < tl.length), q < j + 1 → tl[q].size ≤ 4) from HQ2.out h4)
            clear HQ2
            go_wp2_with (fail)
            go_roundw
            case rel => exact ⟨j + 1, by go_num, by omega, trivial, HQ3⟩
            case measure => simp [intOf]; omega
          · have f5 : decide ((4 : Int) < (t.size : Int)) = true := decide_eq_true (by omega)
            go_wp2_with (fail)
            go_ret
            exact ⟨rfl, chain HB5.out HB3.out⟩
        · have HN := (show Hid (∀ j (hj : j < l.length), j < i + 1 → Small l[j].m) from HA2.out (HSM.out fun q hq => HQ.out q hq (by omega)))
          clear HQ HA2 HSM
          go_wp2_with (fail)
          go_roundw
          case rel => exact ⟨i + 1, by go_num, by omega, HN, HB3⟩
          case measure => simp [intOf]; omega
    · have HSA := (show Hid (∀ i (hi : i < l.length), Small l[i].m) from fun j hj => HU.out j hj (by have := HL.out.1; omega))
      have HTR := (show Hid (Told l k x0 x1 x2 u B4 wr (.slice vo nl vc) nl ee) from Told.later HT5.out HB.out)
      clear HU HT5
      by_cases h5 : n ≤ 5
      · have f5 : decide ((5 : Int) < (n : Int)) = false := decide_eq_false (by omega)
        have c10 := H10.out wr HBw.out HSA.out (by have := HL.out.2; omega)
        clear H10
        go_wp2_with (fail)
        go_at_call 10
        refine c10.mono ?_
        rintro e w6 h6
        rcases h6 with ⟨hno, rfl, b6⟩ | ⟨t, v, hyes, rfl, hi6, b6⟩
        · have hee : nl = 0 ∧ ee = 2 := by
            rcases HTR.out with h | ⟨t, a, _⟩
            · exact h.2
            · rw [hno] at a; cases a
          obtain ⟨rfl, rfl⟩ := hee
          have HB6 := (show Hid (Below w.heap.size w w6) from chain HBw.out b6)
          clear c10 b6 HTR hno
          go_wp2_with (fail)
          go_ret
          exact ⟨rfl, HB6.out⟩
        · obtain ⟨rfl, hids⟩ : ee = 0 ∧ Ids wr B4 (.slice vo nl vc) (evalL x0.g x1.g x2.g t) := by
            rcases HTR.out with h | ⟨t', a, c, d⟩
            · rw [hyes] at h; cases h.1
            · rw [hyes] at a
              rw [Option.some.inj a]
              exact ⟨c, d⟩
          have c11 := mg.ints_same _ _ v w6 (ids_ints (ow.later hids b6)) (ids_ints hi6)
          obtain ⟨vo6, vc6, rfl, _, _⟩ := ow.form hi6
          have HB6 := (show Hid (Below w.heap.size w w6) from chain HBw.out b6)
          clear c10 b6 HTR hyes hids hi6
          generalize (evalL x0.g x1.g x2.g t).length = n6 at *
          go_wp2_with (fail)
          go_at_call 11
          refine c11.mono ?_
          rintro e w7 ⟨rfl, b7⟩
          have HB7 := (show Hid (Below w.heap.size w w7) from chain HB6.out b7)
          clear c11 b7
          go_wp2_with (fail)
          go_ret
          exact ⟨rfl, HB7.out⟩
      · have f5 : decide ((5 : Int) < (n : Int)) = true := decide_eq_true (by omega)
        have hee : ee = 2 ∨ ee = 0 := by
          rcases HTR.out with h | ⟨t, a, c, _⟩
          · exact .inl h.2.2
          · exact .inr c
        clear H10 HTR
        rcases hee with rfl | rfl
        · go_wp2_with (fail)
          go_ret
          exact ⟨rfl, HBw.out⟩
        · go_wp2_with (fail)
          go_ret
          exact ⟨rfl, HBw.out⟩
theorem tells_any (o : Option Addr) (cap : Nat) (l : List Sm) (w : World) (h : Gs w o cap l) (s : ByteArray) (hs : s.size ≤ 140737488351232) : Calls Try.prog 3 #[.slice o l.length cap, .string s] w fun e w' => e = .returned (.bool true) ∧ Below w.heap.size w w' := by
  cases hr : rightL l
  · exact tells_no o cap l w h hr s hs
  · by_cases hl : s.size ≤ 4096
    · obtain ⟨k, x0, x1, x2, hk, K⟩ := kinds_good hr
      have hlen := K.len
      obtain ⟨b, off, rfl, _, _⟩ := h.row (by omega)
      exact tells_yes b off cap l.length k hk hlen l x0 x1 x2 K w h hr s hl
    · exact tells_long o cap l w h hr s (by omega)
end Go.Proofs.Ytmmlibehihknbaa.ir
