/-
  Texts put together: Plain: texts behind a row of machines, the sizes of pieces. Contracts over this program: what a stage does, at any number of stages. Contracts over this program: ir.Eval at any number of stages.
-/
import Derived.Test.YtmmlibehihknbaaM20
import Derived.Test.YtmmlibehihknbaaKRj
import Derived.Test.YtmmlibehihknbaaM30
namespace Go.Proofs.Ytmmlibehihknbaa.ir
open Go.ChangeShapes Go.WideShapes Go.ChangeAt Go.RowKit
open mg (Row In iv IntsV chain below_alloc Mg Mgs app idsOf)
open tr (Mc Mp mv MAt)
set_option linter.unusedVariables false
set_option maxRecDepth 100000

/-- one machine's work: nothing where it puts too much -/
def stepT (m : Mc) (t : ByteArray) : Option ByteArray := if (tr.total m 0 t.data.toList).length ≤ 262144 then some (tr.bs (tr.total m 0 t.data.toList)) else none
def chainT (ms : List Mc) (s : ByteArray) : Option ByteArray := ms.foldl (fun o m => o.bind (stepT m)) (some s)
theorem chain_none : ∀ ms : List Mc, ms.foldl (fun o m => o.bind (stepT m)) (none : Option ByteArray) = none
  | [] => rfl
  | m :: ms => by rw [List.foldl_cons]; exact chain_none ms
theorem chain_snoc (ms : List Mc) (m : Mc) (s t : ByteArray) (h : chainT ms s = some t) : chainT (ms ++ [m]) s = stepT m t := by
  unfold chainT at h ⊢
  rw [List.foldl_append, h]
  rfl
theorem chain_dead (ms rest : List Mc) (m : Mc) (s t : ByteArray) (h : chainT ms s = some t) (h2 : stepT m t = none) : chainT (ms ++ m :: rest) s = none := by
  unfold chainT at h ⊢
  rw [List.foldl_append, h, List.foldl_cons]
  show List.foldl _ (stepT m t) rest = none
  rw [h2]
  exact chain_none rest
theorem bs_size (l : List UInt8) : (tr.bs l).size = l.length := by
  show l.toArray.size = l.length
  simp
theorem step_size {m : Mc} {t u : ByteArray} (h : stepT m t = some u) : u.size ≤ 262144 := by
  unfold stepT at h
  split at h
  · rename_i h1
    rw [← Option.some.inj h, bs_size]
    exact h1
  · cases h
theorem sizes_cons (t : ByteArray) (l : List ByteArray) : sizes (t :: l) = t.size + sizes l := by simp [sizes]
theorem sizes_pcs (d : df.Dfa) (s : ByteArray) : ∀ f t, s.size ≤ t + f → sizes ((pc.all d s t).map fun p => s.extract p.1 p.2) ≤ s.size - t
  | 0, t, h => by rw [pc.all_end d s t (by omega)]; simp [sizes]
  | f + 1, t, h => by
    by_cases e : t < s.size
    · rw [pc.all_more d s t e, List.map_cons, sizes_cons]
      have h1 := pc.stop_gt d s t
      have h2 := pc.stop_le d s t e
      have h3 := sizes_pcs d s f (pc.stop d s t) (by omega)
      rw [ByteArray.size_extract]
      simp only
      omega
    · rw [pc.all_end d s t (by omega)]; simp [sizes]
theorem sizes_pieces (g0 : Sg) (s : ByteArray) : sizes (pieces g0 s) ≤ s.size := by
  unfold pieces pc.textsL
  have := sizes_pcs g0.d (tT g0.mp s) (tT g0.mp s).size 0 (by omega)
  rw [tT_size] at this
  exact this
/-- the machines of stages -/
def mcs (l : List Sm) (k : Nat) : List Mc := (l.take k).map (·.m)
theorem mcs_snoc (l : List Sm) (i : Nat) (h : i < l.length) : mcs l (i + 1) = mcs l i ++ [l[i].m] := by
  unfold mcs
  rw [List.take_add_one, List.getElem?_eq_getElem h, List.map_append]
  rfl
theorem mcs_more (l : List Sm) (i k : Nat) (h : i < l.length) (hk : i < k) : ∃ rest, mcs l k = mcs l i ++ l[i].m :: rest := by
  refine ⟨((l.take k).drop (i + 1)).map (·.m), ?_⟩
  unfold mcs
  have h1 : l.take k = (l.take k).take i ++ (l.take k).drop i := (List.take_append_drop i _).symm
  have hl : i < (l.take k).length := by rw [List.length_take]; omega
  rw [List.drop_eq_getElem_cons hl, List.take_take, Nat.min_eq_left (by omega)] at h1
  have h2 := congrArg (List.map (fun x : Sm => x.m)) h1
  rw [List.map_append, List.map_cons, List.getElem_take] at h2
  exact h2
/-- between the stages -/
structure Sq (w1 : World) (fb : Nat) (l : List Sm) (k : Nat) (s : ByteArray) (g0 g1 g2 : Sg) (i : Nat) (wr : World) (t : ByteArray) (vp vi : Value) : Prop where
  box : FBox wr fb t vp vi
  be : Below w1.heap.size w1 wr
  tx : chainT (mcs l (min i k)) s = some t
  sz : t.size ≤ 262144
  z0 : i ≤ k → vp = .slice none 0 0 ∧ vi = .slice none 0 0
  z1 : i = k + 1 → wr.ownsRow w1.heap.size 9 1 vp (pieces g0 t).length ((pieces g0 t).map Value.string) ∧ vi = .slice none 0 0
  z2 : i = k + 2 → Ids wr w1.heap.size vi (toks g0 g1 t)
  z3 : i = k + 3 → Ids wr w1.heap.size vi (evalL g0 g1 g2 t)
def DoQ (w1 : World) (fb : Nat) (l : List Sm) (k : Nat) (s : ByteArray) (g0 g1 g2 : Sg) (i : Nat) (e : Ending) (w' : World) : Prop :=
  (e = .returned (.int .i64 0) ∧ ∃ t vp vi, Sq w1 fb l k s g0 g1 g2 (i + 1) w' t vp vi) ∨ (e = .returned (.int .i64 2) ∧ chainT (mcs l k) s = none ∧ Below w1.heap.size w1 w')
def DoAt (f : FuncId) (g : Sg) (p : Sp) (T : TypeId) (v : Value) (w1 : World) (fb : Nat) (l : List Sm) (k : Nat) (s : ByteArray) (g0 g1 g2 : Sg) (i : Nat) (w : World) : Prop :=
  ∀ W, Below w.heap.size w W → Calls Try.prog 17 #[.agg (svL g p).toArray] W (fun e w' => e = .returned (.iface T v) ∧ Below W.heap.size W w') ∧ Calls Try.prog f #[v, .pointer (some ⟨fb, 0, none⟩)] W (DoQ w1 fb l k s g0 g1 g2 i)
theorem sq_later {w1 : World} {fb : Nat} {l : List Sm} {k : Nat} {s t : ByteArray} {g0 g1 g2 : Sg} {i : Nat} {w W : World} {vp vi : Value} (h : Sq w1 fb l k s g0 g1 g2 i w t vp vi) (b : Below w.heap.size w W) : Sq w1 fb l k s g0 g1 g2 i W t vp vi :=
  ⟨h.box.later b, h.be.trans (b.mono h.be.size), h.tx, h.sz, h.z0, fun e => ⟨ow.later (h.z1 e).1 b, (h.z1 e).2⟩, fun e => ow.later (h.z2 e) b, fun e => ow.later (h.z3 e) b⟩
theorem methd66 (v : Value) (W : World) : Sem.run Try.prog (method 288 74 v "fretsaw/ir.do") W = .ok (58, v) W := by kernel_rfl
theorem call44 (a : Array Value) (W : World) : Sem.run Try.prog (callFunc 58 a) W = .ok (.enter 58 a) W := by kernel_rfl
/-- which stage stands where -/
structure Kinds (l : List Sm) (k : Nat) (x0 x1 x2 : Sm) : Prop where
  len : l.length = k + 3
  e0 : l[k]? = some x0
  e1 : l[k + 1]? = some x1
  e2 : l[k + 2]? = some x2
  ms : ∀ j (hj : j < l.length), j < k → l[j].g.kind = 1 ∧ tr.right l[j].m = true
  k0 : x0.g.kind = 2
  r0 : df.right x0.g.d = true
  k1 : x1.g.kind = 3
  r1 : hp.newE x1.g.ms x1.g.dr = 0
  k2 : x2.g.kind = 4
  r2 : areIds x2.g.bf = true
  r3 : areIds x2.g.af = true
theorem ids_32 {l : List Int} (h : areIds l = true) : l.length ≤ 32 := by unfold areIds at h; simp at h; exact h.1
theorem at_k {l : List Sm} {i : Nat} {x : Sm} (hi : i < l.length) (e : l[i]? = some x) : l[i] = x := by
  rw [List.getElem?_eq_getElem hi] at e
  exact Option.some.inj e
theorem do_all {w w1 : World} {b off cap : Nat} {l : List Sm} {k : Nat} {x0 x1 x2 : Sm} (h : Gs w (some ⟨b, off, none⟩) cap l) (K : Kinds l k x0 x1 x2) (s : ByteArray) (fb : Nat) (hfb : w1.heap.size ≤ fb) (i : Nat) (hi : i < l.length) (t : ByteArray) (vp vi : Value) (st : Sq w1 fb l k s x0.g x1.g x2.g i w t vp vi) :
    ∃ T f v, DoAt f l[i].g l[i].p T v w1 fb l k s x0.g x1.g x2.g i w ∧ (∀ W, Sem.run Try.prog (method 288 T v "fretsaw/ir.do") W = .ok (f, v) W) ∧ (∀ a W, Sem.run Try.prog (callFunc f a) W = .ok (.enter f a) W) := by
  have hsm : SmAt w l[i] := by
    obtain ⟨_, _, _, _, _, hs⟩ := h.lie i hi
    exact hs
  have hlen := K.len
  by_cases a : i < k
  · obtain ⟨hk, hr⟩ := K.ms i hi a
    obtain ⟨rfl, rfl⟩ := st.z0 (by omega)
    refine ⟨74, 58, .agg (mv l[i].m l[i].q), fun W c => ⟨?_, ?_⟩, fun W => methd66 _ W, fun a W => call44 a W⟩
    · have := step1 l[i].g l[i].p hk W (hsm.later c).s
      rw [hsm.e] at this
      exact this
    · have st2 := sq_later st c
      have htx := st2.tx
      rw [Nat.min_eq_left (by omega)] at htx
      refine (tr.do1 l[i].m (tr.right_iff.1 hr) l[i].q W (hsm.later c).m t (by have := st2.sz; omega) fb _ _ st2.box).mono ?_
      rintro e w' ⟨⟨h1, rfl, hf⟩ | ⟨h1, rfl, hf⟩, hc⟩
      · refine .inl ⟨rfl, tr.bs (tr.total l[i].m 0 t.data.toList), _, _, hf, ch_below st2.be hc hfb, ?_, by rw [bs_size]; exact h1, fun _ => ⟨rfl, rfl⟩, fun e => by omega, fun e => by omega, fun e => by omega⟩
        rw [Nat.min_eq_left (by omega), mcs_snoc l i hi, chain_snoc _ _ _ _ htx]
        unfold stepT
        rw [if_pos h1]
      · refine .inr ⟨rfl, ?_, ch_below st2.be hc hfb⟩
        obtain ⟨rest, e⟩ := mcs_more l i k hi a
        rw [e]
        refine chain_dead _ _ _ _ _ htx ?_
        unfold stepT
        rw [if_neg (by omega)]
  · by_cases c0 : i = k
    · subst c0
      have ex := at_k hi K.e0
      rw [ex] at hsm ⊢
      obtain ⟨rfl, rfl⟩ := st.z0 (by omega)
      refine ⟨76, 67, _, fun W c => ⟨step2 x0.g x0.p K.k0 W (hsm.later c).s, ?_⟩, fun W => meths68 _ W, fun a W => call53 a W⟩
      have st2 := sq_later st c
      refine (do2 x0.g x0.p W (hsm.later c).s K.r0 t st2.sz fb _ _ st2.box).mono ?_
      rintro e w' ⟨rfl, v, hf, hv, hc⟩
      refine .inl ⟨rfl, t, v, _, hf, ch_below st2.be hc hfb, ?_, st2.sz, fun e => by omega, fun _ => ⟨pc.base_down hv st2.be.size, rfl⟩, fun e => by omega, fun e => by omega⟩
      have := st2.tx
      rw [Nat.min_self] at this
      rw [Nat.min_eq_right (by omega)]
      exact this
    · by_cases c1 : i = k + 1
      · subst c1
        have ex := at_k hi K.e1
        rw [ex] at hsm ⊢
        obtain ⟨z1, rfl⟩ := st.z1 rfl
        refine ⟨78, 83, _, fun W c => ⟨step3 x1.g x1.p K.k1 W (hsm.later c).s, ?_⟩, fun W => meths70 _ W, fun a W => call69 a W⟩
        have st2 := sq_later st c
        refine (do3 x1.g x1.p W (hsm.later c).s K.r1 t (pieces x0.g t) (Nat.le_trans (sizes_pieces x0.g t) st2.sz) fb _ _ (st2.z1 rfl).1 st2.box).mono ?_
        rintro e w' ⟨rfl, v, hf, hv, hc⟩
        refine .inl ⟨rfl, t, _, v, hf, ch_below st2.be hc hfb, ?_, st2.sz, fun e => by omega, fun e => by omega, fun _ => pc.base_down hv st2.be.size, fun e => by omega⟩
        have := st2.tx
        rw [Nat.min_eq_right (by omega)] at this ⊢
        exact this
      · have c2 : i = k + 2 := by omega
        subst c2
        have ex := at_k hi K.e2
        rw [ex] at hsm ⊢
        refine ⟨80, 124, _, fun W c => ⟨step4 x2.g x2.p K.k2 W (hsm.later c).s, ?_⟩, fun W => meths72 _ W, fun a W => call110 a W⟩
        have st2 := sq_later st c
        have hl : (toks x0.g x1.g t).length ≤ 300000 := Nat.le_trans (toks_len _ _) (Nat.le_trans (sizes_pieces x0.g t) (by have := st2.sz; omega))
        refine (do4 x2.g x2.p W (hsm.later c).s (ids_32 K.r2) (ids_32 K.r3) t (toks x0.g x1.g t) hl fb _ _ (ids_ints (st2.z2 rfl)) st2.box).mono ?_
        rintro e w' ⟨rfl, v, hf, hv, hc⟩
        refine .inl ⟨rfl, t, _, v, hf, ch_below st2.be hc hfb, ?_, st2.sz, fun e => by omega, fun e => by omega, fun e => by omega, fun _ => pc.base_down hv st2.be.size⟩
        have := st2.tx
        rw [Nat.min_eq_right (by omega)] at this ⊢
        exact this
end Go.Proofs.Ytmmlibehihknbaa.ir

namespace Go.Proofs.Ytmmlibehihknbaa.ir
open Go.ChangeShapes Go.WideShapes Go.ChangeAt Go.RowKit
open mg (Row In iv IntsV chain below_alloc Mg Mgs app idsOf)
open tr (Mc Mp mv MAt)
set_option linter.unusedVariables false
set_option maxRecDepth 100000

theorem kinds_good {l : List Sm} (h : rightL l = true) : ∃ k x0 x1 x2, k ≤ 4 ∧ Kinds l k x0 x1 x2 := by
  have h0 := h
  unfold rightL at h0
  rw [Bool.and_eq_true] at h0
  have ho := h0.1
  unfold orderedL at ho
  simp only [Bool.and_eq_true, decide_eq_true_eq] at ho
  obtain ⟨⟨a, b⟩, _⟩ := ho
  obtain ⟨k, hk⟩ : ∃ k, l.length = k + 3 := ⟨l.length - 3, by omega⟩
  have e0 : l[k]? = some l[k] := List.getElem?_eq_getElem (by omega)
  have e1 : l[k + 1]? = some l[k + 1] := List.getElem?_eq_getElem (by omega)
  have e2 : l[k + 2]? = some l[k + 2] := List.getElem?_eq_getElem (by omega)
  obtain ⟨h1, k0, r0, k1, k2, c1, c2, c3, c4⟩ := (good_of (by omega) hk e0 e1 e2).1 h
  exact ⟨k, l[k], l[k + 1], l[k + 2], by omega, ⟨hk, e0, e1, e2, h1, k0, r0, k1, (newE_0 _ _).2 ⟨c1, c2⟩, k2, c3, c4⟩⟩
set_option maxHeartbeats 4000000 in
theorem eval_not (o : Option Addr) (cap : Nat) (l : List Sm) (w : World) (h : Gs w o cap l) (hr : rightL l = false) (s : ByteArray) : Calls Try.prog 9 #[.slice o l.length cap, .string s] w fun e w' => e = .returned (.tuple #[.slice none 0 0, .int .i64 190]) ∧ Below w.heap.size w w' := by
  have c5 := right_all o cap l w h
  rw [hr] at c5
  clear h hr
  generalize l.length = n at *
  go_enter Try.func9, Try.ntmps9
  go_wp2_with (fail)
  go_at_call 6
  refine c5.mono ?_
  rintro e w1 ⟨rfl, b1⟩
  clear c5
  go_wp2_with (fail)
  go_ret2
  exact ⟨rfl, b1⟩
set_option maxHeartbeats 4000000 in
theorem eval_long (o : Option Addr) (cap : Nat) (l : List Sm) (w : World) (h : Gs w o cap l) (hr : rightL l = true) (s : ByteArray) (hs : 4096 < s.size) : Calls Try.prog 9 #[.slice o l.length cap, .string s] w fun e w' => e = .returned (.tuple #[.slice none 0 0, .int .i64 2]) ∧ Below w.heap.size w w' := by
  have c5 := right_all o cap l w h
  rw [hr] at c5
  have f1 : decide ((4096 : Int) < (s.size : Int)) = true := decide_eq_true (by omega)
  clear h hr
  generalize l.length = n at *
  go_enter Try.func9, Try.ntmps9
  go_wp2_with (fail)
  go_at_call 6
  refine c5.mono ?_
  rintro e w1 ⟨rfl, b1⟩
  clear c5
  go_wp2_with (fail)
  go_ret2
  exact ⟨rfl, b1⟩
/-- what ir.Eval answers at stages that fit -/
def EvalOut (l : List Sm) (k : Nat) (x0 x1 x2 : Sm) (s : ByteArray) (w : World) (e : Ending) (w' : World) : Prop :=
  (chainT (mcs l k) s = none ∧ e = .returned (.tuple #[.slice none 0 0, .int .i64 2]) ∧ Below w.heap.size w w') ∨ (∃ t v, chainT (mcs l k) s = some t ∧ t.size ≤ 262144 ∧ e = .returned (.tuple #[v, .int .i64 0]) ∧ Ids w' w.heap.size v (evalL x0.g x1.g x2.g t) ∧ Below w.heap.size w w')
set_option maxHeartbeats 4000000 in
theorem eval_all (b off cap k n : Nat) (hn : n = k + 3) (l : List Sm) (x0 x1 x2 : Sm) (K : Kinds l k x0 x1 x2) (w : World) (h : Gs w (some ⟨b, off, none⟩) cap l) (hr : rightL l = true) (s : ByteArray) (hs : s.size ≤ 4096) : Calls Try.prog 9 #[.slice (some ⟨b, off, none⟩) n cap, .string s] w (EvalOut l k x0 x1 x2 s w) := by
  have hlen := K.len
  have c5 := right_all _ cap l w h
  rw [hlen, ← hn] at c5
  have hc1 := h.fit
  have hc2 := h.top
  rw [hlen, ← hn] at hc1
  have HS := (show Hid (∀ W, Below w.heap.size w W → Gs W (some ⟨b, off, none⟩) cap l) from fun W k => h.later k)
  have HK := (show Hid (Kinds l k x0 x1 x2) from K)
  have HL := (show Hid (l.length = n ∧ n = k + 3) from ⟨by omega, hn⟩)
  have f1 : decide ((4096 : Int) < (s.size : Int)) = false := decide_eq_false (by omega)
  rw [hr] at c5
  obtain ⟨Z, hZ⟩ : ∃ Z, Z = z39.toArray := ⟨_, rfl⟩
  have hzero : ∀ w, (zeroValue 39).run Try.prog w = .ok (.agg Z) w := by rw [hZ]; exact zero39
  have hzs : Z.size = 523 := by rw [hZ, List.size_toArray]; exact z39_len
  clear h hr hZ K hlen hn
  go_enter Try.func9, Try.ntmps9
  go_wp2_with (fail)
  go_at_call 6
  refine c5.mono ?_
  rintro e w1 ⟨rfl, b1⟩
  have HB1 := (show Hid (Below w.heap.size w w1) from b1)
  have bF := below_alloc w1 (.cells #[.string s, .slice none 0 0, .slice none 0 0] 58)
  have HST := (show Hid (Sq w1 w1.heap.size l k s x0.g x1.g x2.g 0 (w1.alloc (.cells #[.string s, .slice none 0 0, .slice none 0 0] 58)) s (.slice none 0 0) (.slice none 0 0)) from
    ⟨World.alloc_heap_new w1 _, bF, by simp [mcs, chainT], by omega, fun _ => ⟨rfl, rfl⟩, fun e => by omega, fun e => by omega, fun e => by omega⟩)
  clear c5 b1 bF
  go_wp2_with (fail)
  generalize w1.alloc (.cells #[.string s, .slice none 0 0, .slice none 0 0] 58) = w2 at *
  go_loopw [20] (fun y wr => ∃ (i : Nat) (t : ByteArray) (vp vi : Value), y = .int .i64 (i : Int) ∧ i ≤ n ∧ Hid (Sq w1 w1.heap.size l k s x0.g x1.g x2.g i wr t vp vi)) (fun y _ => n - (intOf y).toNat)
  case atStart => exact ⟨0, s, _, _, rfl, by omega, HST⟩
  case round =>
    clear HST
    obtain ⟨i, t, vp, vi, rfl, hi, HT⟩ := hrel
    have hBw : Below w.heap.size w wr := chain HB1.out HT.out.be
    have HBw := (show Hid (Below w.heap.size w wr) from hBw)
    by_cases hend : i < n
    · have hil : i < l.length := by rw [HL.out.1]; exact hend
      have hgs := HS.out wr hBw
      obtain ⟨T, f, v, hm, hme, hcf⟩ := do_all hgs HK.out s w1.heap.size (Nat.le_refl _) i hil t vp vi HT.out
      obtain ⟨b', off', hbe, _, hrg, hsm⟩ := hgs.lie i hil
      simp at hbe
      obtain ⟨rfl, rfl⟩ := hbe
      have hs' := hsm.s
      obtain ⟨W3, hW3, hbx, b3⟩ := stage_new wr Z hs'
      have hl1 := info39c hs'
      have hl2 := info39a hs'
      have hone := hs'.all
      have hold : Z.size = (svL l[i].g l[i].p).toArray.size := by rw [hzs, List.size_toArray, hs'.len]
      have HX := (show Hid (DoAt f l[i].g l[i].p T v w1 w1.heap.size l k s x0.g x1.g x2.g i wr) from hm)
      have c13 := (hm W3 b3).1
      have HB3 := (show Hid (Below wr.heap.size wr W3) from b3)
      unfold SBox at hbx
      have hnew := World.alloc_heap_new wr (.cells Z 39)
      generalize hCL : svL l[i].g l[i].p = CL at *
      clear hs' hm b3 hCL hBw HT hgs hsm
      go_wp2_with (first | (refine wpList_load_mid rfl 39 (.tmp 22) rfl b (off + i * 523) rfl CL _ hrg Try.underlying39 rfl hl1 ?_) | (refine wpList_store_row rfl 39 (.tmp 8) (.tmp 23) rfl wr.heap.size CL.toArray rfl rfl 39 Z hnew hl2 hold hone ?_; rw [hW3]) | (refine wpList_load_row rfl 39 (.tmp 8) rfl wr.heap.size rfl 39 CL.toArray (0, 0) _ hbx Try.underlying39 rfl hl2 ?_))
      go_at_call 17
      refine c13.mono ?_
      rintro e w4 ⟨rfl, b4⟩
      have c := (HX.out w4 (chain HB3.out b4)).2
      clear c13 hrg hbx hl1 hl2 hone hold hW3 b4 hnew
      go_wp2_with (fail)
      refine c.mono ?_
      rintro e w5 hq
      rcases hq with ⟨rfl, t5, vp5, vi5, st5⟩ | ⟨rfl, hno, b5⟩
      · have HT5 := (show Hid (Sq w1 w1.heap.size l k s x0.g x1.g x2.g (i + 1) w5 t5 vp5 vi5) from st5)
        clear c hme hcf st5
        go_wp2_with (fail)
        go_roundw
        case rel => exact ⟨i + 1, t5, vp5, vi5, by go_num, by omega, HT5⟩
        case measure => simp [intOf]; omega
      · have HNO := (show Hid (chainT (mcs l k) s = none) from hno)
        have HB5 := (show Hid (Below w.heap.size w w5) from chain HB1.out b5)
        clear c hme hcf hno b5
        go_wp2_with (fail)
        go_ret2
        exact .inl ⟨HNO.out, rfl, HB5.out⟩
    · have hie : i = n := by omega
      have q2 := HT.out.box.cells.2.2
      have hz3 := HT.out.z3 (by rw [hie]; exact HL.out.2)
      have HTX := (show Hid (chainT (mcs l k) s = some t) from by
        have := HT.out.tx
        rw [Nat.min_eq_right (by have := HL.out.2; omega)] at this
        exact this)
      have HSZ := (show Hid (t.size ≤ 262144) from HT.out.sz)
      obtain ⟨vo, vc, rfl, _, _⟩ := ow.form hz3
      have HZ := (show Hid (Ids wr w.heap.size (.slice vo (evalL x0.g x1.g x2.g t).length vc) (evalL x0.g x1.g x2.g t)) from pc.base_down hz3 HB1.out.size)
      clear hz3 hBw HT
      go_wp2_with (fail)
      go_ret2
      exact .inr ⟨t, _, HTX.out, HSZ.out, rfl, HZ.out, HBw.out⟩
end Go.Proofs.Ytmmlibehihknbaa.ir
