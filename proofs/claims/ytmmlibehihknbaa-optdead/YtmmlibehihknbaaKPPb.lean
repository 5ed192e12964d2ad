/-
  Over this program: a walk along a text in memory (piece.walk); contracts: bit, isVain, setVain, next.
-/
import Derived.Test.YtmmlibehihknbaaKPPa
import Derived.Test.YtmmlibehihknbaaKPRg
import Derived.Laws.BitsAllLaws
import Derived.Lib.Builder
import Derived.ProofKit
import Derived.OpenShut
namespace Go.Proofs.Ytmmlibehihknbaa.pc
open Go.ChangeShapes Go.WideShapes Go.ChangeAt Go.RowKit
open df (Dfa ends nxt acpt byteAt here Ok right width endsOf DAt DBox Row RowRow iv bv In Owns IntsV)
set_option linter.unusedVariables false
set_option maxRecDepth 10000

theorem bit_and (x m : Nat) (hx : x < 18446744073709551616) : (bits .and .u64 ((x : Int) / 2 ^ m) 1 == 1) = x.testBit m := by
  have h1 : ((x : Int) / 2 ^ m) = ((x / 2 ^ m : Nat) : Int) := by simp
  have h2 := u64_and_nat (x / 2 ^ m) 1 (Nat.lt_of_le_of_lt (Nat.div_le_self _ _) hx) (by omega)
  rw [h1, show ((1 : Nat) : Int) = (1 : Int) from rfl] at *
  rw [h2, Nat.and_one_is_mod, Nat.testBit_eq_decide_div_mod_eq]
  generalize x / 2 ^ m = y
  by_cases h : y % 2 = 1
  · rw [h]; rfl
  · have : y % 2 = 0 := by omega
    rw [this]; rfl
theorem bit_or (x m : Nat) (hx : x < 18446744073709551616) (hm : m < 64) : bits .or .u64 (x : Int) (IntKind.u64.wrap (2 ^ m)) = ((x ||| 2 ^ m : Nat) : Int) := by
  have hp : (2 : Nat) ^ m < 18446744073709551616 := Nat.lt_of_lt_of_le (Nat.pow_lt_pow_right (by omega) hm) (by decide)
  have h1 : IntKind.u64.wrap (2 ^ m) = ((2 ^ m : Nat) : Int) := by
    have e : ((2 : Int) ^ m) = ((2 ^ m : Nat) : Int) := by simp
    rw [e, IntKind.wrap_u64]
    generalize 2 ^ m = y at *
    omega
  rw [h1]
  exact u64_or_nat _ _ hx hp
theorem set_heap (w : World) (g : Nat) (cs : Array Value) (t : TypeId) (i : Nat) (v : Value) (h : w.heap[g]? = some (.cells cs t (0, 0))) : (w.setCell ⟨g, i, none⟩ v).heap[g]? = some (.cells (cs.setIfInBounds i v) t (0, 0)) := by
  show (w.heap.modify g _)[g]? = _
  rw [Array.getElem?_modify, if_pos rfl, h]
  rfl

structure WBox (W : World) (g : Nat) (cs : Array Value) (s : ByteArray) (vv vs : Value) : Prop where
  blk : W.heap[g]? = some (.cells (cs ++ #[.string s, vv, vs]) 131 (0, 0))
  sz : cs.size = 258
section
variable {P : Nat → Prop} {W W' w' : World} {g : Nat} {cs : Array Value} {s : ByteArray} {vv vs : Value} {d : Dfa} {o ao : Option Addr} {cap acap : Nat}
theorem WBox.lt (k : WBox W g cs s vv vs) : g < W.heap.size := (Array.getElem?_eq_some_iff.1 k.blk).1
theorem WBox.keep (k : WBox W g cs s vv vs) (e : W'.heap[g]? = W.heap[g]?) : WBox W' g cs s vv vs := ⟨e.trans k.blk, k.sz⟩
theorem WBox.fz (k : WBox W g cs s vv vs) (i : Nat) : W.frozen? ⟨g, i, none⟩ = false := Lib.frozen_of_heap k.blk i
theorem WBox.left (k : WBox W g cs s vv vs) (i : Nat) (hi : i < 258) : W.cell? ⟨g, i, none⟩ = cs[i]? := by
  rw [Lib.cell_of_heap k.blk, Array.getElem?_append_left (by rw [k.sz]; exact hi)]
theorem WBox.cl (k : WBox W g cs s vv vs) (h : DAt P w' d cs o cap ao acap) (i : Nat) (hi : i < 256) : W.cell? ⟨g, i, none⟩ = some (.int .u8 (d.cls i : Nat)) := by rw [k.left i (by omega)]; exact h.cl i hi
theorem WBox.nx (k : WBox W g cs s vv vs) (h : DAt P w' d cs o cap ao acap) : W.cell? ⟨g, 256, none⟩ = some (.slice o d.next.length cap) := by rw [k.left 256 (by omega)]; exact h.nx
theorem WBox.ac (k : WBox W g cs s vv vs) (h : DAt P w' d cs o cap ao acap) : W.cell? ⟨g, 257, none⟩ = some (.slice ao d.acc.length acap) := by rw [k.left 257 (by omega)]; exact h.ac
theorem WBox.right (k : WBox W g cs s vv vs) (i : Nat) : W.cell? ⟨g, 258 + i, none⟩ = #[Value.string s, vv, vs][i]? := by
  rw [Lib.cell_of_heap k.blk, Array.getElem?_append_right (by rw [k.sz]; omega), k.sz, Nat.add_sub_cancel_left]
theorem WBox.c258 (k : WBox W g cs s vv vs) : W.cell? ⟨g, 258, none⟩ = some (.string s) := k.right 0
theorem WBox.c259 (k : WBox W g cs s vv vs) : W.cell? ⟨g, 259, none⟩ = some vv := k.right 1
theorem WBox.c260 (k : WBox W g cs s vv vs) : W.cell? ⟨g, 260, none⟩ = some vs := k.right 2
theorem WBox.set (k : WBox W g cs s vv vs) (v : Value) : WBox (W.setCell ⟨g, 260, none⟩ v) g cs s vv v := by
  refine ⟨?_, k.sz⟩
  rw [set_heap _ _ _ _ 260 _ k.blk]
  congr 2
  rw [Array.setIfInBounds_append_right (by rw [k.sz]; omega), k.sz]
  rfl
end
def ucells (ws : List Nat) : Array Value := (ws.map fun x : Nat => Value.int .u64 (x : Int)).toArray
def URow (W : World) (g : Nat) (ws : List Nat) : Prop := W.heap[g]? = some (.cells (ucells ws) 134 (0, 0))
theorem URow.lt {W : World} {g : Nat} {ws : List Nat} (h : URow W g ws) : g < W.heap.size := (Array.getElem?_eq_some_iff.1 h).1
theorem URow.cell {W : World} {g : Nat} {ws : List Nat} (h : URow W g ws) (i : Nat) (hi : i < ws.length) : W.cell? ⟨g, i, none⟩ = some (.int .u64 ((ws.getD i 0 : Nat) : Int)) := by
  rw [Lib.cell_of_heap h, List.getD_eq_getElem?_getD, List.getElem?_eq_getElem hi]
  simp [ucells, hi]
theorem URow.fz {W : World} {g : Nat} {ws : List Nat} (h : URow W g ws) (i : Nat) : W.frozen? ⟨g, i, none⟩ = false := Lib.frozen_of_heap h i
theorem URow.put {W : World} {g : Nat} {ws : List Nat} (h : URow W g ws) (i x : Nat) : URow (W.setCell ⟨g, i, none⟩ (.int .u64 (x : Int))) g (ws.set i x) := by
  unfold URow
  rw [set_heap W g _ _ i _ h]
  congr 2
  simp [ucells]
set_option maxHeartbeats 1000000 in
theorem bit_any (W : World) (g t q N : Nat) (o : Option Addr) (cap : Nat) (hc : W.cell? ⟨g, 256, none⟩ = some (.slice o N cap)) (hN : N ≤ cap) (hcap : cap ≤ 9223372036854775807) (hb : t * N + q ≤ 1000000000) : Calls Try.prog 82 #[.pointer (some ⟨g, 0, none⟩), .int .i64 (t : Int), .int .i64 (q : Int)] W fun e w' => e = .returned (.int .i64 ((t * N + q : Nat) : Int)) ∧ w' = W := by
  have h1 : IntKind.i64.wrap ((t : Int) * (N : Int)) = ((t * N : Nat) : Int) := by
    rw [← Int.natCast_mul]
    generalize t * N = m at *
    rw [IntKind.wrap_i64]; omega
  have h2 : IntKind.i64.wrap (((t * N : Nat) : Int) + (q : Int)) = ((t * N + q : Nat) : Int) := by
    generalize t * N = m at *
    rw [IntKind.wrap_i64]; omega
  go_enter Try.func82, Try.ntmps82
  go_wp2_with (fail)
  go_ret
  exact ⟨by show Ending.returned (.int .i64 ((t : Int) * (N : Int) + (q : Int))) = _; rw [Int.natCast_add, Int.natCast_mul], rfl⟩

/-- what a walk holds: its dfa, its text, its marks, its states since -/
structure Wk (X : Nat → Prop) (W : World) (B g vg : Nat) (d : Dfa) (s : ByteArray) (cs : Array Value) (o : Option Addr) (cap : Nat) (ao : Option Addr) (acap : Nat) (ws : List Nat) (vs : Value) (si : List Int) : Prop where
  box : WBox W g cs s (.slice (some ⟨vg, 0, none⟩) ws.length ws.length) vs
  dt : DAt X W d cs o cap ao acap
  vn : URow W vg ws
  sn : Owns W B vs si
  wl : ∀ x ∈ ws, x < 18446744073709551616
  bg : B ≤ g
  bv : B ≤ vg
  ap : ∀ k, X k → k < W.heap.size ∧ k ≠ g ∧ k ≠ vg ∧ some k ≠ vs.ownBlock
/-- what a walk changes: its own blocks alone -/
structure Ch (X : Nat → Prop) (B g vg : Nat) (vs vs' : Value) (W W' : World) : Prop where
  os : W'.os = W.os
  tape : W'.tape = W.tape
  output : W'.output = W.output
  size : W.heap.size ≤ W'.heap.size
  block : ∀ k, k < W.heap.size → k ≠ g → k ≠ vg → some k ≠ vs.ownBlock → W'.heap[k]? = W.heap[k]?
  own : ∀ k, vs'.ownBlock = some k → vs.ownBlock = some k ∨ W.heap.size ≤ k
section
variable {X : Nat → Prop} {W W' W'' : World} {B g vg : Nat} {d : Dfa} {s : ByteArray} {cs : Array Value} {o ao : Option Addr} {cap acap : Nat} {ws : List Nat} {vs vs' vs'' : Value} {si : List Int}
theorem Ch.refl (X : Nat → Prop) (B g vg : Nat) (vs : Value) (W : World) : Ch X B g vg vs vs W W := ⟨rfl, rfl, rfl, Nat.le_refl _, fun _ _ _ _ _ => rfl, fun _ e => .inl e⟩
theorem Ch.trans (h : Ch X B g vg vs vs' W W') (k : Ch X B g vg vs' vs'' W' W'') : Ch X B g vg vs vs'' W W'' :=
  ⟨k.os.trans h.os, k.tape.trans h.tape, k.output.trans h.output, Nat.le_trans h.size k.size, fun b h1 h2 h3 h4 => by
    rw [k.block b (Nat.lt_of_lt_of_le h1 h.size) h2 h3 (fun e => (h.own b e.symm).elim (fun e2 => h4 e2.symm) (fun e2 => by omega)), h.block b h1 h2 h3 h4],
   fun b e => by
    rcases k.own b e with e1 | e1
    · exact h.own b e1
    · exact .inr (Nat.le_trans h.size e1)⟩
theorem Ch.below (c : Below W.heap.size W W') : Ch X B g vg vs vs W W' := ⟨c.os, c.tape, c.output, c.size, fun k h _ _ _ => c.block k h, fun _ e => .inl e⟩
theorem Wk.ne (k : Wk X W B g vg d s cs o cap ao acap ws vs si) : g ≠ vg ∧ some g ≠ vs.ownBlock ∧ some vg ≠ vs.ownBlock := by
  have ht : ∀ {b : Nat} {cs : Array Value} {t : TypeId} {fr : Nat × Nat}, W.heap[b]? = some (.cells cs t fr) → t ≠ 3 → some b ≠ vs.ownBlock := by
    intro b cs t fr hb ht e
    rcases k.sn.2 with ⟨rfl, _⟩ | ⟨gg, cap, cur, rfl, _, hgg, _⟩
    · cases e
    · cases e
      rw [hb] at hgg
      cases hgg
      exact ht rfl
  refine ⟨fun e => ?_, ht k.box.blk (by decide), ht k.vn (by decide)⟩
  have h1 := k.box.blk
  rw [e, k.vn] at h1
  injection h1 with h1
  injection h1 with _ h1
  exact absurd h1 (by decide)
theorem owns_lt {v : Value} {l : List Int} (h : Owns W B v l) {k : Nat} (e : v.ownBlock = some k) : B ≤ k ∧ k < W.heap.size := by
  rcases h.2 with ⟨rfl, _⟩ | ⟨gg, cap, cur, rfl, hb, hgg, _⟩
  · cases e
  · cases e; exact ⟨hb, (Array.getElem?_eq_some_iff.1 hgg).1⟩
theorem owns_keep {v : Value} {l : List Int} (h : Owns W B v l) (hh : ∀ k, v.ownBlock = some k → W'.heap[k]? = W.heap[k]?) : Owns W' B v l := by
  refine ⟨h.1, ?_⟩
  rcases h.2 with h0 | ⟨g, cap, cur, rfl, hb, hg, hr⟩
  · exact .inl h0
  · exact .inr ⟨g, cap, cur, rfl, hb, (hh g rfl).trans hg, hr⟩
theorem Wk.later (k : Wk X W B g vg d s cs o cap ao acap ws vs si) (c : Below W.heap.size W W') : Wk X W' B g vg d s cs o cap ao acap ws vs si :=
  ⟨k.box.keep (c.block _ k.box.lt), k.dt.carry (fun b hb => c.block b (k.ap b hb).1) (fun _ h => h), (c.block _ k.vn.lt).trans k.vn, owns_keep k.sn (fun b e => c.block b (owns_lt k.sn e).2), k.wl, k.bg, k.bv, fun b hb => ⟨Nat.lt_of_lt_of_le (k.ap b hb).1 c.size, (k.ap b hb).2⟩⟩
/-- a mark is put -/
theorem Wk.mark (k : Wk X W B g vg d s cs o cap ao acap ws vs si) (b : Nat) : Wk X (W.setCell ⟨vg, b / 64, none⟩ (.int .u64 ((ws.getD (b / 64) 0 ||| 2 ^ (b % 64) : Nat) : Int))) B g vg d s cs o cap ao acap (putBit ws b) vs si ∧ Ch X B g vg vs vs W (W.setCell ⟨vg, b / 64, none⟩ (.int .u64 ((ws.getD (b / 64) 0 ||| 2 ^ (b % 64) : Nat) : Int))) := by
  have hh : ∀ j, j ≠ vg → (W.setCell ⟨vg, b / 64, none⟩ (.int .u64 ((ws.getD (b / 64) 0 ||| 2 ^ (b % 64) : Nat) : Int))).heap[j]? = W.heap[j]? := fun j hj => Below.heap_setCell _ _ _ j hj
  obtain ⟨n1, n2, n3⟩ := k.ne
  refine ⟨⟨?_, k.dt.carry (fun j hj => hh j (k.ap j hj).2.2.1) (fun _ h => h), k.vn.put _ _, owns_keep k.sn (fun j e => hh j (fun e2 => n3 (by rw [← e2]; exact e.symm))), putBit_lt ws b k.wl, k.bg, k.bv, fun j hj => ⟨by simpa using (k.ap j hj).1, (k.ap j hj).2⟩⟩, rfl, rfl, rfl, by simp, fun j _ _ h3 _ => hh j h3, fun _ e => .inl e⟩
  rw [putBit_len]
  exact k.box.keep (hh g n1)
/-- the states since are set -/
theorem Wk.since (k : Wk X W B g vg d s cs o cap ao acap ws vs si) {si' : List Int} (ho : Owns W' B vs' si') (hg : W.grownBy W' vs.ownBlock) (hn : ∀ j, vs'.ownBlock = some j → vs.ownBlock = some j ∨ W.heap.size ≤ j) :
    WBox W' g cs s (.slice (some ⟨vg, 0, none⟩) ws.length ws.length) vs ∧ Wk X (W'.setCell ⟨g, 260, none⟩ vs') B g vg d s cs o cap ao acap ws vs' si' ∧ Ch X B g vg vs vs' W (W'.setCell ⟨g, 260, none⟩ vs') := by
  obtain ⟨n1, n2, n3⟩ := k.ne
  have hh : ∀ j, j ≠ g → (W'.setCell ⟨g, 260, none⟩ vs').heap[j]? = W'.heap[j]? := fun j hj => Below.heap_setCell _ _ _ j hj
  have b1 := k.box.keep (hg.block g k.box.lt n2)
  have hX : ∀ j, X j → (W'.setCell ⟨g, 260, none⟩ vs').heap[j]? = W.heap[j]? := fun j hj => by
    obtain ⟨a1, a2, a3, a4⟩ := k.ap j hj
    rw [hh j a2, hg.block j a1 a4]
  have ng : some g ≠ vs'.ownBlock := fun e => by
    rcases ho.2 with ⟨rfl, _⟩ | ⟨gg, cap, cur, rfl, _, hgg, _⟩
    · cases e
    · cases e
      rw [b1.blk] at hgg
      injection hgg with hgg
      injection hgg with _ hgg
      exact absurd hgg (by decide)
  refine ⟨b1, ⟨b1.set vs', k.dt.carry hX (fun _ h => h), (hh vg (Ne.symm n1)).trans ((hg.block vg k.vn.lt n3).trans k.vn), owns_keep ho (fun j e => hh j (fun e2 => ng (by rw [← e2]; exact e.symm))), k.wl, k.bg, k.bv, fun j hj => ?_⟩, hg.os, hg.tape, hg.output, by have := hg.size; simpa using this, fun j h1 h2 h3 h4 => by rw [hh j h2, hg.block j h1 h4], hn⟩
  obtain ⟨a1, a2, a3, a4⟩ := k.ap j hj
  refine ⟨by have := hg.size; simp; omega, a2, a3, fun e => ?_⟩
  rcases hn j e.symm with e2 | e2
  · exact a4 e2.symm
  · omega
end

section
variable {X : Nat → Prop} {W : World} {B g vg : Nat} {d : Dfa} {s : ByteArray} {cs : Array Value} {o ao : Option Addr} {cap acap : Nat} {ws : List Nat} {vs : Value} {si : List Int}
set_option maxHeartbeats 1000000 in
theorem vain_any (k : Wk X W B g vg d s cs o cap ao acap ws vs si) (t q b : Nat) (hb : b = t * d.next.length + q) (h8 : b ≤ 1000000000) (hlt : b / 64 < ws.length) (hws : ws.length ≤ 1000000000) (r : Bool) (hr : r = bitOn ws b) : Calls Try.prog 79 #[.pointer (some ⟨g, 0, none⟩), .int .i64 (t : Int), .int .i64 (q : Int)] W fun e w' => e = .returned (.bool r) ∧ w' = W := by
  have h84 : Calls Try.prog 82 #[.pointer (some ⟨g, 0, none⟩), .int .i64 (t : Int), .int .i64 (q : Int)] W fun e w' => e = .returned (.int .i64 (b : Int)) ∧ w' = W := by rw [hb]; exact bit_any W g t q d.next.length o cap (k.box.nx k.dt) k.dt.rows.fit k.dt.rows.top (by omega)
  obtain ⟨m, hm⟩ : ∃ m, m = b / 64 := ⟨_, rfl⟩
  obtain ⟨j, hj⟩ : ∃ j, j = b % 64 := ⟨_, rfl⟩
  have e2 : ((b : Int) / 64) = (m : Int) := by omega
  have e3 : ((b : Int) % 64) = (j : Int) := by omega
  have c259 := k.box.c259
  have hc := k.vn.cell m (by omega)
  have hy : ws.getD m 0 < 18446744073709551616 := by
    rw [List.getD_eq_getElem?_getD, List.getElem?_eq_getElem (by omega)]
    exact k.wl _ (List.getElem_mem _)
  have HB : Hid ((bits BinOp.and IntKind.u64 (((ws.getD m 0 : Nat) : Int) / 2 ^ j) 1 == 1) = r) := by show _ = _; rw [hr, bit_and _ j hy, hm, hj]; rfl
  have hml : m < ws.length := by omega
  have hj64 : j < 64 := by omega
  clear k hb hr hm hj hlt hy
  generalize ws.getD m 0 = y at *
  go_enter Try.func79, Try.ntmps79
  go_wp2_with (go_at_call 82; refine h84.mono ?_; rintro e w1 ⟨rfl, hw⟩; obtain rfl := hw.symm)
  go_ret
  exact ⟨by rw [← HB.out]; rfl, rfl⟩
set_option maxHeartbeats 1000000 in
theorem mark_any (k : Wk X W B g vg d s cs o cap ao acap ws vs si) (t q b : Nat) (hb : b = t * d.next.length + q) (h8 : b ≤ 1000000000) (hlt : b / 64 < ws.length) (hws : ws.length ≤ 1000000000) : Calls Try.prog 81 #[.pointer (some ⟨g, 0, none⟩), .int .i64 (t : Int), .int .i64 (q : Int)] W fun e w' => (∃ v, e = .returned v) ∧ Wk X w' B g vg d s cs o cap ao acap (putBit ws b) vs si ∧ Ch X B g vg vs vs W w' := by
  have h84 : Calls Try.prog 82 #[.pointer (some ⟨g, 0, none⟩), .int .i64 (t : Int), .int .i64 (q : Int)] W fun e w' => e = .returned (.int .i64 (b : Int)) ∧ w' = W := by rw [hb]; exact bit_any W g t q d.next.length o cap (k.box.nx k.dt) k.dt.rows.fit k.dt.rows.top (by omega)
  obtain ⟨q1, q2⟩ := k.mark b
  have HF := (show Hid (Wk X (W.setCell ⟨vg, b / 64, none⟩ (.int .u64 ((ws.getD (b / 64) 0 ||| 2 ^ (b % 64) : Nat) : Int))).drew B g vg d s cs o cap ao acap (putBit ws b) vs si ∧ Ch X B g vg vs vs W (W.setCell ⟨vg, b / 64, none⟩ (.int .u64 ((ws.getD (b / 64) 0 ||| 2 ^ (b % 64) : Nat) : Int))).drew) from ⟨q1.later (Below.drew (Below.refl _ _)), q2.trans (Ch.below (Below.drew (Below.refl _ _)))⟩)
  obtain ⟨m, hm⟩ : ∃ m, m = b / 64 := ⟨_, rfl⟩
  obtain ⟨j, hj⟩ : ∃ j, j = b % 64 := ⟨_, rfl⟩
  have e2 : ((b : Int) / 64) = (m : Int) := by omega
  have e3 : ((b : Int) % 64) = (j : Int) := by omega
  have c259 := k.box.c259
  have hc := k.vn.cell m (by omega)
  have hz := k.vn.fz m
  have hy : ws.getD m 0 < 18446744073709551616 := by
    rw [List.getD_eq_getElem?_getD, List.getElem?_eq_getElem (by omega)]
    exact k.wl _ (List.getElem_mem _)
  have e4 := bit_or (ws.getD m 0) j hy (by omega)
  have hml : m < ws.length := by omega
  rw [← hm, ← hj] at HF
  have hj64 : j < 64 := by omega
  clear k hb hm hj hlt hy q1 q2
  generalize ws.getD m 0 = y at *
  go_enter Try.func81, Try.ntmps81
  go_wp2_with (go_at_call 82; refine h84.mono ?_; rintro e w1 ⟨rfl, hw⟩; obtain rfl := hw.symm)
  go_region
  all_goals go_wp2
  all_goals go_end0
  all_goals exact ⟨⟨_, rfl⟩, HF.out⟩
end
end Go.Proofs.Ytmmlibehihknbaa.pc
