/-
  Contracts over this program: what is read of any text, with the error and its place (regex.Parse).
-/
import Derived.Test.YtjfnefmolhihaaaRy
namespace Go.Proofs.Ytjfnefmolhihaaa.st
open Go.Sort Go.ChangeShapes Go.WideShapes Go.ChangeAt Go.RowKit
set_option linter.unusedVariables false

def ParseIs (s : ByteArray) (t : Tr) (er q : Nat) : Prop := ∀ w, Calls Try.prog 6 #[.string s] w fun e w' => ∃ v, e = .returned (.tuple #[.agg #[.int .i64 t.kind, .int .u64 t.set.a, .int .u64 t.set.b, .int .u64 t.set.c, .int .u64 t.set.d, .int .i64 t.min, .int .i64 t.max, v], .int .i64 er, .int .i64 q]) ∧ Is w' (fun b => w.heap.size ≤ b) t v ∧ RowKit.Below w.heap.size w w'
theorem ret28c {fn : Func} {p r k : Tmp} (h : fn.results = #[.cell p 28, .tmp r, .tmp k]) {a : Act} {W : World} {R : Ending → World → Prop} (g : Nat) (t : Tr) (v : Value) (hp : a.tmps.getD p undef = .pointer (some ⟨g, 0, none⟩)) (hb : Box W g t v) (hd : a.defers = [])
    (hR : R (.returned (.tuple #[.agg #[.int .i64 t.kind, .int .u64 t.set.a, .int .u64 t.set.b, .int .u64 t.set.c, .int .u64 t.set.d, .int .i64 t.min, .int .i64 t.max, v], a.tmps.getD r undef, a.tmps.getD k undef])) W) : bodyPost Try.prog fn R .ret a W := by
  refine bodyPost_ret ?_ hd hR
  have h1 := run_loadVar_row (P := Try.prog) W g 28 28 _ (0, 0) _ hb Try.underlying28 rfl (by kernel_rfl)
  have hp' : a.tmps[p]?.getD undef = .pointer (some ⟨g, 0, none⟩) := by simpa using hp
  simp [results, h, hp', asAddr, h1]

theorem Box.drew {w : World} {g : Nat} {t : Tr} {v : Value} (h : Box w g t v) : Box w.drew g t v := h

set_option maxHeartbeats 1000000 in
set_option maxRecDepth 100000 in
theorem parse_of (s : ByteArray) (t : Tr) (er q : Nat) (h12 : ReadIs s t er q) : ParseIs s t er q := by
  intro w
  have z0 := box_new w Tr.zero (.slice none 0 0)
  go_enter Try.func6, Try.ntmps6
  go_wp2_with (go_at_call 12; refine (h12 _).mono ?_; rintro e w1 ⟨v, rfl, i1, b1⟩; obtain ⟨va, vn, vc, rfl⟩ := i1.shape)
  obtain ⟨W, hW⟩ : ∃ W, W = (w1.alloc (.cells #[.int .i64 t.kind, .int .u64 t.set.a, .int .u64 t.set.b, .int .u64 t.set.c, .int .u64 t.set.d, .int .i64 t.min, .int .i64 t.max, .slice va vn vc] 28)).alloc (.cells #[.int .i64 er, .int .i64 q] 39) := ⟨_, rfl⟩
  have z1 : Box W w.heap.size Tr.zero (.slice none 0 0) := by rw [hW]; exact (z0.below b1).below (below2 w1 _ _)
  have q1 : Box W w1.heap.size t (.slice va vn vc) := by rw [hW]; exact (box_new w1 t _).below (below_alloc _ _)
  have y1 : Flt W (w1.heap.size + 1) er q := by rw [hW]; exact heap_alloc2_new w1 _ _
  have hB1 : RowKit.Below w.heap.size w w1 := (below_alloc w _).trans (b1.mono (below_alloc w _).size)
  have hB : RowKit.Below w.heap.size w W := by rw [hW]; exact hB1.trans ((below2 w1 _ _).mono hB1.size)
  have hsz : w.heap.size + 1 ≤ w1.heap.size := by have := b1.size; simpa using this
  have i2 : Is W (fun b => w.heap.size < b) t (.slice va vn vc) := by rw [hW]; exact (i1.weaken (P' := fun b => w.heap.size < b) (fun b hb => by simp at hb; omega)).later (below2 w1 _ _)
  rw [← hW]
  clear hW
  generalize w1.heap.size = b5 at *
  obtain ⟨⟨c0, c1, c2, c3, c4, c5, c6, c7⟩, _⟩ := b8 q1
  obtain ⟨e0, e1, _, _⟩ := y1.cells
  obtain ⟨⟨d0, d1, d2, d3, d4, d5, d6, d7⟩, f0, f1, f2, f3, f4, f5, f6, f7⟩ := b8 z1
  go_region
  go_wp2_with (fail)
  refine ret28c Try.results6 w.heap.size t (.slice va vn vc) rfl (Box.drew (box_set z1 t (.slice va vn vc))) rfl ?_
  have T := touch_drew (touch_set8 W w.heap.size t (.slice va vn vc))
  exact ⟨_, rfl, i2.carry T.size (fun b hb _ => by omega) (fun b hb hlt => T.block b hlt (fun e => by have := Option.some.inj e; omega)), below_over hB T (Nat.le_refl _)⟩

theorem parse_any (s : ByteArray) (hs : s.size ≤ 9223372036854775807) : ParseIs s (parse (codes s)).1 (parse (codes s)).2.1 (parse (codes s)).2.2 := parse_of s _ _ _ (read_any s hs)
end Go.Proofs.Ytjfnefmolhihaaa.st
