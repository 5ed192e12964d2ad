/-
  Contracts over this program: a text's copy (strings.Clone), piece.check, piece.pieces, piece.Split.
-/
import Derived.Test.YtmmlibehihknbaaKPPg
import Derived.Shelf.Pu.Clone
import Derived.Maps.OwnIn
namespace Go.Proofs.Ytmmlibehihknbaa.pc
open Go.ChangeShapes Go.WideShapes Go.ChangeAt Go.RowKit Go.Shelf
open df (Dfa ends nxt acpt byteAt here Ok right width endsOf DAt DBox Row RowRow iv bv In Owns IntsV)
set_option linter.unusedVariables false
attribute [local go_sem] Oper.semAt_some

/-- the library's contract for a text's copy, laid at this program -/
def ren : Go.Shelf.Ren := ⟨fun | 25 => 78 | n => n, fun | 37 => 63 | 47 => 109 | n => n, fun | n => n⟩
theorem lays25 : Go.Proofs.LaysPu.n25 Try.prog ren := {
  mixed := by kernel_rfl
  f25 := Try.func78.trans (congrArg some (by kernel_rfl))
  t0 := Try.underlying0
  a0 := Try.isAgg0
  z0 := Try.sizeOf0
  v0 := Try.zeroValue0
  i0 := by kernel_rfl
  t3 := Try.underlying3
  a3 := Try.isAgg3
  z3 := Try.sizeOf3
  v3 := Try.zeroValue3
  i3 := by kernel_rfl
  t4 := Try.underlying4
  a4 := Try.isAgg4
  z4 := Try.sizeOf4
  v4 := Try.zeroValue4
  i4 := by kernel_rfl
  t5 := Try.underlying5
  a5 := Try.isAgg5
  z5 := Try.sizeOf5
  v5 := Try.zeroValue5
  i5 := by kernel_rfl
  t9 := Try.underlying9
  a9 := Try.isAgg9
  z9 := Try.sizeOf9
  v9 := Try.zeroValue9
  i9 := by kernel_rfl
  t37 := Try.underlying63
  a37 := Try.isAgg63
  z37 := Try.sizeOf63
  v37 := Try.zeroValue63
  i37 := by kernel_rfl
  t47 := Try.underlying109
  a47 := Try.isAgg109
  z47 := Try.sizeOf109
  v47 := Try.zeroValue109
  i47 := by kernel_rfl }
theorem clone_any (s : ByteArray) (hlim : s.size ≤ 140737488351232) (w : World) : Calls Try.prog 73 #[.string s] w fun e w' => e = .returned (.string s) ∧ Below w.heap.size w w' := by
  have h39 := fun w => AnyPu.stringslite_Clone lays25 s w (by omega)
  go_enter Try.func73, Try.ntmps73
  go_wp2_with (go_at_call 78; refine (h39 _).mono ?_; rintro e w1 ⟨rfl, b1⟩)
  go_ret
  exact ⟨rfl, b1⟩
/-- what stands against a text -/
def chk (d : Dfa) (s : ByteArray) : Int := if right d = false then 81 else if 262144 < s.size then 2 else 0
def ChkIs (d : Dfa) (s : ByteArray) : Prop := ∀ cs o cap ao acap w, DAt (In w) w d cs o cap ao acap → Calls Try.prog 71 #[.agg cs, .string s] w fun e w' => e = .returned (.int .i64 (chk d s)) ∧ Below w.heap.size w w'
set_option maxHeartbeats 1000000 in
set_option maxRecDepth 100000 in
theorem check_any (d : Dfa) (s : ByteArray) (hs : s.size ≤ 9223372036854775807) : ChkIs d s := by
  intro cs o cap ao acap w hD
  have hw8 := hD.size
  have b0 := df.dbox_new w cs
  have HB0 := df.below_alloc w (.cells cs 36)
  have h35 := df.right_any d _ rfl cs o cap ao acap _ (hD.later HB0)
  cases hr : right d with
  | false =>
    rw [hr] at h35
    have HC := (show Hid (chk d s = 81) from by show _ = _; unfold chk; rw [if_pos hr])
    clear hD hr
    go_enter Try.func71, Try.ntmps71
    go_wp2_with (first | (refine wpList_load_row rfl 36 (.tmp 2) rfl w.heap.size rfl 36 cs (0, 0) _ b0 Try.underlying36 rfl (df.info36 cs hw8) ?_) | (go_at_call 70; refine h35.mono ?_; rintro e w1 ⟨rfl, b1⟩))
    go_ret
    exact ⟨by rw [HC.out]; rfl, df.chain HB0 b1⟩
  | true =>
    rw [hr] at h35
    by_cases hl : 262144 < s.size
    · have HC := (show Hid (chk d s = 2) from by show _ = _; unfold chk; rw [if_neg (by rw [hr]; decide), if_pos hl])
      clear hD hr
      go_enter Try.func71, Try.ntmps71
      go_wp2_with (first | (refine wpList_load_row rfl 36 (.tmp 2) rfl w.heap.size rfl 36 cs (0, 0) _ b0 Try.underlying36 rfl (df.info36 cs hw8) ?_) | (go_at_call 70; refine h35.mono ?_; rintro e w1 ⟨rfl, b1⟩))
      go_ret
      exact ⟨by rw [HC.out]; rfl, df.chain HB0 b1⟩
    · have HC := (show Hid (chk d s = 0) from by show _ = _; unfold chk; rw [if_neg (by rw [hr]; decide), if_neg hl])
      clear hD hr
      go_enter Try.func71, Try.ntmps71
      go_wp2_with (first | (refine wpList_load_row rfl 36 (.tmp 2) rfl w.heap.size rfl 36 cs (0, 0) _ b0 Try.underlying36 rfl (df.info36 cs hw8) ?_) | (go_at_call 70; refine h35.mono ?_; rintro e w1 ⟨rfl, b1⟩))
      go_ret
      exact ⟨by rw [HC.out]; rfl, df.chain HB0 b1⟩
set_option maxHeartbeats 1000000 in
theorem pieces_in (cs : Array Value) (s : ByteArray) (w : World) : Calls Try.prog 72 #[.agg cs, .string s] w fun e w' => e = .returned (.func (.func 75) #[] #[.pointer (some ⟨w.heap.size, 0, none⟩), .pointer (some ⟨w.heap.size + 1, 0, none⟩)]) ∧ w' = (w.alloc (.cells cs 36)).alloc (.cells #[.string s] 9) := by
  go_enter Try.func72, Try.ntmps72
  go_wp2
  go_ret
  exact ⟨rfl, rfl⟩
/-- as the range over the pieces begins -/
theorem begins {α : Type} {w wA : World} {d : Dfa} {cs : Array Value} {o ao : Option Addr} {cap acap : Nat} (s : ByteArray) (hD : DAt (In w) w d cs o cap ao acap) (c : Below w.heap.size w wA) (ty e : Nat) (enc : α → Value) (wR : World) (hR : wR = ((wA.alloc (.cells #[.slice none 0 0] ty)).alloc (.cells cs 36)).alloc (.cells #[.string s] 9)) :
    wR.heap.size = wA.heap.size + 1 + 1 + 1 ∧ Below w.heap.size w wR ∧ DAt (fun j => j < wA.heap.size ∨ j = wA.heap.size + 1 ∨ j = wA.heap.size + 1 + 1) wR d cs o cap ao acap ∧ DBox wR (wA.heap.size + 1) cs ∧ Boxed wR (wA.heap.size + 1 + 1) 9 (.string s) ∧ ∀ o1 o2 : Obj, Ib (wA.heap.size + 1 + 1 + 1) wA.heap.size ty e w.heap.size w enc [] ((wR.alloc o1).alloc o2) := by
  subst hR
  have cA : Below wA.heap.size wA (((wA.alloc (.cells #[.slice none 0 0] ty)).alloc (.cells cs 36)).alloc (.cells #[.string s] 9)) := (((Below.refl _ wA).alloc (Nat.le_refl _) _).alloc (by simp) _).alloc (by simp; omega) _
  have cW := df.chain c cA
  have x1 := df.dbox_new (wA.alloc (.cells #[.slice none 0 0] ty)) cs
  have y1 := Boxed.new ((wA.alloc (.cells #[.slice none 0 0] ty)).alloc (.cells cs 36)) 9 (.string s)
  have z1 := Boxed.new wA ty (.slice none 0 0)
  simp only [World.size_alloc] at x1 y1
  have z2 : Boxed (((wA.alloc (.cells #[.slice none 0 0] ty)).alloc (.cells cs 36)).alloc (.cells #[.string s] 9)) wA.heap.size ty (.slice none 0 0) := ((z1.alloc _).alloc _)
  refine ⟨by simp, cW, hD.carry (fun k hk => cW.block k hk) (fun k hk => .inl (Nat.lt_of_lt_of_le hk c.size)), (Below.heap_alloc _ _ _ (by simp)).trans x1, y1, fun o1 o2 => ⟨⟨_, (z2.alloc o1).alloc o2, World.ownsRow_nil _ _ _ _⟩, ?_, by simp⟩⟩
  exact df.chain cW (((Below.refl _ _).alloc (Nat.le_refl _) _).alloc (by simp) _)
end Go.Proofs.Ytmmlibehihknbaa.pc
