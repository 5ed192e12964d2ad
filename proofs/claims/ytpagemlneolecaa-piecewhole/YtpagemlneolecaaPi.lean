/-
  Contracts over this program: piece.Split.
-/
import Derived.Test.YtpagemlneolecaaPh
namespace Go.Proofs.Ytpagemlneolecaa.pc
open Go.RowKit Go.Shelf
open df (Dfa ends nxt acpt byteAt here Ok right width endsOf DAt DBox Row RowRow iv bv In Owns IntsV)
set_option linter.unusedVariables false
attribute [local go_sem] Oper.semAt_some

def encE {s : ByteArray} (x : Pr s) : Value := .int .i64 (x.1.2 : Int)
def endsL (d : Dfa) (s : ByteArray) : List Int := (all d s 0).map fun p => (p.2 : Int)
theorem info3' : (Try.prog.info? 3).map (fun i => (i.zero, i.size, i.bytes)) = some (some (.int .i64 0), 1, 8) := by kernel_rfl
theorem encE_map {s : ByteArray} {d : Dfa} {xs : List (Pr s)} (h : xs.map (·.1) = all d s 0) : xs.map encE = (endsL d s).map (Value.int .i64) ∧ xs.length = (endsL d s).length := by
  unfold endsL
  rw [← h]
  constructor
  · simp [encE, Function.comp_def]
  · simp
set_option maxRecDepth 100000 in
set_option maxHeartbeats 4000000 in
theorem split_in (d : Dfa) (s : ByteArray) (hr : right d = true) (hs : s.size ≤ 3000) (cs : Array Value) (o ao : Option Addr) (cap acap : Nat) (w : World) (hD : DAt (In w) w d cs o cap ao acap) :
    CallsIn Fence.wide 6 Try.prog 6 #[.agg cs, .string s] w fun e W' => ∃ v, e = .returned (.tuple #[v, .int .i64 0]) ∧ IntsV W' v (endsL d s) ∧ Below w.heap.size w W' := by
  have hw8 := hD.size
  have b0 := df.dbox_new w cs
  have HB0 := df.below_alloc w (.cells cs 26)
  have h18 := check_any d s (by omega) cs o cap ao acap _ (hD.later HB0)
  have e0 : chk d s = 0 := by unfold chk; rw [if_neg (by rw [hr]; decide), if_neg (by omega)]
  rw [e0] at h18
  have h19 := fun w => pieces_in cs s w
  obtain ⟨i0, hi, hz0, hz1, hz2⟩ := info_parts info3'
  refine callsIn_of_wp_marks Try.func6 rfl trivial ?_ rfl
  simp only [Try.ntmps6, List.size_toArray, List.length_cons, List.length_nil, Nat.reduceAdd, Nat.reduceSub, Array.replicate_succ, Array.replicate_zero, List.push_toArray, List.append_toArray, List.nil_append, List.cons_append]
  gi_wp2_with (first | (refine df.wpListIn_load_row rfl 26 (.tmp 2) rfl w.heap.size rfl 26 cs (0, 0) _ b0 Try.underlying26 rfl (df.info26 cs hw8) ?_) | (refine ⟨trivial, ?_⟩; gi_at_call 18; refine (callsIn_wide.2 h18).mono ?_; rintro e wA ⟨rfl, b1⟩; have bA : DBox (wA.alloc (.cells #[.slice none 0 0] 27)) w.heap.size cs := (Below.heap_alloc _ _ _ (by have := b0.lt; have := b1.size; omega)).trans (b0.later b1)) | (refine df.wpListIn_load_row rfl 26 (.tmp 2) rfl w.heap.size rfl 26 cs (0, 0) _ bA Try.underlying26 rfl (df.info26 cs hw8) ?_) | (refine ⟨trivial, ?_⟩; gi_at_call 19; refine (callsIn_wide.2 (h19 _)).mono ?_; rintro e w2 ⟨rfl, rfl⟩))
  obtain ⟨wR, hR⟩ : ∃ wR, wR = ((wA.alloc (.cells #[.slice none 0 0] 27)).alloc (.cells cs 26)).alloc (.cells #[.string s] 9) := ⟨_, rfl⟩
  obtain ⟨hsz, cR, dR, xR, sR, iR⟩ := begins s hD (df.chain HB0 b1) 27 3 (encE (s := s)) wR hR
  rw [← hR]
  rw [← hsz] at iR
  have hlt : wA.heap.size < wR.heap.size := by omega
  have hle : w.heap.size ≤ wA.heap.size := (df.chain HB0 b1).size
  have hok := df.ok_of d hr
  clear hR b0 HB0 bA h18 h19 e0 b1 hD
  refine range_own rfl (by omega) (gf := 36) (lb := #[.pointer (some ⟨wA.heap.size + 1, 0, none⟩), .pointer (some ⟨wA.heap.size + 1 + 1, 0, none⟩)]) rfl trivial (enters_of Try.func36 (by kernel_rfl) rfl) encs2 (fun _ => rfl)
    (Ib wR.heap.size wA.heap.size 27 3 w.heap.size w encE) (Kq wR.heap.size wA.heap.size) (fun xs => xs.map (·.1) = all d s 0) (s.size + 1)
    (fun pre W l ob ob' hi hl hh ho => hi.book hlt (by omega) ob' hl hh ho) (fun W l ob ob' hl hh ho => Kq.book hlt W l ob ob' hl hh ho) Kq.trans iR
    (fun x => { tmps := #[.agg cs, .string s, .pointer (some ⟨w.heap.size, 0, none⟩), undef, .slice none 0 0, .int .i64 0, .int .i64 0, .pointer (some ⟨wA.heap.size, 0, none⟩), undef, .int .i64 (x.1.2 : Int), .agg cs, .string s, .int .i64 0, .int .i64 0, .bool false, undef, .agg cs, .string s, .func (.func 36) #[] #[.pointer (some ⟨wA.heap.size + 1, 0, none⟩), .pointer (some ⟨wA.heap.size + 1 + 1, 0, none⟩)], .int .i64 (x.1.1 : Int), .int .i64 (x.1.2 : Int), undef, undef, undef, undef, undef], defers := [] }) ?assign ?body ?seq ?done
  case assign =>
    intro l x W K hK
    dsimp only [encs2]
    gi_wp2
    exact hK
  case body =>
    rintro l pre x W hi2 hpl
    obtain ⟨v, hv, hrow⟩ := hi2.row
    have hc := hv.cell
    have hsW : wR.heap.size ≤ W.heap.size := hi2.sz
    have hlen : pre.length ≤ 1000000 := by omega
    gi_wp2_with (gi_at_builtin; refine wpListIn_append_own_at _ rfl _ _ 27 rfl wR.heap.size 3 i0 (.int .i64 0) 1 8 Try.underlying27 hi hz0 hz1 hz2 rfl (by decide) _ _ _ rfl (hrow.alloc _) ⟨W.heap.size, 0, none⟩ 1 1 [.int .i64 (x.1.2 : Int)] rfl rfl (cell_one_new _ _ _) (by simp [Value.oneCell']) (by unfold maxLen; omega) (by omega) (by simp; omega) ?_; intro v' w1 hown' hgrow _ hwh; obtain ⟨g', cap', rfl⟩ := ownsRow_succ hown'; obtain ⟨hv1, hk2, hq2, hi3⟩ := hi2.app (by decide) hv hrow hlt hle hsW (df.below_alloc W _) x hown' hgrow (hwh.elim (fun e => .inl e) (fun e => .inr (Nat.le_of_eq (Option.some.inj e).symm))); have hc1 := hv1.cell; have hf1 := hv1.frozen)
    exact ⟨hk2, hq2, hi3⟩
  case seq =>
    intro l Bk W hBk hY hbW hi2 hb
    refine pieces_run hok hs hlt hle (X := fun j => j < wA.heap.size ∨ j = wA.heap.size + 1 ∨ j = wA.heap.size + 1 + 1) (fun j hj => ⟨by omega, by omega⟩) (.inr (.inr rfl)) (.inr (.inl rfl)) l Bk W hBk hY hbW.size (dR.carry (fun k hk => hbW.block k (by omega)) (fun _ h => h)) (xR.later hbW) ((hbW.block _ sR.lt).trans sR) hi2 hb
  case done =>
    rintro D xs W hD2 hS hi2 hK
    obtain ⟨⟨v, hv, hrow⟩, hB, _⟩ := hi2
    have hc := hv.cell
    gi_wp2
    refine ⟨by simp, .inl ⟨_, _, rfl, run_takeDeferred hK, ?_⟩⟩
    obtain ⟨m1, m2⟩ := encE_map hS
    rw [m1, m2] at hrow
    exact ⟨_, results_tmp2 rfl _ _ _, v, rfl, df.ints_of_owns (ownsRow_putObj hrow _ hK rfl), hB.trans (belowK_b (w := w) (Nat.le_refl _) W D _ _ (by omega) hK rfl rfl)⟩
def SplitIs (d : Dfa) (s : ByteArray) : Prop := ∀ cs o cap ao acap w, DAt (In w) w d cs o cap ao acap → Calls Try.prog 6 #[.agg cs, .string s] w fun e W' => ∃ v, e = .returned (.tuple #[v, .int .i64 0]) ∧ IntsV W' v (endsL d s) ∧ Below w.heap.size w W'
theorem split_any (d : Dfa) (s : ByteArray) (hr : right d = true) (hs : s.size ≤ 3000) : SplitIs d s := fun cs o cap ao acap w hD => callsIn_wide.1 (split_in d s hr hs cs o ao cap acap w hD)
/-- where a text or a table is refused -/
theorem split_not (d : Dfa) (s : ByteArray) (hs : s.size ≤ 9223372036854775807) (he : chk d s ≠ 0) (cs : Array Value) (o ao : Option Addr) (cap acap : Nat) (w : World) (hD : DAt (In w) w d cs o cap ao acap) :
    Calls Try.prog 6 #[.agg cs, .string s] w fun e W' => e = .returned (.tuple #[.slice none 0 0, .int .i64 (chk d s)]) ∧ Below w.heap.size w W' := by
  have hw8 := hD.size
  have b0 := df.dbox_new w cs
  have HB0 := df.below_alloc w (.cells cs 26)
  have h18 := check_any d s hs cs o cap ao acap _ (hD.later HB0)
  obtain ⟨r, hr, h81⟩ : ∃ r : Int, chk d s = r ∧ (r = 81 ∨ r = 2) := by
    unfold chk at he ⊢
    split
    · exact ⟨81, rfl, .inl rfl⟩
    · split
      · exact ⟨2, rfl, .inr rfl⟩
      · rename_i h1 h2
        rw [if_neg h1, if_neg h2] at he
        exact (he rfl).elim
  rw [hr] at h18 ⊢
  clear hr he hD
  rcases h81 with rfl | rfl
  all_goals
    go_enter Try.func6, Try.ntmps6
    go_wp2_with (first | (refine wpList_load_row rfl 26 (.tmp 2) rfl w.heap.size rfl 26 cs (0, 0) _ b0 Try.underlying26 rfl (df.info26 cs hw8) ?_) | (go_at_call 18; refine h18.mono ?_; rintro e w1 ⟨rfl, b1⟩))
    go_ret2
    exact ⟨rfl, df.chain HB0 b1⟩
end Go.Proofs.Ytpagemlneolecaa.pc
