/-
  Contracts over this program: a crowd is made (nfa.newCrowd).
-/
import Derived.Test.YthknhbmibmndoaaNh
namespace Go.Proofs.Ythknhbmibmndoaa.nf
open Go.RowKit Go.Shelf
set_option linter.unusedVariables false
open df (Kp Owns)

theorem info4 : (Try.prog.info? 4).map (fun i => (i.zero, i.size, i.bytes)) = some (some (.bool false), 1, 1) := by kernel_rfl
theorem bcells_made (n : Nat) : madeCells #[.bool false] n = bcells (List.replicate n false) := by
  apply Array.toList_inj.1
  rw [toList_madeCells_one]
  simp [bcells]
theorem make35 (n : Nat) (hn : n ≤ 1000000) (W : World) : (Instr.makeSlice 35 (.int .i64 (n : Int)) (.int .i64 (n : Int))).run Try.prog W = .ok (.slice (some ⟨W.heap.size, 0, none⟩) n n) (W.alloc (.cells (bcells (List.replicate n false)) 4)) := by
  rw [← bcells_made]
  exact run_make_row' (P := Try.prog) 35 4 (.bool false) 1 Try.underlying35 info4 rfl .i64 .i64 n (by omega) (by omega) W
theorem three (h : Array Obj) (a b c : Obj) : (((h.push a).push b).push c)[h.size]? = some a ∧ (((h.push a).push b).push c)[h.size + 1]? = some b ∧ (((h.push a).push b).push c)[h.size + 1 + 1]? = some c := by
  refine ⟨?_, ?_, ?_⟩ <;> simp only [Array.getElem?_push, Array.size_push] <;> (repeat (first | rw [if_pos rfl] | rw [if_pos trivial] | rw [if_neg (by omega)]))
def NewIs (n : Nat) : Prop := ∀ (s e : Int) (o : Option Addr) (m cap : Nat) (X : Nat → Prop) (W : World), (∀ b, X b → b < W.heap.size) → Calls Try.prog 30 #[nfaV (n : Int) s e o m cap] W fun e W' => ∃ c sb, e = .returned (.pointer (some ⟨c, 0, none⟩)) ∧ Cr X W' W.heap.size c sb n [] [] ∧ Below W.heap.size W W' ∧ KeepsOthers W W'
set_option maxHeartbeats 1000000 in
theorem new_any (n : Nat) (hn : n ≤ 2000) : NewIs n := by
  intro s e o m cap X W hX
  have mk := make35 n (by omega)
  go_enter Try.func30, Try.ntmps30
  go_wp2
  go_ret
  refine ⟨W.heap.size + 1 + 1, W.heap.size + 1, rfl, ⟨⟨List.replicate n false, .slice none 0 0, .slice none 0 0, ⟨?_, ?_, by simp, World.ownsRow_nil _ _ _ _, World.ownsRow_nil _ _ _ _, fun g e => (by cases e), by omega, by omega, fun b hb => ?_⟩, fun i hi => ?_⟩, List.nodup_nil, by simp, by simp⟩, ?_, ?_⟩
  · exact (three W.heap _ _ _).2.2
  · exact (three W.heap _ _ _).2.1
  · have := hX b hb
    exact ⟨by simp; omega, by omega, by omega, by simp [Value.ownBlock], by simp [Value.ownBlock]⟩
  · rw [List.getElem?_replicate, if_pos hi]
    simp
  · exact (((Below.refl _ W).alloc (Nat.le_refl _) _).alloc (by simp) _).alloc (by simp; omega) _
  · exact ((KeepsOthers.alloc _ _).trans (KeepsOthers.alloc _ _)).trans (KeepsOthers.alloc _ _)
end Go.Proofs.Ythknhbmibmndoaa.nf
