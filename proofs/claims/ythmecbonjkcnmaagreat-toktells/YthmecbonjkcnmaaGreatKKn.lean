/-
  Contracts over this program: the ids of a normal text behind others (tok.merged): what they are.
-/
import Derived.Test.YthmecbonjkcnmaaGreatKKk
import Derived.Test.YthmecbonjkcnmaaGreatKKm
import Derived.Test.YthmecbonjkcnmaaGreatM30
import Derived.Test.YthmecbonjkcnmaaGreatM02
import Derived.Test.YthmecbonjkcnmaaGreatM26
import Derived.Test.YthmecbonjkcnmaaGreatM18
import Derived.Test.YthmecbonjkcnmaaGreatM22
namespace Go.Proofs.YthmecbonjkcnmaaGreat.tk
open Go.ChangeShapes Go.WideShapes Go.ChangeAt Go.RowKit
open cf (Cf Cp cv CfAt CBox cfE cbox_new)
open mg (Row In app idsOf)
open nb (Rl Pa EdR Tx built)
open wk (Wd Wk Ok Far Left Sb Rr)
open st (Tr)
set_option linter.unusedVariables false
set_option maxRecDepth 100000

mutual
theorem sz_same : ∀ t : Tr, nb.szT t = cf.szT t
  | .node k q mn mx l => by
    show 2 + nb.tms k mn mx * nb.szs l = 2 + cf.tms k mn mx * cf.szs l
    rw [szs_same l]; rfl
theorem szs_same : ∀ l : List Tr, nb.szs l = cf.szs l
  | [] => rfl
  | t :: l => by
    show nb.szT t + nb.szs l = cf.szT t + cf.szs l
    rw [sz_same t, szs_same l]
end
theorem split_ok {c : Cf} (h : cfE c = 0) : st.rightN c.t = 0 ∧ (built c.t).full = false ∧ c.t.good = true ∧ mg.errOf c.ms = 0 := by
  rw [cf.cfE_eq] at h
  have h1 : cf.passE c.ps = 0 := by
    by_cases e : cf.passE c.ps = 0
    · exact e
    · rw [if_pos e] at h; exact absurd h e
  rw [if_neg (by simp [h1])] at h
  have h2 : cf.splitE c.t = 0 := by
    by_cases e : cf.splitE c.t = 0
    · exact e
    · rw [if_pos e] at h; exact absurd h e
  rw [if_neg (by simp [h2])] at h
  have h3 : mg.errOf c.ms = 0 := by
    by_cases e : mg.errOf c.ms = 0
    · exact e
    · rw [if_pos e] at h; exact absurd h e
  unfold cf.splitE at h2
  split at h2
  · rename_i e; exact absurd h2 e
  · rename_i e
    have e0 : cf.reE c.t = 0 := Decidable.not_not.1 e
    split at h2
    · cases h2
    · rename_i e2
      have hg := (cf.reE_good e0).1
      refine ⟨e0, ?_, hg, h3⟩
      cases hf : (built c.t).full with
      | false => rfl
      | true => have := nb.built_small c.t hg hf; rw [sz_same] at this; omega
/-- where a piece ends, by an automaton's edges -/
def StopS (es : List nf.Ed) (s : ByteArray) (fr to : Nat) : Prop := ∃ last, Far (EdR ⟨fun i => (s.data.getD i 0).toNat, s.size⟩ es) 0 1 fr last ∧ to = max last (fr + 1)
/-- the ids of a text from a place on -/
inductive Mids (es : List nf.Ed) (s : ByteArray) (K : List mg.Mg) : Nat → List Int → Prop
  | done : Mids es s K s.size []
  | more {fr to : Nat} {ids : List Int} : fr < to → to ≤ s.size → StopS es s fr to → Mids es s K to ids → Mids es s K fr (app K (idsOf (s.extract fr to)) ++ ids)
/-- an engine is not touched by a walk -/
theorem eng_walk {W W' : World} {B eb mb : Nat} {K : List mg.Mg} {X : Wd} {fr : Nat} {bs : List Nat} (h : en.Eng W B eb mb K) (k : Wk X W fr bs) (c : wk.Cw X W W') : en.Eng W' B eb mb K := by
  obtain ⟨sp, h1, h2, h4⟩ := h
  have key : ∀ {b : Nat} {cs : Array Value} {t : TypeId}, W.heap[b]? = some (.cells cs t (0, 0)) → t ≠ 130 → t ≠ 23 → W'.heap[b]? = W.heap[b]? := by
    intro b cs t hb n1 n2
    refine c.block b (Array.getElem?_eq_some_iff.1 hb).1 (fun e => ?_) (fun e => ?_)
    · rw [e, k.sn] at hb; cases hb; exact n2 rfl
    · rw [e, k.box] at hb; cases hb; exact n1 rfl
  have hm : W'.heap[mb]? = W.heap[mb]? := by
    obtain ⟨es, c0, hb⟩ := h2.obj
    refine c.block mb (Array.getElem?_eq_some_iff.1 hb).1 (fun e => ?_) (fun e => ?_)
    · rw [e, k.sn] at hb; cases hb
    · rw [e, k.box] at hb; cases hb
  have ho : ∀ {e sz n : Nat} {v : Value} {xs : List Value}, W.ownsRow B e sz v n xs → e ≠ 130 → e ≠ 23 → W'.ownsRow B e sz v n xs := by
    intro e sz n v xs h n1 n2
    refine ow.keep h fun g hg => ?_
    refine c.block g (ow.lt h hg).2 (fun e2 => ?_) (fun e2 => ?_)
    · exact ow.type h (e2 ▸ k.sn) (Ne.symm n2) hg.symm
    · exact ow.type h (e2 ▸ k.box) (Ne.symm n1) hg.symm
  refine ⟨sp, (key h1 (by decide) (by decide)).trans h1, h2.keep hm, ?_⟩
  rcases h4 with h4 | ⟨rb, vs, vp, S, e, r⟩
  · exact .inl h4
  · exact .inr ⟨rb, vs, vp, S, e, ⟨(key r.box (by decide) (by decide)).trans r.box, ho r.sg (by decide) (by decide), ho r.prs (by decide) (by decide), r.map.keep hm, r.bb⟩⟩
/-- a list behind another one that the call owns -/
theorem append_list (w : World) (B : Nat) (v : Value) (n : Nat) (xs : List Value) (hown : w.ownsRow B 3 1 v n xs) (g m c : Nat) (news : List Value) (hnl : news.length = m) (hm : 0 < m) (hnews : ∀ j u, news[j]? = some u → w.cell? ((⟨g, 0, none⟩ : Addr).add j) = some u) (hone : ∀ u ∈ news, u.oneCell' = true) (hsm : n + m ≤ 1000000) (hB : B ≤ w.heap.size) :
    ∃ v' w', (Builtin.append_ #[32, 32] 32 #[v, .slice (some ⟨g, 0, none⟩) m c]).run Tryz.prog w = .ok v' w' ∧ w'.ownsRow B 3 1 v' (n + m) (xs ++ news) ∧ w.grownBy w' v.ownBlock ∧ Same w v v' := by
  obtain ⟨i0, hi, hz0, hz1, hz2⟩ := info_parts info3
  have hbb : (n + m) * 8 ≤ 140737488355328 := Nat.le_trans (Nat.mul_le_mul_right 8 hsm) (by decide)
  obtain ⟨v', w', hr, h2, h3, h4⟩ := run_append_own (P := Tryz.prog) w B 32 32 3 i0 _ 1 8 Tryz.underlying32 hi hz0 hz1 hz2 rfl (by decide) v n _ hown ⟨g, 0, none⟩ m c news (by omega) hnews hone (by unfold maxLen; omega) hbb hB
  refine ⟨v', w', hr, h2, h3, ?_⟩
  have hl2 : news.length = m * i0.size := by rw [hz1]; omega
  rcases hown.2 with ⟨rfl, h0⟩ | ⟨gg, cap, cur, rfl, hbg, hg, hnc, hcm, hcs, htake⟩
  · have hr2 := run_append_nil (P := Tryz.prog) w 32 32 3 i0 _ Tryz.underlying32 hi hz0 ⟨g, 0, none⟩ m c news hl2 hnews (by omega) (by omega) (by rw [hz2]; omega)
    rw [hr2] at hr
    injection hr with e1 e2
    exact .inr ⟨w.heap.size, by rw [← e1]; rfl, Nat.le_refl _⟩
  · by_cases hroom : n + m ≤ cap
    · have hfit : n * i0.size + news.length ≤ cur.size := by rw [hl2, hcs, hz1]; omega
      have hr2 := run_append_room (P := Tryz.prog) w 32 32 3 i0 Tryz.underlying32 hi gg n cap cur hg ⟨g, 0, none⟩ m c news hl2 hnews hone hroom hfit
      rw [hr2] at hr
      injection hr with e1 e2
      exact .inl (by rw [← e1]; rfl)
    · have hr2 := run_append_grow (P := Tryz.prog) w 32 32 3 i0 _ Tryz.underlying32 hi hz0 ⟨gg, 0, none⟩ n cap _ (by rw [hz1]; exact hown.1) (hown.cells (g := gg) rfl) ⟨g, 0, none⟩ m c news hl2 hnews (by omega) (by omega) (growslice_fits (by omega) (by rw [hz2]; exact hbb))
      rw [hr2] at hr
      injection hr with e1 e2
      exact .inr ⟨w.heap.size, by rw [← e1]; rfl, Nat.le_refl _⟩
end Go.Proofs.YthmecbonjkcnmaaGreat.tk
