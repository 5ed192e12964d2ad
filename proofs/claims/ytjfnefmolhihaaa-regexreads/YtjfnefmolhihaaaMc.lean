/-
  Contracts over this program: a class, an atom, an item, items and ways as the document's reader reads them.
-/
import Derived.Test.YtjfnefmolhihaaaQk
import Derived.Test.YtjfnefmolhihaaaMb
import Derived.Test.YtjfnefmolhihaaaQe
import Derived.Test.YtjfnefmolhihaaaMa
import Derived.Deep.DeepCutAuto
namespace Go.Proofs.Ytjfnefmolhihaaa.st
open Go.Sort Go.ChangeShapes Go.WideShapes Go.ChangeAt Go.RowKit
set_option linter.unusedVariables false

/-- a class, as its tree -/
theorem class_tell (u : ByteArray) (hu : u.size ≤ 512) (i o a : Nat) (hi : i ≤ u.size) :
    (∃ q i', i ≤ i' ∧ i' ≤ u.size ∧ cls (suf u i) = .ok q (suf u i') ∧ Mv 44 [] u i o 0 a (nodeV q) i' 0 a) ∨
    (∃ er s, s ≤ u.size ∧ cls (suf u i) = .bad er (suf u s) ∧ ∀ g w, Pb w g u i o 0 a → Calls Try.prog 44 #[.pointer (some ⟨g, 0, none⟩)] w fun e w' => ∃ q i', e = .returned (nodeV q) ∧ Pb w' g u i' o er s ∧ w.grownBy w' (some g) ∧ er ≠ 0 ∧ i ≤ i' ∧ i' ≤ u.size) := by
  have hw : ∀ g w, Pb w g u i o 0 a → Calls Try.prog 44 #[.pointer (some ⟨g, 0, none⟩)] w (OutC (cls (suf u i)) u g o a i w) := by
    cases hs : sees [94] (suf u i) with
    | false =>
      refine class_walk u hu i i o a false (Nat.le_refl _) hi (take_no u i o a (by omega) hi 94 (by decide) hs) _ ?_
      simp only [cls, hs]
      rfl
    | true =>
      have hin := sees_lt hs
      refine class_walk u hu i (i + 1) o a true (by omega) hin (take_yes u i o a (by omega) hi 94 (by decide) hs) _ ?_
      simp only [cls, hs, if_true, suf_tail u i hin]
  cases hc : cls (suf u i) with
  | ok q l =>
    rw [hc] at hw
    obtain ⟨i', rfl, h1, h2⟩ : ∃ i', l = suf u i' ∧ i ≤ i' ∧ i' ≤ u.size := by
      obtain ⟨p, hp⟩ := cls_loc.suf _ _ _ hc
      have hl := congrArg List.length hp
      rw [List.length_append, suf_length] at hl
      refine ⟨i + p.length, ?_, by omega, by omega⟩
      unfold suf at hp ⊢
      rw [← List.drop_drop, ← hp]
      simp
    refine .inl ⟨q, i', h1, h2, rfl, fun g w h => (hw g w h).mono ?_⟩
    rintro e w' (⟨q2, j, k1, k2, k3, k4, k5, k6⟩ | ⟨er, s, q2, j, k0, k1, _⟩)
    · injection k1 with k7 k8
      have := suf_inj u _ _ h2 k3 k8
      subst this
      subst k7
      exact ⟨k4, k5, k6⟩
    · cases k1
  | bad er l =>
    rw [hc] at hw
    obtain ⟨s, rfl, h2⟩ : ∃ s, l = suf u s ∧ s ≤ u.size := by
      obtain ⟨p, hp⟩ := cls_loc.sufb _ _ _ hc
      have hl := congrArg List.length hp
      rw [List.length_append, suf_length] at hl
      refine ⟨i + p.length, ?_, by omega⟩
      unfold suf at hp ⊢
      rw [← List.drop_drop, ← hp]
      simp
    refine .inr ⟨er, s, h2, rfl, fun g w h => (hw g w h).mono ?_⟩
    rintro e w' (⟨q2, j, k1, _⟩ | ⟨er2, s2, q2, j, k0, k1, k2, k3, k4, k5, k6, k7⟩)
    · cases k1
    · injection k1 with k8 k9
      have := suf_inj u _ _ h2 k2 k9
      subst this
      subst k8
      exact ⟨q2, j, k5, k6, k7, k0, k3, k4⟩
end Go.Proofs.Ytjfnefmolhihaaa.st

namespace Go.Proofs.Ytjfnefmolhihaaa.st
open Go.Sort Go.ChangeShapes Go.WideShapes Go.ChangeAt Go.RowKit
set_option linter.unusedVariables false

theorem badP_zero {u : ByteArray} {i o a er : Nat} (hi : i ≤ u.size) (her : er ≠ 0) (h : ∀ g w, Pb w g u i o 0 a → Calls Try.prog 38 #[.pointer (some ⟨g, 0, none⟩)] w fun e w' => e = .returned (treeV Tr.zero (.slice none 0 0)) ∧ Pb w' g u i o er i ∧ w.grownBy w' (some g)) : BadP 1 38 u i o a er i :=
  fun g w hp => (h g w hp).mono (by
    rintro e w' ⟨rfl, h1, h2⟩
    exact ⟨Tr.zero, _, i, rfl, .leaf _ _ _ _ _ _, h1, h2, her, Nat.le_refl _, hi, by show Tr.nodes Tr.zero ≤ _; simp only [Tr.zero, Tr.nodes, nodesOf]; omega⟩)
theorem badP_node {u : ByteArray} {i o a er s k : Nat} {q : Q4} (h1 : i ≤ k) (h2 : k ≤ u.size) (her : er ≠ 0) (h : Mv 38 [] u i o 0 a (nodeV q) k er s) : BadP 1 38 u i o a er s :=
  fun g w hp => (h g w hp).mono (by
    rintro e w' ⟨rfl, k1, k2⟩
    exact ⟨.node 1 q 0 0 [], _, k, rfl, .leaf _ _ _ _ _ _, k1, k2, her, h1, h2, by simp only [Tr.nodes, nodesOf]; omega⟩)
theorem okP_node {u : ByteArray} {i o a k : Nat} {q : Q4} (h : Mv 38 [] u i o 0 a (nodeV q) k 0 a) : OkP 38 u i o a (.node 1 q 0 0 []) k :=
  fun g w hp => (h g w hp).mono (by
    rintro e w' ⟨rfl, k1, k2⟩
    exact ⟨_, rfl, .leaf _ _ _ _ _ _, k1, k2⟩)

theorem atom_tell (u : ByteArray) (hu : u.size ≤ 512) (i o a d : Nat) (hi : i ≤ u.size) (hod : o + d = 30) (hal : ∀ e, d = e + 1 → ∀ j, j ≤ u.size → TellP 13 3 u j (o + 1) a (altOf (group e) (suf u j))) :
    TellP 38 1 u i o a (atom (group d) (suf u i)) := by
  have hu2 : u.size ≤ 1000 := by omega
  unfold atom
  cases hs40 : sees [40] (suf u i) with
  | true =>
    have hin := sees_lt hs40
    have n0 := now_any u i o a hu2 hi _ rfl
    have h40 : hd (suf u i) = 40 := by have := sees_one (suf u i) 40; rw [hs40] at this; simpa using this
    rw [h40] at n0
    rw [if_pos rfl]
    cases d with
    | zero => exact .inr ⟨2, i, hi, rfl, badP_zero hi (by decide) (atom_deep u i o a (by omega) n0)⟩
    | succ e =>
      have hg : group (e + 1) (suf u i) = (altOf (group e) (suf u (i + 1))).then fun t l2 => (oneOf [41] l2).then fun _ l3 => .ok t l3 := by
        rw [group, oneOf_hit hin hs40]
        rfl
      rw [hg]
      rcases hal e rfl (i + 1) hin with ⟨T, k, k1, k2, k3, k4, k5⟩ | ⟨er, q, k2, k3, k5⟩
      · rw [k3]
        simp only [R.then]
        cases hs41 : sees [41] (suf u k) with
        | true =>
          have hin1 := sees_lt hs41
          rw [oneOf_hit hin1 hs41]
          have m := must_yes u k (o + 1) a hu2 k2 41 (by decide) hs41
          exact .inl ⟨T, k + 1, by omega, hin1, rfl, by omega, atom_grp u i (i + 1) k (k + 1) o (o + 1) a 0 a T (by omega) rfl rfl (by omega) n0 k5 m⟩
        | false =>
          rw [oneOf_miss hs41]
          have m := must_no u k (o + 1) a hu2 k2 41 (by decide) hs41
          refine .inr ⟨60, k, k2, rfl, fun g w hp => (atom_grp u i (i + 1) k k o (o + 1) a 60 k T (by omega) rfl rfl (by omega) n0 k5 m g w hp).mono ?_⟩
          rintro e w' ⟨v, h1, h2, h3, h4⟩
          exact ⟨T, v, k, h1, h2, h3, h4, by decide, by omega, k2, by omega⟩
      · rw [k3]
        exact .inr ⟨er, q, k2, rfl, atom_grpbad u i (i + 1) o (o + 1) a er q (by omega) rfl rfl (by omega) n0 k5 (fun her k => must_dead u k (o + 1) er q her 41)⟩
  | false =>
    rw [if_neg (by decide)]
    have n0 := now_any u i o a hu2 hi _ rfl
    unfold single
    cases hs91 : sees [91] (suf u i) with
    | true =>
      have hin := sees_lt hs91
      have h91 : hd (suf u i) = 91 := by have := sees_one (suf u i) 91; rw [hs91] at this; simpa using this
      rw [h91] at n0
      have t91 := take_yes u i o a hu2 hi 91 (by decide) hs91
      rw [if_pos rfl, suf_tail u i hin]
      rcases class_tell u hu (i + 1) o a hin with ⟨q, k, k1, k2, k3, m⟩ | ⟨er, s, k2, k3, m⟩
      · rw [k3]
        exact .inl ⟨_, k, by omega, k2, rfl, by simp only [Tr.nodes, nodesOf]; omega, okP_node (atom_cls u i (i + 1) k o a q n0 t91 m)⟩
      · rw [k3]
        exact .inr ⟨er, s, k2, rfl, atom_clsbad u i (i + 1) o a er s (by omega) n0 t91 m⟩
    | false =>
      have t91 := take_no u i o a hu2 hi 91 (by decide) hs91
      rw [if_neg (by decide)]
      cases hs46 : sees [46] (suf u i) with
      | true =>
        have hin := sees_lt hs46
        have h46 : hd (suf u i) = 46 := by have := sees_one (suf u i) 46; rw [hs46] at this; simpa using this
        rw [h46] at n0
        have t46 := take_yes u i o a hu2 hi 46 (by decide) hs46
        rw [if_pos rfl, suf_tail u i hin]
        exact .inl ⟨_, i + 1, by omega, hin, rfl, by simp only [Tr.nodes, nodesOf]; omega, okP_node (atom_dot u i (i + 1) 0 o a dotSet (ofl [10]) n0 t91 t46 (sp.rof_any ⟨#[10]⟩ (by decide) _ rfl) (sp.rnot_any _ _ (fits_ofl _) rfl))⟩
      | false =>
        have t46 := take_no u i o a hu2 hi 46 (by decide) hs46
        rw [if_neg (by decide)]
        cases hs92 : sees [92] (suf u i) with
        | true =>
          have hin := sees_lt hs92
          have h92 : hd (suf u i) = 92 := by have := sees_one (suf u i) 92; rw [hs92] at this; simpa using this
          have hc92 : u[i].toNat = 92 := by have := sees_head hin hs92; simpa using this
          rw [h92] at n0
          have t92 := take_yes u i o a hu2 hi 92 (by decide) hs92
          have n1 := now_any u (i + 1) o a hu2 hin _ rfl
          have rest : kind (suf u i) = none → KndIs (hd (suf u (i + 1))) none4 false → TellP 38 1 u i o a (R.then (match kind (suf u i) with | some x => .ok x.1 x.2 | none => (point signs (suf u i)).then fun b l1 => .ok (rng b b) l1) fun q l1 => .ok (.node 1 q 0 0 []) l1) := by
            intro hk kn
            rw [hk]
            have hp : point signs (suf u i) = one (suf u (i + 1)) := by unfold point; rw [hs92, if_pos rfl, suf_tail u i hin]
            simp only [hp]
            rcases one_all u (i + 1) o a hu2 hin with ⟨b, k, k1, k2, k3, k4, m⟩ | ⟨er, s, k, b, k1, k2, k3, k4, k5, m⟩
            · rw [k3]
              exact .inl ⟨_, k, by omega, k2, rfl, by simp only [Tr.nodes, nodesOf]; omega, okP_node (atom_one u i (i + 1) k o a b 0 a n0 t91 t46 t92 _ n1 kn m (sgl_any b k4 _ rfl))⟩
            · rw [k4]
              exact .inr ⟨er, s, k2, rfl, badP_node (by omega) k3.2 k1 (atom_one u i (i + 1) k o a b er s n0 t91 t46 t92 _ n1 kn m (sgl_any b k5 _ rfl))⟩
          by_cases hj1 : i + 1 < u.size
          · have hsf := suf_in u (i + 1) hj1
            rcases knd_nat u[i + 1].toNat with ⟨q, hk1, hqf, kn⟩ | ⟨hk1, kn⟩
            · have hk : kind (suf u i) = some (q, suf u (i + 2)) := by rw [suf_in u i hin, hsf, hc92]; simp [kind, hk1]
              rw [hk]
              rw [hsf] at n1
              exact .inl ⟨_, i + 2, by omega, hj1, rfl, by simp only [Tr.nodes, nodesOf]; omega, okP_node (atom_kind u i (i + 1) (i + 2) o a q (by omega) rfl n0 t91 t46 t92 _ n1 kn)⟩
            · refine rest ?_ ?_
              · rw [suf_in u i hin, hsf, hc92]; simp [kind, hk1]
              · rw [hsf]; exact kn
          · refine rest ?_ ?_
            · rw [suf_in u i hin, suf_out u (i + 1) (by omega)]; rfl
            · rw [suf_out u (i + 1) (by omega)]; exact knd_end
        | false =>
          have t92 := take_no u i o a hu2 hi 92 (by decide) hs92
          have hk : kind (suf u i) = none := by
            by_cases hin : i < u.size
            · rw [suf_in u i hin] at hs92 ⊢
              have h1 : u[i].toNat ≠ 92 := by have := of_decide_eq_false hs92; simpa using this
              cases suf u (i + 1) <;> simp [kind, h1]
            · rw [suf_out u i (by omega)]; rfl
          have hp : point signs (suf u i) = noneOf signs (suf u i) := by unfold point; rw [hs92]; rfl
          rw [hk]
          simp only [hp]
          unfold noneOf
          by_cases hin : i < u.size
          · have hlt : u[i].toNat < 256 := u[i].toNat_lt
            have h40 : u[i].toNat ≠ 40 := by rw [suf_in u i hin] at hs40; have := of_decide_eq_false hs40; simpa using this
            rw [suf_in u i hin] at n0 ⊢
            by_cases hsg : u[i].toNat ∈ signs
            · have e : sees signs (u[i].toNat :: suf u (i + 1)) = true := decide_eq_true hsg
              rw [e]
              refine .inr ⟨60, i, hi, by rw [suf_in u i hin]; rfl, badP_zero hi (by decide) (atom_sign u i o a _ h40 n0 t91 t46 t92 (sign_yes _ hsg))⟩
            · have e : sees signs (u[i].toNat :: suf u (i + 1)) = false := decide_eq_false hsg
              rw [e]
              exact .inl ⟨_, i + 1, by omega, hin, rfl, by simp only [Tr.nodes, nodesOf]; omega, okP_node (atom_lit u i (i + 1) 0 o a _ hlt (by omega) rfl h40 n0 t91 t46 t92 (sign_not _ hsg) (sgl_any _ hlt _ rfl))⟩
          · have he : suf u i = [] := suf_out u i (by omega)
            rw [he] at n0
            refine .inr ⟨60, i, hi, by rw [he]; rfl, badP_zero hi (by decide) (atom_end u i o a n0 t91 t46 t92)⟩
end Go.Proofs.Ytjfnefmolhihaaa.st

namespace Go.Proofs.Ytjfnefmolhihaaa.st
open Go.Sort Go.ChangeShapes Go.WideShapes Go.ChangeAt Go.RowKit
set_option linter.unusedVariables false

/-- where the bounds leave the reader: read, or wrong -/
def FinB (u : ByteArray) (j a : Nat) (x : Int × Int) (j' b' a' : Nat) : Prop :=
  j ≤ j' ∧ j' ≤ u.size ∧ ((b' = 0 ∧ a' = a ∧ bounds (suf u j) = .ok x (suf u j')) ∨ (b' ≠ 0 ∧ a' ≤ u.size ∧ bounds (suf u j) = .bad b' (suf u a')))

theorem bounds_steps (u : ByteArray) (j o a : Nat) (hu : u.size ≤ 1000) (hj : j ≤ u.size) :
    (∃ lo j1 b1 a1 j2 b2 a2, lo ≤ 99 ∧ Mv 39 [.int .i64 0] u j o 0 a (.int .i64 (lo : Nat)) j1 b1 a1 ∧ Mv 24 [.int .u8 44] u j1 o b1 a1 (.bool false) j1 b1 a1 ∧ Mv 40 [.int .u8 125] u j1 o b1 a1 (.tuple #[]) j2 b2 a2 ∧ FinB u j a ((lo : Int), (lo : Int)) j2 b2 a2) ∨
    (∃ lo j1, lo ≤ 99 ∧ j1 + 2 ≤ u.size ∧ Mv 39 [.int .i64 0] u j o 0 a (.int .i64 (lo : Nat)) j1 0 a ∧ Mv 24 [.int .u8 44] u j1 o 0 a (.bool true) (j1 + 1) 0 a ∧ Mv 30 [] u (j1 + 1) o 0 a (.int .i64 125) (j1 + 1) 0 a ∧ Mv 40 [.int .u8 125] u (j1 + 1) o 0 a (.tuple #[]) (j1 + 2) 0 a ∧ FinB u j a ((lo : Int), -1) (j1 + 2) 0 a) ∨
    (∃ lo j1 z hi j3 b3 a3 j4 b4 a4, lo ≤ 99 ∧ hi ≤ 99 ∧ j1 + 1 ≤ u.size ∧ z ≠ 125 ∧ Mv 39 [.int .i64 0] u j o 0 a (.int .i64 (lo : Nat)) j1 0 a ∧ Mv 24 [.int .u8 44] u j1 o 0 a (.bool true) (j1 + 1) 0 a ∧ Mv 30 [] u (j1 + 1) o 0 a (.int .i64 z) (j1 + 1) 0 a ∧ Mv 39 [.int .i64 (lo : Nat)] u (j1 + 1) o 0 a (.int .i64 (hi : Nat)) j3 b3 a3 ∧ Mv 40 [.int .u8 125] u j3 o b3 a3 (.tuple #[]) j4 b4 a4 ∧ FinB u j a ((lo : Int), (hi : Int)) j4 b4 a4) := by
  unfold FinB bounds
  rcases num_all 0 (by decide) u j o a hu hj with ⟨lo, j1, k1, k2, k3, k4, m1⟩ | ⟨e, q, j1, lo, k1, k2, k3, k4, k5, m1⟩
  · have k4' : lo ≤ 20 := k4
    rw [k3]
    simp only [R.then]
    cases hs : sees [44] (suf u j1) with
    | false =>
      have t1 := take_no u j1 o a hu k2 44 (by decide) hs
      simp only [Bool.false_eq_true, if_false]
      cases hs2 : sees [125] (suf u j1) with
      | true =>
        have hin := sees_lt hs2
        exact .inl ⟨lo, j1, 0, a, j1 + 1, 0, a, by omega, m1, t1, must_yes u j1 o a hu k2 125 (by decide) hs2, by omega, hin, .inl ⟨rfl, rfl, by rw [oneOf_hit hin hs2]⟩⟩
      | false => exact .inl ⟨lo, j1, 0, a, j1, 60, j1, by omega, m1, t1, must_no u j1 o a hu k2 125 (by decide) hs2, by omega, k2, .inr ⟨by decide, k2, by rw [oneOf_miss hs2]⟩⟩
    | true =>
      have hin := sees_lt hs
      have t1 := take_yes u j1 o a hu k2 44 (by decide) hs
      have n1 := now_any u (j1 + 1) o a hu hin _ rfl
      simp only [if_true]
      rw [suf_tail u j1 hin]
      cases hs2 : sees [125] (suf u (j1 + 1)) with
      | true =>
        have hin2 := sees_lt hs2
        have h125 : hd (suf u (j1 + 1)) = 125 := by have := sees_one (suf u (j1 + 1)) 125; rw [hs2] at this; simpa using this
        have hsd : sees digits (suf u (j1 + 1)) = false := by rw [hd_digit, h125]; decide
        rw [h125] at n1
        refine .inr (.inl ⟨lo, j1, by omega, hin2, m1, t1, n1, must_yes u (j1 + 1) o a hu hin 125 (by decide) hs2, by omega, hin2, .inl ⟨trivial, trivial, ?_⟩⟩)
        rw [hsd]
        simp only [Bool.false_eq_true, if_false]
        rw [oneOf_hit hin2 hs2]
      | false =>
        have hz : hd (suf u (j1 + 1)) ≠ 125 := by have := sees_one (suf u (j1 + 1)) 125; rw [hs2] at this; simpa using this
        rcases num_all lo (by omega) u (j1 + 1) o a hu hin with ⟨hi, j3, p1, p2, p3, p4, m2⟩ | ⟨e, q, j3, hi, p1, p2, p3, p4, p5, m2⟩
        · have p4' : hi ≤ 20 := p4
          have hsd : sees digits (suf u (j1 + 1)) = true := by
            cases h : sees digits (suf u (j1 + 1)) with
            | true => rfl
            | false => rw [num_eq, oneOf_miss h] at p3; cases p3
          rw [hsd]
          simp only [if_true]
          rw [p3]
          simp only
          cases hs3 : sees [125] (suf u j3) with
          | true =>
            have hin3 := sees_lt hs3
            exact .inr (.inr ⟨lo, j1, _, hi, j3, 0, a, j3 + 1, 0, a, by omega, by omega, hin, hz, m1, t1, n1, m2, must_yes u j3 o a hu p2 125 (by decide) hs3, by omega, hin3, .inl ⟨rfl, rfl, by rw [oneOf_hit hin3 hs3]⟩⟩)
          | false => exact .inr (.inr ⟨lo, j1, _, hi, j3, 0, a, j3, 60, j3, by omega, by omega, hin, hz, m1, t1, n1, m2, must_no u j3 o a hu p2 125 (by decide) hs3, by omega, p2, .inr ⟨by decide, p2, by rw [oneOf_miss hs3]⟩⟩)
        · refine .inr (.inr ⟨lo, j1, _, hi, j3, e, q, j3, e, q, by omega, p5, hin, hz, m1, t1, n1, m2, must_dead u j3 o e q p1 125, by omega, p3.2, .inr ⟨p1, p2, ?_⟩⟩)
          cases hsd : sees digits (suf u (j1 + 1)) with
          | true =>
            simp only [if_true]
            rw [p4]
          | false =>
            simp only [Bool.false_eq_true, if_false]
            rw [oneOf_miss hs2]
            rw [num_eq, oneOf_miss hsd] at p4
            injection (show (R.bad 60 (suf u (j1 + 1)) : R Nat) = R.bad e (suf u q) from p4) with e1 e2
            rw [← e1, ← e2]
  · refine .inl ⟨lo, j1, e, q, j1, e, q, k5, m1, take_dead u j1 o e q k1 44 (by decide), must_dead u j1 o e q k1 125, k3.1, k3.2, .inr ⟨k1, k2, ?_⟩⟩
    rw [k4]
    rfl
end Go.Proofs.Ytjfnefmolhihaaa.st

namespace Go.Proofs.Ytjfnefmolhihaaa.st
open Go.Sort Go.ChangeShapes Go.WideShapes Go.ChangeAt Go.RowKit
set_option linter.unusedVariables false

/-- what stands between two steps of item -/
structure Ist (w V : World) (u : ByteArray) (g j o b a N : Nat) (t : Tr) (va : Option Addr) (vn vc : Nat) : Prop where
  pb : Pb V g u j o b a
  box : Box V N t (.slice va vn vc)
  zero : Box V w.heap.size Tr.zero (.slice none 0 0)
  is : Is V (fun b => w.heap.size < b ∧ b ≠ N) t (.slice va vn vc)
  t : w.grownBy V (some g)
section
variable {w V V' : World} {u : ByteArray} {g j o b a j' b' a' N : Nat} {t : Tr} {va : Option Addr} {vn vc : Nat}
theorem Ist.call (h : Ist w V u g j o b a N t va vn vc) (hg : g < w.heap.size) (hN : w.heap.size < N) (pb : Pb V' g u j' o b' a') (s : V.grownBy V' (some g)) : Ist w V' u g j' o b' a' N t va vn vc :=
  ⟨pb, Box.keep h.box s (by omega), Box.keep h.zero s (by omega), h.is.carry s.size (fun _ hb _ => hb) (fun b hb hlt => s.block b hlt (fun e => by have := Option.some.inj e; omega)), touch_trans h.t s⟩
theorem Ist.again (h : Ist w V u g j o b a N t va vn vc) (hg : g < w.heap.size) (hN : w.heap.size < N) (mn mx : Int) {W : World} (hW : (V.alloc (.cells #[.int .i64 t.kind, .int .u64 t.set.a, .int .u64 t.set.b, .int .u64 t.set.c, .int .u64 t.set.d, .int .i64 t.min, .int .i64 t.max, .slice va vn vc] 28)).grownBy W (some N)) (hb : Box W N (.node 4 none4 mn mx [t]) (.slice (some ⟨V.heap.size, 0, none⟩) 1 1)) :
    Ist w W u g j o b a N (.node 4 none4 mn mx [t]) (some ⟨V.heap.size, 0, none⟩) 1 1 := by
  have hNV := h.box.lt
  have bl := below_alloc V (.cells #[.int .i64 t.kind, .int .u64 t.set.a, .int .u64 t.set.b, .int .u64 t.set.c, .int .u64 t.set.d, .int .i64 t.min, .int .i64 t.max, .slice va vn vc] 28)
  have kE := Box.keep (box_new V t (.slice va vn vc)) hW (by omega)
  have iE := (h.is.later bl).carry hW.size (fun _ hb _ => hb) (fun b hb hlt => hW.block b hlt (fun e => hb.2 (Option.some.inj e)))
  have hz := h.zero.lt
  refine ⟨(h.pb.later bl).other hW (by omega), hb, Box.keep (h.zero.below bl) hW (by omega), ?_, touch_over (touch_trans h.t (touch_below _ bl)) hW (by omega)⟩
  refine Is.node 4 none4 mn mx [t] V.heap.size 0 1 (fun _ => .slice va vn vc) (by simp) (by decide) kE.lt ⟨hz, by omega⟩ ?_ ?_
  · intro i hi
    obtain rfl : i = 0 := by simp at hi; omega
    exact kE.cells
  · intro i hi
    obtain rfl : i = 0 := by simp at hi; omega
    exact iE
end
/-- what is still to be read of an item -/
def ItRel (u : ByteArray) (a : Nat) (res : R Tr) (t : Tr) (j b at_ : Nat) : Prop :=
  (b = 0 ∧ at_ = a ∧ ∃ n, u.size - j < n ∧ res = reps n t (suf u j)) ∨ (b ≠ 0 ∧ at_ ≤ u.size ∧ res = .bad b (suf u at_))
theorem it_ok {u : ByteArray} {a : Nat} {res : R Tr} {t : Tr} {j j' : Nat} {x : Int × Int} (h : ItRel u a res t j 0 a) (hs : sees [42, 43, 63, 123] (suf u j) = true) (hj : j < j') (hj2 : j' ≤ u.size) (hx : times (suf u j) = .ok x (suf u j')) : ItRel u a res (again t x) j' 0 a := by
  rcases h with ⟨_, _, n, hn, hr⟩ | ⟨h, _⟩
  · obtain ⟨n, rfl⟩ : ∃ m, n = m + 1 := ⟨n - 1, by omega⟩
    refine .inl ⟨rfl, rfl, n, by omega, ?_⟩
    rw [hr, reps, hs, hx]
    rfl
  · exact absurd rfl h
theorem it_bad {u : ByteArray} {a : Nat} {res : R Tr} {t t' : Tr} {j j' b' a' : Nat} (h : ItRel u a res t j 0 a) (hs : sees [42, 43, 63, 123] (suf u j) = true) (hb : b' ≠ 0) (ha : a' ≤ u.size) (hx : times (suf u j) = .bad b' (suf u a')) : ItRel u a res t' j' b' a' := by
  rcases h with ⟨_, _, n, hn, hr⟩ | ⟨h, _⟩
  · obtain ⟨n, rfl⟩ : ∃ m, n = m + 1 := ⟨n - 1, by omega⟩
    refine .inr ⟨hb, ha, ?_⟩
    rw [hr, reps, hs, hx]
    rfl
  · exact absurd rfl h
theorem it_fin {u : ByteArray} {a : Nat} {res : R Tr} {t : Tr} {j j' b' a' : Nat} {x : Int × Int} (h : ItRel u a res t j 0 a) (hin : j < u.size) (h123 : u[j].toNat = 123) (F : FinB u (j + 1) a x j' b' a') : ItRel u a res (again t x) j' b' a' := by
  have hs : sees [42, 43, 63, 123] (suf u j) = true := by rw [suf_in u j hin, h123]; rfl
  have ht : times (suf u j) = bounds (suf u (j + 1)) := by rw [suf_in u j hin, h123]; rfl
  obtain ⟨h1, h2, ⟨rfl, rfl, h4⟩ | ⟨h3, h4, h5⟩⟩ := F
  · exact it_ok h hs (by omega) h2 (ht.trans h4)
  · exact it_bad h hs h3 h4 (ht.trans h5)

set_option maxHeartbeats 8000000 in
set_option maxRecDepth 100000 in
theorem item_out (u : ByteArray) (hu : u.size ≤ 512) (i j0 o a : Nat) (T : Tr) (hij : i ≤ j0) (hj0 : j0 ≤ u.size) (hT : T.nodes ≤ 2 * (j0 - i) + 1) (h38 : OkP 38 u i o a T j0) (res : R Tr) (hres : res = reps (u.size - j0 + 1) T (suf u j0)) :
    ∀ g w, Pb w g u i o 0 a → Calls Try.prog 31 #[.pointer (some ⟨g, 0, none⟩)] w (OutP 1 res u g o a i w) := by
  intro g w h
  have hu2 : u.size ≤ 1000 := by omega
  have hg := h.lt
  have HR : Hid (res = reps (u.size - j0 + 1) T (suf u j0)) := hres
  clear hres
  have h0 := fun o => h.later (below_alloc w o)
  have z0 := box_new w Tr.zero (.slice none 0 0)
  unfold OkP at h38
  go_enter Try.func31, Try.ntmps31
  go_wp2_with (first | (go_at_call 38; refine (h38 _ _ (h0 _)).mono ?_; rintro e w1 ⟨v, rfl, i1, h1, t1⟩; obtain ⟨va, vn, vc, rfl⟩ := i1.shape))
  have z1 := Box.keep z0 t1 (by omega)
  obtain ⟨N, hNe⟩ : ∃ N, N = w1.heap.size := ⟨_, rfl⟩
  have hN : w.heap.size < N := by rw [hNe]; exact z1.lt
  have hsz : w.heap.size + 1 ≤ w1.heap.size := z1.lt
  obtain ⟨X, hX⟩ : ∃ X, X = w1.alloc (.cells #[.int .i64 T.kind, .int .u64 T.set.a, .int .u64 T.set.b, .int .u64 T.set.c, .int .u64 T.set.d, .int .i64 T.min, .int .i64 T.max, .slice va vn vc] 28) := ⟨_, rfl⟩
  have ist0 : Ist w X u g j0 o 0 a N T va vn vc := by
    rw [hX, hNe]
    refine ⟨h1.later (below_alloc _ _), box_new w1 T _, z1.below (below_alloc _ _), ?_, touch_trans (touch_trans (touch_alloc (touch_refl _ _) _) t1) (touch_below _ (below_alloc _ _))⟩
    exact (i1.carry (Nat.le_refl _) (P' := fun b => w.heap.size < b ∧ b ≠ w1.heap.size) (fun b hb hlt => by simp at hb; exact ⟨by omega, by omega⟩) (fun _ _ _ => rfl)).later (below_alloc _ _)
  rw [← hX, ← hNe]
  clear hX hNe z1 h1 t1 z0 h0 h38 h i1 hsz
  go_loopw [4, 5] (fun _ _ wr => ∃ (t : Tr) (va : Option Addr) (vn vc j b at_ : Nat), Ist w wr u g j o b at_ N t va vn vc ∧ i ≤ j ∧ j ≤ u.size ∧ t.nodes ≤ 2 * (j - i) + 1 ∧ Hid (ItRel u a res t j b at_)) (fun _ _ wr => left u.size wr g)
  case atStart => exact ⟨T, va, vn, vc, j0, 0, a, ist0, hij, hj0, hT, .inl ⟨rfl, rfl, _, by omega, HR.out⟩⟩
  case round =>
    clear ist0 HR
    obtain ⟨t, va, vn, vc, j, b, at_, ist, hij, hju, hnt, HI⟩ := hrel
    have hw := ist.pb.pl
    have hw2 := ist.pb.bd
    have HL : Hid (left u.size wr g = 2 * (u.size - j) + (if b = 0 then 1 else 0)) := by show _ = _; unfold left; rw [hw, hw2]
    clear hw hw2
    have c3 := ist.pb.c3
    have hag : ∀ x, (again t x).nodes ≤ t.nodes + 1 := again_nodes t
    by_cases hb : b = 0
    · subst hb
      obtain rfl : a = at_ := by rcases HI.out with ⟨_, h, _⟩ | ⟨h, _⟩; exact h.symm; exact absurd rfl h
      cases s42 : sees [42] (suf u j) with
      | true =>
        have t42 : Mv 24 [.int .u8 42] u j o 0 a (.bool true) (j + 1) 0 a := take_yes u j o a hu2 hju 42 (by decide) s42
        have hin := sees_lt s42
        have hc : u[j].toNat = 42 := by have := sees_head hin s42; simpa using this
        have ea : again t (0, (-1)) = .node 4 none4 0 (-1) [t] := by unfold again; rw [if_neg (by decide)]
        have HN : Hid (ItRel u a res (again t (0, (-1))) (j + 1) 0 a) := it_ok (x := (0, (-1))) HI.out (by rw [suf_in u j hin, hc]; rfl) (by omega) hin (by rw [suf_in u j hin, hc]; rfl)
        rw [ea] at HN
        clear ea
        obtain ⟨jj, hjj⟩ : ∃ jj, jj = j + 1 := ⟨_, rfl⟩
        rw [← hjj] at HN t42
        clear HI hc
        unfold Mv at t42
        go_wp2_with (first | (go_at_call 24; (with_reducible refine (t42 _ _ ist.pb).mono ?_); rintro e w1 ⟨rfl, h1, t1⟩; replace ist := ist.call hg hN h1 t1; clear h1 t1; have q5 := ist.box.below (below_alloc w1 (.cells #[.int .i64 t.kind, .int .u64 t.set.a, .int .u64 t.set.b, .int .u64 t.set.c, .int .u64 t.set.d, .int .i64 t.min, .int .i64 t.max, .slice va vn vc] 28)); obtain ⟨⟨c0, c1, c2, c3, c4, c5, c6, c7⟩, _⟩ := b8 ist.box; obtain ⟨⟨k0, k1, k2, k3, k4, k5, k6, k7⟩, f0, f1, f2, f3, f4, f5, f6, f7⟩ := b8 q5))
        replace ist := ist.again hg hN 0 (-1) (touch_set8 _ N (.node 4 none4 0 (-1) [t]) _) (box_set q5 (.node 4 none4 0 (-1) [t]) _)
        go_roundw
        case rel => exact ⟨_, _, _, _, jj, 0, a, ist, by omega, by omega, by have := hag (0, (-1)); simp only [Tr.nodes, nodesOf] at *; omega, HN⟩
        case measure => exact left_less HL.out ist.pb (by omega) (by omega) (fun _ => by omega)
      | false =>
        have t42 : Mv 24 [.int .u8 42] u j o 0 a (.bool false) j 0 a := take_no u j o a hu2 hju 42 (by decide) s42
        cases s43 : sees [43] (suf u j) with
        | true =>
          have t43 : Mv 24 [.int .u8 43] u j o 0 a (.bool true) (j + 1) 0 a := take_yes u j o a hu2 hju 43 (by decide) s43
          have hin := sees_lt s43
          have hc : u[j].toNat = 43 := by have := sees_head hin s43; simpa using this
          have ea : again t (1, (-1)) = .node 4 none4 1 (-1) [t] := by unfold again; rw [if_neg (by decide)]
          have HN : Hid (ItRel u a res (again t (1, (-1))) (j + 1) 0 a) := it_ok (x := (1, (-1))) HI.out (by rw [suf_in u j hin, hc]; rfl) (by omega) hin (by rw [suf_in u j hin, hc]; rfl)
          rw [ea] at HN
          clear ea
          obtain ⟨jj, hjj⟩ : ∃ jj, jj = j + 1 := ⟨_, rfl⟩
          rw [← hjj] at HN t43
          clear HI hc
          unfold Mv at t42 t43
          go_wp2_with (first | (go_at_call 24; (with_reducible refine (t42 _ _ ist.pb).mono ?_); rintro e w1 ⟨rfl, h1, t1⟩; replace ist := ist.call hg hN h1 t1; clear h1 t1) | (go_at_call 24; (with_reducible refine (t43 _ _ ist.pb).mono ?_); rintro e w1 ⟨rfl, h1, t1⟩; replace ist := ist.call hg hN h1 t1; clear h1 t1; have q5 := ist.box.below (below_alloc w1 (.cells #[.int .i64 t.kind, .int .u64 t.set.a, .int .u64 t.set.b, .int .u64 t.set.c, .int .u64 t.set.d, .int .i64 t.min, .int .i64 t.max, .slice va vn vc] 28)); obtain ⟨⟨c0, c1, c2, c3, c4, c5, c6, c7⟩, _⟩ := b8 ist.box; obtain ⟨⟨k0, k1, k2, k3, k4, k5, k6, k7⟩, f0, f1, f2, f3, f4, f5, f6, f7⟩ := b8 q5))
          replace ist := ist.again hg hN 1 (-1) (touch_set8 _ N (.node 4 none4 1 (-1) [t]) _) (box_set q5 (.node 4 none4 1 (-1) [t]) _)
          go_roundw
          case rel => exact ⟨_, _, _, _, jj, 0, a, ist, by omega, by omega, by have := hag (1, (-1)); simp only [Tr.nodes, nodesOf] at *; omega, HN⟩
          case measure => exact left_less HL.out ist.pb (by omega) (by omega) (fun _ => by omega)
        | false =>
          have t43 : Mv 24 [.int .u8 43] u j o 0 a (.bool false) j 0 a := take_no u j o a hu2 hju 43 (by decide) s43
          cases s63 : sees [63] (suf u j) with
          | true =>
            have t63 : Mv 24 [.int .u8 63] u j o 0 a (.bool true) (j + 1) 0 a := take_yes u j o a hu2 hju 63 (by decide) s63
            have hin := sees_lt s63
            have hc : u[j].toNat = 63 := by have := sees_head hin s63; simpa using this
            have ea : again t (0, 1) = .node 4 none4 0 1 [t] := by unfold again; rw [if_neg (by decide)]
            have HN : Hid (ItRel u a res (again t (0, 1)) (j + 1) 0 a) := it_ok (x := (0, 1)) HI.out (by rw [suf_in u j hin, hc]; rfl) (by omega) hin (by rw [suf_in u j hin, hc]; rfl)
            rw [ea] at HN
            clear ea
            obtain ⟨jj, hjj⟩ : ∃ jj, jj = j + 1 := ⟨_, rfl⟩
            rw [← hjj] at HN t63
            clear HI hc
            unfold Mv at t42 t43 t63
            go_wp2_with (first | (go_at_call 24; (with_reducible refine (t42 _ _ ist.pb).mono ?_); rintro e w1 ⟨rfl, h1, t1⟩; replace ist := ist.call hg hN h1 t1; clear h1 t1) | (go_at_call 24; (with_reducible refine (t43 _ _ ist.pb).mono ?_); rintro e w1 ⟨rfl, h1, t1⟩; replace ist := ist.call hg hN h1 t1; clear h1 t1) | (go_at_call 24; (with_reducible refine (t63 _ _ ist.pb).mono ?_); rintro e w1 ⟨rfl, h1, t1⟩; replace ist := ist.call hg hN h1 t1; clear h1 t1; have q5 := ist.box.below (below_alloc w1 (.cells #[.int .i64 t.kind, .int .u64 t.set.a, .int .u64 t.set.b, .int .u64 t.set.c, .int .u64 t.set.d, .int .i64 t.min, .int .i64 t.max, .slice va vn vc] 28)); obtain ⟨⟨c0, c1, c2, c3, c4, c5, c6, c7⟩, _⟩ := b8 ist.box; obtain ⟨⟨k0, k1, k2, k3, k4, k5, k6, k7⟩, f0, f1, f2, f3, f4, f5, f6, f7⟩ := b8 q5))
            replace ist := ist.again hg hN 0 1 (touch_set8 _ N (.node 4 none4 0 1 [t]) _) (box_set q5 (.node 4 none4 0 1 [t]) _)
            go_roundw
            case rel => exact ⟨_, _, _, _, jj, 0, a, ist, by omega, by omega, by have := hag (0, 1); simp only [Tr.nodes, nodesOf] at *; omega, HN⟩
            case measure => exact left_less HL.out ist.pb (by omega) (by omega) (fun _ => by omega)
          | false =>
            have t63 : Mv 24 [.int .u8 63] u j o 0 a (.bool false) j 0 a := take_no u j o a hu2 hju 63 (by decide) s63
            cases s123 : sees [123] (suf u j) with
            | false =>
              have t123 : Mv 24 [.int .u8 123] u j o 0 a (.bool false) j 0 a := take_no u j o a hu2 hju 123 (by decide) s123
              have HE : Hid (res = .ok t (suf u j)) := by
                show _ = _
                rcases HI.out with ⟨_, _, n, hn, hr⟩ | ⟨h, _⟩
                · obtain ⟨n, rfl⟩ : ∃ m, n = m + 1 := ⟨n - 1, by omega⟩
                  have hs : sees [42, 43, 63, 123] (suf u j) = false := by
                    by_cases hin : j < u.size
                    · rw [suf_in u j hin] at s42 s43 s63 s123 ⊢
                      have h1 := of_decide_eq_false s42
                      have h2 := of_decide_eq_false s43
                      have h3 := of_decide_eq_false s63
                      have h4 := of_decide_eq_false s123
                      simp only [List.mem_singleton] at h1 h2 h3 h4
                      simp [sees, h1, h2, h3, h4]
                    · rw [suf_out u j (by omega)]; rfl
                  rw [hr, reps, hs]
                  rfl
                · exact absurd rfl h
              unfold Mv at t42 t43 t63 t123
              clear HI
              go_wp2_with (first | (go_at_call 24; (with_reducible refine (t42 _ _ ist.pb).mono ?_); rintro e w1 ⟨rfl, h1, t1⟩; replace ist := ist.call hg hN h1 t1; clear h1 t1) | (go_at_call 24; (with_reducible refine (t43 _ _ ist.pb).mono ?_); rintro e w1 ⟨rfl, h1, t1⟩; replace ist := ist.call hg hN h1 t1; clear h1 t1) | (go_at_call 24; (with_reducible refine (t63 _ _ ist.pb).mono ?_); rintro e w1 ⟨rfl, h1, t1⟩; replace ist := ist.call hg hN h1 t1; clear h1 t1) | (go_at_call 24; (with_reducible refine (t123 _ _ ist.pb).mono ?_); rintro e w1 ⟨rfl, h1, t1⟩; replace ist := ist.call hg hN h1 t1; clear h1 t1; obtain ⟨⟨c0, c1, c2, c3, c4, c5, c6, c7⟩, _⟩ := b8 ist.box; obtain ⟨⟨d0, d1, d2, d3, d4, d5, d6, d7⟩, f0, f1, f2, f3, f4, f5, f6, f7⟩ := b8 ist.zero))
              refine ret28 Try.results31 w.heap.size t _ rfl (box_set ist.zero t _) rfl ?_
              exact .inl ⟨t, j, _, HE.out, hju, rfl, ist.is.carry (touch_set8 _ _ t _).size (fun b hb _ => by omega) (fun b hb hlt => (touch_set8 _ _ t _).block b hlt (fun e => by have := Option.some.inj e; omega)), ist.pb.other (touch_set8 _ _ t _) (by omega), touch_over ist.t (touch_set8 _ _ t _) (Nat.le_refl _)⟩
            | true =>
              have t123 : Mv 24 [.int .u8 123] u j o 0 a (.bool true) (j + 1) 0 a := take_yes u j o a hu2 hju 123 (by decide) s123
              have hin := sees_lt s123
              have hc : u[j].toNat = 123 := by have := sees_head hin s123; simpa using this
              clear s42 s43 s63 s123
              obtain ⟨jj, hjj⟩ : ∃ jj, jj = j + 1 := ⟨_, rfl⟩
              have hjj2 : jj ≤ u.size := by omega
              have hfin : ∀ x j' b' a', FinB u jj a x j' b' a' → ItRel u a res (again t x) j' b' a' := fun x j' b' a' F => it_fin HI.out hin hc (by rw [← hjj]; exact F)
              rw [← hjj] at t123
              clear HI hc
              unfold Mv at t42 t43 t63 t123
              rcases bounds_steps u jj o a hu2 hjj2 with ⟨lo, j1, b1, a1, j2, b2, a2, hlo, m1, tk, mu, F⟩ | ⟨lo, j1, hlo, hj1, m1, tk, n1, mu, F⟩ | ⟨lo, j1, z, hi, j3, b3, a3, j4, b4, a4, hlo, hhi, hj1, hz, m1, tk, n1, m2, mu, F⟩
              · unfold Mv at m1 tk mu
                have fj1 : jj ≤ j2 := F.1
                have fj2 : j2 ≤ u.size := F.2.1
                have HN := hfin _ _ _ _ F
                clear hfin F
                by_cases hl1 : lo = 1
                · have e1 : ((lo : Int) == 1) = true := by simp [hl1]
                  have e1b : ((lo : Int) != 1) = false := by simp [hl1]
                  have ea : again t ((lo : Int), (lo : Int)) = t := by unfold again; rw [if_pos (by simp [hl1])]
                  rw [ea] at HN
                  clear ea hl1
                  go_wp2_with (first | (go_at_call 24; (with_reducible refine (t42 _ _ ist.pb).mono ?_); rintro e w1 ⟨rfl, h1, t1⟩; replace ist := ist.call hg hN h1 t1; clear h1 t1) | (go_at_call 24; (with_reducible refine (t43 _ _ ist.pb).mono ?_); rintro e w1 ⟨rfl, h1, t1⟩; replace ist := ist.call hg hN h1 t1; clear h1 t1) | (go_at_call 24; (with_reducible refine (t63 _ _ ist.pb).mono ?_); rintro e w1 ⟨rfl, h1, t1⟩; replace ist := ist.call hg hN h1 t1; clear h1 t1) | (go_at_call 24; (with_reducible refine (t123 _ _ ist.pb).mono ?_); rintro e w1 ⟨rfl, h1, t1⟩; replace ist := ist.call hg hN h1 t1; clear h1 t1) | (go_at_call 39; (with_reducible refine (m1 _ _ ist.pb).mono ?_); rintro e w1 ⟨rfl, h1, t1⟩; replace ist := ist.call hg hN h1 t1; clear h1 t1) | (go_at_call 24; (with_reducible refine (tk _ _ ist.pb).mono ?_); rintro e w1 ⟨rfl, h1, t1⟩; replace ist := ist.call hg hN h1 t1; clear h1 t1) | (go_at_call 40; (with_reducible refine (mu _ _ ist.pb).mono ?_); rintro e w1 ⟨rfl, h1, t1⟩; replace ist := ist.call hg hN h1 t1; clear h1 t1))
                  go_roundw
                  case rel => exact ⟨_, _, _, _, j2, b2, a2, ist, by omega, by omega, by omega, HN⟩
                  case measure => exact left_less HL.out ist.pb (by omega) (by omega) (fun _ => by omega)
                · have e1 : ((lo : Int) == 1) = false := by rw [beq_eq_false_iff_ne]; omega
                  have e1b : ((lo : Int) != 1) = true := by rw [bne_iff_ne]; omega
                  have ea : again t ((lo : Int), (lo : Int)) = .node 4 none4 lo lo [t] := by unfold again; rw [if_neg (by omega)]
                  rw [ea] at HN
                  clear ea hl1
                  go_wp2_with (first | (go_at_call 24; (with_reducible refine (t42 _ _ ist.pb).mono ?_); rintro e w1 ⟨rfl, h1, t1⟩; replace ist := ist.call hg hN h1 t1; clear h1 t1) | (go_at_call 24; (with_reducible refine (t43 _ _ ist.pb).mono ?_); rintro e w1 ⟨rfl, h1, t1⟩; replace ist := ist.call hg hN h1 t1; clear h1 t1) | (go_at_call 24; (with_reducible refine (t63 _ _ ist.pb).mono ?_); rintro e w1 ⟨rfl, h1, t1⟩; replace ist := ist.call hg hN h1 t1; clear h1 t1) | (go_at_call 24; (with_reducible refine (t123 _ _ ist.pb).mono ?_); rintro e w1 ⟨rfl, h1, t1⟩; replace ist := ist.call hg hN h1 t1; clear h1 t1) | (go_at_call 39; (with_reducible refine (m1 _ _ ist.pb).mono ?_); rintro e w1 ⟨rfl, h1, t1⟩; replace ist := ist.call hg hN h1 t1; clear h1 t1) | (go_at_call 24; (with_reducible refine (tk _ _ ist.pb).mono ?_); rintro e w1 ⟨rfl, h1, t1⟩; replace ist := ist.call hg hN h1 t1; clear h1 t1) | (go_at_call 40; (with_reducible refine (mu _ _ ist.pb).mono ?_); rintro e w1 ⟨rfl, h1, t1⟩; replace ist := ist.call hg hN h1 t1; clear h1 t1; have q5 := ist.box.below (below_alloc w1 (.cells #[.int .i64 t.kind, .int .u64 t.set.a, .int .u64 t.set.b, .int .u64 t.set.c, .int .u64 t.set.d, .int .i64 t.min, .int .i64 t.max, .slice va vn vc] 28)); obtain ⟨⟨c0, c1, c2, c3, c4, c5, c6, c7⟩, _⟩ := b8 ist.box; obtain ⟨⟨k0, k1, k2, k3, k4, k5, k6, k7⟩, f0, f1, f2, f3, f4, f5, f6, f7⟩ := b8 q5))
                  replace ist := ist.again hg hN (lo : Int) (lo : Int) (touch_set8 _ N (.node 4 none4 (lo : Int) (lo : Int) [t]) _) (box_set q5 (.node 4 none4 (lo : Int) (lo : Int) [t]) _)
                  go_roundw
                  case rel => exact ⟨_, _, _, _, j2, b2, a2, ist, by omega, by omega, by have := hag ((lo : Int), (lo : Int)); simp only [Tr.nodes, nodesOf] at *; omega, HN⟩
                  case measure => exact left_less HL.out ist.pb (by omega) (by omega) (fun _ => by omega)
              · obtain ⟨jk, hjk⟩ : ∃ jk, jk = j1 + 1 := ⟨_, rfl⟩
                obtain ⟨jl, hjl⟩ : ∃ jl, jl = j1 + 2 := ⟨_, rfl⟩
                rw [← hjk] at tk n1 mu
                rw [← hjl] at mu F
                unfold Mv at m1 tk n1 mu
                have fj1 : jj ≤ jl := F.1
                have fj2 : jl ≤ u.size := F.2.1
                have HN := hfin _ _ _ _ F
                clear hfin F
                have ea : again t ((lo : Int), -1) = .node 4 none4 lo (-1) [t] := by unfold again; rw [if_neg (by simp)]
                rw [ea] at HN
                clear ea hjk hjl
                by_cases hl1 : lo = 1
                · have e1 : ((lo : Int) == 1) = true := by simp [hl1]
                  have e1b : ((lo : Int) != 1) = false := by simp [hl1]
                  clear hl1
                  go_wp2_with (first | (go_at_call 24; (with_reducible refine (t42 _ _ ist.pb).mono ?_); rintro e w1 ⟨rfl, h1, t1⟩; replace ist := ist.call hg hN h1 t1; clear h1 t1) | (go_at_call 24; (with_reducible refine (t43 _ _ ist.pb).mono ?_); rintro e w1 ⟨rfl, h1, t1⟩; replace ist := ist.call hg hN h1 t1; clear h1 t1) | (go_at_call 24; (with_reducible refine (t63 _ _ ist.pb).mono ?_); rintro e w1 ⟨rfl, h1, t1⟩; replace ist := ist.call hg hN h1 t1; clear h1 t1) | (go_at_call 24; (with_reducible refine (t123 _ _ ist.pb).mono ?_); rintro e w1 ⟨rfl, h1, t1⟩; replace ist := ist.call hg hN h1 t1; clear h1 t1) | (go_at_call 39; (with_reducible refine (m1 _ _ ist.pb).mono ?_); rintro e w1 ⟨rfl, h1, t1⟩; replace ist := ist.call hg hN h1 t1; clear h1 t1) | (go_at_call 24; (with_reducible refine (tk _ _ ist.pb).mono ?_); rintro e w1 ⟨rfl, h1, t1⟩; replace ist := ist.call hg hN h1 t1; clear h1 t1) | (go_at_call 30; (with_reducible refine (n1 _ _ ist.pb).mono ?_); rintro e w1 ⟨rfl, h1, t1⟩; replace ist := ist.call hg hN h1 t1; clear h1 t1) | (go_at_call 40; (with_reducible refine (mu _ _ ist.pb).mono ?_); rintro e w1 ⟨rfl, h1, t1⟩; replace ist := ist.call hg hN h1 t1; clear h1 t1; have q5 := ist.box.below (below_alloc w1 (.cells #[.int .i64 t.kind, .int .u64 t.set.a, .int .u64 t.set.b, .int .u64 t.set.c, .int .u64 t.set.d, .int .i64 t.min, .int .i64 t.max, .slice va vn vc] 28)); obtain ⟨⟨c0, c1, c2, c3, c4, c5, c6, c7⟩, _⟩ := b8 ist.box; obtain ⟨⟨k0, k1, k2, k3, k4, k5, k6, k7⟩, f0, f1, f2, f3, f4, f5, f6, f7⟩ := b8 q5))
                  replace ist := ist.again hg hN (lo : Int) (-1) (touch_set8 _ N (.node 4 none4 (lo : Int) (-1) [t]) _) (box_set q5 (.node 4 none4 (lo : Int) (-1) [t]) _)
                  go_roundw
                  case rel => exact ⟨_, _, _, _, jl, 0, a, ist, by omega, by omega, by have := hag ((lo : Int), (-1)); simp only [Tr.nodes, nodesOf] at *; omega, HN⟩
                  case measure => exact left_less HL.out ist.pb (by omega) (by omega) (fun _ => by omega)
                · have e1 : ((lo : Int) == 1) = false := by rw [beq_eq_false_iff_ne]; omega
                  have e1b : ((lo : Int) != 1) = true := by rw [bne_iff_ne]; omega
                  clear hl1
                  go_wp2_with (first | (go_at_call 24; (with_reducible refine (t42 _ _ ist.pb).mono ?_); rintro e w1 ⟨rfl, h1, t1⟩; replace ist := ist.call hg hN h1 t1; clear h1 t1) | (go_at_call 24; (with_reducible refine (t43 _ _ ist.pb).mono ?_); rintro e w1 ⟨rfl, h1, t1⟩; replace ist := ist.call hg hN h1 t1; clear h1 t1) | (go_at_call 24; (with_reducible refine (t63 _ _ ist.pb).mono ?_); rintro e w1 ⟨rfl, h1, t1⟩; replace ist := ist.call hg hN h1 t1; clear h1 t1) | (go_at_call 24; (with_reducible refine (t123 _ _ ist.pb).mono ?_); rintro e w1 ⟨rfl, h1, t1⟩; replace ist := ist.call hg hN h1 t1; clear h1 t1) | (go_at_call 39; (with_reducible refine (m1 _ _ ist.pb).mono ?_); rintro e w1 ⟨rfl, h1, t1⟩; replace ist := ist.call hg hN h1 t1; clear h1 t1) | (go_at_call 24; (with_reducible refine (tk _ _ ist.pb).mono ?_); rintro e w1 ⟨rfl, h1, t1⟩; replace ist := ist.call hg hN h1 t1; clear h1 t1) | (go_at_call 30; (with_reducible refine (n1 _ _ ist.pb).mono ?_); rintro e w1 ⟨rfl, h1, t1⟩; replace ist := ist.call hg hN h1 t1; clear h1 t1) | (go_at_call 40; (with_reducible refine (mu _ _ ist.pb).mono ?_); rintro e w1 ⟨rfl, h1, t1⟩; replace ist := ist.call hg hN h1 t1; clear h1 t1; have q5 := ist.box.below (below_alloc w1 (.cells #[.int .i64 t.kind, .int .u64 t.set.a, .int .u64 t.set.b, .int .u64 t.set.c, .int .u64 t.set.d, .int .i64 t.min, .int .i64 t.max, .slice va vn vc] 28)); obtain ⟨⟨c0, c1, c2, c3, c4, c5, c6, c7⟩, _⟩ := b8 ist.box; obtain ⟨⟨k0, k1, k2, k3, k4, k5, k6, k7⟩, f0, f1, f2, f3, f4, f5, f6, f7⟩ := b8 q5))
                  replace ist := ist.again hg hN (lo : Int) (-1) (touch_set8 _ N (.node 4 none4 (lo : Int) (-1) [t]) _) (box_set q5 (.node 4 none4 (lo : Int) (-1) [t]) _)
                  go_roundw
                  case rel => exact ⟨_, _, _, _, jl, 0, a, ist, by omega, by omega, by have := hag ((lo : Int), (-1)); simp only [Tr.nodes, nodesOf] at *; omega, HN⟩
                  case measure => exact left_less HL.out ist.pb (by omega) (by omega) (fun _ => by omega)
              · obtain ⟨jk, hjk⟩ : ∃ jk, jk = j1 + 1 := ⟨_, rfl⟩
                rw [← hjk] at tk n1 m2
                have ez : (z != 125) = true := by rw [bne_iff_ne]; exact hz
                unfold Mv at m1 tk n1 m2 mu
                have fj1 : jj ≤ j4 := F.1
                have fj2 : j4 ≤ u.size := F.2.1
                have HN := hfin _ _ _ _ F
                clear hfin F hjk
                by_cases hl1 : lo = 1
                · have e1 : ((lo : Int) == 1) = true := by simp [hl1]
                  have e1b : ((lo : Int) != 1) = false := by simp [hl1]
                  by_cases hh1 : hi = 1
                  · have e2 : ((hi : Int) == 1) = true := by simp [hh1]
                    have e2b : ((hi : Int) != 1) = false := by simp [hh1]
                    have ea : again t ((lo : Int), (hi : Int)) = t := by unfold again; rw [if_pos (by simp [hl1, hh1])]
                    rw [ea] at HN
                    clear ea hl1 hh1
                    go_wp2_with (first | (go_at_call 24; (with_reducible refine (t42 _ _ ist.pb).mono ?_); rintro e w1 ⟨rfl, h1, t1⟩; replace ist := ist.call hg hN h1 t1; clear h1 t1) | (go_at_call 24; (with_reducible refine (t43 _ _ ist.pb).mono ?_); rintro e w1 ⟨rfl, h1, t1⟩; replace ist := ist.call hg hN h1 t1; clear h1 t1) | (go_at_call 24; (with_reducible refine (t63 _ _ ist.pb).mono ?_); rintro e w1 ⟨rfl, h1, t1⟩; replace ist := ist.call hg hN h1 t1; clear h1 t1) | (go_at_call 24; (with_reducible refine (t123 _ _ ist.pb).mono ?_); rintro e w1 ⟨rfl, h1, t1⟩; replace ist := ist.call hg hN h1 t1; clear h1 t1) | (go_at_call 39; (with_reducible refine (m1 _ _ ist.pb).mono ?_); rintro e w1 ⟨rfl, h1, t1⟩; replace ist := ist.call hg hN h1 t1; clear h1 t1) | (go_at_call 24; (with_reducible refine (tk _ _ ist.pb).mono ?_); rintro e w1 ⟨rfl, h1, t1⟩; replace ist := ist.call hg hN h1 t1; clear h1 t1) | (go_at_call 30; (with_reducible refine (n1 _ _ ist.pb).mono ?_); rintro e w1 ⟨rfl, h1, t1⟩; replace ist := ist.call hg hN h1 t1; clear h1 t1) | (go_at_call 39; (with_reducible refine (m2 _ _ ist.pb).mono ?_); rintro e w1 ⟨rfl, h1, t1⟩; replace ist := ist.call hg hN h1 t1; clear h1 t1) | (go_at_call 40; (with_reducible refine (mu _ _ ist.pb).mono ?_); rintro e w1 ⟨rfl, h1, t1⟩; replace ist := ist.call hg hN h1 t1; clear h1 t1))
                    go_roundw
                    case rel => exact ⟨_, _, _, _, j4, b4, a4, ist, by omega, by omega, by omega, HN⟩
                    case measure => exact left_less HL.out ist.pb (by omega) (by omega) (fun _ => by omega)
                  · have e2 : ((hi : Int) == 1) = false := by rw [beq_eq_false_iff_ne]; omega
                    have e2b : ((hi : Int) != 1) = true := by rw [bne_iff_ne]; omega
                    have ea : again t ((lo : Int), (hi : Int)) = .node 4 none4 lo hi [t] := by unfold again; rw [if_neg (by omega)]
                    rw [ea] at HN
                    clear ea hl1 hh1
                    go_wp2_with (first | (go_at_call 24; (with_reducible refine (t42 _ _ ist.pb).mono ?_); rintro e w1 ⟨rfl, h1, t1⟩; replace ist := ist.call hg hN h1 t1; clear h1 t1) | (go_at_call 24; (with_reducible refine (t43 _ _ ist.pb).mono ?_); rintro e w1 ⟨rfl, h1, t1⟩; replace ist := ist.call hg hN h1 t1; clear h1 t1) | (go_at_call 24; (with_reducible refine (t63 _ _ ist.pb).mono ?_); rintro e w1 ⟨rfl, h1, t1⟩; replace ist := ist.call hg hN h1 t1; clear h1 t1) | (go_at_call 24; (with_reducible refine (t123 _ _ ist.pb).mono ?_); rintro e w1 ⟨rfl, h1, t1⟩; replace ist := ist.call hg hN h1 t1; clear h1 t1) | (go_at_call 39; (with_reducible refine (m1 _ _ ist.pb).mono ?_); rintro e w1 ⟨rfl, h1, t1⟩; replace ist := ist.call hg hN h1 t1; clear h1 t1) | (go_at_call 24; (with_reducible refine (tk _ _ ist.pb).mono ?_); rintro e w1 ⟨rfl, h1, t1⟩; replace ist := ist.call hg hN h1 t1; clear h1 t1) | (go_at_call 30; (with_reducible refine (n1 _ _ ist.pb).mono ?_); rintro e w1 ⟨rfl, h1, t1⟩; replace ist := ist.call hg hN h1 t1; clear h1 t1) | (go_at_call 39; (with_reducible refine (m2 _ _ ist.pb).mono ?_); rintro e w1 ⟨rfl, h1, t1⟩; replace ist := ist.call hg hN h1 t1; clear h1 t1) | (go_at_call 40; (with_reducible refine (mu _ _ ist.pb).mono ?_); rintro e w1 ⟨rfl, h1, t1⟩; replace ist := ist.call hg hN h1 t1; clear h1 t1; have q5 := ist.box.below (below_alloc w1 (.cells #[.int .i64 t.kind, .int .u64 t.set.a, .int .u64 t.set.b, .int .u64 t.set.c, .int .u64 t.set.d, .int .i64 t.min, .int .i64 t.max, .slice va vn vc] 28)); obtain ⟨⟨c0, c1, c2, c3, c4, c5, c6, c7⟩, _⟩ := b8 ist.box; obtain ⟨⟨k0, k1, k2, k3, k4, k5, k6, k7⟩, f0, f1, f2, f3, f4, f5, f6, f7⟩ := b8 q5))
                    replace ist := ist.again hg hN (lo : Int) (hi : Int) (touch_set8 _ N (.node 4 none4 (lo : Int) (hi : Int) [t]) _) (box_set q5 (.node 4 none4 (lo : Int) (hi : Int) [t]) _)
                    go_roundw
                    case rel => exact ⟨_, _, _, _, j4, b4, a4, ist, by omega, by omega, by have := hag ((lo : Int), (hi : Int)); simp only [Tr.nodes, nodesOf] at *; omega, HN⟩
                    case measure => exact left_less HL.out ist.pb (by omega) (by omega) (fun _ => by omega)
                · have e1 : ((lo : Int) == 1) = false := by rw [beq_eq_false_iff_ne]; omega
                  have e1b : ((lo : Int) != 1) = true := by rw [bne_iff_ne]; omega
                  have ea : again t ((lo : Int), (hi : Int)) = .node 4 none4 lo hi [t] := by unfold again; rw [if_neg (by omega)]
                  rw [ea] at HN
                  clear ea hl1
                  go_wp2_with (first | (go_at_call 24; (with_reducible refine (t42 _ _ ist.pb).mono ?_); rintro e w1 ⟨rfl, h1, t1⟩; replace ist := ist.call hg hN h1 t1; clear h1 t1) | (go_at_call 24; (with_reducible refine (t43 _ _ ist.pb).mono ?_); rintro e w1 ⟨rfl, h1, t1⟩; replace ist := ist.call hg hN h1 t1; clear h1 t1) | (go_at_call 24; (with_reducible refine (t63 _ _ ist.pb).mono ?_); rintro e w1 ⟨rfl, h1, t1⟩; replace ist := ist.call hg hN h1 t1; clear h1 t1) | (go_at_call 24; (with_reducible refine (t123 _ _ ist.pb).mono ?_); rintro e w1 ⟨rfl, h1, t1⟩; replace ist := ist.call hg hN h1 t1; clear h1 t1) | (go_at_call 39; (with_reducible refine (m1 _ _ ist.pb).mono ?_); rintro e w1 ⟨rfl, h1, t1⟩; replace ist := ist.call hg hN h1 t1; clear h1 t1) | (go_at_call 24; (with_reducible refine (tk _ _ ist.pb).mono ?_); rintro e w1 ⟨rfl, h1, t1⟩; replace ist := ist.call hg hN h1 t1; clear h1 t1) | (go_at_call 30; (with_reducible refine (n1 _ _ ist.pb).mono ?_); rintro e w1 ⟨rfl, h1, t1⟩; replace ist := ist.call hg hN h1 t1; clear h1 t1) | (go_at_call 39; (with_reducible refine (m2 _ _ ist.pb).mono ?_); rintro e w1 ⟨rfl, h1, t1⟩; replace ist := ist.call hg hN h1 t1; clear h1 t1) | (go_at_call 40; (with_reducible refine (mu _ _ ist.pb).mono ?_); rintro e w1 ⟨rfl, h1, t1⟩; replace ist := ist.call hg hN h1 t1; clear h1 t1; have q5 := ist.box.below (below_alloc w1 (.cells #[.int .i64 t.kind, .int .u64 t.set.a, .int .u64 t.set.b, .int .u64 t.set.c, .int .u64 t.set.d, .int .i64 t.min, .int .i64 t.max, .slice va vn vc] 28)); obtain ⟨⟨c0, c1, c2, c3, c4, c5, c6, c7⟩, _⟩ := b8 ist.box; obtain ⟨⟨k0, k1, k2, k3, k4, k5, k6, k7⟩, f0, f1, f2, f3, f4, f5, f6, f7⟩ := b8 q5))
                  replace ist := ist.again hg hN (lo : Int) (hi : Int) (touch_set8 _ N (.node 4 none4 (lo : Int) (hi : Int) [t]) _) (box_set q5 (.node 4 none4 (lo : Int) (hi : Int) [t]) _)
                  go_roundw
                  case rel => exact ⟨_, _, _, _, j4, b4, a4, ist, by omega, by omega, by have := hag ((lo : Int), (hi : Int)); simp only [Tr.nodes, nodesOf] at *; omega, HN⟩
                  case measure => exact left_less HL.out ist.pb (by omega) (by omega) (fun _ => by omega)
    · have hne : ((b : Int) == 0) = false := by rw [beq_eq_false_iff_ne]; omega
      have hbad : at_ ≤ u.size ∧ res = .bad b (suf u at_) := by rcases HI.out with ⟨h, _⟩ | ⟨_, h⟩; exact absurd h hb; exact h
      obtain ⟨⟨c0, c1, c2, c3, c4, c5, c6, c7⟩, _⟩ := b8 ist.box
      obtain ⟨⟨d0, d1, d2, d3, d4, d5, d6, d7⟩, f0, f1, f2, f3, f4, f5, f6, f7⟩ := b8 ist.zero
      clear HI HL hag
      go_wp2_with (fail)
      refine ret28 Try.results31 w.heap.size t _ rfl (box_set ist.zero t _) rfl ?_
      exact .inr ⟨b, at_, t, j, _, hbad.2, hbad.1, rfl, ist.is.carry (touch_set8 _ _ t _).size (fun b hb _ => by omega) (fun b hb hlt => (touch_set8 _ _ t _).block b hlt (fun e => by have := Option.some.inj e; omega)), ist.pb.other (touch_set8 _ _ t _) (by omega), touch_over ist.t (touch_set8 _ _ t _) (Nat.le_refl _), hb, hij, hju, hnt⟩
end Go.Proofs.Ytjfnefmolhihaaa.st

namespace Go.Proofs.Ytjfnefmolhihaaa.st
open Go.Sort Go.ChangeShapes Go.WideShapes Go.ChangeAt Go.RowKit
set_option linter.unusedVariables false

theorem touch_own {w W w2 : World} {g : Nat} {ow : Option Nat} (h : w.grownBy W (some g)) (t : W.grownBy w2 ow) (ho : ∀ k, ow = some k → w.heap.size ≤ k) : w.grownBy w2 (some g) :=
  ⟨t.os.trans h.os, t.tape.trans h.tape, t.output.trans h.output, Nat.le_trans h.size t.size, fun k hk hne => (t.block k (Nat.lt_of_lt_of_le hk h.size) (fun e => by have := ho k e.symm; omega)).trans (h.block k hk hne)⟩
theorem own_ge {B : Nat} {w : World} {v : Value} {l : List (Tr × Value)} (h : OwnK B w v l) : ∀ k, v.ownBlock = some k → B ≤ k := fun k e => (World.ownsRow.lt h.row k e).1

/-- what stands between two steps of cat and of alt -/
structure Kst (w V : World) (u : ByteArray) (g j o b a : Nat) (x : Value) (l : List (Tr × Value)) : Prop where
  pb : Pb V g u j o b a
  zero : Box V w.heap.size Tr.zero (.slice none 0 0)
  own : OwnK (w.heap.size + 1) V x l
  t : w.grownBy V (some g)
  few : l.length ≤ 2000
section
variable {w V V' : World} {u : ByteArray} {g j o b a j' b' a' : Nat} {x : Value} {l : List (Tr × Value)}
theorem Kst.call (h : Kst w V u g j o b a x l) (hg : g < w.heap.size) (pb : Pb V' g u j' o b' a') (s : V.grownBy V' (some g)) : Kst w V' u g j' o b' a' x l :=
  ⟨pb, Box.keep h.zero s (by omega), h.own.kept s (by omega), touch_trans h.t s, h.few⟩
theorem Kst.later (h : Kst w V u g j o b a x l) (s : RowKit.Below V.heap.size V V') : Kst w V' u g j o b a x l :=
  ⟨h.pb.later s, h.zero.below s, h.own.below s, touch_trans h.t (touch_below _ s), h.few⟩
theorem Kst.fresh (h : Kst w V u g j o b a x l) {t : Tr} {v : Value} {S : Nat} (hi : Is V (fun b => S ≤ b) t v) (hS : ∀ k, x.ownBlock = some k → k < S) (hS2 : w.heap.size < S) : Is V (fun b => w.heap.size + 1 ≤ b ∧ x.ownBlock ≠ some b) t v :=
  hi.weaken (fun b hb => ⟨by omega, fun e => by have := hS b e; omega⟩)
theorem Kst.more (h : Kst w V u g j o b a x l) (hg : g < w.heap.size) {w2 : World} {v' : Value} {l' : List (Tr × Value)} (o2 : OwnK (w.heap.size + 1) w2 v' l') (g2 : V.grownBy w2 x.ownBlock) (hl : l'.length ≤ 2000) : Kst w w2 u g j o b a v' l' := by
  have hk := own_ge h.own
  refine ⟨?_, ?_, o2, touch_own h.t g2 (fun k e => by have := hk k e; omega), hl⟩
  · unfold Pb; rw [g2.block g h.pb.lt (fun e => by have := hk g e.symm; omega)]; exact h.pb
  · show w2.heap[w.heap.size]? = _; rw [g2.block _ h.zero.lt (fun e => by have := hk _ e.symm; omega)]; exact h.zero
end
theorem Kst.lt {w V : World} {u : ByteArray} {g j o b a : Nat} {x : Value} {l : List (Tr × Value)} (h : Kst w V u g j o b a x l) : ∀ k, x.ownBlock = some k → k < V.heap.size := fun k e => (World.ownsRow.lt h.own.row k e).2
end Go.Proofs.Ytjfnefmolhihaaa.st

namespace Go.Proofs.Ytjfnefmolhihaaa.st
open Go.Sort Go.ChangeShapes Go.WideShapes Go.ChangeAt Go.RowKit
set_option linter.unusedVariables false

def LsRel (c : Nat) (k : Int) (rd : Nat → List Tr → List Nat → R Tr) (u : ByteArray) (a i : Nat) (res : R Tr) (ts : List Tr) (j b at_ : Nat) : Prop :=
  (b = 0 ∧ at_ = a ∧ nodesOf ts ≤ 2 * (j - i) + c ∧ ∃ n, u.size - j < n ∧ res = rd n (flat k ts) (suf u j)) ∨ (b ≠ 0 ∧ at_ ≤ u.size ∧ nodesOf ts ≤ 2 * (j - i) + c + 1 ∧ res = .bad b (suf u at_))
theorem LsRel.few {c : Nat} {k : Int} {rd : Nat → List Tr → List Nat → R Tr} {u : ByteArray} {a i : Nat} {res : R Tr} {ts : List Tr} {j b at_ : Nat} (h : LsRel c k rd u a i res ts j b at_) : nodesOf ts ≤ 2 * (j - i) + c + 1 := by
  rcases h with ⟨_, _, h, _⟩ | ⟨_, _, h, _⟩ <;> omega
theorem nodes_snoc (l : List (Tr × Value)) (t : Tr) (v : Value) : nodesOf ((l ++ [(t, v)]).map Prod.fst) = nodesOf (l.map Prod.fst) + t.nodes := by
  rw [List.map_append, nodesOf_append]
  simp [nodesOf]
theorem flat_more (k : Int) (l : List (Tr × Value)) (t : Tr) (v : Value) : flat k ((l ++ [(t, v)]).map Prod.fst) = laid (flat k (l.map Prod.fst)) t k := by
  rw [List.map_append]; exact flat_snoc k _ t

set_option maxHeartbeats 4000000 in
set_option maxRecDepth 100000 in
theorem cat_out (u : ByteArray) (hu : u.size ≤ 512) (i o a : Nat) (grp : List Nat → R Tr) (hi : i ≤ u.size) (heat : ∀ l t r, item grp l = .ok t r → r.length < l.length) (hin_ : ∀ j T j', j ≤ u.size → j' ≤ u.size → item grp (suf u j) = .ok T (suf u j') → T.nodes ≤ 2 * (j' - j))
    (hI : ∀ j, j ≤ u.size → TellP 31 1 u j o a (item grp (suf u j))) (res : R Tr) (hres : res = cat grp (suf u i)) : ∀ g w, Pb w g u i o 0 a → Calls Try.prog 23 #[.pointer (some ⟨g, 0, none⟩)] w (OutP 2 res u g o a i w) := by
  intro g w h
  have hu2 : u.size ≤ 1000 := by omega
  have hg := h.lt
  have HR : Hid (res = items grp (u.size - i + 1) [] (suf u i)) := by show _ = _; rw [hres]; unfold cat; rw [suf_length]
  clear hres
  have h0 := h.later (below_alloc w (.cells #[.int .i64 0, .int .u64 0, .int .u64 0, .int .u64 0, .int .u64 0, .int .i64 0, .int .i64 0, .slice none 0 0] 28))
  have kst0 : Kst w ((w.alloc (.cells #[.int .i64 0, .int .u64 0, .int .u64 0, .int .u64 0, .int .u64 0, .int .i64 0, .int .i64 0, .slice none 0 0] 28)).alloc (.cells #[] 28)) u g i o 0 a (.slice (some ⟨w.heap.size + 1, 0, none⟩) 0 0) [] := by
    have h1 := own_empty (w.heap.size + 1) (w.alloc (.cells #[.int .i64 0, .int .u64 0, .int .u64 0, .int .u64 0, .int .u64 0, .int .i64 0, .int .i64 0, .slice none 0 0] 28)) (by simp)
    exact ⟨h0.later (below_alloc _ _), (box_new w Tr.zero (.slice none 0 0)).below (below_alloc _ _), by simpa using h1, touch_alloc (touch_alloc (touch_refl _ _) _) _, by simp⟩
  go_enter Try.func23, Try.ntmps23
  go_wp2_with (fail)
  go_loopw [3] (fun x wr => ∃ (l : List (Tr × Value)) (j b at_ : Nat), Kst w wr u g j o b at_ x l ∧ i ≤ j ∧ j ≤ u.size ∧ Hid (LsRel 0 2 (items grp) u a i res (l.map Prod.fst) j b at_)) (fun _ wr => left u.size wr g)
  case atStart => exact ⟨[], i, 0, a, kst0, Nat.le_refl _, hi, .inl ⟨rfl, rfl, by simp [nodesOf], _, by omega, HR.out⟩⟩
  case round =>
    clear kst0 HR h0 h
    obtain ⟨l, j, b, at_, kst, hij, hju, HI⟩ := hrel
    have hfw := HI.out.few
    have hln := length_nodes (l.map Prod.fst)
    rw [List.length_map] at hln
    have hw := kst.pb.pl
    have hw2 := kst.pb.bd
    have HL : Hid (left u.size wr g = 2 * (u.size - j) + (if b = 0 then 1 else 0)) := by show _ = _; unfold left; rw [hw, hw2]
    clear hw hw2
    by_cases hb : b = 0
    · subst hb
      obtain rfl : a = at_ := by rcases HI.out with ⟨_, h, _⟩ | ⟨h, _⟩; exact h.symm; exact absurd rfl h
      have n0 := now_any u j o a hu2 hju _ rfl
      by_cases hend : suf u j = [] ∨ sees [124, 41] (suf u j) = true
      · have HE0 : res = .ok (grown 2 (flat 2 (l.map Prod.fst))) (suf u j) := by
          rcases HI.out with ⟨_, _, _, n, hn, hr⟩ | ⟨h, _⟩
          · obtain ⟨n, rfl⟩ : ∃ m, n = m + 1 := ⟨n - 1, by omega⟩
            rw [hr, items, if_pos hend]
          · exact absurd rfl h
        obtain ⟨TT, hTT⟩ : ∃ TT, TT = grown 2 (flat 2 (l.map Prod.fst)) := ⟨_, rfl⟩
        have tk := taken_any (w.heap.size + 1) (l.map Prod.fst) 2 TT (by omega) hTT
        have hgn := grown_nodes 2 (flat 2 (l.map Prod.fst))
        rw [← hTT] at hgn
        have hfn := flat_nodes 2 (l.map Prod.fst) (l.map Prod.fst).length (Nat.le_refl _)
        rw [List.take_length] at hfn
        unfold TakenIs at tk
        have HE : Hid (res = .ok TT (suf u j)) := by show _ = _; rw [HE0, hTT]
        clear HE0 hTT HI HL
        have hz : hd (suf u j) = -1 ∨ hd (suf u j) = 124 ∨ hd (suf u j) = 41 := by
          rcases hend with h | h
          · rw [h]; exact .inl rfl
          · have hin := sees_lt h
            have := sees_head hin h
            rw [suf_in u j hin]
            simp only [List.mem_cons, List.not_mem_nil, or_false] at this
            rcases this with h | h
            · rw [h]; exact .inr (.inl rfl)
            · rw [h]; exact .inr (.inr rfl)
        clear hend
        unfold Mv at n0
        rcases hz with hz | hz | hz
        · rw [hz] at n0
          go_wp2_with (first | (go_at_call 30; (with_reducible refine (n0 _ _ kst.pb).mono ?_); rintro e w1 ⟨rfl, h1, t1⟩; replace kst := kst.call hg h1 t1; clear h1 t1) | (go_at_call 25; refine (tk _ _ (kst.own.is 0 none4 0 0) (by have := kst.zero.lt; omega)).mono ?_; rintro e w3 ⟨tv, rfl, i3, b3⟩; obtain ⟨va, vn, vc, rfl⟩ := i3.shape; replace kst := kst.later b3; obtain ⟨⟨d0, d1, d2, d3, d4, d5, d6, d7⟩, f0, f1, f2, f3, f4, f5, f6, f7⟩ := b8 kst.zero))
          refine ret28 Try.results23 w.heap.size TT _ rfl (box_set kst.zero TT _) rfl ?_
          exact .inl ⟨TT, j, _, HE.out, hju, rfl, (i3.carry (touch_set8 _ _ TT _).size (fun b hb _ => by omega) (fun b hb hlt => (touch_set8 _ _ TT _).block b hlt (fun e => by have := Option.some.inj e; omega))), kst.pb.other (touch_set8 _ _ TT _) (by omega), touch_over kst.t (touch_set8 _ _ TT _) (Nat.le_refl _)⟩
        · rw [hz] at n0
          go_wp2_with (first | (go_at_call 30; (with_reducible refine (n0 _ _ kst.pb).mono ?_); rintro e w1 ⟨rfl, h1, t1⟩; replace kst := kst.call hg h1 t1; clear h1 t1) | (go_at_call 25; refine (tk _ _ (kst.own.is 0 none4 0 0) (by have := kst.zero.lt; omega)).mono ?_; rintro e w3 ⟨tv, rfl, i3, b3⟩; obtain ⟨va, vn, vc, rfl⟩ := i3.shape; replace kst := kst.later b3; obtain ⟨⟨d0, d1, d2, d3, d4, d5, d6, d7⟩, f0, f1, f2, f3, f4, f5, f6, f7⟩ := b8 kst.zero))
          refine ret28 Try.results23 w.heap.size TT _ rfl (box_set kst.zero TT _) rfl ?_
          exact .inl ⟨TT, j, _, HE.out, hju, rfl, (i3.carry (touch_set8 _ _ TT _).size (fun b hb _ => by omega) (fun b hb hlt => (touch_set8 _ _ TT _).block b hlt (fun e => by have := Option.some.inj e; omega))), kst.pb.other (touch_set8 _ _ TT _) (by omega), touch_over kst.t (touch_set8 _ _ TT _) (Nat.le_refl _)⟩
        · rw [hz] at n0
          go_wp2_with (first | (go_at_call 30; (with_reducible refine (n0 _ _ kst.pb).mono ?_); rintro e w1 ⟨rfl, h1, t1⟩; replace kst := kst.call hg h1 t1; clear h1 t1) | (go_at_call 25; refine (tk _ _ (kst.own.is 0 none4 0 0) (by have := kst.zero.lt; omega)).mono ?_; rintro e w3 ⟨tv, rfl, i3, b3⟩; obtain ⟨va, vn, vc, rfl⟩ := i3.shape; replace kst := kst.later b3; obtain ⟨⟨d0, d1, d2, d3, d4, d5, d6, d7⟩, f0, f1, f2, f3, f4, f5, f6, f7⟩ := b8 kst.zero))
          refine ret28 Try.results23 w.heap.size TT _ rfl (box_set kst.zero TT _) rfl ?_
          exact .inl ⟨TT, j, _, HE.out, hju, rfl, (i3.carry (touch_set8 _ _ TT _).size (fun b hb _ => by omega) (fun b hb hlt => (touch_set8 _ _ TT _).block b hlt (fun e => by have := Option.some.inj e; omega))), kst.pb.other (touch_set8 _ _ TT _) (by omega), touch_over kst.t (touch_set8 _ _ TT _) (Nat.le_refl _)⟩
      · have hne : suf u j ≠ [] := fun h => hend (.inl h)
        have hs : sees [124, 41] (suf u j) = false := by
          cases h : sees [124, 41] (suf u j) with
          | false => rfl
          | true => exact absurd (.inr h) hend
        have hin : j < u.size := by
          refine Classical.byContradiction fun h => hne (suf_out u j (by omega))
        have hc : u[j].toNat ≠ 124 ∧ u[j].toNat ≠ 41 := by
          rw [suf_in u j hin] at hs
          have := of_decide_eq_false hs
          simpa using this
        rw [suf_in u j hin] at n0
        replace n0 : Mv 30 [] u j o 0 a (.int .i64 (u[j].toNat : Int)) j 0 a := n0
        have e1 : ((u[j].toNat : Int) != 124) = true := by rw [bne_iff_ne]; omega
        have e2 : ((u[j].toNat : Int) != 41) = true := by rw [bne_iff_ne]; omega
        have e3 : ((u[j].toNat : Int) == 124) = false := by rw [beq_eq_false_iff_ne]; omega
        have e4 : ((u[j].toNat : Int) == 41) = false := by rw [beq_eq_false_iff_ne]; omega
        have hstep : ∀ n, items grp (n + 1) (flat 2 (l.map Prod.fst)) (suf u j) = (item grp (suf u j)).then fun t l1 => items grp n (laid (flat 2 (l.map Prod.fst)) t 2) l1 := fun n => by rw [items, if_neg hend]
        clear hend hc
        unfold Mv at n0
        generalize u[j].toNat = c at *
        rcases hI j hju with ⟨T, j', k1, k2, k3, k4, h31⟩ | ⟨er, q, k2, k3, h31⟩
        · have hT := hin_ j T j' hju k2 k3
          have hlt : j < j' := by have := heat _ _ _ k3; rw [suf_length, suf_length] at this; omega
          have HN : ∀ v : Value, LsRel 0 2 (items grp) u a i res ((l ++ [(T, v)]).map Prod.fst) j' 0 a := fun v => by
            rcases HI.out with ⟨_, _, hm, n, hn, hr⟩ | ⟨h, _⟩
            · obtain ⟨n, rfl⟩ : ∃ m, n = m + 1 := ⟨n - 1, by omega⟩
              refine .inl ⟨rfl, rfl, by rw [nodes_snoc]; omega, n, by omega, ?_⟩
              rw [hr, hstep, k3, flat_more]
              rfl
            · exact absurd rfl h
          have HH : Hid (∀ v : Value, LsRel 0 2 (items grp) u a i res ((l ++ [(T, v)]).map Prod.fst) j' 0 a) := HN
          clear HI HN hstep k3 hI
          unfold OkP at h31
          go_wp2_with (first | (go_at_call 30; (with_reducible refine (n0 _ _ kst.pb).mono ?_); rintro e w1 ⟨rfl, h1, t1⟩; replace kst := kst.call hg h1 t1; clear h1 t1) | (go_at_call 31; (with_reducible refine (h31 _ _ kst.pb).mono ?_); rintro e w1 ⟨v, rfl, i1, h1, t1⟩; have hx1 := kst.lt; have hx2 := kst.zero.lt; obtain ⟨va, vn, vc, rfl⟩ := i1.shape; replace kst := (kst.call hg h1 t1).later (below_alloc w1 (.cells #[.int .i64 T.kind, .int .u64 T.set.a, .int .u64 T.set.b, .int .u64 T.set.c, .int .u64 T.set.d, .int .i64 T.min, .int .i64 T.max, .slice va vn vc] 28)); replace i1 := i1.later (below_alloc w1 (.cells #[.int .i64 T.kind, .int .u64 T.set.a, .int .u64 T.set.b, .int .u64 T.set.c, .int .u64 T.set.d, .int .i64 T.min, .int .i64 T.max, .slice va vn vc] 28)); clear h1 t1) | (at_builtin; refine wpList_one _ rfl (.tmp 21) (.tmp 23) rfl (w.heap.size + 1) _ l T va vn vc (w1.heap.size + 1) (by simp) rfl rfl kst.own (kst.fresh i1 hx1 hx2) (by omega) (by have := kst.zero.lt; omega) ?_; intro v' w2 p2 g2 q2))
          replace kst := kst.more hg p2 g2 (by simp; omega)
          go_roundw
          case rel => exact ⟨_, j', 0, a, kst, by omega, k2, HH.out _⟩
          case measure => exact left_less HL.out kst.pb (by omega) k2 (fun _ => hlt)
        · have HN : er ≠ 0 → ∀ (T : Tr) (v : Value) (j' : Nat), j ≤ j' → T.nodes ≤ 2 * (j' - j) + 1 → LsRel 0 2 (items grp) u a i res ((l ++ [(T, v)]).map Prod.fst) j' er q := fun her T v j' h1 h2 => by
            rcases HI.out with ⟨_, _, hm, n, hn, hr⟩ | ⟨h, _⟩
            · obtain ⟨n, rfl⟩ : ∃ m, n = m + 1 := ⟨n - 1, by omega⟩
              refine .inr ⟨her, k2, by rw [nodes_snoc]; omega, ?_⟩
              rw [hr, hstep, k3]
              rfl
            · exact absurd rfl h
          have HH : Hid (er ≠ 0 → ∀ (T : Tr) (v : Value) (j' : Nat), j ≤ j' → T.nodes ≤ 2 * (j' - j) + 1 → LsRel 0 2 (items grp) u a i res ((l ++ [(T, v)]).map Prod.fst) j' er q) := HN
          clear HI HN hstep k3 hI
          unfold BadP at h31
          go_wp2_with (first | (go_at_call 30; (with_reducible refine (n0 _ _ kst.pb).mono ?_); rintro e w1 ⟨rfl, h1, t1⟩; replace kst := kst.call hg h1 t1; clear h1 t1) | (go_at_call 31; (with_reducible refine (h31 _ _ kst.pb).mono ?_); rintro e w1 ⟨T, v, j9, rfl, i1, h1, t1, z1, z2, z3, z4⟩; have hx1 := kst.lt; have hx2 := kst.zero.lt; obtain ⟨va, vn, vc, rfl⟩ := i1.shape; replace kst := (kst.call hg h1 t1).later (below_alloc w1 (.cells #[.int .i64 T.kind, .int .u64 T.set.a, .int .u64 T.set.b, .int .u64 T.set.c, .int .u64 T.set.d, .int .i64 T.min, .int .i64 T.max, .slice va vn vc] 28)); replace i1 := i1.later (below_alloc w1 (.cells #[.int .i64 T.kind, .int .u64 T.set.a, .int .u64 T.set.b, .int .u64 T.set.c, .int .u64 T.set.d, .int .i64 T.min, .int .i64 T.max, .slice va vn vc] 28)); clear h1 t1) | (at_builtin; refine wpList_one _ rfl (.tmp 21) (.tmp 23) rfl (w.heap.size + 1) _ l T va vn vc (w1.heap.size + 1) (by simp) rfl rfl kst.own (kst.fresh i1 hx1 hx2) (by omega) (by have := kst.zero.lt; omega) ?_; intro v' w2 p2 g2 q2))
          replace kst := kst.more hg p2 g2 (by simp; omega)
          go_roundw
          case rel => exact ⟨_, j9, er, q, kst, by omega, z3, HH.out z1 _ _ _ z2 z4⟩
          case measure => exact left_less HL.out kst.pb z2 z3 (fun h => absurd h z1)
    · have hbad : at_ ≤ u.size ∧ res = .bad b (suf u at_) := by rcases HI.out with ⟨h, _⟩ | ⟨_, h1, _, h2⟩; exact absurd h hb; exact ⟨h1, h2⟩
      obtain ⟨TT, hTT⟩ : ∃ TT, TT = grown 2 (flat 2 (l.map Prod.fst)) := ⟨_, rfl⟩
      have tk := taken_any (w.heap.size + 1) (l.map Prod.fst) 2 TT (by omega) hTT
      have hgn := grown_nodes 2 (flat 2 (l.map Prod.fst))
      rw [← hTT] at hgn
      have hfn := flat_nodes 2 (l.map Prod.fst) (l.map Prod.fst).length (Nat.le_refl _)
      rw [List.take_length] at hfn
      unfold TakenIs at tk
      have hTn : TT.nodes ≤ 2 * (j - i) + 2 := by omega
      have n0 := now_dead u j o b at_ hb
      unfold Mv at n0
      clear HI HL hTT
      go_wp2_with (first | (go_at_call 30; (with_reducible refine (n0 _ _ kst.pb).mono ?_); rintro e w1 ⟨rfl, h1, t1⟩; replace kst := kst.call hg h1 t1; clear h1 t1) | (go_at_call 25; refine (tk _ _ (kst.own.is 0 none4 0 0) (by have := kst.zero.lt; omega)).mono ?_; rintro e w3 ⟨tv, rfl, i3, b3⟩; obtain ⟨va, vn, vc, rfl⟩ := i3.shape; replace kst := kst.later b3; obtain ⟨⟨d0, d1, d2, d3, d4, d5, d6, d7⟩, f0, f1, f2, f3, f4, f5, f6, f7⟩ := b8 kst.zero))
      refine ret28 Try.results23 w.heap.size TT _ rfl (box_set kst.zero TT _) rfl ?_
      exact .inr ⟨b, at_, TT, j, _, hbad.2, hbad.1, rfl, (i3.carry (touch_set8 _ _ TT _).size (fun b hb _ => by omega) (fun b hb hlt => (touch_set8 _ _ TT _).block b hlt (fun e => by have := Option.some.inj e; omega))), kst.pb.other (touch_set8 _ _ TT _) (by omega), touch_over kst.t (touch_set8 _ _ TT _) (Nat.le_refl _), hb, hij, hju, hTn⟩

set_option maxHeartbeats 4000000 in
set_option maxRecDepth 100000 in
theorem alt_out (u : ByteArray) (hu : u.size ≤ 512) (i o a : Nat) (grp : List Nat → R Tr) (hi : i ≤ u.size) (hin_ : ∀ j T j', j ≤ u.size → j' ≤ u.size → cat grp (suf u j) = .ok T (suf u j') → T.nodes ≤ 2 * (j' - j) + 1)
    (hC : ∀ j, j ≤ u.size → TellP 23 2 u j o a (cat grp (suf u j))) (res : R Tr) (hres : res = altOf grp (suf u i)) : ∀ g w, Pb w g u i o 0 a → Calls Try.prog 13 #[.pointer (some ⟨g, 0, none⟩)] w (OutP 3 res u g o a i w) := by
  intro g w h
  have hu2 : u.size ≤ 1000 := by omega
  have hg := h.lt
  have h0 := h.later (below_alloc w (.cells #[.int .i64 0, .int .u64 0, .int .u64 0, .int .u64 0, .int .u64 0, .int .i64 0, .int .i64 0, .slice none 0 0] 28))
  have kst : Kst w ((w.alloc (.cells #[.int .i64 0, .int .u64 0, .int .u64 0, .int .u64 0, .int .u64 0, .int .i64 0, .int .i64 0, .slice none 0 0] 28)).alloc (.cells #[] 28)) u g i o 0 a (.slice (some ⟨w.heap.size + 1, 0, none⟩) 0 0) [] := by
    have h1 := own_empty (w.heap.size + 1) (w.alloc (.cells #[.int .i64 0, .int .u64 0, .int .u64 0, .int .u64 0, .int .u64 0, .int .i64 0, .int .i64 0, .slice none 0 0] 28)) (by simp)
    exact ⟨h0.later (below_alloc _ _), (box_new w Tr.zero (.slice none 0 0)).below (below_alloc _ _), by simpa using h1, touch_alloc (touch_alloc (touch_refl _ _) _) _, by simp⟩
  have hx0 : ∀ k, (Value.slice (some ⟨w.heap.size + 1, 0, none⟩) 0 0).ownBlock = some k → k < w.heap.size + 2 := fun k e => by have : w.heap.size + 1 = k := Option.some.inj e; omega
  clear h0 h
  go_enter Try.func13, Try.ntmps13
  go_upto_region 2 with fail
  go_cut [4] (fun s4 wx => ∃ (T : Tr) (va : Option Addr) (vn vc j b at_ gB : Nat), s4 = .pointer (some ⟨gB, 0, none⟩) ∧ Box wx gB T (.slice va vn vc) ∧ Kst w wx u g j o b at_ (.slice (some ⟨w.heap.size + 1, 0, none⟩) 0 0) [] ∧ Is wx (fun b => w.heap.size + 2 ≤ b) T (.slice va vn vc) ∧ i ≤ j ∧ j ≤ u.size ∧ LsRel 1 3 (alts grp) u a i res [T] j b at_)
  case first =>
    rcases hC i hi with ⟨T, j', k1, k2, k3, k4, h23⟩ | ⟨er, q, k2, k3, h23⟩
    · have hT := hin_ i T j' hi k2 k3
      have HN : LsRel 1 3 (alts grp) u a i res [T] j' 0 a := .inl ⟨rfl, rfl, by simp only [nodesOf]; omega, u.size - j' + 1, by omega, by rw [hres, altOf, k3, flat]; simp only [R.then, suf_length, List.foldl]⟩
      unfold OkP at h23
      go_wp2_with (first | (go_at_call 23; (with_reducible refine (h23 _ _ kst.pb).mono ?_); rintro e w1 ⟨v, rfl, i1, h1, t1⟩; have hx1 := kst.lt; have hx2 := kst.zero.lt; obtain ⟨va, vn, vc, rfl⟩ := i1.shape; replace kst := (kst.call hg h1 t1).later (below_alloc w1 (.cells #[.int .i64 T.kind, .int .u64 T.set.a, .int .u64 T.set.b, .int .u64 T.set.c, .int .u64 T.set.d, .int .i64 T.min, .int .i64 T.max, .slice va vn vc] 28)); replace i1 := i1.later (below_alloc w1 (.cells #[.int .i64 T.kind, .int .u64 T.set.a, .int .u64 T.set.b, .int .u64 T.set.c, .int .u64 T.set.d, .int .i64 T.min, .int .i64 T.max, .slice va vn vc] 28)); clear h1 t1))
      go_meet
      exact ⟨T, va, vn, vc, j', 0, a, _, rfl, box_new w1 T _, kst, i1.weaken (fun b hb => by simp at hb; omega), k1, k2, HN⟩
    · have HN : er ≠ 0 → ∀ (T : Tr) (j' : Nat), i ≤ j' → T.nodes ≤ 2 * (j' - i) + 2 → LsRel 1 3 (alts grp) u a i res [T] j' er q := fun her T j' h1 h2 => .inr ⟨her, k2, by simp only [nodesOf]; omega, by rw [hres, altOf, k3]; rfl⟩
      have HH : Hid (er ≠ 0 → ∀ (T : Tr) (j' : Nat), i ≤ j' → T.nodes ≤ 2 * (j' - i) + 2 → LsRel 1 3 (alts grp) u a i res [T] j' er q) := HN
      clear HN
      unfold BadP at h23
      go_wp2_with (first | (go_at_call 23; (with_reducible refine (h23 _ _ kst.pb).mono ?_); rintro e w1 ⟨T, v, j9, rfl, i1, h1, t1, z1, z2, z3, z4⟩; have hx1 := kst.lt; have hx2 := kst.zero.lt; obtain ⟨va, vn, vc, rfl⟩ := i1.shape; replace kst := (kst.call hg h1 t1).later (below_alloc w1 (.cells #[.int .i64 T.kind, .int .u64 T.set.a, .int .u64 T.set.b, .int .u64 T.set.c, .int .u64 T.set.d, .int .i64 T.min, .int .i64 T.max, .slice va vn vc] 28)); replace i1 := i1.later (below_alloc w1 (.cells #[.int .i64 T.kind, .int .u64 T.set.a, .int .u64 T.set.b, .int .u64 T.set.c, .int .u64 T.set.d, .int .i64 T.min, .int .i64 T.max, .slice va vn vc] 28)); clear h1 t1))
      go_meet
      exact ⟨T, va, vn, vc, j9, er, q, _, rfl, box_new w1 T _, kst, i1.weaken (fun b hb => by simp at hb; omega), z2, z3, HH.out z1 _ _ z2 z4⟩
  case rest =>
  clear kst hres
  obtain ⟨T, va, vn, vc, j, b, at_, gB, rfl, bx, kst, i1, hij, hju, hL⟩ := hcut
  obtain ⟨⟨c0, c1, c2, c3, c4, c5, c6, c7⟩, _⟩ := b8 bx
  have HL0 : Hid (LsRel 1 3 (alts grp) u a i res [T] j b at_) := hL
  clear hL
  have hx1 := hx0
  go_wp2_with (first | (at_builtin; refine wpList_one _ rfl (.tmp 9) (.tmp 11) rfl (w.heap.size + 1) _ [] T va vn vc wc.heap.size rfl rfl rfl kst.own (kst.fresh i1 hx1 (by omega)) (by simp) (by have := kst.zero.lt; omega) ?_; intro v' w2 p2 g2 q2))
  replace kst := kst.more hg p2 g2 (by simp)
  clear p2 g2 q2 bx i1 c0 c1 c2 c3 c4 c5 c6 c7
  go_loopw [3] (fun x wr => ∃ (l : List (Tr × Value)) (j b at_ : Nat), Kst w wr u g j o b at_ x l ∧ i ≤ j ∧ j ≤ u.size ∧ Hid (LsRel 1 3 (alts grp) u a i res (l.map Prod.fst) j b at_)) (fun _ wr => left u.size wr g)
  case atStart => exact ⟨_, j, b, at_, kst, hij, hju, HL0.out⟩
  case round =>
    clear kst HL0 hx1 hij hju
    obtain ⟨l, j, b, at_, kst, hij, hju, HI⟩ := hrel
    have hfw := HI.out.few
    have hln := length_nodes (l.map Prod.fst)
    rw [List.length_map] at hln
    have hw := kst.pb.pl
    have hw2 := kst.pb.bd
    have HL : Hid (left u.size wr g = 2 * (u.size - j) + (if b = 0 then 1 else 0)) := by show _ = _; unfold left; rw [hw, hw2]
    clear hw hw2
    by_cases hb : b = 0
    · subst hb
      obtain rfl : a = at_ := by rcases HI.out with ⟨_, h, _⟩ | ⟨h, _⟩; exact h.symm; exact absurd rfl h
      cases hs : sees [124] (suf u j) with
      | false =>
        have HE0 : res = .ok (grown 3 (flat 3 (l.map Prod.fst))) (suf u j) := by
          rcases HI.out with ⟨_, _, _, n, hn, hr⟩ | ⟨h, _⟩
          · obtain ⟨n, rfl⟩ : ∃ m, n = m + 1 := ⟨n - 1, by omega⟩
            rw [hr, alts, hs]
            rfl
          · exact absurd rfl h
        obtain ⟨TT, hTT⟩ : ∃ TT, TT = grown 3 (flat 3 (l.map Prod.fst)) := ⟨_, rfl⟩
        have tk := taken_any (w.heap.size + 1) (l.map Prod.fst) 3 TT (by omega) hTT
        have hgn := grown_nodes 3 (flat 3 (l.map Prod.fst))
        rw [← hTT] at hgn
        have hfn := flat_nodes 3 (l.map Prod.fst) (l.map Prod.fst).length (Nat.le_refl _)
        rw [List.take_length] at hfn
        unfold TakenIs at tk
        have HE : Hid (res = .ok TT (suf u j)) := by show _ = _; rw [HE0, hTT]
        clear HE0 hTT HI HL
        have t1_ : Mv 24 [.int .u8 124] u j o 0 a (.bool false) j 0 a := take_no u j o a hu2 hju 124 (by decide) hs
        unfold Mv at t1_
        go_wp2_with (first | (go_at_call 24; (with_reducible refine (t1_ _ _ kst.pb).mono ?_); rintro e w1 ⟨rfl, h1, t1⟩; replace kst := kst.call hg h1 t1; clear h1 t1) | (go_at_call 25; refine (tk _ _ (kst.own.is 0 none4 0 0) (by have := kst.zero.lt; omega)).mono ?_; rintro e w3 ⟨tv, rfl, i3, b3⟩; obtain ⟨va, vn, vc, rfl⟩ := i3.shape; replace kst := kst.later b3; obtain ⟨⟨d0, d1, d2, d3, d4, d5, d6, d7⟩, f0, f1, f2, f3, f4, f5, f6, f7⟩ := b8 kst.zero))
        refine ret28 Try.results13 w.heap.size TT _ rfl (box_set kst.zero TT _) rfl ?_
        exact .inl ⟨TT, j, _, HE.out, hju, rfl, (i3.carry (touch_set8 _ _ TT _).size (fun b hb _ => by omega) (fun b hb hlt => (touch_set8 _ _ TT _).block b hlt (fun e => by have := Option.some.inj e; omega))), kst.pb.other (touch_set8 _ _ TT _) (by omega), touch_over kst.t (touch_set8 _ _ TT _) (Nat.le_refl _)⟩
      | true =>
        have hin := sees_lt hs
        have t1_ : Mv 24 [.int .u8 124] u j o 0 a (.bool true) (j + 1) 0 a := take_yes u j o a hu2 hju 124 (by decide) hs
        have hstep : ∀ n, alts grp (n + 1) (flat 3 (l.map Prod.fst)) (suf u j) = (cat grp (suf u (j + 1))).then fun t l1 => alts grp n (laid (flat 3 (l.map Prod.fst)) t 3) l1 := fun n => by rw [alts, hs, if_pos rfl, suf_tail u j hin]
        obtain ⟨jj, hjj⟩ : ∃ jj, jj = j + 1 := ⟨_, rfl⟩
        rw [← hjj] at t1_ hstep
        have hjj2 : jj ≤ u.size := by omega
        unfold Mv at t1_
        rcases hC jj hjj2 with ⟨T, j', k1, k2, k3, k4, h23⟩ | ⟨er, q, k2, k3, h23⟩
        · have hT := hin_ jj T j' hjj2 k2 k3
          have HN : ∀ v : Value, LsRel 1 3 (alts grp) u a i res ((l ++ [(T, v)]).map Prod.fst) j' 0 a := fun v => by
            rcases HI.out with ⟨_, _, hm, n, hn, hr⟩ | ⟨h, _⟩
            · obtain ⟨n, rfl⟩ : ∃ m, n = m + 1 := ⟨n - 1, by omega⟩
              refine .inl ⟨rfl, rfl, by rw [nodes_snoc]; omega, n, by omega, ?_⟩
              rw [hr, hstep, k3, flat_more]
              rfl
            · exact absurd rfl h
          have HH : Hid (∀ v : Value, LsRel 1 3 (alts grp) u a i res ((l ++ [(T, v)]).map Prod.fst) j' 0 a) := HN
          clear HI HN hstep k3 hC hs
          unfold OkP at h23
          go_wp2_with (first | (go_at_call 24; (with_reducible refine (t1_ _ _ kst.pb).mono ?_); rintro e w1 ⟨rfl, h1, t1⟩; replace kst := kst.call hg h1 t1; clear h1 t1) | (go_at_call 23; (with_reducible refine (h23 _ _ kst.pb).mono ?_); rintro e w1 ⟨v, rfl, i1, h1, t1⟩; have hx1 := kst.lt; have hx2 := kst.zero.lt; obtain ⟨va, vn, vc, rfl⟩ := i1.shape; replace kst := (kst.call hg h1 t1).later (below_alloc w1 (.cells #[.int .i64 T.kind, .int .u64 T.set.a, .int .u64 T.set.b, .int .u64 T.set.c, .int .u64 T.set.d, .int .i64 T.min, .int .i64 T.max, .slice va vn vc] 28)); replace i1 := i1.later (below_alloc w1 (.cells #[.int .i64 T.kind, .int .u64 T.set.a, .int .u64 T.set.b, .int .u64 T.set.c, .int .u64 T.set.d, .int .i64 T.min, .int .i64 T.max, .slice va vn vc] 28)); clear h1 t1) | (at_builtin; refine wpList_one _ rfl (.tmp 17) (.tmp 19) rfl (w.heap.size + 1) _ l T va vn vc (w1.heap.size + 1) (by simp) rfl rfl kst.own (kst.fresh i1 hx1 hx2) (by omega) (by have := kst.zero.lt; omega) ?_; intro v' w2 p2 g2 q2))
          replace kst := kst.more hg p2 g2 (by simp; omega)
          go_roundw
          case rel => exact ⟨_, j', 0, a, kst, by omega, k2, HH.out _⟩
          case measure => exact left_less HL.out kst.pb (by omega) k2 (fun _ => by omega)
        · have HN : er ≠ 0 → ∀ (T : Tr) (v : Value) (j' : Nat), jj ≤ j' → T.nodes ≤ 2 * (j' - jj) + 2 → LsRel 1 3 (alts grp) u a i res ((l ++ [(T, v)]).map Prod.fst) j' er q := fun her T v j' h1 h2 => by
            rcases HI.out with ⟨_, _, hm, n, hn, hr⟩ | ⟨h, _⟩
            · obtain ⟨n, rfl⟩ : ∃ m, n = m + 1 := ⟨n - 1, by omega⟩
              refine .inr ⟨her, k2, by rw [nodes_snoc]; omega, ?_⟩
              rw [hr, hstep, k3]
              rfl
            · exact absurd rfl h
          have HH : Hid (er ≠ 0 → ∀ (T : Tr) (v : Value) (j' : Nat), jj ≤ j' → T.nodes ≤ 2 * (j' - jj) + 2 → LsRel 1 3 (alts grp) u a i res ((l ++ [(T, v)]).map Prod.fst) j' er q) := HN
          clear HI HN hstep k3 hC hs
          unfold BadP at h23
          go_wp2_with (first | (go_at_call 24; (with_reducible refine (t1_ _ _ kst.pb).mono ?_); rintro e w1 ⟨rfl, h1, t1⟩; replace kst := kst.call hg h1 t1; clear h1 t1) | (go_at_call 23; (with_reducible refine (h23 _ _ kst.pb).mono ?_); rintro e w1 ⟨T, v, j9, rfl, i1, h1, t1, z1, z2, z3, z4⟩; have hx1 := kst.lt; have hx2 := kst.zero.lt; obtain ⟨va, vn, vc, rfl⟩ := i1.shape; replace kst := (kst.call hg h1 t1).later (below_alloc w1 (.cells #[.int .i64 T.kind, .int .u64 T.set.a, .int .u64 T.set.b, .int .u64 T.set.c, .int .u64 T.set.d, .int .i64 T.min, .int .i64 T.max, .slice va vn vc] 28)); replace i1 := i1.later (below_alloc w1 (.cells #[.int .i64 T.kind, .int .u64 T.set.a, .int .u64 T.set.b, .int .u64 T.set.c, .int .u64 T.set.d, .int .i64 T.min, .int .i64 T.max, .slice va vn vc] 28)); clear h1 t1) | (at_builtin; refine wpList_one _ rfl (.tmp 17) (.tmp 19) rfl (w.heap.size + 1) _ l T va vn vc (w1.heap.size + 1) (by simp) rfl rfl kst.own (kst.fresh i1 hx1 hx2) (by omega) (by have := kst.zero.lt; omega) ?_; intro v' w2 p2 g2 q2))
          replace kst := kst.more hg p2 g2 (by simp; omega)
          go_roundw
          case rel => exact ⟨_, j9, er, q, kst, by omega, z3, HH.out z1 _ _ _ z2 z4⟩
          case measure => exact left_less HL.out kst.pb (by omega) z3 (fun h => absurd h z1)
    · have hbad : at_ ≤ u.size ∧ res = .bad b (suf u at_) := by rcases HI.out with ⟨h, _⟩ | ⟨_, h1, _, h2⟩; exact absurd h hb; exact ⟨h1, h2⟩
      obtain ⟨TT, hTT⟩ : ∃ TT, TT = grown 3 (flat 3 (l.map Prod.fst)) := ⟨_, rfl⟩
      have tk := taken_any (w.heap.size + 1) (l.map Prod.fst) 3 TT (by omega) hTT
      have hgn := grown_nodes 3 (flat 3 (l.map Prod.fst))
      rw [← hTT] at hgn
      have hfn := flat_nodes 3 (l.map Prod.fst) (l.map Prod.fst).length (Nat.le_refl _)
      rw [List.take_length] at hfn
      unfold TakenIs at tk
      have hTn : TT.nodes ≤ 2 * (j - i) + 3 := by omega
      have t1_ : Mv 24 [.int .u8 124] u j o b at_ (.bool false) j b at_ := take_dead u j o b at_ hb 124 (by decide)
      unfold Mv at t1_
      clear HI HL hTT
      go_wp2_with (first | (go_at_call 24; (with_reducible refine (t1_ _ _ kst.pb).mono ?_); rintro e w1 ⟨rfl, h1, t1⟩; replace kst := kst.call hg h1 t1; clear h1 t1) | (go_at_call 25; refine (tk _ _ (kst.own.is 0 none4 0 0) (by have := kst.zero.lt; omega)).mono ?_; rintro e w3 ⟨tv, rfl, i3, b3⟩; obtain ⟨va, vn, vc, rfl⟩ := i3.shape; replace kst := kst.later b3; obtain ⟨⟨d0, d1, d2, d3, d4, d5, d6, d7⟩, f0, f1, f2, f3, f4, f5, f6, f7⟩ := b8 kst.zero))
      refine ret28 Try.results13 w.heap.size TT _ rfl (box_set kst.zero TT _) rfl ?_
      exact .inr ⟨b, at_, TT, j, _, hbad.2, hbad.1, rfl, (i3.carry (touch_set8 _ _ TT _).size (fun b hb _ => by omega) (fun b hb hlt => (touch_set8 _ _ TT _).block b hlt (fun e => by have := Option.some.inj e; omega))), kst.pb.other (touch_set8 _ _ TT _) (by omega), touch_over kst.t (touch_set8 _ _ TT _) (Nat.le_refl _), hb, hij, hju, hTn⟩
end Go.Proofs.Ytjfnefmolhihaaa.st
