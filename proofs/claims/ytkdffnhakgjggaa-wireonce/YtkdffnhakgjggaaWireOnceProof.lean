/-
  For every text and every place the law WireOnce of package fretsawlaw02 returns true (what is read there, written again, is just the bytes that were read), and the arguments read as before. No condition.
-/
import Derived.Test.YtkdffnhakgjggaaRows
import Derived.Test.YtkdffnhakgjggaaOnce2
import Derived.SizedLaws
import Derived.WalkKit
import Derived.ProofKit
import Derived.OpenShut
import Derived.ShutString
namespace Go.Proofs.Ytkdffnhakgjggaa.wireOnce
open Go.ChangeShapes Go.WideShapes Go.ChangeAt Go.RowKit
open Go.ChangeMaps (open_string shut_string)
set_option linter.unusedVariables false

theorem own : ownKnob Try.prog.godebug = none := by kernel_rfl

theorem cut (s : ByteArray) (p q : Nat) (h : p ≤ q) : (s.extract p q).data.toList = (s.data.toList.drop p).take (q - p) := by
  have := num.cut_take s p (q - p)
  rwa [show p + (q - p) = q from by omega] at this
theorem cut_join (s : ByteArray) (p q j : Nat) (h1 : p ≤ q) (h2 : q ≤ j) : (s.extract p j).data.toList = (s.extract p q).data.toList ++ (s.extract q j).data.toList := by
  rw [cut s p j (by omega), cut s p q h1, cut s q j h2, show j - p = (q - p) + (j - q) from by omega, List.take_add, List.drop_drop, show p + (q - p) = q from by omega]

theorem text_arm (s : ByteArray) (p n q : Nat) (hs : s.size ≤ 140737488351232) (hn : n < 18446744073709551616) (hq1 : p < q) (hq2 : q ≤ s.size) (g9 : num.GetIs s p n q 0) (hd : (s.extract p q).data.toList = num.digs n) :
    (∃ t k, p < k ∧ k ≤ s.size ∧ num.GetTextIs s p s.size t k 0 ∧ num.PutTextIs t (s.extract p k)) ∨ (∃ f, f ≠ 0 ∧ num.GetTextIs s p s.size ⟨#[]⟩ 0 f) := by
  by_cases h1 : n ≤ (s.size : Int).toNat
  · have hsz := num.size_ok s p s.size n q hn ⟨by omega, by omega⟩ g9 h1
    by_cases h2 : q + n ≤ s.size
    · left
      refine ⟨s.extract q (q + n), q + n, by omega, h2, num.text_ok s p s.size n q (by omega) (by omega) hsz h2, ?_⟩
      have hz : (s.extract q (q + n)).size = n := by simp; omega
      have hp := num.putText_any (s.extract q (q + n)) (s.extract p q) (by omega) (by rw [hz]; exact hd)
      have e : s.extract p q ++ s.extract q (q + n) = s.extract p (q + n) := num.bytes_ext (by rw [num.list_append, cut_join s p q (q + n) (by omega) (by omega)])
      rwa [e] at hp
    · right
      exact ⟨20, by omega, num.text_short s p s.size n q (by omega) hq2 hsz (by omega)⟩
  · right
    exact ⟨2, by omega, num.text_err s p s.size 0 0 2 (num.size_long s p s.size n q hn ⟨by omega, by omega⟩ g9 (by omega)) (by omega)⟩

theorem all_arm (s : ByteArray) (p n q : Nat) (hs : s.size ≤ 140737488351232) (hn : n < 18446744073709551616) (hq1 : p < q) (hq2 : q ≤ s.size) (g9 : num.GetIs s p n q 0) (hd : (s.extract p q).data.toList = num.digs n) :
    (∃ ns j, p < j ∧ j ≤ s.size ∧ num.GetAllIs s p 5000 ns j 0 ∧ num.PutAllIs ns (s.extract p j)) ∨ (∃ h, h ≠ 0 ∧ num.GetAllIs s p 5000 [] 0 h) := by
  by_cases h1 : n ≤ (5000 : Int).toNat
  · have h5 : n ≤ 5000 := by omega
    have hsz := num.size_ok s p 5000 n q hn ⟨by omega, by omega⟩ g9 h1
    obtain ⟨ns, j, f, hl⟩ : ∃ ns j f, num.lists s.data.toList q n = (ns, j, f) := ⟨_, _, _, rfl⟩
    have hbd := num.lists_bounds hl (by rw [num.size_list]; exact hq2)
    have hli := num.list_any s q n (by omega) hq2 (by omega) (.inl (by omega)) ns j f hl
    have hall := num.all_list s p 5000 n q hsz ns j f hli
    rcases hbd with ⟨rfl, b1, b2, b3, b4, b5⟩ | ⟨rfl, rfl, hf⟩
    · rw [num.size_list] at b3
      left
      refine ⟨ns, j, by omega, b3, hall, num.putAll_is ns b5 (by omega) (s.extract p j) ?_⟩
      rw [cut_join s p q j (by omega) (by omega), hd, cut s q j (by omega), b4, b1]
    · right
      exact ⟨f, by omega, hall⟩
  · right
    exact ⟨2, by omega, num.all_err s p 5000 0 0 2 (num.size_long s p 5000 n q hn ⟨by omega, by omega⟩ g9 (by omega)) (by omega)⟩

theorem walk (a0 : ByteArray) (a1 : Int) (w0 : a0.size ≤ 140737488351232) (w1 : (Lit.int .i64 a1).wf = true) (w : World) :
    Calls Try.prog 8 #[.string a0, .int .i64 a1] w fun e w' => e = .returned (.bool true) ∧ Below w.heap.size w w' := by
  by_cases h : a1 < 0 ∨ (a0.size : Int) < a1
  · exact walk_out a0 a1 h w
  · obtain ⟨p, rfl⟩ := Int.eq_ofNat_of_zero_le (show 0 ≤ a1 by omega)
    have hp : p ≤ a0.size := by omega
    obtain ⟨n, q, e, hg⟩ : ∃ n q e, num.gets a0.data.toList p = (n, q, e) := ⟨_, _, _, rfl⟩
    have g9 := num.get_in a0 p (by omega) hp n q e hg
    obtain ⟨hn, hc⟩ := num.gets_bounds hg (by rw [num.size_list]; exact hp)
    rw [num.size_list] at hc
    rcases hc with ⟨rfl, h1, h2, h3, hrd⟩ | ⟨rfl, rfl, he, hrd⟩
    · have hd : (a0.extract p q).data.toList = num.digs n := by rw [cut a0 p q (by omega), (num.rd_ok hrd).1]
      have p11 := num.put_is n hn (a0.extract p q) hd
      rcases text_arm a0 p n q w0 hn h1 h3 g9 hd with ⟨t, k, t1, t2, t3, t4⟩ | ⟨f, f1, f2⟩
      · rcases all_arm a0 p n q w0 hn h1 h3 g9 hd with ⟨ns, j, j1, j2, j3, j4⟩ | ⟨x, x1, x2⟩
        · exact walk_ok_ok a0 p w0 hp n q h1 h3 g9 p11 t k t1 t2 t3 t4 ns j j1 j2 j3 j4 w
        · exact walk_ok_err a0 p w0 hp n q h1 h3 g9 p11 t k t1 t2 t3 t4 x x1 x2 w
      · rcases all_arm a0 p n q w0 hn h1 h3 g9 hd with ⟨ns, j, j1, j2, j3, j4⟩ | ⟨x, x1, x2⟩
        · exact walk_err_ok a0 p w0 hp n q h1 h3 g9 p11 f f1 f2 ns j j1 j2 j3 j4 w
        · exact walk_err_err a0 p w0 hp n q h1 h3 g9 p11 f f1 f2 x x1 x2 w
    · have he0 : e ≠ 0 := by omega
      exact walk_err a0 p hp e he0 g9 (num.text_err a0 p a0.size 0 0 e (num.size_err a0 p a0.size 0 0 e g9 he0) he0) (num.all_err a0 p 5000 0 0 e (num.size_err a0 p 5000 0 0 e g9 he0) he0) w


set_option maxRecDepth 100000 in
theorem lifted (os : Os) (started : os.Started) (H : Type) (enc : TypeId × Value → H) :
    ReturnsInHanded {} Try.checked os 8 .any (Rows.wireOnceSpec.pre6 enc Try.prog Try.f8 Rows.wireOnceRow.domain false) (Rows.wireOnceSpec.post enc Try.prog Try.f8 false true false false) := by
  refine returnsInHanded_of_change_sized (C := Try.checked) own started (by kernel_rfl) Try.func8
    (ChangeSpec.witness6 (enc := enc) (C := Try.checked) false ⟨#[], #[.string ByteArray.empty, .int .i64 0], []⟩ 8 (by kernel_rfl) (by kernel_rfl) (by kernel_rfl) (by kernel_rfl)) ?_
  intro W base args ds gs before hval0 hW hcnd hsz0 _
  have hsz : (DataW.weightsEach Try.prog (Try.f8.params.toList ++ Rows.wireOnceSpec.plain.varTypes Try.prog) (ds ++ gs)).all (· ≤ reachBytes) = true := hsz0
  have hval : ∀ (j : Nat) t v, Try.f8.params[j]? = some t → args[j]? = some v → Value.okWide Try.prog W .any base t v := hval0
  have hW' := hW
  obtain ⟨p, q, hA0, hV, rfl, hfz, hnd⟩ := hW
  have hA : DataW.TrodAll enc Try.prog W 0 (fun _ => true) true Try.f8.params.toList args.toList ds p := hA0
  rw [Try.params8] at hA hval hsz
  obtain ⟨v0, vs0, d0, ds0, p0, q0, hargs, rfl, rfl, h0, r0⟩ := trodAll_cons hA
  obtain ⟨v1, vs1, d1, ds1, p1, q1, rfl, rfl, rfl, h1, r1⟩ := trodAll_cons r0
  obtain ⟨rfl, rfl, rfl⟩ := trodAll_nil r1
  obtain rfl : args = #[v0, v1] := by cases args; simp_all
  obtain ⟨rfl, rfl⟩ := trodVars_none hV
  obtain ⟨a0, rfl, rfl, rfl, w0⟩ := open_string Try.underlying9 (hval 0 9 v0 rfl rfl) h0
  obtain ⟨a1, rfl, rfl, rfl, w1⟩ := open_int Try.underlying3 (hval 1 3 v1 rfl rfl) h1
  clear hA0 hval0
  have z0 : a0.size ≤ 140737488351232 := by
    have := sized_string hsz (j := 0) (t := 9) rfl rfl
    simpa [reachBytes] using this
  refine (walk a0 a1 z0 w1 W).mono fun e W' ⟨he, bel⟩ => ?_
  subst he
  exact ⟨_, rfl, _, _, _, [], [], [], hW', trodAll_mk1 (shut_bool Try.underlying4 _), (trodAll_cons_mk (shut_string Try.underlying9 w0) (trodAll_cons_mk (shut_int Try.underlying3 w1) trodAll_mk0)), rfl, bel.frame _, fun h => by cases h⟩

theorem over : Rows.wireOnceRow.holds Try.pinned (OpenSpec.ofChange Rows.wireOnceSpec) :=
  OpenClaim.holds_of_wide 8 Try.f8 rfl rfl rfl rfl rfl rfl rfl ⟨rfl, rfl, rfl, rfl, rfl⟩ rfl rfl rfl rfl rfl (by kernel_rfl) Try.func8 (by kernel_rfl)
    (of_decide_eq_true (by kernel_rfl)) (by unfold Func.isWrapper; first | (rw [if_pos (by decide +kernel)]; kernel_rfl) | (rw [if_neg (by decide +kernel)]; exact ⟨rfl, rfl⟩))
    (fun os started H enc _ => lifted os started H enc)

theorem proved : Rows.WireOnceSaid :=
  over
#print axioms proved
end Go.Proofs.Ytkdffnhakgjggaa.wireOnce
