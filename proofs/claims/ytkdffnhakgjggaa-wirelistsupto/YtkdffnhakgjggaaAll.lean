/-
  Contracts over this program: reading a list of numbers (wire.list, wire.GetAll, the document's GetAll).
-/
import Derived.Test.YtkdffnhakgjggaaLists
namespace Go.Proofs.Ytkdffnhakgjggaa.num
open Go.ChangeShapes Go.WideShapes Go.ChangeAt Go.RowKit
set_option linter.unusedVariables false

theorem info22 : (Try.prog.info? 22).map (fun i => (i.zero, i.size, i.bytes)) = some (some (.int .u64 0), 1, 8) := by kernel_rfl

def numCells (ns : List Nat) : List Value := ns.map fun (n : Nat) => Value.int .u64 (n : Int)

/-- a list of numbers that a call has made, and nothing older touched -/
def OwnNums (B : Nat) (v : Value) (ns : List Nat) (W0 w : World) : Prop := w.ownsRowF B 22 1 v ns.length (numCells ns) ∧ Below B W0 w ∧ B ≤ w.heap.size

theorem own_nums_nil (w : World) : OwnNums w.heap.size (.slice none 0 0) [] w w := ⟨⟨rfl, .inl ⟨rfl, rfl⟩⟩, Below.refl _ _, Nat.le_refl _⟩
theorem own_nums_new (w : World) {w1 : World} (hb : Below w.heap.size w w1) : OwnNums w.heap.size (.slice (some ⟨w1.heap.size, 0, none⟩) 0 0) [] w (w1.alloc (.cells #[] 22)) :=
  ⟨⟨rfl, .inr ⟨w1.heap.size, 0, #[], (0, 0), rfl, hb.size, alloc_last w1 _, Nat.zero_le _, Nat.le_refl _, Nat.zero_le _, rfl, rfl⟩⟩, hb.alloc hb.size _, Nat.le_trans hb.size ((Below.refl _ w1).alloc (Nat.le_refl _) _).size⟩

theorem owns_below {B : Nat} {e : TypeId} {v : Value} {n : Nat} {xs : List Value} {w w' : World} (h : w.ownsRowF B e 1 v n xs) (hb : Below w.heap.size w w') : w'.ownsRowF B e 1 v n xs := by
  refine ⟨h.1, ?_⟩
  rcases h.2 with hn | ⟨g, cap, cur, fz, hv, hbg, hg, rest⟩
  · exact .inl hn
  · have hlt : g < w.heap.size := (Array.getElem?_eq_some_iff.1 hg).1
    exact .inr ⟨g, cap, cur, fz, hv, hbg, (hb.block g hlt).trans hg, rest⟩
theorem OwnNums.below {B : Nat} {v : Value} {ns : List Nat} {W0 w w' : World} (h : OwnNums B v ns W0 w) (hb : Below w.heap.size w w') : OwnNums B v ns W0 w' :=
  ⟨owns_below h.1 hb, h.2.1.trans (hb.mono h.2.2), Nat.le_trans h.2.2 hb.size⟩

theorem OwnNums.nums {B : Nat} {v : Value} {ns : List Nat} {W0 w : World} (h : OwnNums B v ns W0 w) : Nums w v ns := by
  rcases h.1.2 with ⟨rfl, h0⟩ | ⟨g, cap, cur, fz, rfl, _, hg, _, hcap, _, hcs, htk⟩
  · exact .inl ⟨List.length_eq_zero_iff.1 h0, _, _, rfl⟩
  · refine .inr ⟨g, 0, cap, rfl, (Array.getElem?_eq_some_iff.1 hg).1, fun i hi => ?_⟩
    have hj2 : i < cur.toList.length := by simp; omega
    have e : cur.toList[i]? = some (.int .u64 (ns.getD i 0 : Nat)) := by
      have h1 : (cur.toList.take (ns.length * 1))[i]? = (numCells ns)[i]? := by rw [htk]
      rw [List.getElem?_take_of_lt (by omega)] at h1
      rw [h1]
      simp [numCells, List.getElem?_eq_getElem hi, List.getD_eq_getElem?_getD]
    rw [Array.getElem?_toList] at e
    simp [World.cell?, hg, e]

/-- a number put behind the list -/
theorem append_num {P : Program} {ops : Array Oper} {rest : List Oper} {o : Oper} {a : Act} {Q : Exit → Act → World → Prop} (hgd : o.guard = none) (s x : Operand) (t : TypeId)
    (ho : o.op = .call { callee := .builtin .append, args := #[s, x], argTypes := #[t, t] })
    (B : Nat) (i : TypeInfo) (ht : P.underlying t = some (.slice 22)) (hi : P.info? 22 = some i) (hz : i.zero = some (.int .u64 0)) (hsize : i.size = 1) (hby : i.bytes = 8)
    (v : Value) (ns : List Nat) (hs : a.eval s = v) (W0 w0 : World) (c : Nat) (hb : OwnNums B v ns W0 w0)
    (hx : a.eval x = .slice (some ⟨w0.heap.size, 0, none⟩) 1 1) (hlen : ns.length + 1 ≤ 17592186044416)
    (h : ∀ v' w', OwnNums B v' (ns ++ [c]) W0 w' → wpList P ops Q rest (a.put o.dst v') w') : wpList P ops Q (o :: rest) a (w0.alloc (.cells #[.int .u64 (c : Int)] 22)) := by
  have hb1 := hb.1.alloc (.cells #[.int .u64 (c : Int)] 22)
  have hb2 := hb.2.1.alloc hb.2.2 (.cells #[.int .u64 (c : Int)] 22)
  have hb3 : B ≤ (w0.alloc (.cells #[.int .u64 (c : Int)] 22)).heap.size := Nat.le_trans hb.2.2 ((Below.refl 0 w0).alloc (Nat.zero_le _) _).size
  refine wpList_append_ownF _ hgd s x t ho B 22 i (.int .u64 0) 1 8 ht hi hz hsize hby rfl (by decide) v ns.length (numCells ns) hs hb1 ⟨w0.heap.size, 0, none⟩ 1 1 [.int .u64 (c : Int)] hx rfl ?_ ?_ (by unfold maxLen; omega) (by omega) hb3 ?_
  · intro j u hj
    match j, hj with
    | 0, hj => simp at hj; subst hj; simp [Addr.add]
    | (j + 1), hj => simp at hj
  · intro u hu; simp at hu; subst hu; rfl
  · intro v' w' ho' hg _
    refine h v' w' ⟨?_, hb2.grown hg hb3 (fun k hk => (hb1.lt k hk).1), Nat.le_trans hb3 hg.size⟩
    have e1 : (ns ++ [c]).length = ns.length + 1 := by simp
    have e2 : numCells (ns ++ [c]) = numCells ns ++ [.int .u64 (c : Int)] := by simp [numCells]
    rw [e1, e2]; exact ho'

/-- so many numbers from a place on: they, the place behind them, and the error -/
def lists (l : List UInt8) (p n : Nat) : List Nat × Nat × Nat := join [] p (rdN n (l.drop p))

def ListIs (s : ByteArray) (p n : Nat) (ns : List Nat) (to e : Nat) : Prop := ∀ w, Calls Try.prog 32 #[.string s, .int .i64 p, .int .i64 n, .func (.func 9) #[] #[]] w fun r w' => ∃ v, r = .returned (.tuple #[v, .int .i64 to, .int .i64 e]) ∧ Nums w' v ns ∧ Below w.heap.size w w'

set_option maxHeartbeats 2000000 in
set_option maxRecDepth 100000 in
theorem list_any (s : ByteArray) (p n : Nat) (hs : s.size ≤ 1125899906842624) (hp : p ≤ s.size) (hn : n < 9223372036854775808) (hb : n ≤ 1000000000000 ∨ s.size ≤ 1000000000000) (ns : List Nat) (to e : Nat) (h : lists s.data.toList p n = (ns, to, e)) : ListIs s p n ns to e := by
  intro w
  obtain ⟨i0, hi0, hz0, hz1, hz2⟩ := info_parts info22
  have HR : Hid (lists s.data.toList p n = (ns, to, e)) := h
  clear h
  go_enter Try.func32, Try.ntmps32
  go_wp2
  go_loopw [1, 11, 16] (fun a u x wr => ∃ (q i : Nat) (acc : List Nat), a = .int .i64 q ∧ x = .int .i64 i ∧ i ≤ n ∧ q ≤ s.size ∧ acc.length = i ∧ i ≤ q ∧ OwnNums w.heap.size u acc w wr ∧ Hid (lists s.data.toList p n = join acc q (rdN (n - i) (s.data.toList.drop q)))) (fun _ _ x _ => n - (intOf x).toNat)
  case atStart => exact ⟨p, 0, [], rfl, rfl, by omega, hp, rfl, by omega, own_nums_nil w, rfl⟩
  case round =>
    obtain ⟨q, i, acc, rfl, rfl, hin, hq, hal, hiq, hown, HJ⟩ := hrel
    by_cases hend : i < n
    · obtain ⟨x, q2, f, hg⟩ : ∃ x q2 f, gets s.data.toList q = (x, q2, f) := ⟨_, _, _, rfl⟩
      have h9 := get_in s q hs hq x q2 f hg
      obtain ⟨hx, hc⟩ := gets_bounds hg (by rw [size_list]; exact hq)
      rcases hc with ⟨rfl, h1, h2, h3, hrd⟩ | ⟨rfl, rfl, hf, hrd⟩
      · rw [size_list] at h3
        have HE : Hid (lists s.data.toList p n = join (acc ++ [x]) q2 (rdN (n - (i + 1)) (s.data.toList.drop q2))) := by
          show _ = _
          rw [HJ.out, show n - i = n - (i + 1) + 1 from by omega, join_ok hrd, show q + (q2 - q) = q2 from by omega]
        clear HJ HR hrd hg
        go_wp2_with (first | (go_at_call 9; refine (h9 _).mono ?_; rintro e w1 ⟨rfl, rfl⟩) | (at_builtin; refine append_num rfl _ _ 37 rfl w.heap.size i0 Try.underlying37 hi0 hz0 hz1 hz2 _ _ rfl w _ _ (by exact hown) rfl (by omega) ?_; intro v' w' hb'))
        go_roundw
        case rel => exact ⟨q2, i + 1, acc ++ [x], rfl, by go_num, by omega, h3, by simp [hal], by omega, hb', HE⟩
        case measure => simp [intOf]; omega
      · have HE : Hid (([], 0, f) = (ns, to, e)) := by
          show _ = _
          rw [← HR.out, HJ.out, show n - i = n - (i + 1) + 1 from by omega, join_err hrd (by omega)]
        have hne : ((f : Int) != 0) = true := by rw [bne_iff_ne]; omega
        clear HJ HR hrd hg
        go_wp2_with (go_at_call 9; refine (h9 _).mono ?_; rintro e w1 ⟨rfl, rfl⟩)
        go_ret3
        have HE := HE.out
        simp only [Prod.mk.injEq] at HE
        obtain ⟨rfl, rfl, rfl⟩ := HE
        exact ⟨_, rfl, .inl ⟨rfl, _, _, rfl⟩, hown.2.1⟩
    · have HE : Hid ((acc, q, 0) = (ns, to, e)) := by
        show _ = _
        rw [← HR.out, HJ.out, show n - i = 0 from by omega, join_end]
      clear HJ HR
      go_wp2
      go_ret3
      have HE := HE.out
      simp only [Prod.mk.injEq] at HE
      obtain ⟨rfl, rfl, rfl⟩ := HE
      exact ⟨_, rfl, hown.nums, hown.2.1⟩

def GetAllIs (s : ByteArray) (i most : Int) (ns : List Nat) (to e : Nat) : Prop := ∀ w, Calls Try.prog 21 #[.string s, .int .i64 i, .int .i64 most] w fun r w' => ∃ v, r = .returned (.tuple #[v, .int .i64 to, .int .i64 e]) ∧ Nums w' v ns ∧ Below w.heap.size w w'
def RGetAllIs (s : ByteArray) (i most : Int) (ns : List Nat) (to e : Nat) : Prop := ∀ w, Calls Try.prog 22 #[.string s, .int .i64 i, .int .i64 most] w fun r w' => ∃ v, r = .returned (.tuple #[v, .int .i64 to, .int .i64 e]) ∧ Nums w' v ns ∧ Below w.heap.size w w'

theorem all_err (s : ByteArray) (i most : Int) (n to e : Nat) (g : SizeIs s i most n to e) (he : e ≠ 0) : GetAllIs s i most [] 0 e := by
  intro w
  have hne : ((e : Int) != 0) = true := by rw [bne_iff_ne]; omega
  go_enter Try.func21, Try.ntmps21
  go_wp2_with (go_at_call 30; refine (g _).mono ?_; rintro e w1 ⟨rfl, rfl⟩)
  go_ret3
  exact ⟨_, rfl, .inl ⟨rfl, _, _, rfl⟩, Below.refl _ _⟩
theorem all_list (s : ByteArray) (i most : Int) (n p : Nat) (g : SizeIs s i most n p 0) (ns : List Nat) (to e : Nat) (hl : ListIs s p n ns to e) : GetAllIs s i most ns to e := by
  intro w
  go_enter Try.func21, Try.ntmps21
  go_wp2_with (first | (go_at_call 30; refine (g _).mono ?_; rintro e w1 ⟨rfl, rfl⟩) | (go_at_call 32; refine (hl _).mono ?_; rintro e w2 ⟨v, rfl, hv, b2⟩))
  go_ret3
  exact ⟨_, rfl, hv, b2⟩

theorem rall_err (s : ByteArray) (i most : Int) (n to e : Nat) (g : RGetIs s i n to e) (he : e ≠ 0) : RGetAllIs s i most [] 0 e := by
  intro w
  have hne : ((e : Int) != 0) = true := by rw [bne_iff_ne]; omega
  go_enter Try.func22, Try.ntmps22
  go_wp2_with (go_at_call 10; refine (g _).mono ?_; rintro e w1 ⟨rfl, b1⟩)
  go_ret3
  exact ⟨_, rfl, .inl ⟨rfl, _, _, rfl⟩, b1⟩
theorem rall_long (s : ByteArray) (i most : Int) (n to : Nat) (hn : n < 18446744073709551616) (hm : -9223372036854775808 ≤ most ∧ most < 9223372036854775808) (g : RGetIs s i n to 0) (h : most.toNat < n) : RGetAllIs s i most [] 0 2 := by
  intro w
  have hp : 0 < n := by omega
  by_cases h0 : most < 0
  · go_enter Try.func22, Try.ntmps22
    go_wp2_with (go_at_call 10; refine (g _).mono ?_; rintro e w1 ⟨rfl, b1⟩)
    go_ret3
    exact ⟨_, rfl, .inl ⟨rfl, _, _, rfl⟩, b1⟩
  · obtain ⟨k, rfl⟩ := Int.eq_ofNat_of_zero_le (show 0 ≤ most by omega)
    have hp : k < n := by omega
    have hk := hm.2
    clear hm h
    go_enter Try.func22, Try.ntmps22
    go_wp2_with (go_at_call 10; refine (g _).mono ?_; rintro e w1 ⟨rfl, b1⟩)
    go_ret3
    exact ⟨_, rfl, .inl ⟨rfl, _, _, rfl⟩, b1⟩

theorem OwnNums.slice {B : Nat} {v : Value} {ns : List Nat} {W0 w : World} (h : OwnNums B v ns W0 w) : ∃ a cap, v = .slice a ns.length cap := by
  rcases h.1.2 with ⟨rfl, h0⟩ | ⟨g, cap, cur, fz, rfl, _⟩
  · exact ⟨none, 0, by rw [h0]⟩
  · exact ⟨_, _, rfl⟩

set_option maxHeartbeats 4000000 in
set_option maxRecDepth 100000 in
theorem rall_list (s : ByteArray) (i most : Int) (n p : Nat) (hs : s.size ≤ 140737488351232) (hn : n < 18446744073709551616) (hm : -9223372036854775808 ≤ most ∧ most < 9223372036854775808) (g : RGetIs s i n p 0) (hle : n ≤ most.toNat) (hp : p ≤ s.size) (hb : n ≤ 1000000000000 ∨ s.size ≤ 1000000000000) (ns : List Nat) (to e : Nat) (h : lists s.data.toList p n = (ns, to, e)) : RGetAllIs s i most ns to e := by
  intro w
  obtain ⟨i0, hi0, hz0, hz1, hz2⟩ := info_parts info22
  have HR : Hid (lists s.data.toList p n = (ns, to, e)) := h
  clear h
  by_cases hn0 : n = 0
  · subst hn0
    have HE : Hid (([], p, 0) = (ns, to, e)) := by
      show _ = _
      rw [← HR.out]
      rfl
    go_enter Try.func22, Try.ntmps22
    go_wp2_with (go_at_call 10; refine (g _).mono ?_; rintro e w1 ⟨rfl, b1⟩)
    have hown := own_nums_new w b1
    go_loopw [10, 12] (fun a u wr => a = .int .i64 p ∧ u = .slice (some ⟨w1.heap.size, 0, none⟩) 0 0 ∧ wr = w1.alloc (.cells #[] 22)) (fun _ _ _ => 0)
    case atStart => exact ⟨rfl, rfl, rfl⟩
    case round =>
      obtain ⟨rfl, rfl, rfl⟩ := hrel
      go_wp2
      go_ret3
      have HE := HE.out
      simp only [Prod.mk.injEq] at HE
      obtain ⟨rfl, rfl, rfl⟩ := HE
      exact ⟨_, rfl, hown.nums, hown.2.1⟩
  · obtain ⟨k, rfl⟩ := Int.eq_ofNat_of_zero_le (show 0 ≤ most by omega)
    have hk := hm.2
    have hpos : 0 < n := by omega
    have hor : (decide ((k : Int) < 0) || decide (k < n)) = false := by simp; omega
    have hn63 : n < 9223372036854775808 := by omega
    clear hm hle hn hn0
    go_enter Try.func22, Try.ntmps22
    go_wp2_with (go_at_call 10; refine (g _).mono ?_; rintro e w1 ⟨rfl, b1⟩)
    go_loopw [10, 12] (fun a u wr => ∃ (q : Nat) (acc : List Nat), a = .int .i64 q ∧ acc.length ≤ n ∧ q ≤ s.size ∧ acc.length ≤ q ∧ OwnNums w.heap.size u acc w wr ∧ Hid (lists s.data.toList p n = join acc q (rdN (n - acc.length) (s.data.toList.drop q)))) (fun a _ _ => s.size - (intOf a).toNat)
    case atStart => exact ⟨p, [], rfl, by simp, hp, by simp, own_nums_new w b1, rfl⟩
    case round =>
      obtain ⟨q, acc, rfl, hal, hq, hiq, hown, HJ⟩ := hrel
      obtain ⟨a, cap, rfl⟩ := hown.slice
      by_cases hend : acc.length < n
      · obtain ⟨x, q2, f, hg⟩ : ∃ x q2 f, gets s.data.toList q = (x, q2, f) := ⟨_, _, _, rfl⟩
        have h10 := rget_in s q hs hq x q2 f hg
        obtain ⟨hx, hc⟩ := gets_bounds hg (by rw [size_list]; exact hq)
        rcases hc with ⟨rfl, h1, h2, h3, hrd⟩ | ⟨rfl, rfl, hf, hrd⟩
        · rw [size_list] at h3
          have HE : Hid (lists s.data.toList p n = join (acc ++ [x]) q2 (rdN (n - (acc ++ [x]).length) (s.data.toList.drop q2))) := by
            show _ = _
            rw [HJ.out, show n - acc.length = n - (acc ++ [x]).length + 1 from by simp; omega, join_ok hrd, show q + (q2 - q) = q2 from by omega]
          clear HJ HR hrd hg
          go_wp2_with (first | (go_at_call 10; refine (h10 _).mono ?_; rintro e w2 ⟨rfl, b2⟩; have hown2 := hown.below b2) | (at_builtin; refine append_num rfl _ _ 37 rfl w.heap.size i0 Try.underlying37 hi0 hz0 hz1 hz2 _ _ rfl w _ _ (by exact hown2) rfl (by omega) ?_; intro v' w' hb'))
          go_roundw
          case rel => exact ⟨q2, acc ++ [x], rfl, by simp; omega, h3, by simp; omega, hb', HE⟩
          case measure => simp [intOf]; omega
        · have HE : Hid (([], 0, f) = (ns, to, e)) := by
            show _ = _
            rw [← HR.out, HJ.out, show n - acc.length = n - (acc.length + 1) + 1 from by omega, join_err hrd (by omega)]
          have hne : ((f : Int) != 0) = true := by rw [bne_iff_ne]; omega
          clear HJ HR hrd hg
          go_wp2_with (go_at_call 10; refine (h10 _).mono ?_; rintro e w2 ⟨rfl, b2⟩; have hown2 := hown.below b2)
          go_ret3
          have HE := HE.out
          simp only [Prod.mk.injEq] at HE
          obtain ⟨rfl, rfl, rfl⟩ := HE
          exact ⟨_, rfl, .inl ⟨rfl, _, _, rfl⟩, hown2.2.1⟩
      · have HE : Hid ((acc, q, 0) = (ns, to, e)) := by
          show _ = _
          rw [← HR.out, HJ.out, show n - acc.length = 0 from by omega, join_end]
        clear HJ HR
        go_wp2
        go_ret3
        have HE := HE.out
        simp only [Prod.mk.injEq] at HE
        obtain ⟨rfl, rfl, rfl⟩ := HE
        exact ⟨_, rfl, hown.nums, hown.2.1⟩
end Go.Proofs.Ytkdffnhakgjggaa.num
