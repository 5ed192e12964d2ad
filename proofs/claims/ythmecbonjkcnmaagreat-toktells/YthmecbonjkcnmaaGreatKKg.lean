/-
  Over this program: from the states at a place to those at the next one (tok.walk.step): what holds between the rounds.
-/
import Derived.Test.YthmecbonjkcnmaaGreatM04
namespace Go.Proofs.YthmecbonjkcnmaaGreat.wk
open Go.ChangeShapes Go.WideShapes Go.ChangeAt Go.RowKit
open nb (Cf Rl Pa)
open nf (Ed Eds EdAt)
set_option linter.unusedVariables false
set_option maxRecDepth 100000

/-- what is reached from these states by one byte -/
def Tx (X : Wd) (a : Nat) (here : List Nat) (x : Nat) : Prop := ∃ z ∈ here, Pa (Rr X) (z, a) (x, a + 1)
theorem Tx.lt {X : Wd} (ok : Ok X) {a : Nat} {here : List Nat} (hh : ∀ z ∈ here, z < X.n) {x : Nat} (h : Tx X a here x) : x < X.n := by
  obtain ⟨z, hz, hp⟩ := h
  cases hp with
  | step r p =>
    rename_i b
    have h1 := rr_in ok r
    have key : ∀ {c d : Cf}, Pa (Rr X) c d → c.1 < X.n → d.1 < X.n := by
      intro c d p
      induction p with
      | refl => exact id
      | step r _ ih => exact fun _ => ih (rr_in ok r).1
    exact key p h1.1
theorem Tx.more {X : Wd} {a : Nat} {here : List Nat} {x y : Nat} (h : Tx X a here x) (r : Rr X (x, a + 1) (y, a + 1)) : Tx X a here y := by
  obtain ⟨z, hz, hp⟩ := h
  exact ⟨z, hz, hp.trans (Pa.one r)⟩
/-- between the rounds of the outer loop -/
structure So (X : Wd) (fr a : Nat) (here bs : List Nat) (W : World) (v : Value) (wr : World) (v1 : Value) (n1 b1 : List Nat) (i : Nat) : Prop where
  out : Out X fr (a + 1) (Tx X a here) (Sb X bs) [] bs W v wr v1 n1 b1
  hit : ∀ j x, j < i → here[j]? = some x → ∀ y, Rr X (x, a) (y, a + 1) → Sb X b1 (y, a + 1)
  clo : ∀ x ∈ n1, ∀ y, Rr X (x, a + 1) (y, a + 1) → Sb X b1 (y, a + 1)
/-- between the rounds of the inner loop -/
structure Si (X : Wd) (fr a : Nat) (here bs : List Nat) (W : World) (v : Value) (i x m : Nat) (wr : World) (v1 : Value) (n1 b1 : List Nat) : Prop where
  so : So X fr a here bs W v wr v1 n1 b1 i
  at' : here[i]? = some x
  part : ∀ e ∈ (edgesOf X x).take m, e.free = false → nf.hasE e (X.s.data.getD a 0).toNat = true → ∀ y : Nat, e.to = (y : Int) → Sb X b1 (y, a + 1)
section
variable {X : Wd} {fr a : Nat} {here bs n1 b1 n2 b2 : List Nat} {W wr w2 : World} {v v1 v2 : Value} {i x m : Nat}
theorem So.later (ok : Ok X) (h : So X fr a here bs W v wr v1 n1 b1 i) (b : Below wr.heap.size wr w2) : So X fr a here bs W v w2 v1 n1 b1 i := ⟨h.out.later ok b, h.hit, h.clo⟩
theorem Si.later (ok : Ok X) (h : Si X fr a here bs W v i x m wr v1 n1 b1) (b : Below wr.heap.size wr w2) : Si X fr a here bs W v i x m w2 v1 n1 b1 := ⟨h.so.later ok b, h.at', h.part⟩
theorem So.start (k : Wk X W fr bs) (o : Own X W v []) : So X fr a here bs W v W v [] bs 0 := ⟨Out.refl k o (En.nil _ _ _), fun j x h => by omega, fun x h => by simp at h⟩
theorem Si.begin (h : So X fr a here bs W v wr v1 n1 b1 i) (hx : here[i]? = some x) : Si X fr a here bs W v i x 0 wr v1 n1 b1 := ⟨h, hx, fun e he => by simp at he⟩
theorem Si.skip (h : Si X fr a here bs W v i x m wr v1 n1 b1) (hm : m < (edgesOf X x).length) (hf : (edgesOf X x)[m].free = true ∨ nf.hasE (edgesOf X x)[m] (X.s.data.getD a 0).toNat = false) : Si X fr a here bs W v i x (m + 1) wr v1 n1 b1 := by
  refine ⟨h.so, h.at', fun e he hfr hb y hy => ?_⟩
  rcases take_mem hm he with he | rfl
  · exact h.part e he hfr hb y hy
  · rcases hf with hf | hf
    · rw [hf] at hfr; cases hfr
    · rw [hf] at hb; cases hb
theorem Si.put (h : Si X fr a here bs W v i x m wr v1 n1 b1) (hm : m < (edgesOf X x).length) {y : Nat} (hy : (edgesOf X x)[m].to = (y : Int)) (g : Out X fr (a + 1) (Tx X a here) (Sb X bs) n1 b1 wr v1 w2 v2 n2 b2) (e : Ent (Rr X) (a + 1) (Tx X a here) (Sb X bs) n1 (Sb X b1) y n2 (Sb X b2)) : Si X fr a here bs W v i x (m + 1) w2 v2 n2 b2 := by
  refine ⟨⟨h.so.out.trans g, fun j x' h1 h2 y' r => g.up _ (h.so.hit j x' h1 h2 y' r), fun x' hx' y' r => ?_⟩, h.at', fun e' he hfr hb y' hy' => ?_⟩
  · by_cases hin : x' ∈ n1
    · exact g.up _ (h.so.clo x' hin y' r)
    · exact e.clo x' hx' hin y' r
  · rcases take_mem hm he with he | rfl
    · exact g.up _ (h.part e' he hfr hb y' hy')
    · have : y' = y := by omega
      rw [this]; exact e.hit
theorem Si.done (h : Si X fr a here bs W v i x (edgesOf X x).length wr v1 n1 b1) : So X fr a here bs W v wr v1 n1 b1 (i + 1) := by
  refine ⟨h.so.out, fun j x' h1 h2 y r => ?_, h.so.clo⟩
  by_cases e : j < i
  · exact h.so.hit j x' e h2 y r
  · obtain rfl : j = i := by omega
    rw [h.at'] at h2
    cases h2
    obtain ⟨h3, e, he, hf, hb, hy⟩ := rr_byte.1 r
    exact h.part e (by rw [List.take_length]; exact he) hf hb y hy
theorem So.done (h : So X fr a here bs W v wr v1 n1 b1 here.length) : Stp (Rr X) a here (Sb X bs) n1 (Sb X b1) := by
  refine ⟨h.out.en, fun x hx y r => ?_, h.clo⟩
  obtain ⟨j, hj, rfl⟩ := List.getElem_of_mem hx
  exact h.hit j _ hj (List.getElem?_eq_getElem hj) y r
theorem stp_end (ha : a = X.s.size) : Stp (Rr X) a here (Sb X bs) [] (Sb X bs) := by
  refine ⟨En.nil _ _ _, fun x hx y r => ?_, fun x hx => by simp at hx⟩
  have := (rr_byte.1 r).1
  omega
end
theorem chain {w w1 w2 : World} (h1 : Below w.heap.size w w1) (h2 : Below w1.heap.size w1 w2) : Below w.heap.size w w2 := h1.trans (h2.mono h1.size)
theorem same_below (A : World) {W W' : World} (b : Below W.heap.size W W') (h1 : W.heap = A.heap) (h2 : W.os = A.os) (h3 : W.tape = A.tape) (h4 : W.output = A.output) : Below A.heap.size A W' :=
  ⟨b.os.trans h2, b.tape.trans h3, b.output.trans h4, h1 ▸ b.size, fun k hk => (b.block k (h1 ▸ hk)).trans (by rw [h1])⟩
theorem byte_at {s : ByteArray} {a : Nat} (h : a < s.size) : (s.data.getD a 0).toNat = (s[a]'h).toNat := by
  have : s.data.getD a 0 = s[a]'h := by
    show s.data.getD a 0 = s.data[a]'h
    rw [Array.getD_eq_getD_getElem?, Array.getElem?_eq_getElem h]; rfl
  rw [this]
def StepOut (X : Wd) (fr a : Nat) (here bs : List Nat) (W : World) (v : Value) (e : Ending) (w' : World) : Prop :=
  ∃ v' new bs', e = .returned v' ∧ Out X fr (a + 1) (Tx X a here) (Sb X bs) [] bs W v w' v' new bs' ∧ Stp (Rr X) a here (Sb X bs) new (Sb X bs') ∧ (a = X.s.size → new = [])
set_option maxHeartbeats 4000000 in
theorem step_any {X : Wd} {fr a : Nat} {here bs : List Nat} {W : World} {v vh : Value} (ok : Ok X) (k : Wk X W fr bs) (ho : Own X W v []) (hh : Own X W vh here) (hne : v.ownBlock = none ∨ v.ownBlock ≠ vh.ownBlock) (ha : a ≤ X.s.size) (hin : ∀ x ∈ here, x < X.n) (hlen : here.length ≤ X.n) :
    Calls Tryz.prog 97 #[.pointer (some ⟨X.wb, 0, none⟩), v, .int .i64 (a : Int), vh] W (StepOut X fr a here bs W v) := by
  obtain ⟨go, cp, rfl, hcp1, hcp2⟩ := ow.form ho
  obtain ⟨gh, ch, rfl, hch1, hch2⟩ := ow.form hh
  have c5 := k.c5
  have hs1 := ok.s1
  by_cases hend : a = X.s.size
  · have hei : (a : Int) = (X.s.size : Int) := by omega
    have HE := (show Hid (StepOut X fr a here bs W (.slice go 0 cp) (.returned (.slice go 0 cp)) W) from ⟨_, [], bs, rfl, Out.refl k ho (En.nil _ _ _), stp_end hend, fun _ => rfl⟩)
    clear k ho hh ok hin hend
    go_enter Tryz.func97, Tryz.ntmps97
    go_wp2_with (fail)
    go_ret
    exact HE.out
  · have hlt : a < X.s.size := by omega
    have hei : ((a : Int) == (X.s.size : Int)) = false := beq_eq_false_iff_ne.2 (by omega)
    have HOK := (show Hid (Ok X) from ok)
    have HIN := (show Hid (∀ x ∈ here, x < X.n) from hin)
    have HALL := (show Hid (∀ x, x < X.n → ∃ o cap, (edgesOf X x).length ≤ cap ∧ cap ≤ 9223372036854775807 ∧ ∀ W', Ch X (Value.slice go 0 cp).ownBlock W W' → W'.cell? ⟨X.rb, x, none⟩ = some (.slice o (edgesOf X x).length cap) ∧ ∀ i (h : i < (edgesOf X x).length), ∃ b off, o = some ⟨b, off, none⟩ ∧ b < W'.heap.size ∧ EdAt W' b (off + i * 7) (edgesOf X x)[i]) from fun x hx => k.all ok ho hx)
    have HHC := (show Hid (∀ W', Ch X (Value.slice go 0 cp).ownBlock W W' → Own X W' (.slice gh here.length ch) here) from fun W' c => hh.beside c (fun g e => by have := (hh.far e).1; have := ok.bs; omega) hne)
    have HEN := (show Hid (∀ (W1 : World) (v1 : Value) (n1 b1 : List Nat) (y : Nat), Wk X W1 fr b1 → Own X W1 v1 n1 → En (a + 1) (Tx X a here) (Sb X bs) n1 (Sb X b1) → Tx X a here y → Calls Tryz.prog 95 #[.pointer (some ⟨X.wb, 0, none⟩), v1, .int .i64 ((a + 1 : Nat) : Int), .int .i64 (y : Int)] W1 (EntOut X fr (a + 1) (Tx X a here) (Sb X bs) n1 b1 W1 v1 y)) from fun W1 v1 n1 b1 y k1 o1 e1 t1 => enter_any ok k1 o1 e1 (by omega) (fun x h => h.lt ok hin) (fun x y h r => h.more r) y t1)
    have HST := (show Hid (So X fr a here bs W (.slice go 0 cp) W (.slice go ([] : List Nat).length cp) [] bs 0) from So.start k ho)
    obtain ⟨by8, hby⟩ : ∃ by8, by8 = X.s.data.getD a 0 := ⟨_, rfl⟩
    have hn1 := ok.n1
    clear ok hin k ho hh hne hend
    go_enter Tryz.func97, Tryz.ntmps97
    go_wp2_with (fail)
    clear c5
    go_loopw [1, 23] (fun y z wr => ∃ (i : Nat) (n1 b1 : List Nat) (gy : Option Addr) (cy : Nat), y = .slice gy n1.length cy ∧ z = .int .i64 i ∧ i ≤ here.length ∧ Hid (So X fr a here bs W (.slice go 0 cp) wr (.slice gy n1.length cy) n1 b1 i)) (fun _ z _ => here.length - (intOf z).toNat)
    case atStart => exact ⟨0, [], bs, go, cp, rfl, rfl, by omega, HST⟩
    case round =>
      obtain ⟨i, n1, b1, gy, cy, rfl, rfl, hi, HL⟩ := hrel
      clear HST
      by_cases hin : i < here.length
      · obtain ⟨x, hx⟩ : ∃ x, here[i]? = some x := ⟨_, List.getElem?_eq_getElem hin⟩
        have HX := (show Hid (here[i]? = some x) from hx)
        have hxn := HIN.out x (List.mem_of_getElem? hx)
        have HXM := (show Hid (x ∈ here) from List.mem_of_getElem? hx)
        obtain ⟨g, rfl, hg, hcx⟩ := own_cell (HHC.out wr HL.out.out.ch) hx
        obtain ⟨o, cap, hcap1, hcap2, hall⟩ := HALL.out x hxn
        have HA := (show Hid (∀ W', Ch X (Value.slice go 0 cp).ownBlock W W' → W'.cell? ⟨X.rb, x, none⟩ = some (.slice o (edgesOf X x).length cap) ∧ ∀ i (h : i < (edgesOf X x).length), ∃ b off, o = some ⟨b, off, none⟩ ∧ b < W'.heap.size ∧ EdAt W' b (off + i * 7) (edgesOf X x)[i]) from hall)
        have hrow := (HA.out wr HL.out.out.ch).1
        have c4 := HL.out.out.k.c4
        have HLI := (show Hid (Si X fr a here bs W (.slice go 0 cp) i x 0 wr (.slice gy n1.length cy) n1 b1) from Si.begin HL.out HX.out)
        clear hall hx HL
        generalize hE : edgesOf X x = E at *
        have HE := (show Hid (edgesOf X x = E) from hE)
        clear hE
        obtain ⟨el, hel⟩ : ∃ el, el = E.length := ⟨_, rfl⟩
        rw [← hel] at hrow hcap1
        have HEL := (show Hid (el = E.length) from hel)
        clear hel
        go_wp2_with (fail)
        clear hrow c4 hcx hg
        go_loopw [1, 35] (fun y z wi => ∃ (m : Nat) (n2 b2 : List Nat) (gz : Option Addr) (cz : Nat), y = .slice gz n2.length cz ∧ z = .int .i64 m ∧ m ≤ el ∧ Hid (Si X fr a here bs W (.slice go 0 cp) i x m wi (.slice gz n2.length cz) n2 b2)) (fun _ z _ => el - (intOf z).toNat)
        case atStart => exact ⟨0, n1, b1, _, cy, rfl, rfl, by omega, HLI⟩
        case round =>
          obtain ⟨m, n2, b2, gz, cz, rfl, rfl, hm, HI⟩ := hrel
          clear HLI
          by_cases hmn : m < el
          · have hmE : m < E.length := by rw [← HEL.out]; exact hmn
            obtain ⟨b, off, rfl, hblt, ed⟩ := (HA.out _ HI.out.so.out.ch).2 m hmE
            obtain ⟨e0, e1, e2, e3, e4, e5, e6⟩ := ed
            have HMX := (show Hid (m < (edgesOf X x).length) from by show _ < _; rw [HE.out]; exact hmE)
            have hyE : (edgesOf X x)[m]'HMX.out = E[m] := by simp only [HE.out]
            have HYE := (show Hid ((edgesOf X x)[m]'HMX.out = E[m]) from hyE)
            have hmem := mem_edges HE.out hmE
            have hein := HOK.out.ein _ hmem
            have HFIT := (show Hid (nf.Fits E[m]) from HOK.out.efit _ hmem)
            have HRR := (show Hid (E[m] ∈ edgesOf X x) from by show _ ∈ _; rw [HE.out]; exact List.getElem_mem hmE)
            have c5 := HI.out.so.out.k.c5
            clear hyE hmem
            generalize E[m] = y at *
            obtain ⟨z, hz⟩ : ∃ z : Nat, y.to = (z : Int) := ⟨y.to.toNat, by omega⟩
            have HZ := (show Hid (y.to = (z : Int)) from hz)
            rw [hz] at e1
            cases hf : y.free with
            | true =>
              rw [hf] at e2
              have HN := (show Hid (Si X fr a here bs W (.slice go 0 cp) i x (m + 1) wr (.slice gz n2.length cz) n2 b2) from HI.out.skip HMX.out (.inl (by rw [HYE.out]; exact hf)))
              clear hf hz hein
              go_wp2_with (fail)
              go_region
              go_wp2_with (fail)
              go_roundw
              case rel => exact ⟨m + 1, n2, b2, gz, cz, rfl, by go_num, by omega, HN.out.later HOK.out (Below.drew (below_alloc _ _))⟩
              case measure => simp [intOf]; omega
            | false =>
              rw [hf] at e2
              have HFREE := (show Hid (y.free = false) from hf)
              clear hf hz hein
              have h114 := has_any (nf.setOf y) (nf.fits_of HFIT.out) (X.s[a]'hlt).toNat (UInt8.toNat_lt _) _ rfl
              unfold nf.setOf at h114
              dsimp only at h114
              have c5' : (wr.alloc (.cells #[.int .i64 y.fr, .int .i64 (z : Int), .bool false, .int .u64 y.a, .int .u64 y.b, .int .u64 y.c, .int .u64 y.d] 132)).cell? ⟨X.wb, 5, none⟩ = some (.string X.s) := (HI.out.so.out.k.later HOK.out (below_alloc wr (.cells #[.int .i64 y.fr, .int .i64 (z : Int), .bool false, .int .u64 y.a, .int .u64 y.b, .int .u64 y.c, .int .u64 y.d] 132))).c5
              clear c5
              have HBX := (show Hid ((wr.alloc (.cells #[.int .i64 y.fr, .int .i64 (z : Int), .bool false, .int .u64 y.a, .int .u64 y.b, .int .u64 y.c, .int .u64 y.d] 132)).heap[wr.heap.size]? = some (.cells #[.int .i64 y.fr, .int .i64 (z : Int), .bool false, .int .u64 y.a, .int .u64 y.b, .int .u64 y.c, .int .u64 y.d] 132 (0, 0))) from World.alloc_heap_new wr _)
              cases hh : nf.hasE y (X.s[a]'hlt).toNat with
              | false =>
                have hh2 : st.has ⟨y.a, y.b, y.c, y.d⟩ (X.s[a]'hlt).toNat = false := hh
                rw [hh2] at h114
                have HN := (show Hid (Si X fr a here bs W (.slice go 0 cp) i x (m + 1) wr (.slice gz n2.length cz) n2 b2) from HI.out.skip HMX.out (.inr (by rw [HYE.out, byte_at hlt]; exact hh)))
                clear hh hh2
                go_wp2_with (fail)
                go_region_with (go_at_call 114; refine (h114 _).mono ?_; rintro e w7 ⟨rfl, b7⟩; have b7' := same_below (wr.alloc (.cells #[.int .i64 y.fr, .int .i64 (z : Int), .bool false, .int .u64 y.a, .int .u64 y.b, .int .u64 y.c, .int .u64 y.d] 132)) b7 rfl rfl rfl rfl)
                all_goals (rename_i K9 hK9; refine hK9 _ _ ?_; clear hK9; have hN2 := HN.out.later HOK.out (chain (below_alloc _ _) b7'); go_wp2_with (fail); go_roundw; (case rel => exact ⟨m + 1, n2, b2, gz, cz, rfl, by go_num, by omega, hN2⟩); (case measure => simp [intOf]; omega))
              | true =>
                have hh2 : st.has ⟨y.a, y.b, y.c, y.d⟩ (X.s[a]'hlt).toNat = true := hh
                rw [hh2] at h114
                have hTz : Tx X a here z := ⟨x, HXM.out, Pa.one (rr_byte.2 ⟨hlt, y, HRR.out, HFREE.out, by rw [byte_at hlt]; exact hh, HZ.out⟩)⟩
                clear hh hh2
                go_wp2_with (fail)
                go_region_with (go_at_call 114; refine (h114 _).mono ?_; rintro e w7 ⟨rfl, b7⟩; have b7' := same_below (wr.alloc (.cells #[.int .i64 y.fr, .int .i64 (z : Int), .bool false, .int .u64 y.a, .int .u64 y.b, .int .u64 y.c, .int .u64 y.d] 132)) b7 rfl rfl rfl rfl; have hb7 : w7.heap[wr.heap.size]? = some (.cells #[.int .i64 y.fr, .int .i64 (z : Int), .bool false, .int .u64 y.a, .int .u64 y.b, .int .u64 y.c, .int .u64 y.d] 132 (0, 0)) := (b7'.block _ (by simp)).trans HBX.out; have k7 : w7.cell? ⟨wr.heap.size, 1, none⟩ = some (.int .i64 (z : Int)) := (by rw [Lib.cell_of_heap hb7]; rfl))
                all_goals (rename_i K9 hK9; refine hK9 _ _ ?_; clear hK9; have bb := chain (below_alloc _ _) b7'; go_wp2_with (fail); go_at_call 95; refine (HEN.out _ _ n2 b2 z (HI.out.so.out.k.later HOK.out bb) (HI.out.so.out.o.later bb) HI.out.so.out.en hTz).mono ?_; rintro e w8 ⟨v8, n8, b8, rfl, out8, ent8⟩; obtain ⟨g8, c8, rfl, hc81, hc82⟩ := ow.form out8.o; have HN := (show Hid (Si X fr a here bs W (.slice go 0 cp) i x (m + 1) w8 (.slice g8 n8.length c8) n8 b8) from (HI.out.later HOK.out bb).put HMX.out (by rw [HYE.out]; exact HZ.out) out8 ent8); clear out8 ent8 HI; go_wp2_with (fail); go_roundw; (case rel => exact ⟨m + 1, n8, b8, g8, c8, rfl, by go_num, by omega, HN⟩); (case measure => simp [intOf]; omega))
          · have hme : m = E.length := by rw [← HEL.out]; omega
            have HD := (show Hid (So X fr a here bs W (.slice go 0 cp) wr (.slice gz n2.length cz) n2 b2 (i + 1)) from by
              have := HI.out
              rw [hme, ← HE.out] at this
              exact this.done)
            clear hme
            go_wp2_with (fail)
            go_roundw
            case rel => exact ⟨i + 1, n2, b2, gz, cz, rfl, by go_num, by omega, HD⟩
            case measure => simp [intOf]; omega
      · have hie : i = here.length := by omega
        subst hie
        have HD := (show Hid (Stp (Rr X) a here (Sb X bs) n1 (Sb X b1)) from HL.out.done)
        go_wp2_with (fail)
        go_ret
        exact ⟨_, n1, b1, rfl, HL.out.out, HD.out, fun e => by omega⟩
end Go.Proofs.YthmecbonjkcnmaaGreat.wk
