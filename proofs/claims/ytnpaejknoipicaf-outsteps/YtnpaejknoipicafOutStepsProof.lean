/-
  'switchbacklaw.OutSteps' returns true for every input, and each argument reads behind the call as it read before: 'Rows.OutStepsSaid'. No condition.
-/
import Derived.Test.YtnpaejknoipicafArgsGrp
import Derived.Test.YtnpaejknoipicafOutMath
import Derived.Test.YtnpaejknoipicafOutBegun
import Derived.Test.YtnpaejknoipicafSamePk
import Derived.Deep.DeepCutAuto

namespace Go.Proofs.Ytnpaejknoipicaf
open Go.ChangeShapes Go.WideShapes Go.ChangeAt Go.RowKit

section
variable {H : Type} {enc : TypeId × Value → H} {W : World} {r : Reach} {b0 base : Nat} {spare : Nat → Bool} {held : Bool} {v : Value} {d : DataW H} {p : List MemPlace}

theorem Try.cellsGrs : Try.prog.cellsOf 51 = 1 := by kernel_rfl
theorem Try.cellsStore : Try.prog.cellsOf 55 = 3 := by kernel_rfl
theorem Try.cellsIntS : Try.prog.cellsOf 3 = 1 := by kernel_rfl

set_option maxRecDepth 100000 in
theorem trod_grp {fuel : Nat} {cs : List Value} {x : DataW H × List MemPlace} (h : DataW.trod enc Try.prog W base spare held fuel 53 cs = some x) :
    ∃ (u : Value) (l : List Fr), cs = [u] ∧ FrsIn (fun _ => True) W u l := by
  obtain ⟨xs, n, _, _, hl, hxl, hg⟩ := DataW.trod_struct Try.underlying53 h
  rw [Try.cellsGrp] at hl
  obtain ⟨c0, hcs⟩ := list1 hl
  obtain ⟨x0, rfl⟩ := list1 (show xs.length = 1 from hxl)
  rw [hcs] at hg
  have h0 : DataW.trod enc Try.prog W base spare held n 42 (([c0].drop 0).take (Try.prog.cellsOf 42)) = some x0 := hg 0 _ rfl
  rw [Try.cellsFrs] at h0
  obtain ⟨u, l, eu, hS⟩ := trod_frs h0
  simp at eu
  subst eu
  exact ⟨c0, l, hcs, hS⟩

set_option maxRecDepth 100000 in
theorem trod_grs {fuel : Nat} {cs : List Value} {x : DataW H × List MemPlace} (h : DataW.trod enc Try.prog W base spare held fuel 51 cs = some x) :
    ∃ (u : Value) (L : List (List Fr)), cs = [u] ∧ GrsIn (fun _ => True) W u L := by
  rcases Go.Deep.open_slice Try.underlying51 h with ⟨rfl, rfl⟩ | ⟨a, len, cap, m, n, D, Pl, rfl, hb, hl, hm, hmm, rfl, hx⟩
  · exact ⟨_, [], rfl, GrsIn.nil _ W⟩
  · have hlm : len ≤ m := by rw [hmm]; split <;> omega
    rw [Try.cellsGrp] at hx
    have each : ∀ i, i < len → ∃ q : List Fr × Value, FrsIn (fun _ => True) W q.2 q.1 ∧ W.cell? (a.add i) = some q.2 := fun i hi => by
      obtain ⟨cs', h1, h2⟩ := hx i (by omega)
      obtain ⟨u, l, hs, hw⟩ := trod_grp h2
      refine ⟨(l, u), hw, ?_⟩
      obtain ⟨_, hl1, hc⟩ := World.cells?_some h1
      have := hc 0 (by omega)
      rw [hs, Go.Deep.add_add] at this
      simpa using this
    obtain ⟨f, hf⟩ := Go.Deep.choose_lt each
    have hll : ((List.range len).map fun i => (f i).1).length = len := by simp
    refine ⟨_, (List.range len).map fun i => (f i).1, rfl, some a, cap, by rw [hll], by rw [hll]; omega, by unfold maxLen at hm; omega, fun k hk => ?_⟩
    rw [hll] at hk
    obtain ⟨b, off, spot⟩ := a
    have hc0 := (hf 0 (by omega)).2
    have hspot : spot = none := by simpa [Addr.add] using World.cell?_spot hc0
    subst hspot
    have hel : ((List.range len).map fun i => (f i).1)[k]?.getD [] = (f k).1 := by
      rw [List.getElem?_map, List.getElem?_range hk]; rfl
    rw [hel]
    have g : W.cell? ⟨b, off + k, none⟩ = some (f k).2 := by
      have := (hf k hk).2
      rw [Addr.add_lit] at this
      exact this
    exact ⟨b, off, rfl, by simpa [Addr.add] using World.block_lt_of_cell? W _ hc0, trivial, (f k).2, g, (hf k hk).1⟩

set_option maxRecDepth 100000 in
theorem op_store (hval : Value.okWide Try.prog W r b0 55 v) (h : DataW.Trod enc Try.prog W base spare held 55 v d p) :
    ∃ (first : Int) (gv ov : Value) (L : List (List Fr)) (O : List Fr), v = .agg #[.int .i64 first, gv, ov] ∧ (Lit.int .i64 first).wf = true ∧ GrsIn (fun _ => True) W gv L ∧ FrsIn (fun _ => True) W ov O := by
  obtain ⟨cs, rfl, _⟩ := okWide_struct Try.underlying55 hval
  obtain ⟨fuel, hf⟩ := h
  obtain ⟨xs, n, _, _, hl, hxl, hg⟩ := DataW.trod_struct Try.underlying55 hf
  rw [Try.cellsStore] at hl
  obtain ⟨c0, c1, c2, hcs⟩ := list3 hl
  obtain ⟨x0, x1, x2, rfl⟩ := list3 (show xs.length = 3 from hxl)
  rw [hcs] at hg
  have h0 : DataW.trod enc Try.prog W base spare held n 3 (([c0, c1, c2].drop 0).take (Try.prog.cellsOf 3)) = some x0 := hg 0 _ rfl
  have h1 : DataW.trod enc Try.prog W base spare held n 51 (([c0, c1, c2].drop 1).take (Try.prog.cellsOf 51)) = some x1 := hg 1 _ rfl
  have h2 : DataW.trod enc Try.prog W base spare held n 53 (([c0, c1, c2].drop 2).take (Try.prog.cellsOf 53)) = some x2 := hg 2 _ rfl
  rw [Try.cellsIntS] at h0
  rw [Try.cellsGrs] at h1
  rw [Try.cellsGrp] at h2
  obtain ⟨a, ea, _, wa⟩ := DataW.trod_int Try.underlying3 h0
  obtain ⟨u1, L, eu1, hL⟩ := trod_grs h1
  obtain ⟨u2, O, eu2, hO⟩ := trod_grp h2
  simp at ea eu1 eu2
  subst ea eu1 eu2
  refine ⟨a, c1, c2, L, O, ?_, wa, hL, hO⟩
  have : cs = #[.int .i64 a, c1, c2] := by
    apply Array.ext'
    simpa [Value.cells] using hcs
  rw [this]
end
end Go.Proofs.Ytnpaejknoipicaf

namespace Go.Proofs.Ytnpaejknoipicaf
open Go.ChangeShapes Go.WideShapes Go.ChangeAt Go.RowKit

section
variable {H : Type} {enc : TypeId × Value → H} {W : World} {r : Reach} {b0 base : Nat} {spare : Nat → Bool} {held : Bool} {v : Value} {d : DataW H} {p : List MemPlace}

theorem Try.cellsIntC : Try.prog.cellsOf 3 = 1 := by kernel_rfl

theorem Try.cellsOut : Try.prog.cellsOf 23 = 3 := by kernel_rfl

set_option maxRecDepth 100000 in
theorem op_out (hval : Value.okWide Try.prog W r b0 23 v) (h : DataW.Trod enc Try.prog W base spare held 23 v d p) :
    ∃ a b c : Int, v = .agg #[.int .i64 a, .int .i64 b, .int .i64 c] ∧ (Lit.int .i64 a).wf = true ∧ (Lit.int .i64 b).wf = true ∧ (Lit.int .i64 c).wf = true := by
  obtain ⟨cs, rfl, _⟩ := okWide_struct Try.underlying23 hval
  obtain ⟨fuel, hf⟩ := h
  obtain ⟨xs, n, _, _, hl, hxl, hf⟩ := DataW.trod_struct Try.underlying23 hf
  rw [Try.cellsOut] at hl
  obtain ⟨c0, c1, c2, hc⟩ := list3 hl
  obtain ⟨x0, x1, x2, rfl⟩ := list3 (show xs.length = 3 from hxl)
  rw [hc] at hf
  have h0 : DataW.trod enc Try.prog W base spare held n 3 (([c0, c1, c2].drop 0).take (Try.prog.cellsOf 3)) = some x0 := hf 0 _ rfl
  have h1 : DataW.trod enc Try.prog W base spare held n 3 (([c0, c1, c2].drop 1).take (Try.prog.cellsOf 3)) = some x1 := hf 1 _ rfl
  have h2 : DataW.trod enc Try.prog W base spare held n 3 (([c0, c1, c2].drop 2).take (Try.prog.cellsOf 3)) = some x2 := hf 2 _ rfl
  rw [Try.cellsIntC] at h0 h1 h2
  obtain ⟨a0, e0, _, w0⟩ := DataW.trod_int Try.underlying3 h0
  obtain ⟨a1, e1, _, w1⟩ := DataW.trod_int Try.underlying3 h1
  obtain ⟨a2, e2, _, w2⟩ := DataW.trod_int Try.underlying3 h2
  simp at e0 e1 e2
  subst e0 e1 e2
  refine ⟨a0, a1, a2, ?_, w0, w1, w2⟩
  have : cs = #[.int .i64 a0, .int .i64 a1, .int .i64 a2] := by
    apply Array.ext'
    simpa [Value.cells] using hc
  rw [this]

set_option maxRecDepth 100000 in
theorem op_bool (hval : Value.okWide Try.prog W r b0 4 v) (h : DataW.Trod enc Try.prog W base spare held 4 v d p) : ∃ a : Bool, v = .bool a := by
  obtain ⟨a, rfl, _⟩ := open_bool Try.underlying4 hval h
  exact ⟨a, rfl⟩
end
end Go.Proofs.Ytnpaejknoipicaf

namespace Go.Proofs.Ytnpaejknoipicaf
open Go.RowKit

set_option maxHeartbeats 16000000 in
set_option maxRecDepth 100000 in
theorem outSteps_any (l t s : Int) (f g : Fr) (fv gv : Value) (turn : Bool) (w : World) (hf : StrsIn (fun _ => True) w fv f.parts) (hg : StrsIn (fun _ => True) w gv g.parts) :
    Calls Try.prog 5 #[.agg #[.int .i64 l, .int .i64 t, .int .i64 s], .agg #[.int .i64 f.time, .bool f.key, fv], .agg #[.int .i64 g.time, .bool g.key, gv], .bool turn] w fun e w' => e = .returned (.bool true) ∧ Below w.heap.size w w' := by
  obtain ⟨fa, fc, ef⟩ := hf.1.len
  obtain ⟨ga, gc, eg⟩ := hg.1.len
  obtain ⟨fn, hfn⟩ : ∃ n, n = f.parts.length := ⟨_, rfl⟩
  obtain ⟨gn, hgn⟩ : ∃ n, n = g.parts.length := ⟨_, rfl⟩
  rw [← hfn] at ef
  rw [← hgn] at eg
  obtain ⟨ft, hft⟩ : ∃ x, x = f.time := ⟨_, rfl⟩
  obtain ⟨fk, hfk⟩ : ∃ x, x = f.key := ⟨_, rfl⟩
  obtain ⟨gt, hgt⟩ : ∃ x, x = g.time := ⟨_, rfl⟩
  obtain ⟨gk, hgk⟩ : ∃ x, x = g.key := ⟨_, rfl⟩
  obtain ⟨E1, hE1⟩ : ∃ x, x = sdE l t s f turn := ⟨_, rfl⟩
  obtain ⟨l1, hl1⟩ : ∃ x, x = (sdO l t s f turn).1 := ⟨_, rfl⟩
  obtain ⟨t1, ht1⟩ : ∃ x, x = (sdO l t s f turn).2.1 := ⟨_, rfl⟩
  obtain ⟨s1, hs1⟩ : ∃ x, x = (sdO l t s f turn).2.2 := ⟨_, rfl⟩
  obtain ⟨E2, hE2⟩ : ∃ x, x = sdE l1 t1 s1 g false := ⟨_, rfl⟩
  obtain ⟨l2, hl2⟩ : ∃ x, x = (sdO l1 t1 s1 g false).1 := ⟨_, rfl⟩
  obtain ⟨t2, ht2⟩ : ∃ x, x = (sdO l1 t1 s1 g false).2.1 := ⟨_, rfl⟩
  obtain ⟨s2, hs2⟩ : ∃ x, x = (sdO l1 t1 s1 g false).2.2 := ⟨_, rfl⟩
  obtain ⟨P2, hP2⟩ : ∃ x, x = sdP l1 t1 s1 g false := ⟨_, rfl⟩
  obtain ⟨n2, hn2⟩ : ∃ x, x = P2.length := ⟨_, rfl⟩
  obtain ⟨E3, hE3⟩ : ∃ x, x = sdE l1 t1 s1 g true := ⟨_, rfl⟩
  obtain ⟨l3, hl3⟩ : ∃ x, x = (sdO l1 t1 s1 g true).1 := ⟨_, rfl⟩
  obtain ⟨t3, ht3⟩ : ∃ x, x = (sdO l1 t1 s1 g true).2.1 := ⟨_, rfl⟩
  obtain ⟨s3, hs3⟩ : ∃ x, x = (sdO l1 t1 s1 g true).2.2 := ⟨_, rfl⟩
  obtain ⟨P3, hP3⟩ : ∃ x, x = sdP l1 t1 s1 g true := ⟨_, rfl⟩
  obtain ⟨n3, hn3⟩ : ∃ x, x = P3.length := ⟨_, rfl⟩
  have HSD1 : Hid (∀ U : World, Below w.heap.size w U → Calls Try.prog 7 #[.agg #[.int .i64 l, .int .i64 t, .int .i64 s], .agg #[.int .i64 ft, .bool fk, fv], .bool turn] U fun e w' => ∃ va n vc, e = .returned (.tuple #[.agg #[.int .i64 l1, .int .i64 t1, .int .i64 s1], .slice va n vc, .int .i64 E1]) ∧ Below U.heap.size U w') := fun U hU => by
    rw [hft, hfk]
    refine (outSend_any l t s f fv turn U (hf.below hU)).mono ?_
    rintro e w' ⟨v, rfl, ho, hb⟩
    obtain ⟨va, vc, ev⟩ := owns_slice6 ho
    rw [hl1, ht1, hs1, hE1, ev]
    exact ⟨va, _, vc, rfl, hb⟩
  have HSD2 : Hid (∀ U : World, Below w.heap.size w U → Calls Try.prog 7 #[.agg #[.int .i64 l1, .int .i64 t1, .int .i64 s1], .agg #[.int .i64 gt, .bool gk, gv], .bool false] U fun e w' => ∃ va vc, e = .returned (.tuple #[.agg #[.int .i64 l2, .int .i64 t2, .int .i64 s2], .slice va n2 vc, .int .i64 E2]) ∧ Hid (Pks w' (.slice va n2 vc) P2) ∧ Below U.heap.size U w') := fun U hU => by
    rw [hgt, hgk]
    refine (outSend_any l1 t1 s1 g gv false U (hg.below hU)).mono ?_
    rintro e w' ⟨v, rfl, ho, hb⟩
    rw [← hP2, ← hn2] at ho
    obtain ⟨va, vc, ev⟩ := owns_slice6 ho
    subst ev
    rw [hl2, ht2, hs2, hE2]
    exact ⟨va, vc, rfl, (by show Pks _ _ _; unfold Pks; rw [← hn2]; exact Sl.of_owns ho), hb⟩
  have HSD3 : Hid (∀ U : World, Below w.heap.size w U → Calls Try.prog 7 #[.agg #[.int .i64 l1, .int .i64 t1, .int .i64 s1], .agg #[.int .i64 gt, .bool gk, gv], .bool true] U fun e w' => ∃ va vc, e = .returned (.tuple #[.agg #[.int .i64 l3, .int .i64 t3, .int .i64 s3], .slice va n3 vc, .int .i64 E3]) ∧ Hid (w'.ownsRow U.heap.size 38 6 (.slice va n3 vc) n3 (pkCells P3)) ∧ Below U.heap.size U w') := fun U hU => by
    rw [hgt, hgk]
    refine (outSend_any l1 t1 s1 g gv true U (hg.below hU)).mono ?_
    rintro e w' ⟨v, rfl, ho, hb⟩
    rw [← hP3, ← hn3] at ho
    obtain ⟨va, vc, ev⟩ := owns_slice6 ho
    subst ev
    rw [hl3, ht3, hs3, hE3]
    exact ⟨va, vc, rfl, ho, hb⟩
  have HB1 : Hid (¬ E1 = 0 → l1 = 0 ∧ t1 = 0 ∧ s1 = 0) := fun h => by
    rw [hE1] at h
    obtain ⟨e, _⟩ := sd_bad h
    rw [hl1, ht1, hs1, e]; exact ⟨rfl, rfl, rfl⟩
  have HG : Hid (E1 = 0 → (E2 = 0 → t2 - t1 = gt - ft ∧ 0 ≤ t2 ∧ t2 ≤ 1000000 ∧ 0 ≤ t1 ∧ t1 ≤ 1000000) ∧ (E2 = 4 → gt < ft) ∧ (E2 = 0 → E3 = 0 → l2 = l3 ∧ n2 = gn ∧ n3 = gn ∧ 0 < gn ∧ gn ≤ 4 ∧ P2 = pksOf l1 t2 gk g.parts ∧ P3 = pksOf l1 t3 gk g.parts)) := fun h => by
    rw [hE1] at h
    obtain ⟨e1, _, a1, a2, a3, a4, a5, a6, a7, a8, a9, _⟩ := sd_zero h
    have x1 : l1 = l + f.parts.length := by rw [hl1, e1]
    have x2 : t1 = f.time + sdS l t s f.time turn := by rw [ht1, e1]
    have x3 : s1 = sdS l t s f.time turn := by rw [hs1, e1]
    have hsd : sdS l1 t1 s1 g.time false = s1 := by unfold sdS; rw [if_neg (by simp; omega)]
    refine ⟨fun h2 => ?_, fun h2 => ?_, fun h2 h3 => ?_⟩
    · rw [hE2] at h2
      obtain ⟨e2, _, b1, b2, b3, b4, _⟩ := sd_zero h2
      rw [hsd] at e2 b3 b4
      have y2 : t2 = g.time + s1 := by rw [ht2, e2]
      rw [hgt, hft]; omega
    · rw [hE2] at h2
      have := sd_four h2
      rw [hsd] at this
      rw [hgt, hft]; omega
    · rw [hE2] at h2
      rw [hE3] at h3
      obtain ⟨e2, p2, _, _, _, _, _, b6, b7, _⟩ := sd_zero h2
      obtain ⟨e3, p3, _⟩ := sd_zero h3
      have q2 : P2 = pksOf l1 t2 gk g.parts := by rw [hP2, p2, ht2, e2, hgk]
      have q3 : P3 = pksOf l1 t3 gk g.parts := by rw [hP3, p3, ht3, e3, hgk]
      refine ⟨by rw [hl2, hl3, e2, e3], ?_, ?_, by rw [hgn]; exact b6, by rw [hgn]; exact b7, q2, q3⟩
      · rw [hn2, q2, pksOf, pksK_len, hgn]
      · rw [hn3, q3, pksOf, pksK_len, hgn]
  have HS : Hid (Stay w (fun U => Below w.heap.size w U)) := below_stay0 w
  have HGN : Hid (gn = g.parts.length ∧ n2 = P2.length ∧ n3 = P3.length) := ⟨hgn, hn2, hn3⟩
  rw [← hft, ← hfk, ← hgt, ← hgk]
  clear hf hg hfn hgn hft hfk hgt hgk hE1 hl1 ht1 hs1 hE2 hl2 ht2 hs2 hP2 hn2 hE3 hl3 ht3 hs3 hP3 hn3
  subst ef eg
  go_enter Try.func5, Try.ntmps5
  go_wp2_with fail
  obtain ⟨W0, hW0⟩ : ∃ W0, W0 = ((w.alloc (.cells #[.int .i64 l, .int .i64 t, .int .i64 s] 23)).alloc (.cells #[.int .i64 ft, .bool fk, .slice fa fn fc] 26)).alloc (.cells #[.int .i64 gt, .bool gk, .slice ga gn gc] 26) := ⟨_, rfl⟩
  have HS0 : Hid (Stay W0 (fun U => (Blk U w.heap.size #[.int .i64 l, .int .i64 t, .int .i64 s] 23 ∧ Blk U (w.heap.size + 1) #[.int .i64 ft, .bool fk, .slice fa fn fc] 26 ∧ Blk U (w.heap.size + 1 + 1) #[.int .i64 gt, .bool gk, .slice ga gn gc] 26) ∧ Below w.heap.size w U)) := by
    rw [hW0]
    have h2 := Blk.new (w.alloc (.cells #[.int .i64 l, .int .i64 t, .int .i64 s] 23)) #[.int .i64 ft, .bool fk, .slice fa fn fc] 26
    have h3 := Blk.new ((w.alloc (.cells #[.int .i64 l, .int .i64 t, .int .i64 s] 23)).alloc (.cells #[.int .i64 ft, .bool fk, .slice fa fn fc] 26)) #[.int .i64 gt, .bool gk, .slice ga gn gc] 26
    rw [World.size_alloc] at h2
    rw [World.size_alloc, World.size_alloc] at h3
    exact (((((Blk.new _ _ _).alloc _).alloc _).stay).and ((h2.alloc _).stay.and h3.stay)).and (((HS.out.alloc _).alloc _).alloc _)
  rw [← hW0]
  clear hW0 HS
  refine (outBegun_any W0).mono ?_
  rintro e w1 ⟨rfl, b1⟩
  have HS1 := Stay.go HS0 b1
  clear b1 HS0
  obtain ⟨k0, k1, k2⟩ := HS1.out.now.1.1.three
  obtain ⟨i0, i1, i2⟩ := HS1.out.now.1.2.1.three
  go_wp2_with fail
  refine (HSD1.out w1 HS1.out.now.2).mono ?_
  rintro e w2 ⟨va, vn, vc, rfl, b2⟩
  obtain ⟨W2, hW2⟩ : ∃ W2, W2 = w2.alloc (.cells #[.int .i64 l1, .int .i64 t1, .int .i64 s1] 23) := ⟨_, rfl⟩
  have HS2 := Stay.allocE (Stay.go HS1 b2) hW2
  have HA2 : Hid (Stay W2 (fun U => Blk U w2.heap.size #[.int .i64 l1, .int .i64 t1, .int .i64 s1] 23)) := (Blk.newE hW2).stay
  clear b2 HS1 HSD1 k0 k1 k2 i0 i1 i2
  obtain ⟨a0, a1, a2⟩ := HA2.out.now.three
  go_upto_region 4 with fail
  rw [← hW2]
  clear hW2
  by_cases h1 : E1 = 0
  case neg =>
    obtain ⟨rfl, rfl, rfl⟩ := HB1.out h1
    have hq := fun W => eql_out 0 0 0 0 0 0 W
    have BW : Hid (Below w.heap.size w W2) := HS2.out.now.2
    clear HS2 HA2
    go_wp2
    go_ret
    exact ⟨rfl, BW.out⟩
  obtain ⟨hg2, hg4, hg3⟩ := HG.out h1
  have HG2 : Hid _ := hg2
  have HG4 : Hid (E2 = 4 → gt < ft) := hg4
  have HG3 : Hid _ := hg3
  clear hg2 hg4 hg3 HG HB1
  subst h1
  obtain ⟨j0, j1, j2⟩ := HS2.out.now.1.2.2.three
  go_wp2_with fail
  refine (HSD2.out W2 HS2.out.now.2).mono ?_
  rintro e w3 ⟨va2, vc2, rfl, R3, b3⟩
  obtain ⟨W3, hW3⟩ : ∃ W3, W3 = w3.alloc (.cells #[.int .i64 l2, .int .i64 t2, .int .i64 s2] 23) := ⟨_, rfl⟩
  have HS3 := Stay.allocE (Stay.go HS2 b3) hW3
  have HA3 := Stay.allocE (Stay.go HA2 b3) hW3
  have HB3 : Hid (Stay W3 (fun U => Blk U w3.heap.size #[.int .i64 l2, .int .i64 t2, .int .i64 s2] 23 ∧ Pks U (.slice va2 n2 vc2) P2)) := (Blk.newE hW3).stay.and (fun U hU => (by
    have h : Pks W3 (.slice va2 n2 vc2) P2 := by rw [hW3]; exact R3.out.below ((Below.refl _ _).alloc (Nat.le_refl _) _)
    exact h.below hU))
  clear b3 R3 HS2 HA2 HSD2 a0 a1 a2 j0 j1 j2
  obtain ⟨a0, a1, a2⟩ := HA3.out.now.three
  obtain ⟨j0, j1, j2⟩ := HS3.out.now.1.2.2.three
  go_upto_region 7 with fail
  rw [← hW3]
  clear hW3
  go_wp2_with fail
  refine (HSD3.out W3 HS3.out.now.2).mono ?_
  rintro e w4 ⟨va3, vc3, rfl, R4, b4⟩
  obtain ⟨W4, hW4⟩ : ∃ W4, W4 = w4.alloc (.cells #[.int .i64 l3, .int .i64 t3, .int .i64 s3] 23) := ⟨_, rfl⟩
  have b44 : Below W3.heap.size W3 W4 := by rw [hW4]; exact b4.alloc b4.size _
  have HS4 := Stay.go HS3 b44
  have HA4 := Stay.go HA3 b44
  have HB4 := Stay.go HB3 b44
  have HC4 : Hid (Blk W4 w4.heap.size #[.int .i64 l3, .int .i64 t3, .int .i64 s3] 23) := Blk.newE hW4
  have R4' : Hid (W4.ownsRow W3.heap.size 38 6 (.slice va3 n3 vc3) n3 (pkCells P3)) := by rw [hW4]; exact R4.out.alloc _
  have HW34 : Hid (Below W3.heap.size W3 W4) := b44
  have HR4g : Hid (∀ q, (Value.slice va3 n3 vc3).ownBlock = some q → q < w4.heap.size) := fun q hq => (R4.out.lt q hq).2
  clear b4 b44 R4 HSD3 a0 a1 a2 j0 j1 j2
  obtain ⟨a0, a1, a2⟩ := HA4.out.now.three
  obtain ⟨j0, j1, j2⟩ := HS4.out.now.1.2.2.three
  obtain ⟨i0, i1, i2⟩ := HS4.out.now.1.2.1.three
  obtain ⟨d0, d1, d2⟩ := HB4.out.now.1.three
  obtain ⟨c0, c1, c2⟩ := HC4.out.three
  have BW4 : Hid (Below w.heap.size w W4) := HS4.out.now.2
  go_upto_region 8 with fail
  rw [← hW4]
  clear hW4
  by_cases h2 : E2 = 0
  case neg =>
    have hb2 : (E2 == 0) = false := by simpa using h2
    clear HS3 HA3 HB3 HS4 HA4 HB4 HC4 R4'
    by_cases h4 : E2 = 4
    · have h5 := HG4.out h4
      have h6 : decide (ft ≤ gt) = false := decide_eq_false (by omega)
      subst h4
      clear h2 hb2 h5
      go_wp2
      go_ret
      exact ⟨rfl, BW4.out⟩
    · have hb4 : (E2 == 4) = false := by simpa using h4
      go_wp2
      go_ret
      exact ⟨rfl, BW4.out⟩
  obtain ⟨u1, u2, u3, u4, u5⟩ := HG2.out h2
  have HG3' : Hid _ := HG3.out h2
  subst h2
  have hsub1 : t2 - t1 = gt - ft := u1
  by_cases h3 : E3 = 0
  case neg =>
    have hb3 : (E3 == 0) = false := by simpa using h3
    clear HS3 HA3 HB3 HS4 HA4 HB4 HC4 R4'
    go_wp2
    go_ret
    exact ⟨rfl, BW4.out⟩
  obtain ⟨v1, v2, v3, v4, v5, v6, v7⟩ := HG3'.out h3
  subst h3 v1
  have hn3P : P3.length = n3 := HGN.out.2.2.symm
  obtain ⟨g3, c3, cur, er, hg3, hbk, hcur⟩ := owns_row6 R4'.out hn3P (by omega)
  injection er with er1 er2 er3
  clear er2
  subst er1 er3
  have hgw : g3 < w4.heap.size := HR4g.out g3 rfl
  have HK4 : Hid (StayK [g3] W4 (fun U => ((Blk U w.heap.size #[.int .i64 l, .int .i64 t, .int .i64 s] 23 ∧ Blk U (w.heap.size + 1) #[.int .i64 ft, .bool fk, .slice fa fn fc] 26 ∧ Blk U (w.heap.size + 1 + 1) #[.int .i64 gt, .bool gk, .slice ga gn gc] 26) ∧ Below w.heap.size w U) ∧ (Blk U w3.heap.size #[.int .i64 l2, .int .i64 t2, .int .i64 s2] 23 ∧ Pks U (.slice va2 n2 vc2) P2) ∧ Blk U w4.heap.size #[.int .i64 l2, .int .i64 t3, .int .i64 s3] 23)) :=
    (HS3.out.toKb HW34.out (fun k hk => by simp at hk; omega)).and ((HB3.out.toKb HW34.out (fun k hk => by simp at hk; omega)).and (HC4.out.stayK (by simp; omega)))
  have HCUR : Hid (Blk W4 g3 cur 38 ∧ ∀ i j u, i < n2 → (pkMix l1 t2 t3 gk g.parts 0 i).cells[j]? = some u → cur[i * 6 + j]? = some u) := by
    refine ⟨hbk, fun i j u hi hj => hcur i j u (by omega) ?_⟩
    rw [pkMix, if_neg (Nat.not_lt_zero _)] at hj
    rw [v7, pksOf_at (by rw [← HGN.out.1]; omega)]; exact hj
  have HP2 : Hid (P2 = pksOf l1 t2 gk g.parts) := v6
  have hw1 : IntKind.i64.wrap (t2 - t1) = t2 - t1 := by rw [IntKind.wrap_i64]; omega
  clear hbk hcur R4' HS3 HA3 HB3 HS4 HA4 HB4 HC4 HW34 HR4g v6 v7 hw1 hn3P HG2 HG3 HG3' HG4 BW4
  go_upto_region 12 with fail
  clear a0 a1 a2 j0 j1 j2 i0 i1 i2 d0 d1 d2 c0 c1 c2 hsub1 u1 u2 u3 u4 u5
  subst v2
  have v3' : n3 = n2 := v3
  subst v3'
  clear v3
  go_wp2_with fail
  go_loopw [17] (fun i wr => ∃ (k : Nat) (cur : Array Value), k ≤ n3 ∧ i = .int .i64 k ∧ Hid (Blk wr g3 cur 38 ∧ ∀ i j u, i < n3 → (pkMix l1 t2 t3 gk g.parts k i).cells[j]? = some u → cur[i * 6 + j]? = some u) ∧ Hid (StayK [g3] wr (fun U => ((Blk U w.heap.size #[.int .i64 l, .int .i64 t, .int .i64 s] 23 ∧ Blk U (w.heap.size + 1) #[.int .i64 ft, .bool fk, .slice fa fn fc] 26 ∧ Blk U (w.heap.size + 1 + 1) #[.int .i64 gt, .bool gk, .slice ga n3 gc] 26) ∧ Below w.heap.size w U) ∧ (Blk U w3.heap.size #[.int .i64 l2, .int .i64 t2, .int .i64 s2] 23 ∧ Pks U (.slice va2 n3 vc2) P2) ∧ Blk U w4.heap.size #[.int .i64 l2, .int .i64 t3, .int .i64 s3] 23)))
    (fun i _ => n3 - (intOf i).toNat)
  case atStart => exact ⟨0, cur, Nat.zero_le _, rfl, HCUR.out, HK4.out⟩
  case round =>
    obtain ⟨k, cur', hk, rfl, HC, HT⟩ := hrel
    clear HCUR HK4
    by_cases hlt : k < n3
    · have hlti : (k : Int) < (n3 : Int) := by omega
      have hkP : k < P2.length := by rw [← HGN.out.2.1]; exact hlt
      obtain ⟨b2, off2, e2, hb2, hc2⟩ := HT.out.now.2.1.2.at hkP
      have hPk : P2[k].time = t2 := by
        have h1 : P2[k]?.getD Pk.zero = pkAt l1 t2 gk g.parts k := by rw [HP2.out]; exact pksOf_at (by rw [← HGN.out.1]; exact hlt)
        rw [List.getElem?_eq_getElem hkP, Option.getD_some] at h1
        rw [h1]; rfl
      have x1 := hc2 1 (.int .i64 t2) (by rw [← hPk]; rfl)
      have y1 := HC.out.1.cell (HC.out.2 k 1 (.int .i64 (pkMix l1 t2 t3 gk g.parts k k).time) hlt rfl)
      have fz := HC.out.1.free (k * 6 + 1)
      obtain ⟨q, hq⟩ : ∃ q, q = (pkMix l1 t2 t3 gk g.parts k k).time := ⟨_, rfl⟩
      rw [← hq] at y1
      have HC2 : Hid (Blk (wr.setCell ⟨g3, k * 6 + 1, none⟩ (.int .i64 t2)) g3 (cur'.setIfInBounds (k * 6 + 1) (.int .i64 t2)) 38 ∧ ∀ i j u, i < n3 → (pkMix l1 t2 t3 gk g.parts (k + 1) i).cells[j]? = some u → (cur'.setIfInBounds (k * 6 + 1) (.int .i64 t2))[i * 6 + j]? = some u) := ⟨HC.out.1.set _ _, pkMix_step HC.out.2 hlt⟩
      have HT2 := StayK.goK HT ((Kept.refl [g3] wr).setCell (p := ⟨g3, k * 6 + 1, none⟩) (by simp) (.int .i64 t2))
      subst e2
      clear hc2 hPk hq HC HT hkP
      go_wp2_with fail
      go_roundw
      case rel => exact ⟨k + 1, _, by omega, by go_num, HC2.out, HT2.out⟩
      case measure => simp [intOf]; omega
    · have hkn : k = n3 := by omega
      subst hkn
      have hrow : Pks wr (.slice (some ⟨g3, 0, none⟩) k vc3) P2 := Pks.of_blk HC.out.1 HGN.out.2.1.symm (fun i j u hi hj => HC.out.2 i j u hi (by
        rw [HP2.out, pksOf_at (by rw [← HGN.out.1]; exact hi)] at hj
        rw [pkMix, if_pos hi]; exact hj))
      have HSM : Hid (Calls Try.prog 13 #[.slice va2 k vc2, .slice (some ⟨g3, 0, none⟩) k vc3] wr fun e w' => e = .returned (.bool true) ∧ Below wr.heap.size wr w') := samePk_refl _ _ P2 wr HT.out.now.2.1.2 hrow (by rw [← HGN.out.2.1]; omega)
      obtain ⟨d0, d1, d2⟩ := HT.out.now.2.1.1.three
      obtain ⟨c0, c1, c2⟩ := HT.out.now.2.2.three
      have BW : Hid (Below w.heap.size w wr) := HT.out.now.1.2
      clear hrow HC HT
      go_wp2_with fail
      refine HSM.out.mono ?_
      rintro e w9 ⟨rfl, b9⟩
      have BW9 : Hid (Below w.heap.size w w9) := BW.out.trans (b9.mono BW.out.size)
      clear b9 BW
      go_wp2
      go_ret
      exact ⟨rfl, BW9.out⟩

end Go.Proofs.Ytnpaejknoipicaf

namespace Go.Proofs.Ytnpaejknoipicaf
namespace outSteps
open Go.ChangeShapes Go.WideShapes Go.ChangeAt Go.RowKit

set_option maxRecDepth 100000 in
theorem lifted (os : Os) (started : os.Started) (H : Type) (enc : TypeId × Value → H) :
    ReturnsInHanded {} Try.checked os 5 .any (Rows.outStepsSpec.pre6 enc Try.prog Try.f5 Rows.outStepsRow.domain false) (Rows.outStepsSpec.post enc Try.prog Try.f5 false true false false) := by
  refine returnsInHanded_of_change_sized (C := Try.checked) own started (by kernel_rfl) Try.func5
    (ChangeSpec.witness6 (enc := enc) (C := Try.checked) false ⟨#[], #[.agg #[.int .i64 0, .int .i64 0, .int .i64 0], .agg #[.int .i64 0, .bool false, .slice none 0 0], .agg #[.int .i64 0, .bool false, .slice none 0 0], .bool false], []⟩ 8 (by kernel_rfl) (by kernel_rfl) (by kernel_rfl) (by kernel_rfl)) ?_
  intro W base args ds gs before hval0 hW _ hsz0 _
  have hsz : (DataW.weightsEach Try.prog (Try.f5.params.toList ++ Rows.outStepsSpec.plain.varTypes Try.prog) (ds ++ gs)).all (· ≤ reachBytes) = true := hsz0
  clear hsz0
  have hval : ∀ (j : Nat) t v, Try.f5.params[j]? = some t → args[j]? = some v → Value.okWide Try.prog W .any base t v := hval0
  have hW' := hW
  obtain ⟨p, q, hA0, hV, rfl, _, _⟩ := hW
  have hA : DataW.TrodAll enc Try.prog W 0 (fun _ => true) true Try.f5.params.toList args.toList ds p := hA0
  rw [Try.params5] at hA hval hsz
  obtain ⟨v0, vs0, d0, ds0, p0, q0, hargs, rfl, rfl, h0, r0⟩ := trodAll_cons hA
  obtain ⟨v1, vs1, d1, ds1, p1, q1, rfl, rfl, rfl, h1, r1⟩ := trodAll_cons r0
  obtain ⟨v2, vs2, d2, ds2, p2, q2, rfl, rfl, rfl, h2, r2⟩ := trodAll_cons r1
  obtain ⟨v3, vs3, d3, ds3, p3, q3, rfl, rfl, rfl, h3, r3⟩ := trodAll_cons r2
  obtain ⟨rfl, rfl, rfl⟩ := trodAll_nil r3
  obtain rfl : args = #[v0, v1, v2, v3] := by cases args; simp_all
  obtain ⟨rfl, rfl⟩ := trodVars_none hV
  have lt0 : ∀ x ∈ p0, x.block < W.heap.size := by obtain ⟨m, hm⟩ := h0; exact DataW.trod_lt m _ _ _ hm
  have lt1 : ∀ x ∈ p1, x.block < W.heap.size := by obtain ⟨m, hm⟩ := h1; exact DataW.trod_lt m _ _ _ hm
  have lt2 : ∀ x ∈ p2, x.block < W.heap.size := by obtain ⟨m, hm⟩ := h2; exact DataW.trod_lt m _ _ _ hm
  have lt3 : ∀ x ∈ p3, x.block < W.heap.size := by obtain ⟨m, hm⟩ := h3; exact DataW.trod_lt m _ _ _ hm
  obtain ⟨a0, b0, c0, ev0, wa0, wb0, wc0⟩ := op_out (hval 0 23 v0 rfl rfl) h0
  obtain ⟨t1, k1, u1, l1, ev1, wf1, s1, f1, n1⟩ := op_frm (hval 1 26 v1 rfl rfl) h1
  obtain ⟨t2, k2, u2, l2, ev2, wf2, s2, f2, n2⟩ := op_frm (hval 2 26 v2 rfl rfl) h2
  obtain ⟨a3, ev3⟩ := op_bool (hval 3 4 v3 rfl rfl) h3
  clear hA0 hval0
  subst ev0
  subst ev1
  subst ev2
  subst ev3
  refine (outSteps_any a0 b0 c0 ⟨t1, k1, l1⟩ ⟨t2, k2, l2⟩ u1 u2 a3 W (StrsIn.of s1 (by unfold maxLen at n1; omega)) (StrsIn.of s2 (by unfold maxLen at n2; omega))).mono fun e W1 ⟨he, bel⟩ => ?_
  subst he
  exact ⟨_, rfl, _, _, _, [], _, [], hW', trodAll_mk1 (shut_bool Try.underlying4 _), (trodAll_cons_mk (Below.trod laidOut (by kernel_rfl) (of_decide_eq_true (by kernel_rfl)) h0 bel lt0) (trodAll_cons_mk (Below.trod laidOut (by kernel_rfl) (of_decide_eq_true (by kernel_rfl)) h1 bel lt1) (trodAll_cons_mk (Below.trod laidOut (by kernel_rfl) (of_decide_eq_true (by kernel_rfl)) h2 bel lt2) (trodAll_cons_mk (Below.trod laidOut (by kernel_rfl) (of_decide_eq_true (by kernel_rfl)) h3 bel lt3) trodAll_mk0)))), rfl, bel.frame _, fun h => by cases h⟩

theorem proved : Rows.OutStepsSaid :=
  OpenClaim.holds_of_wide 5 Try.f5 rfl rfl rfl rfl rfl rfl rfl ⟨rfl, rfl, rfl, rfl, rfl⟩ rfl rfl rfl rfl rfl (by kernel_rfl) Try.func5 (by kernel_rfl)
    (of_decide_eq_true (by kernel_rfl)) (by unfold Func.isWrapper; first | (rw [if_pos (by decide +kernel)]; kernel_rfl) | (rw [if_neg (by decide +kernel)]; exact ⟨rfl, rfl⟩))
    (fun os started H enc _ => lifted os started H enc)
end outSteps

theorem outSteps_holds : Rows.OutStepsSaid := outSteps.proved
#print axioms outSteps_holds
end Go.Proofs.Ytnpaejknoipicaf
