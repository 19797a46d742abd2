/-
  'switchbacklaw.OutTells' returns true for every input, and each argument reads behind the call as it read before: 'Rows.OutTellsSaid'. No condition.
-/
import Derived.Test.YtnpaejknoipicafArgsFrm
import Derived.Test.YtnpaejknoipicafNest
import Derived.Test.YtnpaejknoipicafRefSend
import Derived.Test.YtnpaejknoipicafOutBegun
import Derived.Test.YtnpaejknoipicafSamePk
import Derived.Test.YtnpaejknoipicafRefFrame
import Derived.Lib.QuietBelow
import Derived.Deep.DeepCutAuto

namespace Go.Proofs.Ytnpaejknoipicaf
open Go.ChangeShapes Go.WideShapes Go.ChangeAt Go.RowKit

theorem StrsIn.of {w : World} {v : Value} {l : List ByteArray} (h : Strs w v l) (hl : l.length ≤ 9223372036854775807) : StrsIn (fun _ => True) w v l := by
  refine ⟨h, hl, fun g hg h0 => ⟨trivial, ?_⟩⟩
  obtain ⟨_, ⟨h1, _⟩ | ⟨b, off, c, rfl, hb, _⟩⟩ := h
  · omega
  · simp [Value.ownBlock] at hg
    subst hg
    exact hb

instance : Inhabited Fr := ⟨Fr.zero⟩

section
variable {H : Type} {enc : TypeId × Value → H} {W : World} {r : Reach} {b0 base : Nat} {spare : Nat → Bool} {held : Bool} {v : Value} {d : DataW H} {p : List MemPlace}

theorem Try.cellsFrs : Try.prog.cellsOf 42 = 1 := by kernel_rfl
theorem Try.cellsGrp : Try.prog.cellsOf 53 = 1 := by kernel_rfl

set_option maxRecDepth 100000 in
theorem trod_frm {fuel : Nat} {cs : List Value} {x : DataW H × List MemPlace} (h : DataW.trod enc Try.prog W base spare held fuel 26 cs = some x) :
    ∃ (f : Fr) (u : Value), cs = [.int .i64 f.time, .bool f.key, u] ∧ StrsIn (fun _ => True) W u f.parts := by
  obtain ⟨xs, n, _, _, hl, hxl, hg⟩ := DataW.trod_struct Try.underlying26 h
  rw [Try.cellsFrm] at hl
  obtain ⟨c0, c1, c2, hcs⟩ := list3 hl
  obtain ⟨x0, x1, x2, rfl⟩ := list3 (show xs.length = 3 from hxl)
  rw [hcs] at hg
  have h0 : DataW.trod enc Try.prog W base spare held n 3 (([c0, c1, c2].drop 0).take (Try.prog.cellsOf 3)) = some x0 := hg 0 _ rfl
  have h1 : DataW.trod enc Try.prog W base spare held n 4 (([c0, c1, c2].drop 1).take (Try.prog.cellsOf 4)) = some x1 := hg 1 _ rfl
  have h2 : DataW.trod enc Try.prog W base spare held n 24 (([c0, c1, c2].drop 2).take (Try.prog.cellsOf 24)) = some x2 := hg 2 _ rfl
  rw [Try.cellsI] at h0
  rw [Try.cellsB] at h1
  rw [Try.cellsStrs] at h2
  obtain ⟨a, ea, _, wa⟩ := DataW.trod_int Try.underlying3 h0
  obtain ⟨k, ek, _⟩ := DataW.trod_bool Try.underlying4 h1
  obtain ⟨u, l, eu, hS, hfit, hlen, _⟩ := trod_strs h2
  simp at ea ek eu
  subst ea ek eu
  exact ⟨⟨a, k, l⟩, c2, hcs, StrsIn.of hS (by unfold maxLen at hlen; omega)⟩

set_option maxRecDepth 100000 in
theorem trod_frs {fuel : Nat} {cs : List Value} {x : DataW H × List MemPlace} (h : DataW.trod enc Try.prog W base spare held fuel 42 cs = some x) :
    ∃ (u : Value) (l : List Fr), cs = [u] ∧ FrsIn (fun _ => True) W u l := by
  rcases Go.Deep.open_slice Try.underlying42 h with ⟨rfl, rfl⟩ | ⟨a, len, cap, m, n, D, Pl, rfl, hb, hl, hm, hmm, rfl, hx⟩
  · exact ⟨_, [], rfl, FrsIn.nil _ W⟩
  · have hlm : len ≤ m := by rw [hmm]; split <;> omega
    rw [Try.cellsFrm] at hx
    have each : ∀ i, i < len → ∃ q : Fr × Value, StrsIn (fun _ => True) W q.2 q.1.parts ∧ ∀ j u, [Value.int .i64 q.1.time, .bool q.1.key, q.2][j]? = some u → W.cell? (a.add (i * 3 + j)) = some u := fun i hi => by
      obtain ⟨cs', h1, h2⟩ := hx i (by omega)
      obtain ⟨f, u, hs, hw⟩ := trod_frm h2
      refine ⟨(f, u), hw, fun j y hj => ?_⟩
      obtain ⟨_, hl3, hc⟩ := World.cells?_some h1
      have hj3 : j < 3 := by
        have := (List.getElem?_eq_some_iff.1 hj).1
        simpa using this
      rw [← Go.Deep.add_add, hc j hj3, hs]
      simpa using hj
    obtain ⟨f, hf⟩ := Go.Deep.choose_lt each
    have hll : ((List.range len).map fun i => (f i).1).length = len := by simp
    refine ⟨_, (List.range len).map fun i => (f i).1, rfl, some a, cap, by rw [hll], by rw [hll]; omega, by unfold maxLen at hm; omega, fun k hk => ?_⟩
    rw [hll] at hk
    obtain ⟨b, off, spot⟩ := a
    have hc0 := (hf 0 (by omega)).2 0 _ rfl
    have hspot : spot = none := by simpa [Addr.add] using World.cell?_spot hc0
    subst hspot
    have hel : ((List.range len).map fun i => (f i).1)[k]?.getD Fr.zero = (f k).1 := by
      rw [List.getElem?_map, List.getElem?_range hk]; rfl
    rw [hel]
    have g : ∀ j u, [Value.int .i64 (f k).1.time, .bool (f k).1.key, (f k).2][j]? = some u → W.cell? ⟨b, off + k * 3 + j, none⟩ = some u := fun j u hj => by
      have := (hf k hk).2 j u hj
      rw [Addr.add_lit, ← Nat.add_assoc] at this
      exact this
    exact ⟨b, off, rfl, by simpa [Addr.add] using World.block_lt_of_cell? W _ hc0, trivial, (f k).2, g 0 _ rfl, g 1 _ rfl, g 2 _ rfl, (hf k hk).1⟩

set_option maxRecDepth 100000 in
theorem op_frs (hval : Value.okWide Try.prog W r b0 42 v) (h : DataW.Trod enc Try.prog W base spare held 42 v d p) :
    ∃ l : List Fr, FrsIn (fun _ => True) W v l := by
  obtain ⟨a, len, cap, rfl⟩ := okWide_slice Try.underlying42 hval
  obtain ⟨fuel, hf⟩ := h
  obtain ⟨u, l, eu, hS⟩ := trod_frs hf
  simp [Value.cells] at eu
  subst eu
  exact ⟨l, hS⟩

set_option maxRecDepth 100000 in
theorem op_grp (hval : Value.okWide Try.prog W r b0 53 v) (h : DataW.Trod enc Try.prog W base spare held 53 v d p) :
    ∃ (u : Value) (l : List Fr), v = .agg #[u] ∧ FrsIn (fun _ => True) W u l := by
  obtain ⟨cs, rfl, _⟩ := okWide_struct Try.underlying53 hval
  obtain ⟨fuel, hf⟩ := h
  obtain ⟨xs, n, _, _, hl, hxl, hg⟩ := DataW.trod_struct Try.underlying53 hf
  rw [Try.cellsGrp] at hl
  obtain ⟨c0, hcs⟩ := list1 hl
  obtain ⟨x0, rfl⟩ := list1 (show xs.length = 1 from hxl)
  rw [hcs] at hg
  have h0 : DataW.trod enc Try.prog W base spare held n 42 (([c0].drop 0).take (Try.prog.cellsOf 42)) = some x0 := hg 0 _ rfl
  rw [Try.cellsFrs] at h0
  obtain ⟨u, l, eu, hS⟩ := trod_frs h0
  simp at eu
  subst eu
  refine ⟨c0, l, ?_, hS⟩
  have : cs = #[c0] := by
    apply Array.ext'
    simpa [Value.cells] using hcs
  rw [this]
end
end Go.Proofs.Ytnpaejknoipicaf

namespace Go.Proofs.Ytnpaejknoipicaf
open Go.ChangeShapes Go.WideShapes Go.ChangeAt Go.RowKit

section
variable {H : Type} {enc : TypeId × Value → H} {W : World} {r : Reach} {b0 base : Nat} {spare : Nat → Bool} {held : Bool} {v : Value} {d : DataW H} {p : List MemPlace}

theorem Try.cellsGrs : Try.prog.cellsOf 51 = 1 := by kernel_rfl
theorem Try.cellsStore : Try.prog.cellsOf 55 = 3 := by kernel_rfl
theorem Try.cellsIntS : Try.prog.cellsOf 3 = 1 := by kernel_rfl

set_option maxRecDepth 100000 in
theorem trod_grp {fuel : Nat} {cs : List Value} {x : DataW H × List MemPlace} (h : DataW.trod enc Try.prog W base spare held fuel 53 cs = some x) :
    ∃ (u : Value) (l : List Fr), cs = [u] ∧ FrsIn (fun _ => True) W u l := by
  obtain ⟨xs, n, _, _, hl, hxl, hg⟩ := DataW.trod_struct Try.underlying53 h
  rw [Try.cellsGrp] at hl
  obtain ⟨c0, hcs⟩ := list1 hl
  obtain ⟨x0, rfl⟩ := list1 (show xs.length = 1 from hxl)
  rw [hcs] at hg
  have h0 : DataW.trod enc Try.prog W base spare held n 42 (([c0].drop 0).take (Try.prog.cellsOf 42)) = some x0 := hg 0 _ rfl
  rw [Try.cellsFrs] at h0
  obtain ⟨u, l, eu, hS⟩ := trod_frs h0
  simp at eu
  subst eu
  exact ⟨c0, l, hcs, hS⟩

set_option maxRecDepth 100000 in
theorem trod_grs {fuel : Nat} {cs : List Value} {x : DataW H × List MemPlace} (h : DataW.trod enc Try.prog W base spare held fuel 51 cs = some x) :
    ∃ (u : Value) (L : List (List Fr)), cs = [u] ∧ GrsIn (fun _ => True) W u L := by
  rcases Go.Deep.open_slice Try.underlying51 h with ⟨rfl, rfl⟩ | ⟨a, len, cap, m, n, D, Pl, rfl, hb, hl, hm, hmm, rfl, hx⟩
  · exact ⟨_, [], rfl, GrsIn.nil _ W⟩
  · have hlm : len ≤ m := by rw [hmm]; split <;> omega
    rw [Try.cellsGrp] at hx
    have each : ∀ i, i < len → ∃ q : List Fr × Value, FrsIn (fun _ => True) W q.2 q.1 ∧ W.cell? (a.add i) = some q.2 := fun i hi => by
      obtain ⟨cs', h1, h2⟩ := hx i (by omega)
      obtain ⟨u, l, hs, hw⟩ := trod_grp h2
      refine ⟨(l, u), hw, ?_⟩
      obtain ⟨_, hl1, hc⟩ := World.cells?_some h1
      have := hc 0 (by omega)
      rw [hs, Go.Deep.add_add] at this
      simpa using this
    obtain ⟨f, hf⟩ := Go.Deep.choose_lt each
    have hll : ((List.range len).map fun i => (f i).1).length = len := by simp
    refine ⟨_, (List.range len).map fun i => (f i).1, rfl, some a, cap, by rw [hll], by rw [hll]; omega, by unfold maxLen at hm; omega, fun k hk => ?_⟩
    rw [hll] at hk
    obtain ⟨b, off, spot⟩ := a
    have hc0 := (hf 0 (by omega)).2
    have hspot : spot = none := by simpa [Addr.add] using World.cell?_spot hc0
    subst hspot
    have hel : ((List.range len).map fun i => (f i).1)[k]?.getD [] = (f k).1 := by
      rw [List.getElem?_map, List.getElem?_range hk]; rfl
    rw [hel]
    have g : W.cell? ⟨b, off + k, none⟩ = some (f k).2 := by
      have := (hf k hk).2
      rw [Addr.add_lit] at this
      exact this
    exact ⟨b, off, rfl, by simpa [Addr.add] using World.block_lt_of_cell? W _ hc0, trivial, (f k).2, g, (hf k hk).1⟩

set_option maxRecDepth 100000 in
theorem op_store (hval : Value.okWide Try.prog W r b0 55 v) (h : DataW.Trod enc Try.prog W base spare held 55 v d p) :
    ∃ (first : Int) (gv ov : Value) (L : List (List Fr)) (O : List Fr), v = .agg #[.int .i64 first, gv, ov] ∧ (Lit.int .i64 first).wf = true ∧ GrsIn (fun _ => True) W gv L ∧ FrsIn (fun _ => True) W ov O := by
  obtain ⟨cs, rfl, _⟩ := okWide_struct Try.underlying55 hval
  obtain ⟨fuel, hf⟩ := h
  obtain ⟨xs, n, _, _, hl, hxl, hg⟩ := DataW.trod_struct Try.underlying55 hf
  rw [Try.cellsStore] at hl
  obtain ⟨c0, c1, c2, hcs⟩ := list3 hl
  obtain ⟨x0, x1, x2, rfl⟩ := list3 (show xs.length = 3 from hxl)
  rw [hcs] at hg
  have h0 : DataW.trod enc Try.prog W base spare held n 3 (([c0, c1, c2].drop 0).take (Try.prog.cellsOf 3)) = some x0 := hg 0 _ rfl
  have h1 : DataW.trod enc Try.prog W base spare held n 51 (([c0, c1, c2].drop 1).take (Try.prog.cellsOf 51)) = some x1 := hg 1 _ rfl
  have h2 : DataW.trod enc Try.prog W base spare held n 53 (([c0, c1, c2].drop 2).take (Try.prog.cellsOf 53)) = some x2 := hg 2 _ rfl
  rw [Try.cellsIntS] at h0
  rw [Try.cellsGrs] at h1
  rw [Try.cellsGrp] at h2
  obtain ⟨a, ea, _, wa⟩ := DataW.trod_int Try.underlying3 h0
  obtain ⟨u1, L, eu1, hL⟩ := trod_grs h1
  obtain ⟨u2, O, eu2, hO⟩ := trod_grp h2
  simp at ea eu1 eu2
  subst ea eu1 eu2
  refine ⟨a, c1, c2, L, O, ?_, wa, hL, hO⟩
  have : cs = #[.int .i64 a, c1, c2] := by
    apply Array.ext'
    simpa [Value.cells] using hcs
  rw [this]
end
end Go.Proofs.Ytnpaejknoipicaf

namespace Go.Proofs.Ytnpaejknoipicaf
open Go.ChangeShapes Go.WideShapes Go.ChangeAt Go.RowKit

section
variable {H : Type} {enc : TypeId × Value → H} {W : World} {r : Reach} {b0 base : Nat} {spare : Nat → Bool} {held : Bool} {v : Value} {d : DataW H} {p : List MemPlace}

theorem Try.cellsIntC : Try.prog.cellsOf 3 = 1 := by kernel_rfl

theorem Try.cellsOut : Try.prog.cellsOf 23 = 3 := by kernel_rfl

set_option maxRecDepth 100000 in
theorem op_out (hval : Value.okWide Try.prog W r b0 23 v) (h : DataW.Trod enc Try.prog W base spare held 23 v d p) :
    ∃ a b c : Int, v = .agg #[.int .i64 a, .int .i64 b, .int .i64 c] ∧ (Lit.int .i64 a).wf = true ∧ (Lit.int .i64 b).wf = true ∧ (Lit.int .i64 c).wf = true := by
  obtain ⟨cs, rfl, _⟩ := okWide_struct Try.underlying23 hval
  obtain ⟨fuel, hf⟩ := h
  obtain ⟨xs, n, _, _, hl, hxl, hf⟩ := DataW.trod_struct Try.underlying23 hf
  rw [Try.cellsOut] at hl
  obtain ⟨c0, c1, c2, hc⟩ := list3 hl
  obtain ⟨x0, x1, x2, rfl⟩ := list3 (show xs.length = 3 from hxl)
  rw [hc] at hf
  have h0 : DataW.trod enc Try.prog W base spare held n 3 (([c0, c1, c2].drop 0).take (Try.prog.cellsOf 3)) = some x0 := hf 0 _ rfl
  have h1 : DataW.trod enc Try.prog W base spare held n 3 (([c0, c1, c2].drop 1).take (Try.prog.cellsOf 3)) = some x1 := hf 1 _ rfl
  have h2 : DataW.trod enc Try.prog W base spare held n 3 (([c0, c1, c2].drop 2).take (Try.prog.cellsOf 3)) = some x2 := hf 2 _ rfl
  rw [Try.cellsIntC] at h0 h1 h2
  obtain ⟨a0, e0, _, w0⟩ := DataW.trod_int Try.underlying3 h0
  obtain ⟨a1, e1, _, w1⟩ := DataW.trod_int Try.underlying3 h1
  obtain ⟨a2, e2, _, w2⟩ := DataW.trod_int Try.underlying3 h2
  simp at e0 e1 e2
  subst e0 e1 e2
  refine ⟨a0, a1, a2, ?_, w0, w1, w2⟩
  have : cs = #[.int .i64 a0, .int .i64 a1, .int .i64 a2] := by
    apply Array.ext'
    simpa [Value.cells] using hc
  rw [this]

set_option maxRecDepth 100000 in
theorem op_bool (hval : Value.okWide Try.prog W r b0 4 v) (h : DataW.Trod enc Try.prog W base spare held 4 v d p) : ∃ a : Bool, v = .bool a := by
  obtain ⟨a, rfl, _⟩ := open_bool Try.underlying4 hval h
  exact ⟨a, rfl⟩
end
end Go.Proofs.Ytnpaejknoipicaf

namespace Go.Proofs.Ytnpaejknoipicaf
open Go.RowKit Go.Sort

set_option maxHeartbeats 16000000 in
set_option maxRecDepth 100000 in
theorem outTells_any (l t s : Int) (f : Fr) (pv : Value) (turn : Bool) (w : World) (hp : StrsIn (fun _ => True) w pv f.parts) :
    Calls Try.prog 3 #[.agg #[.int .i64 l, .int .i64 t, .int .i64 s], .agg #[.int .i64 f.time, .bool f.key, pv], .bool turn] w fun e w' => e = .returned (.bool true) ∧ Below w.heap.size w w' := by
  obtain ⟨pa, pc, ep⟩ := hp.1.len
  obtain ⟨pn, hpn⟩ : ∃ x, x = f.parts.length := ⟨_, rfl⟩
  rw [← hpn] at ep
  obtain ⟨ft, hft⟩ : ∃ x, x = f.time := ⟨_, rfl⟩
  obtain ⟨fk, hfk⟩ : ∃ x, x = f.key := ⟨_, rfl⟩
  obtain ⟨U, hU⟩ : ∃ x, x = outE l t s := ⟨_, rfl⟩
  obtain ⟨Z, hZ⟩ : ∃ x, x = f.chk := ⟨_, rfl⟩
  obtain ⟨E, hE⟩ : ∃ x, x = sdE l t s f turn := ⟨_, rfl⟩
  obtain ⟨O1, hO1⟩ : ∃ x, x = (sdO l t s f turn).1 := ⟨_, rfl⟩
  obtain ⟨O2, hO2⟩ : ∃ x, x = (sdO l t s f turn).2.1 := ⟨_, rfl⟩
  obtain ⟨O3, hO3⟩ : ∃ x, x = (sdO l t s f turn).2.2 := ⟨_, rfl⟩
  obtain ⟨P, hP⟩ : ∃ x, x = sdP l t s f turn := ⟨_, rfl⟩
  obtain ⟨n, hn⟩ : ∃ x, x = P.length := ⟨_, rfl⟩
  have HU : Hid (U = outE l t s) := hU
  have HSD : Hid (∀ V : World, Below w.heap.size w V → Calls Try.prog 7 #[.agg #[.int .i64 l, .int .i64 t, .int .i64 s], .agg #[.int .i64 ft, .bool fk, pv], .bool turn] V fun e w' => ∃ va vc, e = .returned (.tuple #[.agg #[.int .i64 O1, .int .i64 O2, .int .i64 O3], .slice va n vc, .int .i64 E]) ∧ Hid (Pks w' (.slice va n vc) P) ∧ Below V.heap.size V w') := fun V hV => by
    rw [hft, hfk]
    refine (outSend_any l t s f pv turn V (hp.below hV)).mono ?_
    rintro e w' ⟨v, rfl, ho, hb⟩
    rw [← hP, ← hn] at ho
    obtain ⟨va, vc, ev⟩ := owns_slice6 ho
    subst ev
    rw [hO1, hO2, hO3, hE]
    exact ⟨va, vc, rfl, (by show Pks _ _ _; unfold Pks; rw [← hn]; exact Sl.of_owns ho), hb⟩
  have HSO : Hid (U = 0 → Z = 0 → ∀ V : World, Below w.heap.size w V → Calls Try.prog 10 #[.agg #[.int .i64 l, .int .i64 t, .int .i64 s], .agg #[.int .i64 ft, .bool fk, pv], .bool turn] V fun e w' => ∃ va vc, e = .returned (.tuple #[.agg #[.int .i64 O1, .int .i64 O2, .int .i64 O3], .slice va n vc, .int .i64 E]) ∧ Hid (w'.ownsRow V.heap.size 38 6 (.slice va n vc) n (pkCells P)) ∧ Below V.heap.size V w') := fun h1 h2 V hV => by
    rw [hft, hfk]
    refine (refSend_any l t s f pv turn V (hp.below hV) (by rw [← hU]; exact h1) (by rw [← hZ]; exact h2)).mono ?_
    rintro e w' ⟨va, vc, rfl, ho, hb⟩
    rw [← hP, ← hn] at ho
    rw [hO1, hO2, hO3, hE, ← hP, ← hn]
    exact ⟨va, vc, rfl, ho, hb⟩
  have HCF : Hid (∀ V : World, Below w.heap.size w V → Calls Try.prog 9 #[.agg #[.int .i64 ft, .bool fk, pv]] V fun e w' => e = .returned (.int .i64 Z) ∧ Below V.heap.size V w') := fun V hV => by
    rw [hZ, hft]; exact refCheckFrame_any _ _ _ _ _ (hp.below hV).1 hp.2.1
  have HEU : Hid (¬ U = 0 → E = U) := fun h => by
    rw [hE]; unfold sdE; rw [← hU, if_neg h]
  have HEZ : Hid (U = 0 → ¬ Z = 0 → E = Z) := fun h h' => by
    rw [hE]; unfold sdE; rw [← hU, if_pos h, ← hZ, if_neg h']
  have HBAD : Hid (¬ E = 0 → O1 = 0 ∧ O2 = 0 ∧ O3 = 0 ∧ P = [] ∧ n = 0) := fun h => by
    rw [hE] at h
    obtain ⟨e1, e2⟩ := sd_bad h
    rw [hn, hO1, hO2, hO3, e1, hP, e2]; exact ⟨rfl, rfl, rfl, rfl, rfl⟩
  have HPL : Hid (P.length ≤ 1000) := by
    show _ ≤ _
    by_cases h : E = 0
    · rw [hE] at h
      obtain ⟨_, e2, _, _, _, _, _, _, e9, _⟩ := sd_zero h
      rw [hP, e2, pksOf, pksK_len]; omega
    · have := HBAD.out h
      rw [this.2.2.2.1]; exact Nat.zero_le _
  have HGOOD : Hid (n = P.length) := hn
  have HS : Hid (Stay w (fun V => Below w.heap.size w V)) := below_stay0 w
  rw [← hft, ← hfk]
  clear hp hpn hft hfk hU hZ hE hO1 hO2 hO3 hP hn
  subst ep
  go_enter Try.func3, Try.ntmps3
  go_wp2_with fail
  obtain ⟨W0, hW0⟩ : ∃ W0, W0 = (w.alloc (.cells #[.int .i64 l, .int .i64 t, .int .i64 s] 23)).alloc (.cells #[.int .i64 ft, .bool fk, .slice pa pn pc] 26) := ⟨_, rfl⟩
  have HS0 : Hid (Stay W0 (fun V => (Blk V w.heap.size #[.int .i64 l, .int .i64 t, .int .i64 s] 23 ∧ True) ∧ Blk V (w.heap.size + 1) #[.int .i64 ft, .bool fk, .slice pa pn pc] 26 ∧ Below w.heap.size w V)) := by
    rw [hW0]
    have h2 := Blk.new (w.alloc (.cells #[.int .i64 l, .int .i64 t, .int .i64 s] 23)) #[.int .i64 ft, .bool fk, .slice pa pn pc] 26
    rw [World.size_alloc] at h2
    exact ((((Blk.new _ _ _).alloc _).stay).and (fun _ _ => trivial)).and (h2.stay.and ((HS.out.alloc _).alloc _))
  rw [← hW0]
  clear hW0 HS
  refine (HSD.out W0 HS0.out.now.2.2).mono ?_
  rintro e w2 ⟨va, vc, rfl, R2, b2⟩
  obtain ⟨W2, hW2⟩ : ∃ W2, W2 = w2.alloc (.cells #[.int .i64 O1, .int .i64 O2, .int .i64 O3] 23) := ⟨_, rfl⟩
  have HS2 : Hid (Stay W2 (fun V => ((Blk V w.heap.size #[.int .i64 l, .int .i64 t, .int .i64 s] 23 ∧ True) ∧ Blk V (w.heap.size + 1) #[.int .i64 ft, .bool fk, .slice pa pn pc] 26 ∧ Below w.heap.size w V) ∧ (Blk V w2.heap.size #[.int .i64 O1, .int .i64 O2, .int .i64 O3] 23 ∧ Pks V (.slice va n vc) P))) :=
    (Stay.allocE (Stay.go HS0 b2) hW2).out.and ((Blk.newE hW2).stay.and (fun V hV => (by
      have h : Pks W2 (.slice va n vc) P := by rw [hW2]; exact R2.out.below ((Below.refl _ _).alloc (Nat.le_refl _) _)
      exact h.below hV)))
  clear b2 R2 HS0 HSD
  obtain ⟨k0, k1, k2⟩ := HS2.out.now.1.1.1.three
  go_upto_region 2 with fail
  rw [← hW2]
  clear hW2
  go_wp2_with fail
  refine (refCheckOut_any l t s W2).mono ?_
  rw [← HU.out]
  rintro e w3 ⟨rfl, b3⟩
  have HS3 := Stay.go HS2 b3
  clear b3 HS2 k0 k1 k2
  by_cases h1 : U = 0
  case neg =>
    have hEV := HEU.out h1
    have hU0 : (U == 0) = false := by simpa using h1
    have HOZ := HBAD.out (by rw [hEV]; exact h1)
    obtain ⟨e1, e2, e3, e4, e5⟩ := HOZ
    subst e1 e2 e3 e4 e5
    have HEV : Hid (E = U) := hEV
    obtain ⟨WT, hWT⟩ : ∃ W, W = w3.alloc (.cells #[.int .i64 0, .int .i64 0, .int .i64 0] 23) := ⟨_, rfl⟩
    have HST := Stay.allocE HS3 hWT
    have KO : Hid (Blk WT w.heap.size #[.int .i64 l, .int .i64 t, .int .i64 s] 23) := HST.out.now.1.1.1
    have KA : Hid (Blk WT w2.heap.size #[.int .i64 0, .int .i64 0, .int .i64 0] 23) := HST.out.now.2.1
    have KW : Hid (Blk WT w3.heap.size #[.int .i64 0, .int .i64 0, .int .i64 0] 23) := Blk.newE hWT
    have HV : Hid (Pks WT (.slice va 0 vc) []) := HST.out.now.2.2
    have HL : Hid (Pks WT (.slice none 0 0) []) := ⟨rfl, .inl ⟨rfl, none, 0, rfl⟩⟩
    have BT : Hid (Below w.heap.size w WT) := HST.out.now.1.2.2
    have hE2 := HEV.out
    subst hE2
    clear HST HS3 HBAD HGOOD HSO
    go_upto_region 9 with fail
    rw [← hWT]
    clear hWT
    have cB : ∀ d os, Calls Try.prog 11 #[] (grow (redrawn WT d) os) fun e w'' => e = .returned (.bool true) ∧ ∃ p : Regrown, w'' = grow (redrawn WT p.d) p.os := fun d os => Calls.regrown_of (outBegun_any _)
    have cC : ∀ d os, Calls Try.prog 12 #[.agg #[.int .i64 l, .int .i64 t, .int .i64 s]] (grow (redrawn WT d) os) fun e w'' => e = .returned (.int .i64 E) ∧ ∃ p : Regrown, w'' = grow (redrawn WT p.d) p.os := fun d os => Calls.regrown_of (by rw [HU.out]; exact outCheck_any l t s _)
    have cR : ∀ d os, Calls Try.prog 8 #[.agg #[.int .i64 l, .int .i64 t, .int .i64 s]] (grow (redrawn WT d) os) fun e w'' => e = .returned (.int .i64 E) ∧ ∃ p : Regrown, w'' = grow (redrawn WT p.d) p.os := fun d os => Calls.regrown_of (by rw [HU.out]; exact refCheckOut_any l t s _)
    have cS : ∀ d os, Calls Try.prog 13 #[.slice va 0 vc, .slice none 0 0] (grow (redrawn WT d) os) fun e w'' => e = .returned (.bool true) ∧ ∃ p : Regrown, w'' = grow (redrawn WT p.d) p.os := fun d os => Calls.regrown_of (samePk_refl _ _ [] _ (HV.out.below (below_regrown WT d os)) (HL.out.below (below_regrown WT d os)) (by decide))
    have hq := fun W => eql_out 0 0 0 0 0 0 W
    obtain ⟨k0, k1, k2⟩ := KO.out.three
    obtain ⟨a0, a1, a2⟩ := KA.out.three
    obtain ⟨w0, w1', w2'⟩ := KW.out.three
    have z0 := cell_regrown k0
    have z1 := cell_regrown k1
    have z2 := cell_regrown k2
    have z3 := cell_regrown a0
    have z4 := cell_regrown a1
    have z5 := cell_regrown a2
    have z6 := cell_regrown w0
    have z7 := cell_regrown w1'
    have z8 := cell_regrown w2'
    clear k0 k1 k2 a0 a1 a2 w0 w1' w2' KO KA KW HV HL
    refine wp_region_quiet_below (by kernel_rfl) (by kernel_rfl) ?_
    iterate 3 (quiet_step (exact cB _ _))
    iterate 2 (quiet_step (exact cC _ _))
    iterate 16 (quiet_step (exact cR _ _))
    iterate 3 (quiet_step (exact cS _ _))
    refine wpQuiet_nil ?_
    intro _ hw'
    obtain ⟨⟨dq, osq⟩, hw''⟩ := hw'
    subst hw''
    have bR := below_regrown WT dq osq
    obtain ⟨V, hV⟩ : ∃ V, V = grow (redrawn WT dq) osq := ⟨_, rfl⟩
    rw [← hV] at bR
    rw [← hV]
    have BV : Hid (Below w.heap.size w V) := BT.out.trans (bR.mono BT.out.size)
    clear hV cB cC cR cS z0 z1 z2 z3 z4 z5 z6 z7 z8 bR hq
    go_wp2
    go_ret
    exact ⟨rfl, BV.out⟩
  subst h1
  obtain ⟨j0, j1, j2⟩ := HS3.out.now.1.2.1.three
  go_wp2_with fail
  refine (HCF.out w3 HS3.out.now.1.2.2).mono ?_
  rintro e w4 ⟨rfl, b4⟩
  have HS4 := Stay.go HS3 b4
  clear b4 HS3 j0 j1 j2
  by_cases h2 : Z = 0
  case neg =>
    have hEV := HEZ.out (by first | rfl | trivial) h2
    have hZ0 : (Z == 0) = false := by simpa using h2
    have HOZ := HBAD.out (by rw [hEV]; exact h2)
    obtain ⟨e1, e2, e3, e4, e5⟩ := HOZ
    subst e1 e2 e3 e4 e5
    have HEV : Hid (E = Z) := hEV
    obtain ⟨WT, hWT⟩ : ∃ W, W = w4.alloc (.cells #[.int .i64 0, .int .i64 0, .int .i64 0] 23) := ⟨_, rfl⟩
    have HST := Stay.allocE HS4 hWT
    have KO : Hid (Blk WT w.heap.size #[.int .i64 l, .int .i64 t, .int .i64 s] 23) := HST.out.now.1.1.1
    have KA : Hid (Blk WT w2.heap.size #[.int .i64 0, .int .i64 0, .int .i64 0] 23) := HST.out.now.2.1
    have KW : Hid (Blk WT w4.heap.size #[.int .i64 0, .int .i64 0, .int .i64 0] 23) := Blk.newE hWT
    have HV : Hid (Pks WT (.slice va 0 vc) []) := HST.out.now.2.2
    have HL : Hid (Pks WT (.slice none 0 0) []) := ⟨rfl, .inl ⟨rfl, none, 0, rfl⟩⟩
    have BT : Hid (Below w.heap.size w WT) := HST.out.now.1.2.2
    have hE2 := HEV.out
    subst hE2
    clear HST HS4 HBAD HGOOD HSO
    go_upto_region 9 with fail
    rw [← hWT]
    clear hWT
    have cB : ∀ d os, Calls Try.prog 11 #[] (grow (redrawn WT d) os) fun e w'' => e = .returned (.bool true) ∧ ∃ p : Regrown, w'' = grow (redrawn WT p.d) p.os := fun d os => Calls.regrown_of (outBegun_any _)
    have cC : ∀ d os, Calls Try.prog 12 #[.agg #[.int .i64 l, .int .i64 t, .int .i64 s]] (grow (redrawn WT d) os) fun e w'' => e = .returned (.int .i64 0) ∧ ∃ p : Regrown, w'' = grow (redrawn WT p.d) p.os := fun d os => Calls.regrown_of (by rw [HU.out]; exact outCheck_any l t s _)
    have cR : ∀ d os, Calls Try.prog 8 #[.agg #[.int .i64 l, .int .i64 t, .int .i64 s]] (grow (redrawn WT d) os) fun e w'' => e = .returned (.int .i64 0) ∧ ∃ p : Regrown, w'' = grow (redrawn WT p.d) p.os := fun d os => Calls.regrown_of (by rw [HU.out]; exact refCheckOut_any l t s _)
    have cS : ∀ d os, Calls Try.prog 13 #[.slice va 0 vc, .slice none 0 0] (grow (redrawn WT d) os) fun e w'' => e = .returned (.bool true) ∧ ∃ p : Regrown, w'' = grow (redrawn WT p.d) p.os := fun d os => Calls.regrown_of (samePk_refl _ _ [] _ (HV.out.below (below_regrown WT d os)) (HL.out.below (below_regrown WT d os)) (by decide))
    have hq := fun W => eql_out 0 0 0 0 0 0 W
    obtain ⟨k0, k1, k2⟩ := KO.out.three
    obtain ⟨a0, a1, a2⟩ := KA.out.three
    obtain ⟨w0, w1', w2'⟩ := KW.out.three
    have z0 := cell_regrown k0
    have z1 := cell_regrown k1
    have z2 := cell_regrown k2
    have z3 := cell_regrown a0
    have z4 := cell_regrown a1
    have z5 := cell_regrown a2
    have z6 := cell_regrown w0
    have z7 := cell_regrown w1'
    have z8 := cell_regrown w2'
    clear k0 k1 k2 a0 a1 a2 w0 w1' w2' KO KA KW HV HL
    refine wp_region_quiet_below (by kernel_rfl) (by kernel_rfl) ?_
    iterate 3 (quiet_step (exact cB _ _))
    iterate 2 (quiet_step (exact cC _ _))
    iterate 16 (quiet_step (exact cR _ _))
    iterate 3 (quiet_step (exact cS _ _))
    refine wpQuiet_nil ?_
    intro _ hw'
    obtain ⟨⟨dq, osq⟩, hw''⟩ := hw'
    subst hw''
    have bR := below_regrown WT dq osq
    obtain ⟨V, hV⟩ : ∃ V, V = grow (redrawn WT dq) osq := ⟨_, rfl⟩
    rw [← hV] at bR
    rw [← hV]
    have BV : Hid (Below w.heap.size w V) := BT.out.trans (bR.mono BT.out.size)
    clear hV cB cC cR cS z0 z1 z2 z3 z4 z5 z6 z7 z8 bR hq
    go_wp2
    go_ret
    exact ⟨rfl, BV.out⟩
  subst h2
  have HSO' := HSO.out (by first | rfl | trivial) (by first | rfl | trivial)
  obtain ⟨W5, hW5⟩ : ∃ W, W = w4.alloc (.cells #[.int .i64 0, .int .i64 0, .int .i64 0] 23) := ⟨_, rfl⟩
  have HS5 : Hid (StayK [w4.heap.size] W5 _) := HS4.out.toK hW5
  have KW5 : Hid (Blk W5 w4.heap.size #[.int .i64 0, .int .i64 0, .int .i64 0] 23) := Blk.newE hW5
  clear HS4 HSO
  obtain ⟨k0, k1, k2⟩ := HS5.out.now.1.1.1.three
  obtain ⟨j0, j1, j2⟩ := HS5.out.now.1.2.1.three
  go_upto_region 8 with fail
  rw [← hW5]
  clear hW5
  go_wp2_with fail
  refine (HSO' W5 HS5.out.now.1.2.2).mono ?_
  rintro e w6 ⟨va6, vc6, rfl, R6, b6⟩
  have HS6 := StayK.go HS5 b6
  have KW6 := KW5.out.below b6 KW5.out.lt
  obtain ⟨WT, hWT⟩ : ∃ W, W = ((w6.setCell ⟨w4.heap.size, 0, none⟩ (.int .i64 O1)).setCell ⟨w4.heap.size, 1, none⟩ (.int .i64 O2)).setCell ⟨w4.heap.size, 2, none⟩ (.int .i64 O3) := ⟨_, rfl⟩
  have HST := StayK.goK HS6 (by rw [hWT]; exact (Kept.refl [w4.heap.size] w6).put3 (b := w4.heap.size) (by simp) _ _ _ : Kept [w4.heap.size] w6 WT)
  have KO : Hid (Blk WT w.heap.size #[.int .i64 l, .int .i64 t, .int .i64 s] 23) := HST.out.now.1.1.1
  have KA : Hid (Blk WT w2.heap.size #[.int .i64 O1, .int .i64 O2, .int .i64 O3] 23) := HST.out.now.2.1
  have KW : Hid (Blk WT w4.heap.size #[.int .i64 O1, .int .i64 O2, .int .i64 O3] 23) := by rw [hWT]; exact KW6.put3 _ _ _
  have HV : Hid (Pks WT (.slice va n vc) P) := HST.out.now.2.2
  have hlt5 := KW5.out.lt
  have HL : Hid (Pks WT (.slice va6 n vc6) P) := by
    show Pks _ _ _
    unfold Pks
    rw [← HGOOD.out, hWT]
    exact Sl.of_owns (ownsRow_setCell_below (ownsRow_setCell_below (ownsRow_setCell_below R6.out hlt5 _) hlt5 _) hlt5 _)
  have BT : Hid (Below w.heap.size w WT) := HST.out.now.1.2.2
  obtain ⟨q0, q1, q2⟩ := KW6.three
  have f0 := KW6.free 0
  have f1 := KW6.free 1
  have f2 := KW6.free 2
  clear HST HS5 HS6 KW5 KW6 R6 b6 HBAD k0 k1 k2 j0 j1 j2 HEU HEZ HCF
  have HG2 : Hid (n = P.length) := HGOOD
  clear HGOOD
  go_upto_region 9 with fail
  rw [← hWT]
  clear hWT q0 q1 q2 f0 f1 f2
  have cB : ∀ d os, Calls Try.prog 11 #[] (grow (redrawn WT d) os) fun e w'' => e = .returned (.bool true) ∧ ∃ p : Regrown, w'' = grow (redrawn WT p.d) p.os := fun d os => Calls.regrown_of (outBegun_any _)
  have cC : ∀ d os, Calls Try.prog 12 #[.agg #[.int .i64 l, .int .i64 t, .int .i64 s]] (grow (redrawn WT d) os) fun e w'' => e = .returned (.int .i64 0) ∧ ∃ p : Regrown, w'' = grow (redrawn WT p.d) p.os := fun d os => Calls.regrown_of (by rw [HU.out]; exact outCheck_any l t s _)
  have cR : ∀ d os, Calls Try.prog 8 #[.agg #[.int .i64 l, .int .i64 t, .int .i64 s]] (grow (redrawn WT d) os) fun e w'' => e = .returned (.int .i64 0) ∧ ∃ p : Regrown, w'' = grow (redrawn WT p.d) p.os := fun d os => Calls.regrown_of (by rw [HU.out]; exact refCheckOut_any l t s _)
  have cS : ∀ d os, Calls Try.prog 13 #[.slice va n vc, .slice va6 n vc6] (grow (redrawn WT d) os) fun e w'' => e = .returned (.bool true) ∧ ∃ p : Regrown, w'' = grow (redrawn WT p.d) p.os := fun d os => Calls.regrown_of (samePk_refl _ _ P _ (HV.out.below (below_regrown WT d os)) (HL.out.below (below_regrown WT d os)) HPL.out)
  have hq := fun W => eql_out O1 O2 O3 O1 O2 O3 W
  obtain ⟨k0, k1, k2⟩ := KO.out.three
  obtain ⟨a0, a1, a2⟩ := KA.out.three
  obtain ⟨w0, w1', w2'⟩ := KW.out.three
  have z0 := cell_regrown k0
  have z1 := cell_regrown k1
  have z2 := cell_regrown k2
  have z3 := cell_regrown a0
  have z4 := cell_regrown a1
  have z5 := cell_regrown a2
  have z6 := cell_regrown w0
  have z7 := cell_regrown w1'
  have z8 := cell_regrown w2'
  clear k0 k1 k2 a0 a1 a2 w0 w1' w2' KO KA KW HV HL
  refine wp_region_quiet_below (by kernel_rfl) (by kernel_rfl) ?_
  iterate 3 (quiet_step (exact cB _ _))
  iterate 2 (quiet_step (exact cC _ _))
  iterate 16 (quiet_step (exact cR _ _))
  iterate 3 (quiet_step (exact cS _ _))
  refine wpQuiet_nil ?_
  intro _ hw'
  obtain ⟨⟨dq, osq⟩, hw''⟩ := hw'
  subst hw''
  have bR := below_regrown WT dq osq
  obtain ⟨V, hV⟩ : ∃ V, V = grow (redrawn WT dq) osq := ⟨_, rfl⟩
  rw [← hV] at bR
  rw [← hV]
  have BV : Hid (Below w.heap.size w V) := BT.out.trans (bR.mono BT.out.size)
  clear hV cB cC cR cS z0 z1 z2 z3 z4 z5 z6 z7 z8 bR hq
  go_wp2
  go_ret
  exact ⟨rfl, BV.out⟩

end Go.Proofs.Ytnpaejknoipicaf

namespace Go.Proofs.Ytnpaejknoipicaf
namespace outTells
open Go.ChangeShapes Go.WideShapes Go.ChangeAt Go.RowKit

set_option maxRecDepth 100000 in
theorem lifted (os : Os) (started : os.Started) (H : Type) (enc : TypeId × Value → H) :
    ReturnsInHanded {} Try.checked os 3 .any (Rows.outTellsSpec.pre6 enc Try.prog Try.f3 Rows.outTellsRow.domain false) (Rows.outTellsSpec.post enc Try.prog Try.f3 false true false false) := by
  refine returnsInHanded_of_change_sized (C := Try.checked) own started (by kernel_rfl) Try.func3
    (ChangeSpec.witness6 (enc := enc) (C := Try.checked) false ⟨#[], #[.agg #[.int .i64 0, .int .i64 0, .int .i64 0], .agg #[.int .i64 0, .bool false, .slice none 0 0], .bool false], []⟩ 8 (by kernel_rfl) (by kernel_rfl) (by kernel_rfl) (by kernel_rfl)) ?_
  intro W base args ds gs before hval0 hW _ hsz0 _
  have hsz : (DataW.weightsEach Try.prog (Try.f3.params.toList ++ Rows.outTellsSpec.plain.varTypes Try.prog) (ds ++ gs)).all (· ≤ reachBytes) = true := hsz0
  clear hsz0
  have hval : ∀ (j : Nat) t v, Try.f3.params[j]? = some t → args[j]? = some v → Value.okWide Try.prog W .any base t v := hval0
  have hW' := hW
  obtain ⟨p, q, hA0, hV, rfl, _, _⟩ := hW
  have hA : DataW.TrodAll enc Try.prog W 0 (fun _ => true) true Try.f3.params.toList args.toList ds p := hA0
  rw [Try.params3] at hA hval hsz
  obtain ⟨v0, vs0, d0, ds0, p0, q0, hargs, rfl, rfl, h0, r0⟩ := trodAll_cons hA
  obtain ⟨v1, vs1, d1, ds1, p1, q1, rfl, rfl, rfl, h1, r1⟩ := trodAll_cons r0
  obtain ⟨v2, vs2, d2, ds2, p2, q2, rfl, rfl, rfl, h2, r2⟩ := trodAll_cons r1
  obtain ⟨rfl, rfl, rfl⟩ := trodAll_nil r2
  obtain rfl : args = #[v0, v1, v2] := by cases args; simp_all
  obtain ⟨rfl, rfl⟩ := trodVars_none hV
  have lt0 : ∀ x ∈ p0, x.block < W.heap.size := by obtain ⟨m, hm⟩ := h0; exact DataW.trod_lt m _ _ _ hm
  have lt1 : ∀ x ∈ p1, x.block < W.heap.size := by obtain ⟨m, hm⟩ := h1; exact DataW.trod_lt m _ _ _ hm
  have lt2 : ∀ x ∈ p2, x.block < W.heap.size := by obtain ⟨m, hm⟩ := h2; exact DataW.trod_lt m _ _ _ hm
  obtain ⟨a0, b0, c0, ev0, wa0, wb0, wc0⟩ := op_out (hval 0 23 v0 rfl rfl) h0
  obtain ⟨t1, k1, u1, l1, ev1, wf1, s1, f1, n1⟩ := op_frm (hval 1 26 v1 rfl rfl) h1
  obtain ⟨a2, ev2⟩ := op_bool (hval 2 4 v2 rfl rfl) h2
  clear hA0 hval0
  subst ev0
  subst ev1
  subst ev2
  refine (outTells_any a0 b0 c0 ⟨t1, k1, l1⟩ u1 a2 W (StrsIn.of s1 (by unfold maxLen at n1; omega))).mono fun e W1 ⟨he, bel⟩ => ?_
  subst he
  exact ⟨_, rfl, _, _, _, [], _, [], hW', trodAll_mk1 (shut_bool Try.underlying4 _), (trodAll_cons_mk (Below.trod laidOut (by kernel_rfl) (of_decide_eq_true (by kernel_rfl)) h0 bel lt0) (trodAll_cons_mk (Below.trod laidOut (by kernel_rfl) (of_decide_eq_true (by kernel_rfl)) h1 bel lt1) (trodAll_cons_mk (Below.trod laidOut (by kernel_rfl) (of_decide_eq_true (by kernel_rfl)) h2 bel lt2) trodAll_mk0))), rfl, bel.frame _, fun h => by cases h⟩

theorem proved : Rows.OutTellsSaid :=
  OpenClaim.holds_of_wide 3 Try.f3 rfl rfl rfl rfl rfl rfl rfl ⟨rfl, rfl, rfl, rfl, rfl⟩ rfl rfl rfl rfl rfl (by kernel_rfl) Try.func3 (by kernel_rfl)
    (of_decide_eq_true (by kernel_rfl)) (by unfold Func.isWrapper; first | (rw [if_pos (by decide +kernel)]; kernel_rfl) | (rw [if_neg (by decide +kernel)]; exact ⟨rfl, rfl⟩))
    (fun os started H enc _ => lifted os started H enc)
end outTells

theorem outTells_holds : Rows.OutTellsSaid := outTells.proved
#print axioms outTells_holds
end Go.Proofs.Ytnpaejknoipicaf
