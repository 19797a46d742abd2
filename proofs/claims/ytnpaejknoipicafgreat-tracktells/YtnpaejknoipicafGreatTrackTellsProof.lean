/-
  'switchbacklaw.TrackTells' returns true for every input, and each argument reads behind the call as it read before: 'Rows.TrackTellsSaid'. No condition.
-/
import Derived.Test.YtnpaejknoipicafGreatRows
import Derived.Test.YtnpaejknoipicafGreatSlices
import Derived.ProofKit
import Derived.OpenShut
import Derived.ShutString
import Derived.ChangeOld
import Derived.Below
import Derived.SizedLaws
import Derived.Test.YtnpaejknoipicafGreatSlotRows
import Derived.Deep.Slices
import Derived.Test.YtnpaejknoipicafGreatFrameCheck
import Derived.Test.YtnpaejknoipicafGreatNest
import Derived.Test.YtnpaejknoipicafGreatWireClosure
import Derived.Test.YtnpaejknoipicafGreatSlotFind
import Derived.Test.YtnpaejknoipicafGreatWireCheck
import Derived.Deep.QuietTactic
import Derived.BigQuiet
import Derived.Test.YtnpaejknoipicafGreatCopyMany
import Derived.Lib.Overlaps
import Derived.Lib.AppendZerosOnto
import Derived.Laws.NewBlocks
import Derived.Test.YtnpaejknoipicafGreatKeepPlain
import Derived.Test.YtnpaejknoipicafGreatRowAux
import Derived.Test.YtnpaejknoipicafGreatBufPlain
import Derived.Deep.LoopGhost
import Derived.Lib.QuietBelow
import Derived.Test.YtnpaejknoipicafGreatFrameAll
import Derived.Test.YtnpaejknoipicafGreatMaker1
import Derived.Test.YtnpaejknoipicafGreatGroupPlain
import Derived.Test.YtnpaejknoipicafGreatGroupCheck
import Derived.Test.YtnpaejknoipicafGreatCloneFrame
import Derived.Test.YtnpaejknoipicafGreatNestApp
import Derived.Lib.AppendZeros
import Derived.Test.YtnpaejknoipicafGreatRegChain
import Derived.Test.YtnpaejknoipicafGreatGroupMake
import Derived.Deep.Cut
import Derived.Deep.DeepCutAuto
import Derived.Test.YtnpaejknoipicafGreatRefGrow
import Derived.Test.YtnpaejknoipicafGreatRegBox
import Derived.Test.YtnpaejknoipicafGreatWireMath
import Derived.Test.YtnpaejknoipicafGreatBlocks
import Derived.Test.YtnpaejknoipicafGreatRegMain
import Derived.Test.YtnpaejknoipicafGreatFrameAdd
import Derived.Test.YtnpaejknoipicafGreatWireDecode
import Derived.Test.YtnpaejknoipicafGreatCountWalk
import Derived.Deep.RegionWith
import Derived.BigRegion
import Derived.Test.YtnpaejknoipicafGreatRegApp
import Derived.Test.YtnpaejknoipicafGreatRefGroup
import Derived.Test.YtnpaejknoipicafGreatRefBetween
import Derived.Test.YtnpaejknoipicafGreatAppAny
import Derived.Handy

namespace Go.Proofs.YtnpaejknoipicafGreat
open Go.ChangeShapes Go.WideShapes Go.ChangeAt Go.RowKit
open Go.ChangeMaps (open_string shut_string)

theorem own : ownKnob Tryz.prog.godebug = none := by kernel_rfl
theorem laidOut : laidOutB Tryz.prog = true := by kernel_rfl

section
variable {H : Type} {enc : TypeId × Value → H} {P : Program} {W : World} {r : Reach} {b0 : Nat} {t e : TypeId} {v : Value} {d : DataW H} {p : List MemPlace}

theorem op_int (ht : P.underlying t = some (.int .i64)) (hval : Value.okWide P W r b0 t v) (h : DataW.Trod enc P W 0 (fun _ => true) true t v d p) :
    ∃ a, v = .int .i64 a ∧ (Lit.int .i64 a).wf = true := by
  obtain ⟨a, rfl, _, _, w0⟩ := open_int ht hval h
  exact ⟨a, rfl, w0⟩

theorem op_ints (ht : P.underlying t = some (.slice e)) (he : P.underlying e = some (.int .i64)) (hc : P.cellsOf e = 1) (hval : Value.okWide P W r b0 t v) (h : DataW.Trod enc P W 0 (fun _ => true) true t v d p)
    (hsz : ∀ elems spare, d = .slice elems spare → (elems.length + spare.length) * 8 ≤ 140737488351232) :
    ∃ zs : List Int, Sl W v zs.length 1 (zs.map (Value.int .i64)) ∧ (∀ n ∈ zs, (Lit.int .i64 n).wf = true) ∧ zs.length * 8 ≤ 140737488351232 := by
  obtain ⟨a, len, cap, rfl⟩ := okWide_slice ht hval
  obtain ⟨fuel, hf⟩ := h
  rcases open_ints ht he hc hf with ⟨hcs, hx⟩ | ⟨x, l, c, zs, hcs, _, hl, hm, hz, hx, hcell, hwz⟩
  · simp [Value.cells] at hcs
    obtain ⟨rfl, rfl, rfl⟩ := hcs
    exact ⟨[], ⟨by simp, .inl ⟨rfl, none, 0, rfl⟩⟩, by simp, by simp⟩
  · simp [Value.cells] at hcs
    obtain ⟨rfl, rfl, rfl⟩ := hcs
    simp only [if_true] at hz
    simp only [Prod.mk.injEq] at hx
    have hb := hsz _ _ hx.1
    simp only [lits, List.length_map, List.length_take, List.length_drop] at hb
    obtain ⟨hs, hw⟩ := Sl.of_row (w := W) (a := some x) (len := len) (cap := cap) (zs := zs) (k := .i64) (.inr ⟨x, rfl, hl, hm, hz, hcell, hwz⟩)
    have hlen : (zs.take len).length = len := by simp; omega
    refine ⟨zs.take len, ?_, hw, by omega⟩
    rw [hlen]
    exact hs
end

theorem wf_i64 {a : Int} (h : (Lit.int .i64 a).wf = true) : -9223372036854775808 ≤ a ∧ a ≤ 9223372036854775807 := by
  have h1 : IntKind.i64.min = -9223372036854775808 := rfl
  have h2 : IntKind.i64.max = 9223372036854775807 := rfl
  simp only [Lit.wf, Bool.and_eq_true, decide_eq_true_eq] at h
  omega

end Go.Proofs.YtnpaejknoipicafGreat

namespace Go.Proofs.YtnpaejknoipicafGreat
open Go.ChangeShapes Go.WideShapes Go.ChangeAt Go.RowKit
open Go.ChangeMaps (open_string shut_string)

section
variable {H : Type} {enc : TypeId × Value → H} {W : World} {r : Reach} {b0 base : Nat} {spare : Nat → Bool} {held : Bool} {v : Value} {d : DataW H} {p : List MemPlace}

theorem Tryz.cellsPk : Tryz.prog.cellsOf 89 = 6 := by kernel_rfl
theorem Tryz.cellsSk : Tryz.prog.cellsOf 91 = 7 := by kernel_rfl
theorem Tryz.cellsI : Tryz.prog.cellsOf 3 = 1 := by kernel_rfl
theorem Tryz.cellsB : Tryz.prog.cellsOf 4 = 1 := by kernel_rfl
theorem Tryz.cellsS : Tryz.prog.cellsOf 9 = 1 := by kernel_rfl
theorem Tryz.cellsSl : Tryz.prog.cellsOf 55 = 1 := by kernel_rfl
theorem Tryz.cellsBuf : Tryz.prog.cellsOf 57 = 2 := by kernel_rfl

theorem list7 {α : Type} {l : List α} (h : l.length = 7) : ∃ c0 c1 c2 c3 c4 c5 c6, l = [c0, c1, c2, c3, c4, c5, c6] := by
  match l, h with
  | [c0, c1, c2, c3, c4, c5, c6], _ => exact ⟨c0, c1, c2, c3, c4, c5, c6, rfl⟩
theorem list6' {α : Type} {l : List α} (h : l.length = 6) : ∃ c0 c1 c2 c3 c4 c5, l = [c0, c1, c2, c3, c4, c5] := by
  match l, h with
  | [c0, c1, c2, c3, c4, c5], _ => exact ⟨c0, c1, c2, c3, c4, c5, rfl⟩
theorem list2 {α : Type} {l : List α} (h : l.length = 2) : ∃ c0 c1, l = [c0, c1] := by
  match l, h with
  | [c0, c1], _ => exact ⟨c0, c1, rfl⟩

/-- within what an input can be -/
def Sk.fits (x : Sk) : Prop := (Lit.int .i64 x.n).wf = true ∧ (Lit.int .i64 x.p.seq).wf = true ∧ (Lit.int .i64 x.p.time).wf = true ∧ x.p.t.size ≤ maxLen

theorem trod_slot {fuel : Nat} {cs : List Value} {x : DataW H × List MemPlace} (h : DataW.trod enc Tryz.prog W base spare held fuel 91 cs = some x) :
    ∃ s : Sk, cs = s.cells.toList ∧ s.fits := by
  obtain ⟨xs, n, _, _, hl, hxl, hf⟩ := DataW.trod_struct Tryz.underlying91 h
  rw [Tryz.cellsSk] at hl
  obtain ⟨c0, c1, c2, c3, c4, c5, c6, rfl⟩ := list7 hl
  obtain ⟨x0, x1, rfl⟩ := list2 (show xs.length = 2 from hxl)
  have h0 : DataW.trod enc Tryz.prog W base spare held n 3 (([c0, c1, c2, c3, c4, c5, c6].drop 0).take (Tryz.prog.cellsOf 3)) = some x0 := hf 0 _ rfl
  have h1 : DataW.trod enc Tryz.prog W base spare held n 89 (([c0, c1, c2, c3, c4, c5, c6].drop 1).take (Tryz.prog.cellsOf 89)) = some x1 := hf 1 _ rfl
  rw [Tryz.cellsI] at h0
  rw [Tryz.cellsPk] at h1
  obtain ⟨a, ea, _, wa⟩ := DataW.trod_int Tryz.underlying3 h0
  obtain ⟨ys, m, _, _, hl2, hyl, hg⟩ := DataW.trod_struct Tryz.underlying89 h1
  obtain ⟨y0, y1, y2, y3, y4, y5, rfl⟩ := list6' (show ys.length = 6 from hyl)
  have g0 : DataW.trod enc Tryz.prog W base spare held m 3 (([c1, c2, c3, c4, c5, c6].drop 0).take (Tryz.prog.cellsOf 3)) = some y0 := hg 0 _ rfl
  have g1 : DataW.trod enc Tryz.prog W base spare held m 3 (([c1, c2, c3, c4, c5, c6].drop 1).take (Tryz.prog.cellsOf 3)) = some y1 := hg 1 _ rfl
  have g2 : DataW.trod enc Tryz.prog W base spare held m 4 (([c1, c2, c3, c4, c5, c6].drop 2).take (Tryz.prog.cellsOf 4)) = some y2 := hg 2 _ rfl
  have g3 : DataW.trod enc Tryz.prog W base spare held m 4 (([c1, c2, c3, c4, c5, c6].drop 3).take (Tryz.prog.cellsOf 4)) = some y3 := hg 3 _ rfl
  have g4 : DataW.trod enc Tryz.prog W base spare held m 4 (([c1, c2, c3, c4, c5, c6].drop 4).take (Tryz.prog.cellsOf 4)) = some y4 := hg 4 _ rfl
  have g5 : DataW.trod enc Tryz.prog W base spare held m 9 (([c1, c2, c3, c4, c5, c6].drop 5).take (Tryz.prog.cellsOf 9)) = some y5 := hg 5 _ rfl
  rw [Tryz.cellsI] at g0 g1
  rw [Tryz.cellsB] at g2 g3 g4
  rw [Tryz.cellsS] at g5
  obtain ⟨a0, e0, _, w0⟩ := DataW.trod_int Tryz.underlying3 g0
  obtain ⟨a1, e1, _, w1⟩ := DataW.trod_int Tryz.underlying3 g1
  obtain ⟨a2, e2, _⟩ := DataW.trod_bool Tryz.underlying4 g2
  obtain ⟨a3, e3, _⟩ := DataW.trod_bool Tryz.underlying4 g3
  obtain ⟨a4, e4, _⟩ := DataW.trod_bool Tryz.underlying4 g4
  obtain ⟨a5, e5, _, w5⟩ := DataW.trod_string Tryz.underlying9 g5
  simp at ea e0 e1 e2 e3 e4 e5
  subst ea e0 e1 e2 e3 e4 e5
  exact ⟨⟨a, ⟨a0, a1, a2, a3, a4, a5⟩⟩, rfl, wa, w0, w1, w5⟩

set_option maxRecDepth 100000 in
theorem op_slot (hval : Value.okWide Tryz.prog W r b0 91 v) (h : DataW.Trod enc Tryz.prog W base spare held 91 v d p) :
    ∃ s : Sk, v = s.val ∧ s.fits := by
  obtain ⟨cs, rfl, _⟩ := okWide_struct Tryz.underlying91 hval
  obtain ⟨fuel, hf⟩ := h
  obtain ⟨s, hs, hw⟩ := trod_slot hf
  refine ⟨s, ?_, hw⟩
  have : cs = s.cells := by
    apply Array.ext'
    simpa [Value.cells] using hs
  rw [this]
  rfl

theorem trod_slots {fuel : Nat} {cs : List Value} {x : DataW H × List MemPlace} (h : DataW.trod enc Tryz.prog W base spare held fuel 55 cs = some x) :
    ∃ (u : Value) (l : List Sk), cs = [u] ∧ Sls W u l ∧ (∀ s ∈ l, s.fits) ∧ l.length ≤ maxLen ∧ (∀ a n c, u = .slice a n c → n ≤ c) ∧ (∀ elems sp, x.1 = .slice elems sp → l.length ≤ elems.length + sp.length) ∧ (x.1 = .nil → l = []) ∧ (x.1 = .nil ∨ ∃ elems sp, x.1 = .slice elems sp) := by
  rcases Go.Deep.open_slice Tryz.underlying55 h with ⟨rfl, rfl⟩ | ⟨a, len, cap, m, n, D, Pl, rfl, hb, hl, hm, hmm, rfl, hx⟩
  · exact ⟨_, [], rfl, Sls.nil W, by simp, by simp, fun a n c e => by cases e; exact Nat.le_refl _, by simp, fun _ => rfl, .inl rfl⟩
  · have hlm : len ≤ m := by rw [hmm]; split <;> omega
    rw [Tryz.cellsSk] at hx
    have each : ∀ i, i < len → ∃ s : Sk, s.fits ∧ ∀ j u, s.cells[j]? = some u → W.cell? (a.add (i * 7 + j)) = some u := fun i hi => by
      obtain ⟨cs', h1, h2⟩ := hx i (by omega)
      obtain ⟨s, hs, hw⟩ := trod_slot h2
      refine ⟨s, hw, fun j u hj => ?_⟩
      obtain ⟨_, hl7, hc⟩ := World.cells?_some h1
      have hj7 : j < 7 := by
        have := (Array.getElem?_eq_some_iff.1 hj).1
        exact this
      rw [← Go.Deep.add_add, hc j hj7, hs]
      simpa using hj
    obtain ⟨f, hf⟩ := Go.Deep.choose_lt each
    have hll : ((List.range len).map f).length = len := by simp
    refine ⟨_, (List.range len).map f, rfl, ⟨?_, ?_⟩, ?_, by rw [hll]; omega, fun a' n' c' e => by cases e; exact hl, ?_, fun e => by simp at e, .inr ⟨_, _, rfl⟩⟩
    · rw [skCells_len, hll]
    · rw [hll]
      by_cases h0 : len = 0
      · subst h0
        exact .inl ⟨rfl, _, _, rfl⟩
      · right
        obtain ⟨b, off, spot⟩ := a
        have hc0 := (hf 0 (by omega)).2 0 _ rfl
        have hspot : spot = none := by simpa [Addr.add] using World.cell?_spot hc0
        subst hspot
        refine ⟨b, off, cap, rfl, by simpa [Addr.add] using World.block_lt_of_cell? W _ hc0, fun j u hj => ?_⟩
        have hjl : j < len * 7 := by
          have := (List.getElem?_eq_some_iff.1 hj).1
          rwa [skCells_len, hll] at this
        have hjk : j = j / 7 * 7 + j % 7 := by omega
        rw [hjk, skCells_at _ (j / 7) (j % 7) (by omega) (by rw [hll]; omega)] at hj
        have hel : ((List.range len).map f)[j / 7]?.getD Sk.zero = f (j / 7) := by
          rw [List.getElem?_map, List.getElem?_range (by omega)]; rfl
        rw [hel] at hj
        have := (hf (j / 7) (by omega)).2 (j % 7) u hj
        rw [← hjk, Addr.add_lit] at this
        exact this
    · intro s hs
      obtain ⟨i, hi, rfl⟩ := List.mem_map.1 hs
      exact (hf i (by simpa using hi)).1
    · intro elems sp e
      simp only [DataW.slice.injEq] at e
      rw [hll, ← e.1]
      simp

set_option maxRecDepth 100000 in
theorem op_buf (hval : Value.okWide Tryz.prog W r b0 57 v) (h : DataW.Trod enc Tryz.prog W base spare held 57 v d p) :
    ∃ (next : Int) (u : Value) (l : List Sk), v = .agg #[.int .i64 next, u] ∧ (Lit.int .i64 next).wf = true ∧ Sls W u l ∧ (∀ s ∈ l, s.fits) ∧ l.length ≤ maxLen ∧ (∀ a n c, u = .slice a n c → n ≤ c) := by
  obtain ⟨cs, rfl, _⟩ := okWide_struct Tryz.underlying57 hval
  obtain ⟨fuel, hf⟩ := h
  obtain ⟨xs, n, _, _, hl, hxl, hg⟩ := DataW.trod_struct Tryz.underlying57 hf
  rw [Tryz.cellsBuf] at hl
  obtain ⟨c0, c1, hcs⟩ := list2 hl
  obtain ⟨x0, x1, rfl⟩ := list2 (show xs.length = 2 from hxl)
  rw [hcs] at hg
  have h0 : DataW.trod enc Tryz.prog W base spare held n 3 (([c0, c1].drop 0).take (Tryz.prog.cellsOf 3)) = some x0 := hg 0 _ rfl
  have h1 : DataW.trod enc Tryz.prog W base spare held n 55 (([c0, c1].drop 1).take (Tryz.prog.cellsOf 55)) = some x1 := hg 1 _ rfl
  rw [Tryz.cellsI] at h0
  rw [Tryz.cellsSl] at h1
  obtain ⟨a, ea, _, wa⟩ := DataW.trod_int Tryz.underlying3 h0
  obtain ⟨u, l, eu, hS, hfit, hlen, hcap, _⟩ := trod_slots h1
  simp at ea eu
  subst ea eu
  refine ⟨a, c1, l, ?_, wa, hS, hfit, hlen, hcap⟩
  have : cs = #[.int .i64 a, c1] := by
    apply Array.ext'
    simpa [Value.cells] using hcs
  rw [this]

end
end Go.Proofs.YtnpaejknoipicafGreat

namespace Go.Proofs.YtnpaejknoipicafGreat
open Go.ChangeShapes Go.WideShapes Go.ChangeAt Go.RowKit

section
variable {H : Type} {enc : TypeId × Value → H} {W : World} {r : Reach} {b0 base : Nat} {spare : Nat → Bool} {held : Bool} {v : Value} {d : DataW H} {p : List MemPlace}

theorem Tryz.cellsBld : Tryz.prog.cellsOf 59 = 1 := by kernel_rfl
theorem Tryz.cellsFrm : Tryz.prog.cellsOf 30 = 3 := by kernel_rfl
theorem Tryz.cellsStrs : Tryz.prog.cellsOf 28 = 1 := by kernel_rfl

theorem list1 {α : Type} {l : List α} (h : l.length = 1) : ∃ c0, l = [c0] := by
  match l, h with
  | [c0], _ => exact ⟨c0, rfl⟩
theorem list3 {α : Type} {l : List α} (h : l.length = 3) : ∃ c0 c1 c2, l = [c0, c1, c2] := by
  match l, h with
  | [c0, c1, c2], _ => exact ⟨c0, c1, c2, rfl⟩

set_option maxRecDepth 100000 in
theorem op_slots (hval : Value.okWide Tryz.prog W r b0 55 v) (h : DataW.Trod enc Tryz.prog W base spare held 55 v d p)
    (hsz : ∀ elems sp, d = .slice elems sp → (elems.length + sp.length) * 48 ≤ 140737488351232) :
    ∃ l : List Sk, Sls W v l ∧ (∀ s ∈ l, s.fits) ∧ l.length * 48 ≤ 140737488351232 ∧ (∀ a n c, v = .slice a n c → n ≤ c) := by
  obtain ⟨a, len, cap, rfl⟩ := okWide_slice Tryz.underlying55 hval
  obtain ⟨fuel, hf⟩ := h
  obtain ⟨u, l, eu, hS, hfit, _, hcap, hb, hnil, hor⟩ := trod_slots hf
  simp [Value.cells] at eu
  subst eu
  refine ⟨l, hS, hfit, ?_, hcap⟩
  rcases hor with hn | ⟨elems, sp, he⟩
  · rw [hnil hn]; simp
  · have h1 := hb elems sp he
    have h2 := hsz elems sp he
    have : l.length * 48 ≤ (elems.length + sp.length) * 48 := Nat.mul_le_mul_right _ h1
    omega

set_option maxRecDepth 100000 in
theorem op_bld (hval : Value.okWide Tryz.prog W r b0 59 v) (h : DataW.Trod enc Tryz.prog W base spare held 59 v d p) :
    ∃ (u : Value) (l : List Sk), v = .agg #[u] ∧ Sls W u l ∧ (∀ s ∈ l, s.fits) ∧ l.length ≤ maxLen ∧ (∀ a n c, u = .slice a n c → n ≤ c) := by
  obtain ⟨cs, rfl, _⟩ := okWide_struct Tryz.underlying59 hval
  obtain ⟨fuel, hf⟩ := h
  obtain ⟨xs, n, _, _, hl, hxl, hg⟩ := DataW.trod_struct Tryz.underlying59 hf
  rw [Tryz.cellsBld] at hl
  obtain ⟨c0, hcs⟩ := list1 hl
  obtain ⟨x0, rfl⟩ := list1 (show xs.length = 1 from hxl)
  rw [hcs] at hg
  have h0 : DataW.trod enc Tryz.prog W base spare held n 55 (([c0].drop 0).take (Tryz.prog.cellsOf 55)) = some x0 := hg 0 _ rfl
  rw [Tryz.cellsSl] at h0
  obtain ⟨u, l, eu, hS, hfit, hlen, hcap, _⟩ := trod_slots h0
  simp at eu
  subst eu
  refine ⟨c0, l, ?_, hS, hfit, hlen, hcap⟩
  have : cs = #[c0] := by
    apply Array.ext'
    simpa [Value.cells] using hcs
  rw [this]

set_option maxRecDepth 100000 in
theorem trod_strs {fuel : Nat} {cs : List Value} {x : DataW H × List MemPlace} (h : DataW.trod enc Tryz.prog W base spare held fuel 28 cs = some x) :
    ∃ (u : Value) (l : List ByteArray), cs = [u] ∧ Strs W u l ∧ (∀ s ∈ l, s.size ≤ maxLen) ∧ l.length ≤ maxLen ∧ (∀ a n c, u = .slice a n c → n ≤ c) := by
  rcases Go.Deep.open_slice Tryz.underlying28 h with ⟨rfl, rfl⟩ | ⟨a, len, cap, m, n, D, Pl, rfl, hb, hl, hm, hmm, rfl, hx⟩
  · exact ⟨_, [], rfl, Strs.nil W, by simp, by simp, fun a n c e => by cases e; exact Nat.le_refl _⟩
  · have hlm : len ≤ m := by rw [hmm]; split <;> omega
    rw [Tryz.cellsS] at hx
    have each : ∀ i, i < len → ∃ s : ByteArray, s.size ≤ maxLen ∧ W.cell? (a.add i) = some (.string s) := fun i hi => by
      obtain ⟨cs', h1, h2⟩ := hx i (by omega)
      obtain ⟨s, hs, _, hw⟩ := DataW.trod_string Tryz.underlying9 h2
      obtain ⟨_, hl1, hc⟩ := World.cells?_some h1
      refine ⟨s, hw, ?_⟩
      have := hc 0 (by omega)
      rw [hs, Go.Deep.add_add] at this
      simpa using this
    obtain ⟨f, hf⟩ := Go.Deep.choose_lt each
    have hll : ((List.range len).map f).length = len := by simp
    refine ⟨_, (List.range len).map f, rfl, ?_, ?_, by rw [hll]; omega, fun a' n' c' e => by cases e; exact hl⟩
    · show Sl W _ _ 1 _
      rw [hll]
      refine ⟨by simp, ?_⟩
      by_cases h0 : len = 0
      · subst h0
        exact .inl ⟨rfl, _, _, rfl⟩
      · right
        obtain ⟨b, off, spot⟩ := a
        have hc0 := (hf 0 (by omega)).2
        have hspot : spot = none := by simpa [Addr.add] using World.cell?_spot hc0
        subst hspot
        refine ⟨b, off, cap, rfl, by simpa [Addr.add] using World.block_lt_of_cell? W _ hc0, fun j u hj => ?_⟩
        have hjl : j < len := by
          have := (List.getElem?_eq_some_iff.1 hj).1
          simpa using this
        rw [List.getElem?_map, List.getElem?_map, List.getElem?_range hjl] at hj
        simp at hj
        subst hj
        have := (hf j hjl).2
        rw [Addr.add_lit] at this
        exact this
    · intro s hs
      obtain ⟨i, hi, rfl⟩ := List.mem_map.1 hs
      exact (hf i (by simpa using hi)).1

set_option maxRecDepth 100000 in
theorem op_frm (hval : Value.okWide Tryz.prog W r b0 30 v) (h : DataW.Trod enc Tryz.prog W base spare held 30 v d p) :
    ∃ (time : Int) (key : Bool) (u : Value) (l : List ByteArray), v = .agg #[.int .i64 time, .bool key, u] ∧ (Lit.int .i64 time).wf = true ∧ Strs W u l ∧ (∀ s ∈ l, s.size ≤ maxLen) ∧ l.length ≤ maxLen := by
  obtain ⟨cs, rfl, _⟩ := okWide_struct Tryz.underlying30 hval
  obtain ⟨fuel, hf⟩ := h
  obtain ⟨xs, n, _, _, hl, hxl, hg⟩ := DataW.trod_struct Tryz.underlying30 hf
  rw [Tryz.cellsFrm] at hl
  obtain ⟨c0, c1, c2, hcs⟩ := list3 hl
  obtain ⟨x0, x1, x2, rfl⟩ := list3 (show xs.length = 3 from hxl)
  rw [hcs] at hg
  have h0 : DataW.trod enc Tryz.prog W base spare held n 3 (([c0, c1, c2].drop 0).take (Tryz.prog.cellsOf 3)) = some x0 := hg 0 _ rfl
  have h1 : DataW.trod enc Tryz.prog W base spare held n 4 (([c0, c1, c2].drop 1).take (Tryz.prog.cellsOf 4)) = some x1 := hg 1 _ rfl
  have h2 : DataW.trod enc Tryz.prog W base spare held n 28 (([c0, c1, c2].drop 2).take (Tryz.prog.cellsOf 28)) = some x2 := hg 2 _ rfl
  rw [Tryz.cellsI] at h0
  rw [Tryz.cellsB] at h1
  rw [Tryz.cellsStrs] at h2
  obtain ⟨a, ea, _, wa⟩ := DataW.trod_int Tryz.underlying3 h0
  obtain ⟨k, ek, _⟩ := DataW.trod_bool Tryz.underlying4 h1
  obtain ⟨u, l, eu, hS, hfit, hlen, _⟩ := trod_strs h2
  simp at ea ek eu
  subst ea ek eu
  refine ⟨a, k, c2, l, ?_, wa, hS, hfit, hlen⟩
  have : cs = #[.int .i64 a, .bool k, c2] := by
    apply Array.ext'
    simpa [Value.cells] using hcs
  rw [this]

end
end Go.Proofs.YtnpaejknoipicafGreat

namespace Go.Proofs.YtnpaejknoipicafGreat
open Go.ChangeShapes Go.WideShapes Go.ChangeAt Go.RowKit

theorem StrsIn.of {w : World} {v : Value} {l : List ByteArray} (h : Strs w v l) (hl : l.length ≤ 9223372036854775807) : StrsIn (fun _ => True) w v l := by
  refine ⟨h, hl, fun g hg h0 => ⟨trivial, ?_⟩⟩
  obtain ⟨_, ⟨h1, _⟩ | ⟨b, off, c, rfl, hb, _⟩⟩ := h
  · omega
  · simp [Value.ownBlock] at hg
    subst hg
    exact hb

instance : Inhabited Fr := ⟨Fr.zero⟩

section
variable {H : Type} {enc : TypeId × Value → H} {W : World} {r : Reach} {b0 base : Nat} {spare : Nat → Bool} {held : Bool} {v : Value} {d : DataW H} {p : List MemPlace}

theorem Tryz.cellsFrs : Tryz.prog.cellsOf 23 = 1 := by kernel_rfl
theorem Tryz.cellsGrp : Tryz.prog.cellsOf 25 = 1 := by kernel_rfl

set_option maxRecDepth 100000 in
theorem trod_frm {fuel : Nat} {cs : List Value} {x : DataW H × List MemPlace} (h : DataW.trod enc Tryz.prog W base spare held fuel 30 cs = some x) :
    ∃ (f : Fr) (u : Value), cs = [.int .i64 f.time, .bool f.key, u] ∧ StrsIn (fun _ => True) W u f.parts := by
  obtain ⟨xs, n, _, _, hl, hxl, hg⟩ := DataW.trod_struct Tryz.underlying30 h
  rw [Tryz.cellsFrm] at hl
  obtain ⟨c0, c1, c2, hcs⟩ := list3 hl
  obtain ⟨x0, x1, x2, rfl⟩ := list3 (show xs.length = 3 from hxl)
  rw [hcs] at hg
  have h0 : DataW.trod enc Tryz.prog W base spare held n 3 (([c0, c1, c2].drop 0).take (Tryz.prog.cellsOf 3)) = some x0 := hg 0 _ rfl
  have h1 : DataW.trod enc Tryz.prog W base spare held n 4 (([c0, c1, c2].drop 1).take (Tryz.prog.cellsOf 4)) = some x1 := hg 1 _ rfl
  have h2 : DataW.trod enc Tryz.prog W base spare held n 28 (([c0, c1, c2].drop 2).take (Tryz.prog.cellsOf 28)) = some x2 := hg 2 _ rfl
  rw [Tryz.cellsI] at h0
  rw [Tryz.cellsB] at h1
  rw [Tryz.cellsStrs] at h2
  obtain ⟨a, ea, _, wa⟩ := DataW.trod_int Tryz.underlying3 h0
  obtain ⟨k, ek, _⟩ := DataW.trod_bool Tryz.underlying4 h1
  obtain ⟨u, l, eu, hS, hfit, hlen, _⟩ := trod_strs h2
  simp at ea ek eu
  subst ea ek eu
  exact ⟨⟨a, k, l⟩, c2, hcs, StrsIn.of hS (by unfold maxLen at hlen; omega)⟩

set_option maxRecDepth 100000 in
theorem trod_frs {fuel : Nat} {cs : List Value} {x : DataW H × List MemPlace} (h : DataW.trod enc Tryz.prog W base spare held fuel 23 cs = some x) :
    ∃ (u : Value) (l : List Fr), cs = [u] ∧ FrsIn (fun _ => True) W u l := by
  rcases Go.Deep.open_slice Tryz.underlying23 h with ⟨rfl, rfl⟩ | ⟨a, len, cap, m, n, D, Pl, rfl, hb, hl, hm, hmm, rfl, hx⟩
  · exact ⟨_, [], rfl, FrsIn.nil _ W⟩
  · have hlm : len ≤ m := by rw [hmm]; split <;> omega
    rw [Tryz.cellsFrm] at hx
    have each : ∀ i, i < len → ∃ q : Fr × Value, StrsIn (fun _ => True) W q.2 q.1.parts ∧ ∀ j u, [Value.int .i64 q.1.time, .bool q.1.key, q.2][j]? = some u → W.cell? (a.add (i * 3 + j)) = some u := fun i hi => by
      obtain ⟨cs', h1, h2⟩ := hx i (by omega)
      obtain ⟨f, u, hs, hw⟩ := trod_frm h2
      refine ⟨(f, u), hw, fun j y hj => ?_⟩
      obtain ⟨_, hl3, hc⟩ := World.cells?_some h1
      have hj3 : j < 3 := by
        have := (List.getElem?_eq_some_iff.1 hj).1
        simpa using this
      rw [← Go.Deep.add_add, hc j hj3, hs]
      simpa using hj
    obtain ⟨f, hf⟩ := Go.Deep.choose_lt each
    have hll : ((List.range len).map fun i => (f i).1).length = len := by simp
    refine ⟨_, (List.range len).map fun i => (f i).1, rfl, some a, cap, by rw [hll], by rw [hll]; omega, by unfold maxLen at hm; omega, fun k hk => ?_⟩
    rw [hll] at hk
    obtain ⟨b, off, spot⟩ := a
    have hc0 := (hf 0 (by omega)).2 0 _ rfl
    have hspot : spot = none := by simpa [Addr.add] using World.cell?_spot hc0
    subst hspot
    have hel : ((List.range len).map fun i => (f i).1)[k]?.getD Fr.zero = (f k).1 := by
      rw [List.getElem?_map, List.getElem?_range hk]; rfl
    rw [hel]
    have g : ∀ j u, [Value.int .i64 (f k).1.time, .bool (f k).1.key, (f k).2][j]? = some u → W.cell? ⟨b, off + k * 3 + j, none⟩ = some u := fun j u hj => by
      have := (hf k hk).2 j u hj
      rw [Addr.add_lit, ← Nat.add_assoc] at this
      exact this
    exact ⟨b, off, rfl, by simpa [Addr.add] using World.block_lt_of_cell? W _ hc0, trivial, (f k).2, g 0 _ rfl, g 1 _ rfl, g 2 _ rfl, (hf k hk).1⟩

set_option maxRecDepth 100000 in
theorem op_frs (hval : Value.okWide Tryz.prog W r b0 23 v) (h : DataW.Trod enc Tryz.prog W base spare held 23 v d p) :
    ∃ l : List Fr, FrsIn (fun _ => True) W v l := by
  obtain ⟨a, len, cap, rfl⟩ := okWide_slice Tryz.underlying23 hval
  obtain ⟨fuel, hf⟩ := h
  obtain ⟨u, l, eu, hS⟩ := trod_frs hf
  simp [Value.cells] at eu
  subst eu
  exact ⟨l, hS⟩

set_option maxRecDepth 100000 in
theorem op_grp (hval : Value.okWide Tryz.prog W r b0 25 v) (h : DataW.Trod enc Tryz.prog W base spare held 25 v d p) :
    ∃ (u : Value) (l : List Fr), v = .agg #[u] ∧ FrsIn (fun _ => True) W u l := by
  obtain ⟨cs, rfl, _⟩ := okWide_struct Tryz.underlying25 hval
  obtain ⟨fuel, hf⟩ := h
  obtain ⟨xs, n, _, _, hl, hxl, hg⟩ := DataW.trod_struct Tryz.underlying25 hf
  rw [Tryz.cellsGrp] at hl
  obtain ⟨c0, hcs⟩ := list1 hl
  obtain ⟨x0, rfl⟩ := list1 (show xs.length = 1 from hxl)
  rw [hcs] at hg
  have h0 : DataW.trod enc Tryz.prog W base spare held n 23 (([c0].drop 0).take (Tryz.prog.cellsOf 23)) = some x0 := hg 0 _ rfl
  rw [Tryz.cellsFrs] at h0
  obtain ⟨u, l, eu, hS⟩ := trod_frs h0
  simp at eu
  subst eu
  refine ⟨c0, l, ?_, hS⟩
  have : cs = #[c0] := by
    apply Array.ext'
    simpa [Value.cells] using hcs
  rw [this]
end
end Go.Proofs.YtnpaejknoipicafGreat

namespace Go.Proofs.YtnpaejknoipicafGreat
open Go.ChangeShapes Go.WideShapes Go.ChangeAt Go.RowKit

section
variable {H : Type} {enc : TypeId × Value → H} {W : World} {r : Reach} {b0 base : Nat} {spare : Nat → Bool} {held : Bool} {v : Value} {d : DataW H} {p : List MemPlace}

theorem Tryz.cellsGrs : Tryz.prog.cellsOf 22 = 1 := by kernel_rfl
theorem Tryz.cellsStore : Tryz.prog.cellsOf 27 = 3 := by kernel_rfl
theorem Tryz.cellsIntS : Tryz.prog.cellsOf 3 = 1 := by kernel_rfl

set_option maxRecDepth 100000 in
theorem trod_grp {fuel : Nat} {cs : List Value} {x : DataW H × List MemPlace} (h : DataW.trod enc Tryz.prog W base spare held fuel 25 cs = some x) :
    ∃ (u : Value) (l : List Fr), cs = [u] ∧ FrsIn (fun _ => True) W u l := by
  obtain ⟨xs, n, _, _, hl, hxl, hg⟩ := DataW.trod_struct Tryz.underlying25 h
  rw [Tryz.cellsGrp] at hl
  obtain ⟨c0, hcs⟩ := list1 hl
  obtain ⟨x0, rfl⟩ := list1 (show xs.length = 1 from hxl)
  rw [hcs] at hg
  have h0 : DataW.trod enc Tryz.prog W base spare held n 23 (([c0].drop 0).take (Tryz.prog.cellsOf 23)) = some x0 := hg 0 _ rfl
  rw [Tryz.cellsFrs] at h0
  obtain ⟨u, l, eu, hS⟩ := trod_frs h0
  simp at eu
  subst eu
  exact ⟨c0, l, hcs, hS⟩

set_option maxRecDepth 100000 in
theorem trod_grs {fuel : Nat} {cs : List Value} {x : DataW H × List MemPlace} (h : DataW.trod enc Tryz.prog W base spare held fuel 22 cs = some x) :
    ∃ (u : Value) (L : List (List Fr)), cs = [u] ∧ GrsIn (fun _ => True) W u L := by
  rcases Go.Deep.open_slice Tryz.underlying22 h with ⟨rfl, rfl⟩ | ⟨a, len, cap, m, n, D, Pl, rfl, hb, hl, hm, hmm, rfl, hx⟩
  · exact ⟨_, [], rfl, GrsIn.nil _ W⟩
  · have hlm : len ≤ m := by rw [hmm]; split <;> omega
    rw [Tryz.cellsGrp] at hx
    have each : ∀ i, i < len → ∃ q : List Fr × Value, FrsIn (fun _ => True) W q.2 q.1 ∧ W.cell? (a.add i) = some q.2 := fun i hi => by
      obtain ⟨cs', h1, h2⟩ := hx i (by omega)
      obtain ⟨u, l, hs, hw⟩ := trod_grp h2
      refine ⟨(l, u), hw, ?_⟩
      obtain ⟨_, hl1, hc⟩ := World.cells?_some h1
      have := hc 0 (by omega)
      rw [hs, Go.Deep.add_add] at this
      simpa using this
    obtain ⟨f, hf⟩ := Go.Deep.choose_lt each
    have hll : ((List.range len).map fun i => (f i).1).length = len := by simp
    refine ⟨_, (List.range len).map fun i => (f i).1, rfl, some a, cap, by rw [hll], by rw [hll]; omega, by unfold maxLen at hm; omega, fun k hk => ?_⟩
    rw [hll] at hk
    obtain ⟨b, off, spot⟩ := a
    have hc0 := (hf 0 (by omega)).2
    have hspot : spot = none := by simpa [Addr.add] using World.cell?_spot hc0
    subst hspot
    have hel : ((List.range len).map fun i => (f i).1)[k]?.getD [] = (f k).1 := by
      rw [List.getElem?_map, List.getElem?_range hk]; rfl
    rw [hel]
    have g : W.cell? ⟨b, off + k, none⟩ = some (f k).2 := by
      have := (hf k hk).2
      rw [Addr.add_lit] at this
      exact this
    exact ⟨b, off, rfl, by simpa [Addr.add] using World.block_lt_of_cell? W _ hc0, trivial, (f k).2, g, (hf k hk).1⟩

set_option maxRecDepth 100000 in
theorem op_store (hval : Value.okWide Tryz.prog W r b0 27 v) (h : DataW.Trod enc Tryz.prog W base spare held 27 v d p) :
    ∃ (first : Int) (gv ov : Value) (L : List (List Fr)) (O : List Fr), v = .agg #[.int .i64 first, gv, ov] ∧ (Lit.int .i64 first).wf = true ∧ GrsIn (fun _ => True) W gv L ∧ FrsIn (fun _ => True) W ov O := by
  obtain ⟨cs, rfl, _⟩ := okWide_struct Tryz.underlying27 hval
  obtain ⟨fuel, hf⟩ := h
  obtain ⟨xs, n, _, _, hl, hxl, hg⟩ := DataW.trod_struct Tryz.underlying27 hf
  rw [Tryz.cellsStore] at hl
  obtain ⟨c0, c1, c2, hcs⟩ := list3 hl
  obtain ⟨x0, x1, x2, rfl⟩ := list3 (show xs.length = 3 from hxl)
  rw [hcs] at hg
  have h0 : DataW.trod enc Tryz.prog W base spare held n 3 (([c0, c1, c2].drop 0).take (Tryz.prog.cellsOf 3)) = some x0 := hg 0 _ rfl
  have h1 : DataW.trod enc Tryz.prog W base spare held n 22 (([c0, c1, c2].drop 1).take (Tryz.prog.cellsOf 22)) = some x1 := hg 1 _ rfl
  have h2 : DataW.trod enc Tryz.prog W base spare held n 25 (([c0, c1, c2].drop 2).take (Tryz.prog.cellsOf 25)) = some x2 := hg 2 _ rfl
  rw [Tryz.cellsIntS] at h0
  rw [Tryz.cellsGrs] at h1
  rw [Tryz.cellsGrp] at h2
  obtain ⟨a, ea, _, wa⟩ := DataW.trod_int Tryz.underlying3 h0
  obtain ⟨u1, L, eu1, hL⟩ := trod_grs h1
  obtain ⟨u2, O, eu2, hO⟩ := trod_grp h2
  simp at ea eu1 eu2
  subst ea eu1 eu2
  refine ⟨a, c1, c2, L, O, ?_, wa, hL, hO⟩
  have : cs = #[.int .i64 a, c1, c2] := by
    apply Array.ext'
    simpa [Value.cells] using hcs
  rw [this]
end
end Go.Proofs.YtnpaejknoipicafGreat

namespace Go.Proofs.YtnpaejknoipicafGreat
open Go.ChangeShapes Go.WideShapes Go.ChangeAt Go.RowKit
open Go.ChangeMaps (open_string shut_string)

section
variable {H : Type} {enc : TypeId × Value → H} {W : World} {r : Reach} {b0 base : Nat} {spare : Nat → Bool} {held : Bool} {v : Value} {d : DataW H} {p : List MemPlace}

theorem op_str {P : Program} {t : TypeId} (ht : P.underlying t = some .string) (hval : Value.okWide P W r b0 t v) (h : DataW.Trod enc P W 0 (fun _ => true) true t v d p) :
    ∃ l : List UInt8, v = .string (ba l) ∧ l.length ≤ maxLen := by
  obtain ⟨s, rfl, _, _, hs⟩ := open_string ht hval h
  exact ⟨s.data.toList, by rw [ba_of], hs⟩

theorem list6 {α : Type} {l : List α} (h : l.length = 6) : ∃ c0 c1 c2 c3 c4 c5, l = [c0, c1, c2, c3, c4, c5] := by
  match l, h with
  | [c0, c1, c2, c3, c4, c5], _ => exact ⟨c0, c1, c2, c3, c4, c5, rfl⟩

theorem Tryz.cellsPkt : Tryz.prog.cellsOf 89 = 6 := by kernel_rfl
theorem Tryz.cellsInt : Tryz.prog.cellsOf 3 = 1 := by kernel_rfl
theorem Tryz.cellsBool : Tryz.prog.cellsOf 4 = 1 := by kernel_rfl
theorem Tryz.cellsStr : Tryz.prog.cellsOf 9 = 1 := by kernel_rfl

/-- the fields of a packet within what an input can be -/
def Pk.fits (p : Pk) : Prop := (Lit.int .i64 p.seq).wf = true ∧ (Lit.int .i64 p.time).wf = true ∧ p.t.size ≤ maxLen

theorem trod_pkt {fuel : Nat} {cs : List Value} {x : DataW H × List MemPlace} (h : DataW.trod enc Tryz.prog W base spare held fuel 89 cs = some x) :
    ∃ p : Pk, cs = p.cells.toList ∧ p.fits := by
  obtain ⟨xs, n, _, _, hl, hxl, hf⟩ := DataW.trod_struct Tryz.underlying89 h
  rw [Tryz.cellsPkt] at hl
  obtain ⟨c0, c1, c2, c3, c4, c5, rfl⟩ := list6 hl
  obtain ⟨x0, x1, x2, x3, x4, x5, rfl⟩ := list6 (show xs.length = 6 from hxl)
  have h0 : DataW.trod enc Tryz.prog W base spare held n 3 (([c0, c1, c2, c3, c4, c5].drop 0).take (Tryz.prog.cellsOf 3)) = some x0 := hf 0 _ rfl
  have h1 : DataW.trod enc Tryz.prog W base spare held n 3 (([c0, c1, c2, c3, c4, c5].drop 1).take (Tryz.prog.cellsOf 3)) = some x1 := hf 1 _ rfl
  have h2 : DataW.trod enc Tryz.prog W base spare held n 4 (([c0, c1, c2, c3, c4, c5].drop 2).take (Tryz.prog.cellsOf 4)) = some x2 := hf 2 _ rfl
  have h3 : DataW.trod enc Tryz.prog W base spare held n 4 (([c0, c1, c2, c3, c4, c5].drop 3).take (Tryz.prog.cellsOf 4)) = some x3 := hf 3 _ rfl
  have h4 : DataW.trod enc Tryz.prog W base spare held n 4 (([c0, c1, c2, c3, c4, c5].drop 4).take (Tryz.prog.cellsOf 4)) = some x4 := hf 4 _ rfl
  have h5 : DataW.trod enc Tryz.prog W base spare held n 9 (([c0, c1, c2, c3, c4, c5].drop 5).take (Tryz.prog.cellsOf 9)) = some x5 := hf 5 _ rfl
  rw [Tryz.cellsInt] at h0 h1
  rw [Tryz.cellsBool] at h2 h3 h4
  rw [Tryz.cellsStr] at h5
  obtain ⟨a0, e0, _, w0⟩ := DataW.trod_int Tryz.underlying3 h0
  obtain ⟨a1, e1, _, w1⟩ := DataW.trod_int Tryz.underlying3 h1
  obtain ⟨a2, e2, _⟩ := DataW.trod_bool Tryz.underlying4 h2
  obtain ⟨a3, e3, _⟩ := DataW.trod_bool Tryz.underlying4 h3
  obtain ⟨a4, e4, _⟩ := DataW.trod_bool Tryz.underlying4 h4
  obtain ⟨a5, e5, _, w5⟩ := DataW.trod_string Tryz.underlying9 h5
  simp at e0 e1 e2 e3 e4 e5
  subst e0 e1 e2 e3 e4 e5
  exact ⟨⟨a0, a1, a2, a3, a4, a5⟩, rfl, w0, w1, w5⟩

set_option maxRecDepth 100000 in
theorem op_pkt (hval : Value.okWide Tryz.prog W r b0 89 v) (h : DataW.Trod enc Tryz.prog W base spare held 89 v d p) :
    ∃ p : Pk, v = p.val ∧ p.fits := by
  obtain ⟨cs, rfl, _⟩ := okWide_struct Tryz.underlying89 hval
  obtain ⟨fuel, hf⟩ := h
  obtain ⟨p, hp, hw⟩ := trod_pkt hf
  refine ⟨p, ?_, hw⟩
  have : cs = p.cells := by
    apply Array.ext'
    simpa [Value.cells] using hp
  rw [this]
  rfl
end

end Go.Proofs.YtnpaejknoipicafGreat

namespace Go.Proofs.YtnpaejknoipicafGreat
open Go.RowKit

/-- the first error of slots, one by one: by itself, then in its place -/
def chkFit (q : Nat → Bool) : Nat → List Sk → Int
  | _, [] => 0
  | i, x :: r => if x.chk = 0 then (if q i then chkFit q (i + 1) r else 4) else x.chk
theorem chkFit_append (q : Nat → Bool) (m : List Sk) : ∀ (l : List Sk) (i : Nat), chkFit q i l = 0 → chkFit q i (l ++ m) = chkFit q (i + l.length) m
  | [], i, _ => rfl
  | x :: r, i, h => by
    simp only [List.cons_append, chkFit] at h ⊢
    by_cases hx : x.chk = 0
    · rw [if_pos hx] at h ⊢
      cases hq : q i
      · rw [hq] at h; simp at h
      · rw [hq, if_pos rfl] at h
        rw [if_pos rfl, chkFit_append q m r (i + 1) h]
        congr 1
        simp only [List.length_cons]; omega
    · rw [if_neg hx] at h; exact absurd h hx
theorem split_at {l : List Sk} {k : Nat} (hk : k < l.length) : l = l.take k ++ (l[k]?.getD Sk.zero) :: l.drop (k + 1) := by
  rw [List.getElem?_eq_getElem hk, Option.getD_some, ← List.drop_eq_getElem_cons hk, List.take_append_drop]
theorem chkFit_no1 {q : Nat → Bool} {l : List Sk} {k : Nat} (hk : k < l.length) (h : chkFit q 0 (l.take k) = 0) (hx : ¬ (l[k]?.getD Sk.zero).chk = 0) : chkFit q 0 l = (l[k]?.getD Sk.zero).chk := by
  rw [split_at hk, chkFit_append q _ _ _ h, ← split_at hk]
  simp only [chkFit, if_neg hx]
theorem chkFit_no2 {q : Nat → Bool} {l : List Sk} {k : Nat} (hk : k < l.length) (h : chkFit q 0 (l.take k) = 0) (hx : (l[k]?.getD Sk.zero).chk = 0) (hq : q k = false) : chkFit q 0 l = 4 := by
  have hl : 0 + (l.take k).length = k := by simp; omega
  rw [split_at hk, chkFit_append q _ _ _ h, hl]
  simp only [chkFit, if_pos hx, hq]; simp
theorem chkFit_ok {q : Nat → Bool} {l : List Sk} {k : Nat} (hk : k < l.length) (h : chkFit q 0 (l.take k) = 0) (hx : (l[k]?.getD Sk.zero).chk = 0) (hq : q k = true) : chkFit q 0 (l.take (k + 1)) = 0 := by
  have hl : 0 + (l.take k).length = k := by simp; omega
  rw [take_one hk Sk.zero, chkFit_append q _ _ _ h, hl]
  simp only [chkFit, if_pos hx, hq]; simp

/-- a closure that tells q of a place below n, and changes nothing that was there -/
def Fits (g : Nat) (lb : Array Value) (q : Nat → Bool) (n : Nat) (w : World) : Prop :=
  ∀ (W : World) (k : Nat), k < n → Below w.heap.size w W → Calls Tryz.prog g (#[.int .i64 k] ++ lb) W fun e w' => e = .returned (.bool (q k)) ∧ Below W.heap.size W w'

set_option maxHeartbeats 1600000 in
theorem checkAll_any (g : Nat) (lb : Array Value) (q : Nat → Bool) (eg : Enters Tryz.prog g) (v : Value) (l : List Sk) (w : World) (hv : Sls w v l) (hlen : l.length ≤ 9223372036854775807) (hq : Fits g lb q l.length w) :
    Calls Tryz.prog 123 #[v, .func (.func g) #[] lb] w fun e w' => e = .returned (.int .i64 (chkFit q 0 l)) ∧ Below w.heap.size w w' := by
  obtain ⟨ao, c, rfl, hc⟩ := hv.parts
  have HC : Hid (∀ k, k < l.length → ∃ b off, ao = some ⟨b, off, none⟩ ∧ b < w.heap.size ∧ At7 w b (off + k * 7) (l[k]?.getD Sk.zero)) := hc
  have HQ : Hid (Fits g lb q l.length w) := hq
  obtain ⟨n, hn⟩ : ∃ n, n = l.length := ⟨_, rfl⟩
  have HN : Hid (n = l.length) := hn
  have eg' : ∀ (args : Array Value) (w : World), (callFunc g args).run Tryz.prog w = .ok (.enter g args) w := eg
  rw [← hn] at hlen ⊢
  clear hc hv hn hq eg
  go_enter Tryz.func123, Tryz.ntmps123
  go_wp2
  go_loopw [10] (fun i wr => ∃ k : Nat, k ≤ n ∧ i = .int .i64 k ∧ Hid (chkFit q 0 (l.take k) = 0) ∧ Below w.heap.size w wr)
    (fun i _ => n - (intOf i).toNat)
  case atStart => exact ⟨0, Nat.zero_le _, rfl, (show chkFit q 0 (l.take 0) = 0 from rfl), Below.refl _ _⟩
  case round =>
    obtain ⟨k, hk, rfl, HK, hbel⟩ := hrel
    by_cases hlt : k < n
    · obtain ⟨b, off, rfl, hb, hat⟩ := HC.out k (by rw [← HN.out]; exact hlt)
      obtain ⟨c0, c1, c2, c3, c4, c5, c6⟩ := hat.below hbel hb
      obtain ⟨x, hx⟩ : ∃ x, x = l[k]?.getD Sk.zero := ⟨_, rfl⟩
      rw [← hx] at c0 c1 c2 c3 c4 c5 c6
      have HX : Hid (x = l[k]?.getD Sk.zero) := hx
      clear hx hat
      obtain ⟨ch, hch⟩ : ∃ ch, ch = x.chk := ⟨_, rfl⟩
      have HCH : Hid (ch = x.chk) := hch
      have hck : ∀ w : World, Calls Tryz.prog 91 #[x.val] w fun e w' => e = .returned (.int .i64 ch) ∧ Below w.heap.size w w' := fun w => by rw [hch]; exact slotCheck_any x w
      clear hch
      obtain ⟨qk, hqk⟩ : ∃ qk, qk = q k := ⟨_, rfl⟩
      have HQK : Hid (qk = q k) := hqk
      have hfit : ∀ W : World, Below w.heap.size w W → Calls Tryz.prog g (#[.int .i64 k] ++ lb) W fun e w' => e = .returned (.bool qk) ∧ Below W.heap.size W w' := fun W hW => by rw [hqk]; exact HQ.out W k (by rw [← HN.out]; exact hlt) hW
      have HF : Hid (∀ W : World, Below w.heap.size w W → Calls Tryz.prog g (#[.int .i64 k] ++ lb) W fun e w' => e = .returned (.bool qk) ∧ Below W.heap.size W w') := hfit
      clear hqk hfit
      obtain ⟨xn, seq, time, xf, xe, xk, xt⟩ := x
      simp only [Sk.val] at hck c0 c1 c2 c3 c4 c5 c6
      have HB : Hid (Below w.heap.size w wr) := hbel
      clear hbel
      by_cases h0 : ch = 0
      · subst h0
        cases qk
        · go_wp2_with (first
            | (go_at_call 91; refine (hck _).mono ?_; rintro e w1 ⟨rfl, hbw⟩; have HB1 : Hid (Below w.heap.size w w1) := HB.out.trans (((Below.refl _ _).alloc HB.out.size _).trans (hbw.mono (by have := HB.out.size; simp; omega))))
            | (go_at_fn g; refine (HF.out _ HB1.out).mono ?_; rintro e w2 ⟨rfl, hbw2⟩))
          go_ret
          exact ⟨by rw [chkFit_no2 (by rw [← HN.out]; exact hlt) HK.out (by rw [← HX.out]; exact HCH.out.symm) HQK.out.symm]; rfl, HB1.out.trans (hbw2.mono HB1.out.size)⟩
        · go_wp2_with (first
            | (go_at_call 91; refine (hck _).mono ?_; rintro e w1 ⟨rfl, hbw⟩; have HB1 : Hid (Below w.heap.size w w1) := HB.out.trans (((Below.refl _ _).alloc HB.out.size _).trans (hbw.mono (by have := HB.out.size; simp; omega))))
            | (go_at_fn g; refine (HF.out _ HB1.out).mono ?_; rintro e w2 ⟨rfl, hbw2⟩))
          go_roundw
          case rel => exact ⟨k + 1, by omega, by go_num, (show chkFit q 0 (l.take (k + 1)) = 0 from chkFit_ok (by rw [← HN.out]; exact hlt) HK.out (by rw [← HX.out]; exact HCH.out.symm) HQK.out.symm), HB1.out.trans (hbw2.mono HB1.out.size)⟩
          case measure => simp [intOf]; omega
      · go_wp2_with (go_at_call 91; refine (hck _).mono ?_; rintro e w' ⟨rfl, hbw⟩)
        go_ret
        exact ⟨by rw [chkFit_no1 (by rw [← HN.out]; exact hlt) HK.out (by rw [← HX.out, ← HCH.out]; exact h0), ← HX.out, ← HCH.out]; rfl, HB.out.trans (((Below.refl _ _).alloc HB.out.size _).trans (hbw.mono (by have := HB.out.size; simp; omega)))⟩
    · have hkl : k = n := by omega
      subst hkl
      go_wp2
      go_ret
      have hk0 := HK.out
      rw [HN.out, List.take_length] at hk0
      rw [hk0]
      exact ⟨rfl, hbel⟩

end Go.Proofs.YtnpaejknoipicafGreat

namespace Go.Proofs.YtnpaejknoipicafGreat
open Go.RowKit

def Pk.eqB (a b : Pk) : Bool := (a.seq == b.seq) && ((a.time == b.time) && ((a.f == b.f) && ((a.e == b.e) && ((a.k == b.k) && (a.t.toList == b.t.toList)))))

set_option maxHeartbeats 1000000 in
theorem eql_pkt (a b : Pk) (w : World) : (binOp .eql 89 a.val b.val).run Tryz.prog w = .ok (.bool (Pk.eqB a b)) w := by
  obtain ⟨a0, a1, a2, a3, a4, a5⟩ := a
  obtain ⟨b0, b1, b2, b3, b4, b5⟩ := b
  simp only [Pk.val, Pk.eqB]
  rw [run_eql_struct, run_equalIn_agg w 9999 89 _ _ (by kernel_rfl) (by kernel_rfl)]
  rw [show (Tryz.prog.fieldsOf 89) = _ by unfold Program.fieldsOf; rw [Tryz.underlying89]]
  cases h0 : (a0 == b0)
  · simp [go_sem, h0]
  cases h1 : (a1 == b1)
  · simp [go_sem, h0, h1]
  cases h2 : (a2 == b2)
  · simp [go_sem, h0, h1, h2]
  cases h3 : (a3 == b3)
  · simp [go_sem, h0, h1, h2, h3]
  cases h4 : (a4 == b4)
  · simp [go_sem, h0, h1, h2, h3, h4]
  cases h5 : (a5.toList == b5.toList)
  · simp [go_sem, h0, h1, h2, h3, h4, h5]
  · simp [go_sem, h0, h1, h2, h3, h4, h5]

theorem Pk.eqB_iff (a b : Pk) : Pk.eqB a b = true ↔ a = b := by
  obtain ⟨a0, a1, a2, a3, a4, a5⟩ := a
  obtain ⟨b0, b1, b2, b3, b4, b5⟩ := b
  simp only [Pk.eqB, Bool.and_eq_true, beq_iff_eq, Pk.mk.injEq]
  constructor
  · rintro ⟨h0, h1, h2, h3, h4, h5⟩
    exact ⟨h0, h1, h2, h3, h4, by rw [ByteArray.toList_eq, ByteArray.toList_eq] at h5; exact ByteArray.ext (Array.ext' h5)⟩
  · rintro ⟨h0, h1, h2, h3, h4, h5⟩
    exact ⟨h0, h1, h2, h3, h4, by rw [h5]⟩

end Go.Proofs.YtnpaejknoipicafGreat

namespace Go.Proofs.YtnpaejknoipicafGreat
open Go.RowKit

theorem refNum_any (n : Int) (w : World) :
    Calls Tryz.prog 70 #[.int .i64 n] w fun e w' => e = .returned (.bool (Cn.isNB n)) ∧ w = w' := by
  have e : Cn.isNB n = Cn.betB n 65536 1000000000 := by simp [Cn.betB, Cn.isNB]
  rw [e]
  clear e
  go_enter Tryz.func70, Tryz.ntmps70
  go_wp2_with (go_at_call 50; refine (between_any _ _ _ _).mono ?_; rintro e w' ⟨rfl, rfl⟩)
  go_ret
  exact ⟨rfl, rfl⟩

set_option maxHeartbeats 1000000 in
theorem refSlot_any (x : Sk) (w : World) :
    Calls Tryz.prog 115 #[x.val] w fun e w' => e = .returned (.int .i64 x.chk) ∧ Below w.heap.size w w' := by
  cases hb : Cn.isNB x.n
  · have hw : ∀ w : World, Calls Tryz.prog 70 #[.int .i64 x.n] w fun e w' => e = .returned (.bool false) ∧ w = w' := fun w => by rw [← hb]; exact refNum_any _ _
    rw [Sk.chk_range hb]
    clear hb
    obtain ⟨n, seq, time, f, e, k, t⟩ := x
    simp only [Sk.val] at hw ⊢
    go_enter Tryz.func115, Tryz.ntmps115
    go_wp2_with (go_at_call 70; refine (hw _).mono ?_; rintro e w' ⟨rfl, rfl⟩)
    go_ret
    exact ⟨rfl, by go_grown⟩
  have hw : ∀ w : World, Calls Tryz.prog 70 #[.int .i64 x.n] w fun e w' => e = .returned (.bool true) ∧ w = w' := fun w => by rw [← hb]; exact refNum_any _ _
  obtain ⟨hn1, hn2⟩ := Cn.isNB_iff.1 hb
  by_cases hc : x.p.chk = 0
  · have hp : ∀ w : World, Calls Tryz.prog 118 #[x.p.val] w fun e w' => e = .returned (.int .i64 0) ∧ w' = w.alloc (.cells x.p.cells 89) := fun w => by rw [← hc]; exact refCheck_any _ _
    by_cases hs : x.n % 65536 = x.p.seq
    · rw [Sk.chk_ok hb hc hs]
      clear hb hc
      obtain ⟨n, seq, time, f, e, k, t⟩ := x
      simp only [Sk.val, Pk.val, Pk.cells] at hw hp hs hn1 hn2 ⊢
      subst hs
      go_enter Tryz.func115, Tryz.ntmps115
      go_wp2_with (first | (go_at_call 70; refine (hw _).mono ?_; rintro e w' ⟨rfl, rfl⟩) | (go_at_call 118; refine (hp _).mono ?_; rintro e w' ⟨rfl, rfl⟩))
      go_ret
      exact ⟨rfl, by go_grown⟩
    · rw [Sk.chk_seq hb hc hs]
      clear hb hc
      obtain ⟨n, seq, time, f, e, k, t⟩ := x
      simp only [Sk.val, Pk.val, Pk.cells] at hw hp hs hn1 hn2 ⊢
      go_enter Tryz.func115, Tryz.ntmps115
      go_wp2_with (first | (go_at_call 70; refine (hw _).mono ?_; rintro e w' ⟨rfl, rfl⟩) | (go_at_call 118; refine (hp _).mono ?_; rintro e w' ⟨rfl, rfl⟩))
      go_ret
      exact ⟨rfl, by go_grown⟩
  · rw [Sk.chk_pkt hb hc]
    obtain ⟨c, hcc⟩ : ∃ c, c = x.p.chk := ⟨_, rfl⟩
    have hp : ∀ w : World, Calls Tryz.prog 118 #[x.p.val] w fun e w' => e = .returned (.int .i64 c) ∧ w' = w.alloc (.cells x.p.cells 89) := fun w => by rw [hcc]; exact refCheck_any _ _
    rw [← hcc] at hc ⊢
    clear hb hcc
    obtain ⟨n, seq, time, f, e, k, t⟩ := x
    simp only [Sk.val, Pk.val, Pk.cells] at hw hp ⊢
    go_enter Tryz.func115, Tryz.ntmps115
    go_wp2_with (first | (go_at_call 70; refine (hw _).mono ?_; rintro e w' ⟨rfl, rfl⟩) | (go_at_call 118; refine (hp _).mono ?_; rintro e w' ⟨rfl, rfl⟩))
    go_ret
    exact ⟨rfl, by go_grown⟩

def Sk.eqB (a b : Sk) : Bool := (a.n == b.n) && Pk.eqB a.p b.p
theorem Sk.eqB_iff (a b : Sk) : Sk.eqB a b = true ↔ a = b := by
  obtain ⟨an, ap⟩ := a
  obtain ⟨bn, bp⟩ := b
  simp [Sk.eqB, Pk.eqB_iff]

set_option maxHeartbeats 1000000 in
theorem equalIn_slot (a b : Sk) (w : World) : (Op.equalIn 10000 91 a.val b.val).run Tryz.prog w = .ok (Sk.eqB a b) w := by
  obtain ⟨an, a0, a1, a2, a3, a4, a5⟩ := a
  obtain ⟨bn, b0, b1, b2, b3, b4, b5⟩ := b
  simp only [Sk.val, Sk.eqB, Pk.eqB]
  rw [run_equalIn_agg w 9999 91 _ _ (by kernel_rfl) (by kernel_rfl)]
  rw [show (Tryz.prog.fieldsOf 91) = _ by unfold Program.fieldsOf; rw [Tryz.underlying91]]
  cases hn : (an == bn)
  · simp [go_sem, hn]
  simp [go_sem, hn]
  by_cases h0 : a0 = b0
  · by_cases h1 : a1 = b1
    · by_cases h2 : a2 = b2
      · by_cases h3 : a3 = b3
        · by_cases h4 : a4 = b4
          · by_cases h5 : a5.toList = b5.toList <;> simp [h0, h1, h2, h3, h4, h5]
          · simp [h0, h1, h2, h3, h4]
        · simp [h0, h1, h2, h3]
      · simp [h0, h1, h2]
    · simp [h0, h1]
  · simp [h0]
theorem neq_slot (a b : Sk) (w : World) : (binOp .neq 91 a.val b.val).run Tryz.prog w = .ok (.bool (!(Sk.eqB a b))) w := by
  have h := equalIn_slot a b w
  simp only [Sk.val] at h ⊢
  rw [run_neq_struct, h]
  rfl
theorem eql_slot (a b : Sk) (w : World) : (binOp .eql 91 a.val b.val).run Tryz.prog w = .ok (.bool (Sk.eqB a b)) w := by
  have h := equalIn_slot a b w
  simp only [Sk.val] at h ⊢
  rw [run_eql_struct, h]
  rfl

/-- are they the same? -/
def sameB : List Sk → List Sk → Bool
  | [], [] => true
  | x :: r, y :: s => Sk.eqB x y && sameB r s
  | _, _ => false
theorem sameB_iff : ∀ (l m : List Sk), sameB l m = true ↔ l = m
  | [], [] => by simp [sameB]
  | x :: r, y :: s => by simp [sameB, Sk.eqB_iff, sameB_iff r s]
  | [], _ :: _ => by simp [sameB]
  | _ :: _, [] => by simp [sameB]
theorem sameB_len {l m : List Sk} (h : ¬ l.length = m.length) : sameB l m = false := by
  cases hb : sameB l m
  · rfl
  · rw [sameB_iff] at hb; exact absurd (by rw [hb]) h
theorem sameB_at {l m : List Sk} {k : Nat} (hx : ¬ (l[k]?.getD Sk.zero) = (m[k]?.getD Sk.zero)) : sameB l m = false := by
  cases hb : sameB l m
  · rfl
  · rw [sameB_iff] at hb
    subst hb
    exact absurd rfl hx
theorem same_ext {l m : List Sk} (hl : l.length = m.length) (h : ∀ k, k < l.length → (l[k]?.getD Sk.zero) = (m[k]?.getD Sk.zero)) : sameB l m = true := by
  rw [sameB_iff]
  refine List.ext_getElem hl fun k h1 h2 => ?_
  have := h k h1
  rw [List.getElem?_eq_getElem h1, List.getElem?_eq_getElem h2] at this
  exact this

set_option maxHeartbeats 1600000 in
theorem sameSlots_any (u v : Value) (l m : List Sk) (w : World) (hu : Sls w u l) (hv : Sls w v m) (hlen : l.length ≤ 9223372036854775807) :
    Calls Tryz.prog 127 #[u, v] w fun e w' => e = .returned (.bool (sameB l m)) ∧ Below w.heap.size w w' := by
  obtain ⟨ao, c, rfl, hc⟩ := hu.parts
  obtain ⟨bo, d, rfl, hd⟩ := hv.parts
  by_cases hlm : l.length = m.length
  · have HC : Hid (∀ k, k < l.length → ∃ b off, ao = some ⟨b, off, none⟩ ∧ b < w.heap.size ∧ At7 w b (off + k * 7) (l[k]?.getD Sk.zero)) := hc
    have HD : Hid (∀ k, k < m.length → ∃ b off, bo = some ⟨b, off, none⟩ ∧ b < w.heap.size ∧ At7 w b (off + k * 7) (m[k]?.getD Sk.zero)) := hd
    obtain ⟨n, hn⟩ : ∃ n, n = l.length := ⟨_, rfl⟩
    have HN : Hid (n = l.length) := hn
    have HM : Hid (n = m.length) := hn.trans hlm
    rw [← hlm, ← hn]
    rw [← hn] at hlen
    clear hc hd hu hv hn hlm
    go_enter Tryz.func127, Tryz.ntmps127
    go_wp2
    go_loopw [5] (fun i wr => ∃ k : Nat, k ≤ n ∧ i = .int .i64 k ∧ Hid (∀ j, j < k → (l[j]?.getD Sk.zero) = (m[j]?.getD Sk.zero)) ∧ Hid (Below w.heap.size w wr) ∧ (∀ x, wr.cell? x = w.cell? x))
      (fun i _ => n - (intOf i).toNat)
    case atStart => exact ⟨0, Nat.zero_le _, rfl, (show ∀ j, j < 0 → _ from fun j hj => absurd hj (Nat.not_lt_zero _)), Below.refl _ _, fun _ => rfl⟩
    case round =>
      obtain ⟨k, hk, rfl, HK, HB, hcell⟩ := hrel
      have HCE : Hid (∀ x, wr.cell? x = w.cell? x) := hcell
      clear hcell
      by_cases hlt : k < n
      · obtain ⟨b, off, rfl, hb, hat⟩ := HC.out k (by rw [← HN.out]; exact hlt)
        obtain ⟨b2, off2, rfl, hb2, hat2⟩ := HD.out k (by rw [← HM.out]; exact hlt)
        obtain ⟨c0, c1, c2, c3, c4, c5, c6⟩ := hat
        obtain ⟨d0, d1, d2, d3, d4, d5, d6⟩ := hat2
        rw [← HCE.out] at c0 c1 c2 c3 c4 c5 c6 d0 d1 d2 d3 d4 d5 d6
        obtain ⟨x, hx⟩ : ∃ x, x = l[k]?.getD Sk.zero := ⟨_, rfl⟩
        obtain ⟨y, hy⟩ : ∃ y, y = m[k]?.getD Sk.zero := ⟨_, rfl⟩
        rw [← hx] at c0 c1 c2 c3 c4 c5 c6
        rw [← hy] at d0 d1 d2 d3 d4 d5 d6
        have HX : Hid (x = l[k]?.getD Sk.zero) := hx
        have HY : Hid (y = m[k]?.getD Sk.zero) := hy
        obtain ⟨t, ht⟩ : ∃ t, t = Sk.eqB x y := ⟨_, rfl⟩
        have HT : Hid (t = Sk.eqB x y) := ht
        have hne := neq_slot x y
        rw [← ht] at hne
        clear hx hy ht
        obtain ⟨xn, seq, time, xf, xe, xk, xt⟩ := x
        obtain ⟨yn, seq2, time2, yf, ye, yk, yt⟩ := y
        simp only [Sk.val] at hne
        have hlti : (k : Int) < (n : Int) := by omega
        cases t
        · go_wp2
          go_quiet (fail)
          go_wp2
          go_ret
          exact ⟨by rw [sameB_at (k := k) (fun e => by rw [← HX.out, ← HY.out, ← Sk.eqB_iff, ← HT.out] at e; cases e)]; rfl, HB.out.trans (⟨rfl, rfl, rfl, Nat.le_refl _, fun _ _ => rfl⟩)⟩
        · go_wp2
          go_quiet (fail)
          go_wp2
          go_roundw
          case rel =>
            refine ⟨k + 1, by omega, by go_num, (show ∀ j, j < k + 1 → _ from fun j hj => ?_), HB.out.trans (⟨rfl, rfl, rfl, Nat.le_refl _, fun _ _ => rfl⟩), fun x => HCE.out x⟩
            by_cases e : j = k
            · subst e
              rw [← HX.out, ← HY.out, ← Sk.eqB_iff]; exact HT.out.symm
            · exact HK.out j (by omega)
          case measure => simp [intOf]; omega
      · have hkl : k = n := by omega
        subst hkl
        go_wp2
        go_ret
        exact ⟨by rw [same_ext (HN.out.symm.trans HM.out) (fun j hj => HK.out j (by rw [HN.out]; exact hj))]; rfl, HB.out⟩
  · rw [sameB_len hlm]
    have hne : ¬ ((l.length : Nat) : Int) = ((m.length : Nat) : Int) := by omega
    obtain ⟨n, hn⟩ : ∃ n, n = l.length := ⟨_, rfl⟩
    obtain ⟨k, hk⟩ : ∃ n, n = m.length := ⟨_, rfl⟩
    rw [← hn, ← hk] at hne ⊢
    clear hc hd hu hv hn hk hlm
    go_enter Tryz.func127, Tryz.ntmps127
    go_wp2
    go_ret
    exact ⟨rfl, Below.refl _ _⟩

set_option maxHeartbeats 1000000 in
theorem sameBuffer_any (n1 n2 : Int) (u v : Value) (l m : List Sk) (w : World) (hu : Sls w u l) (hv : Sls w v m) (hlen : l.length ≤ 9223372036854775807) :
    Calls Tryz.prog 126 #[.agg #[.int .i64 n1, u], .agg #[.int .i64 n2, v]] w fun e w' => e = .returned (.bool (n1 == n2 && sameB l m)) ∧ Below w.heap.size w w' := by
  obtain ⟨a, c, hua⟩ := hu.len
  obtain ⟨b, d, hva⟩ := hv.len
  have HS : Hid (∀ w', Below w.heap.size w w' → Calls Tryz.prog 127 #[u, v] w' fun e w'' => e = .returned (.bool (sameB l m)) ∧ Below w'.heap.size w' w'') := fun w' hb => sameSlots_any u v l m w' (hu.below hb) (hv.below hb) hlen
  obtain ⟨t, ht⟩ : ∃ t, t = sameB l m := ⟨_, rfl⟩
  rw [← ht] at HS ⊢
  obtain ⟨k, hk⟩ : ∃ n, n = l.length := ⟨_, rfl⟩
  obtain ⟨j, hj⟩ : ∃ n, n = m.length := ⟨_, rfl⟩
  rw [← hk] at hua
  rw [← hj] at hva
  clear ht hu hv hk hj
  subst hua hva
  by_cases hn : n1 = n2
  · subst hn
    have e : (n1 == n1 && t) = t := by simp
    rw [e]
    go_enter Tryz.func126, Tryz.ntmps126
    go_wp2_with (go_at_call 127; refine (HS.out _ (by go_grown)).mono ?_; rintro e w1 ⟨rfl, hb1⟩)
    go_ret
    exact ⟨rfl, (((Below.refl _ w).alloc (Nat.le_refl _) _).alloc (by simp) _).trans (hb1.mono (by simp; omega))⟩
  · have e : (n1 == n2 && t) = false := by simp [hn]
    have e2 : (n1 == n2) = false := by simpa using hn
    rw [e]
    go_enter Tryz.func126, Tryz.ntmps126
    go_wp2
    go_ret
    exact ⟨rfl, by go_grown⟩

end Go.Proofs.YtnpaejknoipicafGreat

namespace Go.Proofs.YtnpaejknoipicafGreat
open Go.RowKit

theorem Tryz.sizeSlot : (Tryz.prog.info? 91).map (·.size) = some 7 := by kernel_rfl

set_option maxHeartbeats 1000000 in
set_option maxRecDepth 100000 in
/-- at the end -/
theorem insert_end (base n : Nat) (v : Value) (l : List Sk) (x : Sk) (vb : Nat) (w : World) (hn : n = l.length) (hown : w.ownsRow base 91 7 v n (skCells l)) (hsm : n ≤ 1000) (hbase : base ≤ w.heap.size)
    (hvb : Blk w vb x.cells 91) :
    Calls Tryz.prog 177 #[v, .int .i64 n, .slice (some ⟨vb, 0, none⟩) 1 1] w fun e w' =>
      ∃ u, e = .returned u ∧ w'.ownsRow base 91 7 u (n + 1) (skCells (l ++ [x])) ∧ w.grownBy w' v.ownBlock := by
  obtain ⟨i0, hi, hz0, hz1, hz2⟩ := info_parts Tryz.infoSlot
  obtain ⟨a, c, hv⟩ : ∃ a c, v = .slice a n c := by
    obtain ⟨_, ⟨rfl, rfl⟩ | ⟨g, cap, cur, rfl, _⟩⟩ := hown
    · exact ⟨_, _, rfl⟩
    · exact ⟨_, _, rfl⟩
  have hnc : n ≤ c := by
    obtain ⟨_, ⟨h, h0⟩ | ⟨g, cap, cur, h, _, _, h1, _⟩⟩ := hown
    · omega
    · rw [hv] at h; cases h; exact h1
  have HO : Hid (w.ownsRow base 91 7 v n (skCells l)) := hown
  have HV : Hid (Blk w vb x.cells 91) := hvb
  obtain ⟨ob, hob⟩ : ∃ ob, ob = v.ownBlock := ⟨_, rfl⟩
  rw [← hob]
  clear hown hvb hn
  subst hv
  have HB : Hid (ob = (Value.slice a n c).ownBlock) := hob
  clear hob
  go_enter Tryz.func177, Tryz.ntmps177
  go_wp2_with (at_builtin; refine wpList_append_own2 _ rfl _ _ 55 rfl base 91 i0 _ 7 48 Tryz.underlying55 hi hz0 hz1 hz2 rfl (by decide) _ n (skCells l) rfl HO.out ⟨vb, 0, none⟩ 1 1 x.cells.toList rfl rfl (fun j u hj => by rw [Addr.add_lit, Nat.zero_add]; exact HV.out.cell (by simpa using hj)) (oneSlot x) (by unfold maxLen; omega) (by omega) hbase ?_; intro v' w2 hown' hgrow _; have HG : Hid (w.grownBy w2 ob) := (by show w.grownBy w2 ob; rw [HB.out]; exact hgrow); clear hgrow)
  all_goals
    go_ret
    rw [skCells_append, skCells_one]
    exact ⟨_, rfl, hown', HG.out⟩

/-- the row behind an insertion in place -/
theorem insert_row (cur : List Value) (l : List Sk) (x : Sk) (i cap : Nat) (hi : i < l.length) (hcap : l.length + 1 ≤ cap) (hs : cur.length = cap * 7) (ht : cur.take (l.length * 7) = skCells l)
    (r1 r2 : List Value) (h1 : r1 = cur.take ((i + 1) * 7) ++ skCells (l.drop i) ++ cur.drop ((i + 1) * 7 + (skCells (l.drop i)).length)) (h2 : r2 = r1.take (i * 7) ++ x.cells.toList ++ r1.drop (i * 7 + x.cells.toList.length)) :
    r2.length = cap * 7 ∧ r2.take ((l.length + 1) * 7) = skCells (l.take i ++ x :: l.drop i) := by
  have hx : x.cells.toList.length = 7 := rfl
  have hd : (skCells (l.drop i)).length = (l.length - i) * 7 := by rw [skCells_len, List.length_drop]
  have e0 : skCells l = skCells (l.take i) ++ skCells (l.drop i) := by rw [← skCells_append, List.take_append_drop]
  have hti : (skCells (l.take i)).length = i * 7 := by rw [skCells_len, List.length_take]; congr 1; omega
  have e1 : cur.take (i * 7) = skCells (l.take i) := by
    have : cur.take (i * 7) = (cur.take (l.length * 7)).take (i * 7) := by rw [List.take_take]; congr 1; omega
    rw [this, ht, e0, List.take_left' hti]
  have l1 : r1.length = cap * 7 := by
    rw [h1]; simp only [List.length_append, List.length_take, List.length_drop, hd, hs]; omega
  have e2 : r1.take (i * 7) = skCells (l.take i) := by
    rw [h1, List.append_assoc, List.take_append_of_le_length (by rw [List.length_take, hs]; omega), List.take_take, ← e1]; congr 1; omega
  have e3 : r1.drop (i * 7 + 7) = skCells (l.drop i) ++ cur.drop ((i + 1) * 7 + (skCells (l.drop i)).length) := by
    rw [h1, List.append_assoc]
    exact List.drop_left' (by rw [List.length_take, hs]; omega)
  rw [hx, e2, e3] at h2
  constructor
  · rw [h2]; simp only [List.length_append, List.length_drop, hti, hx, hd, hs]; omega
  · rw [h2, skCells_append, show skCells (x :: l.drop i) = x.cells.toList ++ skCells (l.drop i) from rfl, ← List.append_assoc, ← List.append_assoc]
    exact List.take_left' (by simp only [List.length_append, hti, hx, hd]; omega)

set_option maxHeartbeats 4000000 in
set_option maxRecDepth 100000 in
/-- in between, where there is room -/
theorem insert_room (base g cap i : Nat) (cur : Array Value) (l : List Sk) (x : Sk) (vb n : Nat) (w : World) (hn : n = l.length) (hbg : base ≤ g) (hg : Blk w g cur 91) (hcm : cap ≤ maxLen) (hcs : cur.size = cap * 7) (htk : cur.toList.take (n * 7) = skCells l)
    (hi : i < n) (hroom : n + 1 ≤ cap) (hsm : n ≤ 1000) (hvb : Blk w vb x.cells 91) (hne : vb ≠ g) :
    Calls Tryz.prog 177 #[.slice (some ⟨g, 0, none⟩) n cap, .int .i64 i, .slice (some ⟨vb, 0, none⟩) 1 1] w fun e w' =>
      ∃ u, e = .returned u ∧ w'.ownsRow base 91 7 u (n + 1) (skCells (l.take i ++ x :: l.drop i)) ∧ w.grownBy w' (some g) := by
  have hov : ∀ lb cb, (callFunc 178 #[.slice (some ⟨vb, 0, none⟩) 1 1, .slice (some ⟨g, (i + 1) * 7, none⟩) lb cb]).run Tryz.prog w = .ok (.value (.bool false)) w := fun lb cb => by
    have hsa : w.shape? vb = some (91, 7) := by
      have h : w.heap[vb]? = some (.cells x.cells 91 (0, 0)) := hvb
      unfold World.shape?; rw [h]; rfl
    have hsb : w.shape? g = some (91, cap * 7) := by
      have h : w.heap[g]? = some (.cells cur 91 (0, 0)) := hg
      unfold World.shape?; rw [h, ← hcs]
    rw [run_callFunc_extern Tryz.func178 (by kernel_rfl) (by kernel_rfl) (by kernel_rfl) (e := Extern.SlicesOverlaps.overlaps #[55, 55] #[4]) (by kernel_rfl),
      Lib.run_overlaps_apart w 55 4 91 Tryz.underlying55 7 (fun w => Tryz.sizeOf91 w) ⟨vb, 0, none⟩ ⟨g, (i + 1) * 7, none⟩ 1 1 lb cb hne 91 91 7 (cap * 7) hsa hsb (by omega) (hvb.free 0) (hvb.free 7)]
    rfl
  obtain ⟨Y, hY⟩ : ∃ Y, Y = skCells (l.drop i) := ⟨_, rfl⟩
  have hYl : Y.length = (n - i) * 7 := by rw [hY, skCells_len, List.length_drop, ← hn]
  obtain ⟨R1, hR1⟩ : ∃ R1, R1 = cur.toList.take ((i + 1) * 7) ++ Y ++ cur.toList.drop ((i + 1) * 7 + Y.length) := ⟨_, rfl⟩
  obtain ⟨R2, hR2⟩ : ∃ R2, R2 = R1.take (i * 7) ++ x.cells.toList ++ R1.drop (i * 7 + x.cells.toList.length) := ⟨_, rfl⟩
  obtain ⟨hL2, hT2⟩ := insert_row cur.toList l x i cap (by omega) (by omega) (by simpa using hcs) (by rw [← hn]; exact htk) R1 R2 (by rw [hR1, hY]) hR2
  have hYat : ∀ j v, Y[j]? = some v → w.cell? ((⟨g, i * 7, none⟩ : Addr).add j) = some v := fun j v hj => by
    have hj2 : j < Y.length := (List.getElem?_eq_some_iff.1 hj).1
    rw [Addr.add_lit]
    refine hg.cell ?_
    have : (skCells l)[i * 7 + j]? = some v := by
      rw [show skCells l = skCells (l.take i) ++ Y by rw [hY, ← skCells_append, List.take_append_drop], List.getElem?_append_right (by rw [skCells_len, List.length_take]; omega)]
      rw [skCells_len, List.length_take, show i * 7 + j - min i l.length * 7 = j by rw [Nat.min_eq_left (by omega)]; omega]
      exact hj
    rw [← htk, List.getElem?_take, if_pos (by omega)] at this
    simpa using this
  have hY1 : ∀ v ∈ Y, v.oneCell' = true := fun v hv => by
    rw [hY] at hv
    obtain ⟨y, _, hy⟩ := List.mem_flatMap.1 hv
    exact oneSlot y v hy
  have hcp1 : ∀ ty, (Builtin.copy_ #[55, 55] ty #[.slice (some ⟨g, (i + 1) * 7, none⟩) (n + 1 - (i + 1)) (cap - (i + 1)), .slice (some ⟨g, i * 7, none⟩) (n + 1 - i) (cap - i)]).run Tryz.prog w.drew = .ok (goInt ((n - i : Nat) : Int)) (w.drew.setRow g R1.toArray) := fun ty => by
    have hmin : Nat.min (n + 1 - i) (n + 1 - (i + 1)) = n - i := by simp only [Nat.min_def]; split <;> omega
    have h := run_copy_many (P := Tryz.prog) w.drew 55 55 ty 91 7 g ((i + 1) * 7) (n + 1 - (i + 1)) (cap - (i + 1)) ⟨g, i * 7, none⟩ (n + 1 - i) (cap - i) cur 91 Y Tryz.underlying55 Tryz.sizeSlot hg (by rw [hmin, hYl]) hYat (by omega) hY1
    rw [hmin, ← hR1] at h
    exact h
  have hl1 : R1.length = cap * 7 := by
    rw [hR1]; simp only [List.length_append, List.length_take, List.length_drop, hYl, Array.length_toList]; omega
  have hg1 : Blk (w.drew.setRow g R1.toArray) g R1.toArray 91 := setRow_heap _ _ cur _ _ _ hg
  have hcp2 : ∀ ty, (Builtin.copy_ #[55, 55] ty #[.slice (some ⟨g, i * 7, none⟩) (n + 1 - i) (cap - i), .slice (some ⟨vb, 0, none⟩) 1 1]).run Tryz.prog (w.drew.setRow g R1.toArray) = .ok (goInt 1) (w.drew.setRow g R2.toArray) := fun ty => by
    have hmin : Nat.min 1 (n + 1 - i) = 1 := by simp only [Nat.min_def]; split <;> omega
    have h := run_copy_many (P := Tryz.prog) (w.drew.setRow g R1.toArray) 55 55 ty 91 7 g (i * 7) (n + 1 - i) (cap - i) ⟨vb, 0, none⟩ 1 1 R1.toArray 91 x.cells.toList Tryz.underlying55 Tryz.sizeSlot hg1 (by rw [hmin]; rfl) (fun j v hj => by rw [Addr.add_lit, Nat.zero_add, cell_setRow_other _ _ _ _ hne]; exact hvb.cell (by simpa using hj)) (by have : x.cells.toList.length = 7 := rfl; simp only [List.size_toArray]; omega) (oneSlot x)
    rw [hmin, ← hR2, setRow_setRow] at h
    exact h
  have hfin : ∀ r, Hid (r = w.drew.setRow g R2.toArray) → r.ownsRow base 91 7 (.slice (some ⟨g, 0, none⟩) (n + 1) cap) (n + 1) (skCells (l.take i ++ x :: l.drop i)) ∧ w.grownBy r (some g) := fun r hr => by
    rw [hr.out]
    refine ⟨⟨?_, .inr ⟨g, cap, R2.toArray, rfl, hbg, setRow_heap _ _ cur _ _ _ hg, hroom, hcm, by simpa using hL2, by rw [hn]; exact hT2⟩⟩, ⟨rfl, rfl, rfl, by simp, fun k _ hk => setRow_other _ _ _ _ (fun e => hk (by rw [e]))⟩⟩
    rw [skCells_len, hn]; congr 1; simp; omega
  have HF : Hid _ := hfin
  clear hfin hL2 hT2 hg1 hl1 hYat hY1 hYl hR1 hR2 hY htk hcs hg hvb hn
  have hz2 : ¬ ((i : Int) = (n : Int)) := by omega
  have hw1 : IntKind.i64.wrap ((i : Int) + 1) = (i : Int) + 1 := by rw [IntKind.wrap_i64]; unfold maxLen at hcm; omega
  have hb1 : (0 : Int) ≤ (i : Int) + 1 := by omega
  have hin : i ≤ n := by omega
  have htn : ((i : Int) + 1).toNat = i + 1 := by omega
  have hb2 : ¬ (cap = i + 1) := by omega
  have hb3 : (i : Int) ≤ (n : Int) + 1 := by omega
  have hb4 : ¬ (cap = i) := by omega
  go_enter Tryz.func177, Tryz.ntmps177
  go_wp2_with (simp only [hov])
  go_region_law (refine step_run rfl (.tmp 73) (.tmp 76) 55 55 rfl (.slice (some ⟨g, (i + 1) * 7, none⟩) (n + 1 - (i + 1)) (cap - (i + 1))) (.slice (some ⟨g, i * 7, none⟩) (n + 1 - i) (cap - i)) (by simp [Act.eval, Act.put]) (by simp [Act.eval, Act.put]) (hcp1 _) ?_)
  go_wp2_with (at_builtin; refine wpList_run rfl _ _ 55 55 rfl _ _ rfl rfl (hcp2 _) ?_)
  go_ret
  exact ⟨_, rfl, HF.out _ rfl⟩

end Go.Proofs.YtnpaejknoipicafGreat

namespace Go.Proofs.YtnpaejknoipicafGreat
open Go.RowKit

/-- the new row behind an insertion -/
theorem insert_new (old Z : List Value) (l : List Sk) (x : Sk) (i G : Nat) (hi : i < l.length) (hG : l.length + 1 ≤ G) (ho : old = skCells (l.take i)) (hZ : Z.length = (G - i) * 7)
    (r0 r1 r2 : List Value) (h0 : r0 = old ++ Z) (h1 : r1 = r0.take (i * 7) ++ x.cells.toList ++ r0.drop (i * 7 + x.cells.toList.length)) (h2 : r2 = r1.take ((i + 1) * 7) ++ skCells (l.drop i) ++ r1.drop ((i + 1) * 7 + (skCells (l.drop i)).length)) :
    r0.length = G * 7 ∧ r1.length = G * 7 ∧ r2.length = G * 7 ∧ r2.take ((l.length + 1) * 7) = skCells (l.take i ++ x :: l.drop i) := by
  have hx : x.cells.toList.length = 7 := rfl
  have hd : (skCells (l.drop i)).length = (l.length - i) * 7 := by rw [skCells_len, List.length_drop]
  have hti : (skCells (l.take i)).length = i * 7 := by rw [skCells_len, List.length_take]; congr 1; omega
  have l0 : r0.length = G * 7 := by rw [h0, ho]; simp only [List.length_append, hti, hZ]; omega
  have e0 : r0.take (i * 7) = skCells (l.take i) := by rw [h0, ho]; exact List.take_left' hti
  have l1 : r1.length = G * 7 := by rw [h1]; simp only [List.length_append, List.length_take, List.length_drop, hx, l0]; omega
  rw [hx, e0] at h1
  have e1 : r1.take ((i + 1) * 7) = skCells (l.take i) ++ x.cells.toList := by
    rw [h1]; exact List.take_left' (by simp only [List.length_append, hti, hx]; omega)
  have l2 : r2.length = G * 7 := by rw [h2]; simp only [List.length_append, List.length_take, List.length_drop, hd, l1]; omega
  refine ⟨l0, l1, l2, ?_⟩
  rw [h2, e1, skCells_append, show skCells (x :: l.drop i) = x.cells.toList ++ skCells (l.drop i) from rfl, ← List.append_assoc]
  exact List.take_left' (by simp only [List.length_append, hti, hx, hd]; omega)

set_option maxHeartbeats 1000000 in
set_option maxRecDepth 100000 in
/-- in between, where there is no room -/
theorem insert_grow (base g cap i : Nat) (cur : Array Value) (l : List Sk) (x : Sk) (vb n : Nat) (w : World) (hn : n = l.length) (hbase : base ≤ w.heap.size) (hg : Blk w g cur 91) (hnc : n ≤ cap) (htk : cur.toList.take (n * 7) = skCells l)
    (hi : i < n) (hroom : cap < n + 1) (hsm : n ≤ 1000) (hvb : Blk w vb x.cells 91) :
    Calls Tryz.prog 177 #[.slice (some ⟨g, 0, none⟩) n cap, .int .i64 i, .slice (some ⟨vb, 0, none⟩) 1 1] w fun e w' =>
      ∃ u, e = .returned u ∧ w'.ownsRow base 91 7 u (n + 1) (skCells (l.take i ++ x :: l.drop i)) ∧ w.grownBy w' (some g) := by
  obtain ⟨i0, hinf, hz0, hz1, hz2⟩ := info_parts Tryz.infoSlot
  have hti : (skCells (l.take i)).length = i * 7 := by rw [skCells_len, List.length_take]; congr 1; omega
  have hall : ∀ j v, (skCells l)[j]? = some v → w.cell? ⟨g, j, none⟩ = some v := fun j v hj => by
    have hlt : j < (skCells l).length := (List.getElem?_eq_some_iff.1 hj).1
    rw [skCells_len] at hlt
    refine hg.cell ?_
    rw [← htk, List.getElem?_take, if_pos (by omega)] at hj
    simpa using hj
  have hsp : skCells l = skCells (l.take i) ++ skCells (l.drop i) := by rw [← skCells_append, List.take_append_drop]
  have hold : (Builtin.firstCells i0.size i (.slice (some ⟨g, 0, none⟩) i cap)).run Tryz.prog w.drew = .ok (skCells (l.take i)).toArray w.drew := by
    rw [hz1]
    exact run_firstCells_some w.drew 7 i ⟨g, 0, none⟩ i cap (skCells (l.take i)) hti (fun j v hj => by
      rw [Addr.add_lit, Nat.zero_add]
      exact hall j v (by rw [hsp, List.getElem?_append_left (List.getElem?_eq_some_iff.1 hj).1]; exact hj))
  have hik : i + (n + 1 - i) = n + 1 := by omega
  have hkk : (n : Int) + 1 - (i : Int) = ((n + 1 - i : Nat) : Int) := by omega
  obtain ⟨G, hG⟩ : ∃ G, G = grownCap w (n + 1) cap 91 := ⟨_, rfl⟩
  have hGn : n + 1 ≤ G := by rw [hG]; exact grownCap_ge w _ _ _
  have hGm : G ≤ maxLen := by rw [hG]; exact grownCap_le_maxLen w _ _ _ (by unfold maxLen; omega)
  obtain ⟨z, hz⟩ : ∃ z : Value, z = .agg #[.int .i64 0, .int .i64 0, .int .i64 0, .bool false, .bool false, .bool false, .string ByteArray.empty] := ⟨_, rfl⟩
  have hzc : z.cells.size = 7 := by rw [hz]; rfl
  rw [← hz] at hz0
  obtain ⟨Z, hZ⟩ : ∃ Z : Array Value, Z = Builtin.zeroCells z.cells (n + 1 - i) ++ Builtin.zeroCells z.cells (G - (n + 1)) := ⟨_, rfl⟩
  have hZl : Z.toList.length = (G - i) * 7 := by
    rw [hZ]; simp only [Array.toList_append, List.length_append, Array.length_toList, Builtin.zeroCells, Array.size_map, Array.size_range, hzc]; omega
  obtain ⟨R0, hR0⟩ : ∃ R0, R0 = skCells (l.take i) ++ Z.toList := ⟨_, rfl⟩
  obtain ⟨Y, hY⟩ : ∃ Y, Y = skCells (l.drop i) := ⟨_, rfl⟩
  have hYl : Y.length = (n - i) * 7 := by rw [hY, skCells_len, List.length_drop, ← hn]
  obtain ⟨R1, hR1⟩ : ∃ R1, R1 = R0.take (i * 7) ++ x.cells.toList ++ R0.drop (i * 7 + x.cells.toList.length) := ⟨_, rfl⟩
  obtain ⟨R2, hR2⟩ : ∃ R2, R2 = R1.take ((i + 1) * 7) ++ Y ++ R1.drop ((i + 1) * 7 + Y.length) := ⟨_, rfl⟩
  obtain ⟨l0, l1, l2, hT⟩ := insert_new _ Z.toList l x i G (by omega) (by omega) rfl hZl R0 R1 R2 hR0 hR1 (by rw [hR2, hY])
  have hrz : ∀ ty, (Builtin.append_ #[55, 3] ty #[.slice (some ⟨g, 0, none⟩) i cap, .int .i64 ((n + 1 - i : Nat) : Int)]).run Tryz.prog w =
      .ok (.slice (some ⟨w.heap.size, 0, none⟩) (n + 1) G) (w.drew.alloc (.cells R0.toArray 91)) := fun ty => by
    have h := Lib.run_append_grow_zeros w 55 3 ty 91 i0 z .i64 .i64 Tryz.underlying55 Tryz.underlying3 hinf hz0 (some ⟨g, 0, none⟩) i cap (skCells (l.take i)) hold (n + 1 - i) (by omega) (by omega) (by omega) (by omega) (by rw [hz2]; omega) (by rw [hz2, hik]; exact growslice_fits hroom (by omega))
    rw [hik, ← hG] at h
    rw [h, hR0, hZ]
    congr 3
    simp
  obtain ⟨W1, hW1⟩ : ∃ W1, W1 = w.drew.alloc (.cells R0.toArray 91) := ⟨_, rfl⟩
  have hs1 : W1.heap.size = w.heap.size + 1 := by rw [hW1]; simp
  have k0 : Blk W1 w.heap.size R0.toArray 91 := by rw [hW1]; exact Blk.new w.drew _ _
  have kv : Blk W1 vb x.cells 91 := by rw [hW1]; exact hvb.drew.alloc _
  have hvn : vb ≠ w.heap.size := by have := hvb.lt; omega
  have hgn : g ≠ w.heap.size := by have := hg.lt; omega
  have hcpA : ∀ ty dc, (Builtin.copy_ #[55, 55] ty #[.slice (some ⟨w.heap.size, i * 7, none⟩) (n + 1 - i) dc, .slice (some ⟨vb, 0, none⟩) 1 1]).run Tryz.prog W1 = .ok (goInt 1) (W1.setRow w.heap.size R1.toArray) := fun ty dc => by
    have hmin : Nat.min 1 (n + 1 - i) = 1 := by simp only [Nat.min_def]; split <;> omega
    have h := run_copy_many (P := Tryz.prog) W1 55 55 ty 91 7 w.heap.size (i * 7) (n + 1 - i) dc ⟨vb, 0, none⟩ 1 1 R0.toArray 91 x.cells.toList Tryz.underlying55 Tryz.sizeSlot k0 (by rw [hmin]; rfl) (fun j v hj => by rw [Addr.add_lit, Nat.zero_add]; exact kv.cell (by simpa using hj)) (by have : x.cells.toList.length = 7 := rfl; simp only [List.size_toArray]; omega) (oneSlot x)
    rw [hmin, ← hR1] at h
    exact h
  obtain ⟨W2, hW2⟩ : ∃ W2, W2 = W1.setRow w.heap.size R1.toArray := ⟨_, rfl⟩
  have k2 : Blk W2.drew w.heap.size R1.toArray 91 := by rw [hW2]; exact setRow_heap _ _ _ _ _ _ k0
  have kg : W2.heap[g]? = w.heap[g]? := by rw [hW2, setRow_other _ _ _ _ hgn, hW1, Below.heap_alloc _ _ _ (by exact hg.lt)]; rfl
  have hcpB : ∀ ty dc sc, (Builtin.copy_ #[55, 55] ty #[.slice (some ⟨w.heap.size, (i + 1) * 7, none⟩) (n + 1 - (i + 1)) dc, .slice (some ⟨g, i * 7, none⟩) (n - i) sc]).run Tryz.prog W2.drew = .ok (goInt ((n - i : Nat) : Int)) (W2.drew.setRow w.heap.size R2.toArray) := fun ty dc sc => by
    have hmin : Nat.min (n - i) (n + 1 - (i + 1)) = n - i := by simp only [Nat.min_def]; split <;> omega
    have h := run_copy_many (P := Tryz.prog) W2.drew 55 55 ty 91 7 w.heap.size ((i + 1) * 7) (n + 1 - (i + 1)) dc ⟨g, i * 7, none⟩ (n - i) sc R1.toArray 91 Y Tryz.underlying55 Tryz.sizeSlot k2 (by rw [hmin, hYl]) (fun j v hj => by
        rw [Addr.add_lit]
        have hc := hall (i * 7 + j) v (by
          rw [hsp, List.getElem?_append_right (by omega), hti, show i * 7 + j - i * 7 = j by omega, ← hY]; exact hj)
        exact (World.cell?_of_block (w := w) (a := ⟨g, i * 7 + j, none⟩) kg).trans hc) (by simp only [List.size_toArray]; omega) (fun v hv => by
        rw [hY] at hv
        obtain ⟨y, _, hy⟩ := List.mem_flatMap.1 hv
        exact oneSlot y v hy)
    rw [hmin, ← hR2] at h
    exact h
  have hfin : ∀ r, Hid (r = W2.drew.setRow w.heap.size R2.toArray) → r.ownsRow base 91 7 (.slice (some ⟨w.heap.size, 0, none⟩) (n + 1) G) (n + 1) (skCells (l.take i ++ x :: l.drop i)) ∧ w.grownBy r (some g) := fun r hr => by
    rw [hr.out]
    refine ⟨⟨?_, .inr ⟨w.heap.size, G, R2.toArray, rfl, hbase, setRow_heap _ _ _ _ _ _ k2, hGn, hGm, by simpa using l2, by rw [hn]; exact hT⟩⟩, ⟨?_, ?_, ?_, ?_, fun k hk _ => ?_⟩⟩
    · rw [skCells_len, hn]; congr 1; simp; omega
    · rw [hW2, hW1]; rfl
    · rw [hW2, hW1]; rfl
    · rw [hW2, hW1]; rfl
    · rw [hW2, hW1]; simp
    · rw [setRow_other _ _ _ _ (by omega)]
      show W2.heap[k]? = w.heap[k]?
      rw [hW2, setRow_other _ _ _ _ (by omega), hW1, Below.heap_alloc _ _ _ (by exact hk)]; rfl
  have HF : Hid _ := hfin
  have HW1 : Hid (W1 = w.drew.alloc (.cells R0.toArray 91)) := hW1
  have HW2 : Hid (W2 = W1.setRow w.heap.size R1.toArray) := hW2
  rw [← hW1] at hrz
  rw [← hW2] at hcpA
  have hG63 : G ≤ 9223372036854775807 := by unfold maxLen at hGm; omega
  clear hfin hT l0 l1 l2 hYl hR0 hR1 hR2 hY htk hg hvb hn k0 kv k2 kg hW1 hW2 hZl hZ hz hz0 hzc hall hsp hold hti hG hGm
  have hz2 : ¬ ((i : Int) = (n : Int)) := by omega
  have hz3 : (cap : Int) < (n : Int) + 1 := by omega
  have hw1 : IntKind.i64.wrap ((i : Int) + 1) = (i : Int) + 1 := by rw [IntKind.wrap_i64]; omega
  have hb1 : (0 : Int) ≤ (i : Int) + 1 := by omega
  have hin : i ≤ n := by omega
  have htn : ((i : Int) + 1).toNat = i + 1 := by omega
  have hb2 : ¬ (G = i + 1) := by omega
  have hb3 : (i : Int) ≤ (n : Int) + 1 := by omega
  have hb4 : ¬ (G = i) := by omega
  have hb5 : ¬ (cap = i) := by omega
  go_enter Tryz.func177, Tryz.ntmps177
  go_wp2_with (first | (at_builtin; refine Lib.wpList_append_run _ rfl _ _ _ _ rfl _ _ rfl rfl _ _ (hrz _) ?_) | (at_builtin; refine wpList_run rfl _ _ 55 55 rfl _ _ rfl rfl (hcpA _ _) ?_))
  go_region_law (refine step_run rfl (.tmp 50) (.tmp 53) 55 55 rfl (.slice (some ⟨w.heap.size, (i + 1) * 7, none⟩) (n + 1 - (i + 1)) (G - (i + 1))) (.slice (some ⟨g, i * 7, none⟩) (n - i) (cap - i)) (by simp [Act.eval, Act.put]) (by simp [Act.eval, Act.put]) (hcpB _ _ _) ?_)
  go_wp2
  go_ret
  exact ⟨_, rfl, HF.out _ rfl⟩

/-- a slot put in at a place -/
def putAt (l : List Sk) (i : Nat) (x : Sk) : List Sk := l.take i ++ x :: l.drop i

theorem insert_any (base n i : Nat) (v : Value) (l : List Sk) (x : Sk) (vb : Nat) (w : World) (hn : n = l.length) (hown : w.ownsRow base 91 7 v n (skCells l)) (hi : i ≤ n) (hsm : n ≤ 1000) (hbase : base ≤ w.heap.size)
    (hvb : Blk w vb x.cells 91) (hne : v.ownBlock ≠ some vb) :
    Calls Tryz.prog 177 #[v, .int .i64 i, .slice (some ⟨vb, 0, none⟩) 1 1] w fun e w' =>
      ∃ u, e = .returned u ∧ w'.ownsRow base 91 7 u (n + 1) (skCells (putAt l i x)) ∧ w.grownBy w' v.ownBlock := by
  by_cases h : i = n
  · subst h
    have e : putAt l i x = l ++ [x] := by unfold putAt; rw [hn, List.take_length, List.drop_length]
    rw [e]
    exact insert_end base i v l x vb w hn hown hsm hbase hvb
  · obtain ⟨hl, ⟨_, h0⟩ | ⟨g, cap, cur, rfl, hbg, hg, h1, h2, h3, h4⟩⟩ := hown
    · omega
    · by_cases hr : n + 1 ≤ cap
      · exact insert_room base g cap i cur l x vb n w hn hbg hg h2 h3 h4 (by omega) hr hsm hvb (fun e => hne (by rw [e]; rfl))
      · exact insert_grow base g cap i cur l x vb n w hn hbase hg h1 h4 (by omega) (by omega) hsm hvb

end Go.Proofs.YtnpaejknoipicafGreat

namespace Go.Proofs.YtnpaejknoipicafGreat
open Go.RowKit

set_option maxHeartbeats 400000 in
theorem holdsLit_tells (n : Int) (B : Nat) (w : World) (hB : B < w.heap.size) (hc : w.cell? ⟨B, 0, none⟩ = some (.int .i64 n)) :
    Tells 174 #[.pointer (some ⟨B, 0, none⟩)] (fun x => x.n == n) w := fun W x hb => by
  have hcW : W.cell? ⟨B, 0, none⟩ = some (.int .i64 n) := (hb.cell (p := ⟨B, 0, none⟩) hB).trans hc
  have hBW : B < W.heap.size := by have := hb.size; omega
  have hne : B ≠ W.heap.size := by omega
  obtain ⟨xn, seq, time, xf, xe, xk, xt⟩ := x
  show Calls Tryz.prog 174 #[.agg #[.int .i64 xn, .int .i64 seq, .int .i64 time, .bool xf, .bool xe, .bool xk, .string xt], .pointer (some ⟨B, 0, none⟩)] W _
  go_enter Tryz.func174, Tryz.ntmps174
  go_wp2
  go_ret
  exact ⟨rfl, by go_grown⟩

set_option maxHeartbeats 400000 in
theorem holdLit_tells (y : Sk) (B : Nat) (w : World) (hB : B < w.heap.size) (hc : w.cell? ⟨B, 0, none⟩ = some (.int .i64 y.n)) :
    Tells 176 #[.pointer (some ⟨B, 0, none⟩)] (fun x => decide (y.n < x.n)) w := fun W x hb => by
  have hcW : W.cell? ⟨B, 0, none⟩ = some (.int .i64 y.n) := (hb.cell (p := ⟨B, 0, none⟩) hB).trans hc
  have hBW : B < W.heap.size := by have := hb.size; omega
  have hne : B ≠ W.heap.size := by omega
  obtain ⟨xn, seq, time, xf, xe, xk, xt⟩ := x
  obtain ⟨yn, _⟩ := y
  show Calls Tryz.prog 176 #[.agg #[.int .i64 xn, .int .i64 seq, .int .i64 time, .bool xf, .bool xe, .bool xk, .string xt], .pointer (some ⟨B, 0, none⟩)] W _
  go_enter Tryz.func176, Tryz.ntmps176
  go_wp2
  go_ret
  exact ⟨rfl, by go_grown⟩

set_option maxHeartbeats 400000 in
theorem holds_any (K : Nat) (next : Int) (hv ov : Value) (h : List Sk) (n : Int) (w : World) (hK : Blk w K #[.int .i64 next, hv, ov] 219) (hh : Sls w hv h) (hlen : h.length ≤ 1000) :
    Calls Tryz.prog 170 #[.pointer (some ⟨K, 0, none⟩), .int .i64 n] w fun e w' => e = .returned (.bool (h.any fun x => x.n == n)) ∧ Below w.heap.size w w' := by
  have eg : Enters Tryz.prog 174 := enters_of Tryz.func174 (by kernel_rfl) rfl
  have hcon := containsFunc_any 174 #[.pointer (some ⟨w.heap.size, 0, none⟩)] (fun x => x.n == n) eg hv h (w.alloc (.cells #[.int .i64 n] 3)) (hh.alloc _) (by omega) (holdsLit_tells n w.heap.size _ (by simp) (by simp))
  obtain ⟨c0, c1, c2⟩ := hK.three
  have hKw := hK.lt
  obtain ⟨r, hr⟩ : ∃ r, r = h.any fun x => x.n == n := ⟨_, rfl⟩
  rw [← hr] at hcon ⊢
  clear hr eg
  go_enter Tryz.func170, Tryz.ntmps170
  go_wp2_with (go_at_call 173; refine hcon.mono ?_; rintro e w1 ⟨rfl, hbw⟩)
  go_ret
  exact ⟨rfl, ((Below.refl _ _).alloc (Nat.le_refl _) _).trans (hbw.mono (by simp))⟩

/-- where a slot belongs -/
def place (h : List Sk) (x : Sk) : Nat := (h.findIdx? fun y => decide (x.n < y.n)).getD h.length
def insF (h : List Sk) (x : Sk) : List Sk := putAt h (place h x) x
theorem place_le (h : List Sk) (x : Sk) : place h x ≤ h.length := by
  unfold place
  cases e : h.findIdx? fun y => decide (x.n < y.n) with
  | none => simp
  | some i =>
    rw [List.findIdx?_eq_some_iff_getElem] at e
    obtain ⟨h1, _⟩ := e
    simp; omega
theorem idx_place (h : List Sk) (x : Sk) : (idxOf (fun y => decide (x.n < y.n)) h = -1 ∧ place h x = h.length) ∨ idxOf (fun y => decide (x.n < y.n)) h = (place h x : Int) := by
  unfold place idxOf
  cases e : h.findIdx? fun y => decide (x.n < y.n) with
  | none => left; simp
  | some i => right; simp
theorem insF_len (h : List Sk) (x : Sk) : (insF h x).length = h.length + 1 := by
  have := place_le h x
  simp [insF, putAt]; omega

end Go.Proofs.YtnpaejknoipicafGreat

namespace Go.Proofs.YtnpaejknoipicafGreat
open Go.RowKit

/-- what the program's Check answers: as the document has it -/
def pchk (next : Int) (l : List Sk) : Int := bchk next l
theorem pchk_right (next : Int) (l : List Sk) : pchk next l = 0 ↔ Right next l := bchk_right next l

/-- the number ahead of a place -/
def aheadN (next : Int) (l : List Sk) (k : Nat) : Int := if k = 0 then next else (l[k - 1]?.getD Sk.zero).n
def qB (next : Int) (l : List Sk) (k : Nat) : Bool := decide (aheadN next l k < (l[k]?.getD Sk.zero).n)

theorem fit_bgo (next : Int) (l : List Sk) : ∀ (m : List Sk) (k : Nat) (last : Int), l.drop k = m → next ≤ last → aheadN next l k = last → chkFit (qB next l) k m = bgo next last m
  | [], _, _, _, _, _ => rfl
  | x :: r, k, last, hd, hle, hl => by
    have hk : k < l.length := by
      by_cases h : k < l.length
      · exact h
      · rw [List.drop_eq_nil_of_le (by omega)] at hd; cases hd
    have hx : l[k]?.getD Sk.zero = x := by
      rw [List.drop_eq_getElem_cons hk] at hd
      injection hd with h1 h2
      rw [List.getElem?_eq_getElem hk, Option.getD_some, h1]
    have hr : l.drop (k + 1) = r := by
      rw [List.drop_eq_getElem_cons hk] at hd
      injection hd
    simp only [chkFit, bgo]
    by_cases hc : x.chk = 0
    · rw [if_pos hc, if_pos hc]
      by_cases h2 : x.n ≤ next ∨ x.n ≤ last
      · have hq : qB next l k = false := by unfold qB; rw [hl, hx]; exact decide_eq_false (by omega)
        rw [hq, if_pos h2]; simp
      · have hq : qB next l k = true := by unfold qB; rw [hl, hx]; exact decide_eq_true (by omega)
        rw [hq, if_neg h2, if_pos rfl]
        exact fit_bgo next l r (k + 1) x.n hr (by omega) (by unfold aheadN; rw [if_neg (by omega), show k + 1 - 1 = k by omega, hx])
    · rw [if_neg hc, if_neg hc]
theorem fit_all (next : Int) (l : List Sk) : chkFit (qB next l) 0 l = bgo next next l := fit_bgo next l l 0 next rfl (Int.le_refl _) rfl

set_option maxHeartbeats 1600000 in
theorem rises_any (next : Int) (v : Value) (l : List Sk) (k : Nat) (w : World) (hv : Sls w v l) (hk : k < l.length) (hlen : l.length ≤ 9223372036854775807) :
    Calls Tryz.prog 125 #[.agg #[.int .i64 next, v], .int .i64 k] w fun e w' => e = .returned (.bool (qB next l k)) ∧ Below w.heap.size w w' := by
  obtain ⟨ao, c, rfl, hc⟩ := (hv.alloc (.cells #[.int .i64 next, v] 57)).parts
  obtain ⟨n, hn⟩ : ∃ n, n = l.length := ⟨_, rfl⟩
  have hkn : k < n := by omega
  have hki : (k : Int) < (n : Int) := by omega
  have hln : n ≤ 9223372036854775807 := by omega
  rw [← hn] at hc ⊢
  obtain ⟨b, off, rfl, hb, hat⟩ := hc k hkn
  have hb' : b < w.heap.size := by
    obtain ⟨_, ⟨h0, _⟩ | ⟨b1, off1, c1, h1, h2, _⟩⟩ := hv
    · omega
    · simp only [Value.slice.injEq, Option.some.injEq, Addr.mk.injEq] at h1
      omega
  have c0 := hat.1
  obtain ⟨xn, hxn⟩ : ∃ xn, xn = (l[k]?.getD Sk.zero).n := ⟨_, rfl⟩
  rw [← hxn] at c0
  obtain ⟨q, hq⟩ : ∃ q, q = qB next l k := ⟨_, rfl⟩
  rw [← hq]
  cases k with
  | zero =>
    have hq' : q = decide (next < xn) := by rw [hq, hxn]; rfl
    have hn0 : (0 : Int) < (n : Int) := by omega
    have c0' : (w.alloc (.cells #[.int .i64 next, .slice (some ⟨b, off, none⟩) n c] 57)).cell? ⟨b, off, none⟩ = some (.int .i64 xn) := by simpa using c0
    rw [hq']
    clear hq hq' hxn hat hc c0 hn hv hk hki
    go_enter Tryz.func125, Tryz.ntmps125
    go_wp2
    go_quiet (fail)
    go_wp2
    go_ret
    exact ⟨rfl, below_drewN ((Below.refl _ _).alloc (Nat.le_refl _) _) _⟩
  | succ j =>
    obtain ⟨b2, off2, e2, hb2, hat2⟩ := hc j (by omega)
    simp only [Option.some.injEq, Addr.mk.injEq, and_true] at e2
    obtain ⟨rfl, rfl⟩ := e2
    have d0 := hat2.1
    obtain ⟨yn, hyn⟩ : ∃ yn, yn = (l[j]?.getD Sk.zero).n := ⟨_, rfl⟩
    rw [← hyn] at d0
    have hq' : q = decide (yn < xn) := by rw [hq, hxn, hyn]; unfold qB aheadN; rw [if_neg (by omega)]; simp
    have hji : (j : Int) < (n : Int) := by omega
    have hj1 : ((j + 1 : Nat) : Int) - 1 = (j : Int) := by omega
    rw [hq']
    clear hq hq' hxn hyn hat hat2 hc hn hv hk
    go_enter Tryz.func125, Tryz.ntmps125
    go_wp2
    go_quiet (fail)
    go_wp2
    go_ret
    exact ⟨rfl, below_drewN ((Below.refl _ _).alloc (Nat.le_refl _) _) _⟩

end Go.Proofs.YtnpaejknoipicafGreat

namespace Go.Proofs.YtnpaejknoipicafGreat
open Go.RowKit

theorem hold_own {w : World} {base K n : Nat} {v u : Value} {xs : List Value} {C : Array Value} {i : Nat} (h : w.ownsRow base 91 7 v n xs) (hK : Blk w K C 219) (_hu : u = u) : (w.setCell ⟨K, i, none⟩ u).ownsRow base 91 7 v n xs :=
  owns_same h fun g hg => Below.heap_setCell w ⟨K, i, none⟩ u g (fun e => by
    obtain ⟨_, cur, h3⟩ := owns_blk h hg
    exact Apart_type hK h3 (by decide) e.symm)

set_option maxHeartbeats 2000000 in
set_option maxRecDepth 100000 in
/-- behind the search -/
theorem hold_rest (base K i n : Nat) (r next : Int) (hv ov : Value) (h : List Sk) (x : Sk) (w : World) (hn : n = h.length) (hK : Blk w K #[.int .i64 next, hv, ov] 219) (hown : w.ownsRow base 91 7 hv n (skCells h)) (hlen : n ≤ 100) (hbase : base ≤ w.heap.size) (hbK : base ≤ K)
    (hi : i ≤ n) (hr : (r = -1 ∧ i = n) ∨ r = (i : Int))
    (hcon : Calls Tryz.prog 175 #[hv, .func (.func 176) #[] #[.pointer (some ⟨w.heap.size, 0, none⟩)]] (w.alloc (.cells x.cells 91)) (fun e w' => e = .returned (.int .i64 r) ∧ Below (w.alloc (.cells x.cells 91)).heap.size (w.alloc (.cells x.cells 91)) w')) :
    Calls Tryz.prog 171 #[.pointer (some ⟨K, 0, none⟩), x.val] w fun e w' => e = .returned (.tuple #[]) ∧
      ∃ hv', Blk w' K #[.int .i64 next, hv', ov] 219 ∧ w'.ownsRow base 91 7 hv' (n + 1) (skCells (putAt h i x)) ∧ Below base w w' := by
  obtain ⟨c0, c1, c2⟩ := hK.three
  have hKw := hK.lt
  have HO : Hid (w.ownsRow base 91 7 hv n (skCells h)) := hown
  have HK : Hid (Blk w K #[.int .i64 next, hv, ov] 219) := hK
  have HN : Hid (n = h.length) := hn
  obtain ⟨a, c, hsl⟩ : ∃ a c, hv = .slice a n c := by rw [hn]; exact (Sls.of_owns (l := h) (by rw [← hn]; exact hown)).len
  have HX : Hid (Blk (w.alloc (.cells x.cells 91)) w.heap.size x.cells 91) := Blk.new w _ _
  obtain ⟨y, hy⟩ : ∃ y, y = x := ⟨_, rfl⟩
  have hyc : y.cells = x.cells := by rw [hy]
  have HY : Hid (y = x) := hy
  rw [← hyc] at HX
  obtain ⟨xn, seq, time, xf, xe, xk, xt⟩ := x
  simp only [Sk.cells, Sk.val] at hcon HX hyc ⊢
  clear hown hK hn hy
  subst hsl
  have hcy : Hid (Sk.cells y = #[.int .i64 xn, .int .i64 seq, .int .i64 time, .bool xf, .bool xe, .bool xk, .string xt]) := by show Sk.cells y = _; rw [HY.out]; rfl
  have hKne : ∀ (W : World), W.ownsRow base 91 7 (.slice a n c) n (skCells h) → Blk W K #[.int .i64 next, .slice a n c, ov] 219 → some K ≠ (Value.slice a n c).ownBlock := fun W h1 h2 e => by
    obtain ⟨_, cur, h3⟩ := owns_blk h1 e.symm
    exact Apart_type h2 h3 (by decide) rfl
  have KNE := @id (Hid _) hKne
  clear hKne hyc HX
  rcases hr with ⟨rfl, rfl⟩ | rfl
  · go_enter Tryz.func171, Tryz.ntmps171
    go_wp2_with fail
    refine hcon.mono ?_
    rintro e w1 ⟨rfl, hbw⟩
    have hsz1 := hbw.size
    simp only [World.size_alloc] at hsz1
    have kw1 : Blk w1 K #[.int .i64 next, .slice a i c, ov] 219 := (HK.out.alloc _).below hbw (by simp; omega)
    have xw1 : Blk w1 w.heap.size #[.int .i64 xn, .int .i64 seq, .int .i64 time, .bool xf, .bool xe, .bool xk, .string xt] 91 := (Blk.new w _ _).below hbw (by simp)
    have ow1 : w1.ownsRow base 91 7 (.slice a i c) i (skCells h) := owns_below (HO.out.alloc _) hbw (Nat.le_refl _)
    have bw1 : Below w.heap.size w w1 := ((Below.refl _ w).alloc (Nat.le_refl _) _).trans (hbw.mono (by simp))
    obtain ⟨d0, d1, d2⟩ := kw1.three
    obtain ⟨e0, e1, e2, e3, e4, e5, e6⟩ := xw1.seven
    have hKw1 := kw1.lt
    have kne := KNE.out w1 ow1 kw1
    have ins : Hid (Calls Tryz.prog 177 #[.slice a i c, .int .i64 i, .slice (some ⟨w1.heap.size, 0, none⟩) 1 1] (w1.alloc (.cells #[.int .i64 xn, .int .i64 seq, .int .i64 time, .bool xf, .bool xe, .bool xk, .string xt] 91)).drew fun e w2 =>
        ∃ a' c', e = .returned (.slice a' (i + 1) c') ∧ w2.cell? ⟨K, 1, none⟩ = some (.slice a i c) ∧ w2.frozen? ⟨K, 1, none⟩ = false ∧ Hid (Blk w2 K #[.int .i64 next, .slice a i c, ov] 219 ∧ w2.ownsRow base 91 7 (.slice a' (i + 1) c') (i + 1) (skCells (putAt h i y)) ∧ Below base w w2)) := by
      show Calls _ _ _ _ _
      refine (insert_any base i i (.slice a i c) h y w1.heap.size (w1.alloc (.cells #[.int .i64 xn, .int .i64 seq, .int .i64 time, .bool xf, .bool xe, .bool xk, .string xt] 91)).drew HN.out (ow1.alloc _) (by omega) (by omega) (by simp; omega) (by rw [hcy.out]; exact Blk.new w1 _ _) (fun e => by have := (ow1.lt _ e).2; omega)).mono ?_
      rintro e w2 ⟨u, rfl, ho2, hg2⟩
      have k2 : Blk w2 K #[.int .i64 next, .slice a i c, ov] 219 := (hg2.block K (by simp; omega) kne).trans (kw1.alloc _)
      obtain ⟨a', c', rfl⟩ := Sl.len (Sl.of_owns ho2)
      exact ⟨a', c', rfl, k2.three.2.1, k2.free 1, k2, ho2, ((bw1.mono hbase).alloc (by have := bw1.size; omega) _).drew.grown hg2 (by simp; omega) (fun j hj => (ow1.lt j hj).1)⟩
    clear hbw kw1 xw1 c0 c1 c2 hcon ow1 bw1 HO HK kne
    go_wp2_with fail
    go_region_with (go_at_call 177; refine ins.out.mono ?_; rintro e w2 ⟨a', c', rfl, g1, g2, G⟩)
    all_goals
      go_end0
      refine ⟨rfl, .slice a' (i + 1) c', ?_, ?_, ?_⟩
      · exact G.out.1.set 1 _
      · rw [← HY.out]; exact hold_own G.out.2.1 G.out.1 rfl
      · exact G.out.2.2.setCell (by exact hbK) _
  · have hii : ¬ ((i : Int) < 0) := by omega
    go_enter Tryz.func171, Tryz.ntmps171
    go_wp2_with fail
    refine hcon.mono ?_
    rintro e w1 ⟨rfl, hbw⟩
    have hsz1 := hbw.size
    simp only [World.size_alloc] at hsz1
    have kw1 : Blk w1 K #[.int .i64 next, .slice a n c, ov] 219 := (HK.out.alloc _).below hbw (by simp; omega)
    have xw1 : Blk w1 w.heap.size #[.int .i64 xn, .int .i64 seq, .int .i64 time, .bool xf, .bool xe, .bool xk, .string xt] 91 := (Blk.new w _ _).below hbw (by simp)
    have ow1 : w1.ownsRow base 91 7 (.slice a n c) n (skCells h) := owns_below (HO.out.alloc _) hbw (Nat.le_refl _)
    have bw1 : Below w.heap.size w w1 := ((Below.refl _ w).alloc (Nat.le_refl _) _).trans (hbw.mono (by simp))
    obtain ⟨d0, d1, d2⟩ := kw1.three
    obtain ⟨e0, e1, e2, e3, e4, e5, e6⟩ := xw1.seven
    have hKw1 := kw1.lt
    have kne := KNE.out w1 ow1 kw1
    have ins : Hid (Calls Tryz.prog 177 #[.slice a n c, .int .i64 i, .slice (some ⟨w1.heap.size, 0, none⟩) 1 1] (w1.alloc (.cells #[.int .i64 xn, .int .i64 seq, .int .i64 time, .bool xf, .bool xe, .bool xk, .string xt] 91)).drew fun e w2 =>
        ∃ a' c', e = .returned (.slice a' (n + 1) c') ∧ w2.cell? ⟨K, 1, none⟩ = some (.slice a n c) ∧ w2.frozen? ⟨K, 1, none⟩ = false ∧ Hid (Blk w2 K #[.int .i64 next, .slice a n c, ov] 219 ∧ w2.ownsRow base 91 7 (.slice a' (n + 1) c') (n + 1) (skCells (putAt h i y)) ∧ Below base w w2)) := by
      show Calls _ _ _ _ _
      refine (insert_any base n i (.slice a n c) h y w1.heap.size (w1.alloc (.cells #[.int .i64 xn, .int .i64 seq, .int .i64 time, .bool xf, .bool xe, .bool xk, .string xt] 91)).drew HN.out (ow1.alloc _) (by omega) (by omega) (by simp; omega) (by rw [hcy.out]; exact Blk.new w1 _ _) (fun e => by have := (ow1.lt _ e).2; omega)).mono ?_
      rintro e w2 ⟨u, rfl, ho2, hg2⟩
      have k2 : Blk w2 K #[.int .i64 next, .slice a n c, ov] 219 := (hg2.block K (by simp; omega) kne).trans (kw1.alloc _)
      obtain ⟨a', c', rfl⟩ := Sl.len (Sl.of_owns ho2)
      exact ⟨a', c', rfl, k2.three.2.1, k2.free 1, k2, ho2, ((bw1.mono hbase).alloc (by have := bw1.size; omega) _).drew.grown hg2 (by simp; omega) (fun j hj => (ow1.lt j hj).1)⟩
    clear hbw kw1 xw1 c0 c1 c2 hcon ow1 bw1 HO HK kne
    go_wp2_with fail
    go_region_with (go_at_call 177; refine ins.out.mono ?_; rintro e w2 ⟨a', c', rfl, g1, g2, G⟩)
    all_goals
      go_end0
      refine ⟨rfl, .slice a' (n + 1) c', ?_, ?_, ?_⟩
      · exact G.out.1.set 1 _
      · rw [← HY.out]; exact hold_own G.out.2.1 G.out.1 rfl
      · exact G.out.2.2.setCell (by exact hbK) _

set_option maxHeartbeats 2000000 in
set_option maxRecDepth 100000 in
theorem hold_any (base K : Nat) (next : Int) (hv ov : Value) (h : List Sk) (x : Sk) (w : World) (hK : Blk w K #[.int .i64 next, hv, ov] 219) (hown : w.ownsRow base 91 7 hv h.length (skCells h)) (hlen : h.length ≤ 100) (hbase : base ≤ w.heap.size) (hbK : base ≤ K) :
    Calls Tryz.prog 171 #[.pointer (some ⟨K, 0, none⟩), x.val] w fun e w' => e = .returned (.tuple #[]) ∧
      ∃ hv', Blk w' K #[.int .i64 next, hv', ov] 219 ∧ w'.ownsRow base 91 7 hv' (h.length + 1) (skCells (insF h x)) ∧ Below base w w' := by
  have eg : Enters Tryz.prog 176 := enters_of Tryz.func176 (by kernel_rfl) rfl
  have hcon := indexFunc_any 176 #[.pointer (some ⟨w.heap.size, 0, none⟩)] (fun y => decide (x.n < y.n)) eg hv h (w.alloc (.cells x.cells 91)) ((Sls.of_owns hown).alloc _) (by omega) (holdLit_tells x w.heap.size _ (by simp) (by simp [Sk.cells]))
  rcases idx_place h x with ⟨hix, hpx⟩ | hix
  · rw [hix] at hcon
    exact hold_rest base K (place h x) h.length (-1) next hv ov h x w rfl hK hown hlen hbase hbK (place_le h x) (.inl ⟨rfl, hpx⟩) hcon
  · rw [hix] at hcon
    exact hold_rest base K (place h x) h.length _ next hv ov h x w rfl hK hown hlen hbase hbK (place_le h x) (.inr rfl) hcon

end Go.Proofs.YtnpaejknoipicafGreat

namespace Go.Proofs.YtnpaejknoipicafGreat
open Go.RowKit

/-- a keeper's block and what its slices show -/
def Keep (base K : Nat) (w : World) (next : Int) (h o : List Sk) : Prop :=
  ∃ (a : Option Addr) (c : Nat) (ov : Value), Blk w K #[.int .i64 next, .slice a h.length c, ov] 219 ∧ Sls w (.slice a h.length c) h ∧ h.length ≤ c ∧
    (∀ g, (Value.slice a h.length c).ownBlock = some g → base ≤ g ∧ ∃ cur, Blk w g cur 91) ∧ w.ownsRow base 91 7 ov o.length (skCells o) ∧ Apart ov (.slice a h.length c)

theorem Keep.heap {base K : Nat} {w w' : World} {next : Int} {h o : List Sk} (hk : Keep base K w next h o) (e : w'.heap = w.heap) : Keep base K w' next h o := by
  obtain ⟨a, c, ov, kK, kS, kc, kB, kO, kA⟩ := hk
  have eb : ∀ {g : Nat} {C : Array Value} {t : TypeId}, Blk w g C t → Blk w' g C t := fun h => by unfold Blk at h ⊢; rw [e]; exact h
  refine ⟨a, c, ov, eb kK, ?_, kc, fun g hg => ?_, owns_same kO (fun g _ => by rw [e]), kA⟩
  · obtain ⟨hl, h | ⟨b, off, c, hv, hb, hc⟩⟩ := kS
    · exact ⟨hl, .inl h⟩
    · exact ⟨hl, .inr ⟨b, off, c, hv, by rw [e]; exact hb, fun j u hj => (World.cell?_of_block (by rw [e])).trans (hc j u hj)⟩⟩
  · obtain ⟨h1, cur, h2⟩ := kB g hg
    exact ⟨h1, cur, eb h2⟩
theorem Keep.drewN {base K : Nat} {w : World} {next : Int} {h o : List Sk} (hk : Keep base K w next h o) (q : Nat) : Keep base K (w.drewN q) next h o := hk.heap (heap_drewN w q)

/-- numbers that may be -/
def Nums (h : List Sk) : Prop := ∀ x ∈ h, 65536 ≤ x.n ∧ x.n ≤ 1000000000

theorem Sls.cons {w : World} {a : Option Addr} {c : Nat} {x : Sk} {r : List Sk} (h : Sls w (.slice a (x :: r).length c) (x :: r)) :
    ∃ g off, a = some ⟨g, off, none⟩ ∧ g < w.heap.size ∧ At7 w g off x := by
  obtain ⟨ao, c', hv, hc⟩ := h.parts
  cases hv
  obtain ⟨g, off, h1, h2, h3⟩ := hc 0 (by simp)
  refine ⟨g, off, h1, h2, ?_⟩
  simpa using h3
theorem Sls.tail {w : World} {g off c : Nat} {x : Sk} {r : List Sk} (h : Sls w (.slice (some ⟨g, off, none⟩) (x :: r).length c) (x :: r)) : Sls w (.slice (some ⟨g, off + 7, none⟩) r.length (c - 1)) r := by
  obtain ⟨hl, ⟨h0, _⟩ | ⟨b, o, c', hv, hb, hc⟩⟩ := h
  · simp at h0
  · cases hv
    refine ⟨skCells_len r, .inr ⟨g, off + 7, c - 1, rfl, hb, fun j u hj => ?_⟩⟩
    rw [Nat.add_assoc]
    refine hc (7 + j) u ?_
    show (x.cells.toList ++ skCells r)[7 + j]? = some u
    rw [List.getElem?_append_right (by simp [Sk.cells]), show 7 + j - x.cells.toList.length = j by simp [Sk.cells]]
    exact hj

/-- one more has gone out -/
theorem letOut_more {base K g off m c c' : Nat} {next' : Int} {x : Sk} {r o' : List Sk} {R : Int × List Sk × List Sk} {w w2 : World} {ov : Value} {a' : Option Addr} (hbK : base ≤ K) (hbg : base ≤ g) (hnu : Nums (x :: r)) (hne : 0 ≤ next' ∧ next' ≤ 1000000001) (hle : (x :: r).length + o'.length ≤ 100)
    (HL : letF next' (x :: r) o' = R) (hxn : x.n = next') (hxr : r.length + 1 = m) (kc : (x :: r).length ≤ c)
    (G : Blk w2 K #[.int .i64 next', .slice (some ⟨g, off, none⟩) m c, ov] 219 ∧ Sls w2 (.slice (some ⟨g, off, none⟩) (x :: r).length c) (x :: r) ∧ (∃ cur, Blk w2 g cur 91) ∧ w2.ownsRow base 91 7 (.slice a' (o'.length + 1) c') (o'.length + 1) (skCells o' ++ x.cells.toList) ∧
      (Value.slice a' (o'.length + 1) c').ownBlock ≠ some g ∧ Below base w w2)
    (H : Value) (w3 : World) (hH : H = .slice (some ⟨g, off + 7, none⟩) (m - 1) (c - 1) ∨ H = .slice (some ⟨g, off, none⟩) 0 0 ∧ c = 1) (hw3 : w3 = ((w2.setCell ⟨K, 2, none⟩ (.slice a' (o'.length + 1) c')).setCell ⟨K, 1, none⟩ H).setCell ⟨K, 0, none⟩ (.int .i64 (next' + 1))) :
    Keep base K w3 (next' + 1) r (o' ++ [x]) ∧ letF (next' + 1) r (o' ++ [x]) = R ∧ Nums r ∧ (0 ≤ next' + 1 ∧ next' + 1 ≤ 1000000001) ∧ r.length + (o' ++ [x]).length ≤ 100 ∧ Below base w w3 ∧ r.length ≤ r.length := by
  obtain ⟨g1, g2, ⟨cur, g3⟩, g4, g5, g6⟩ := G
  have hx := hnu x (by simp)
  have hKg : K ≠ g := Apart_type g1 g3 (by decide)
  have hblk : ∀ j, j ≠ K → w3.heap[j]? = w2.heap[j]? := fun j hj => by
    rw [hw3, Below.heap_setCell _ _ _ _ (by exact hj), Below.heap_setCell _ _ _ _ (by exact hj), Below.heap_setCell _ _ _ _ (by exact hj)]
  have hsz : w3.heap.size = w2.heap.size := by rw [hw3]; simp
  have k3 : Blk w3 K #[.int .i64 (next' + 1), H, .slice a' (o'.length + 1) c'] 219 := by rw [hw3]; exact ((g1.set 2 _).set 1 _).set 0 _
  have hm : r.length = m - 1 := by omega
  have hol : (o' ++ [x]).length = o'.length + 1 := by simp
  have hsl : Sls w3 (.slice (some ⟨g, off + 7, none⟩) r.length (c - 1)) r := by
    obtain ⟨hl, ⟨h0, b, cc, hv⟩ | ⟨b, of2, c3, hv, hb, hc⟩⟩ := g2.tail
    · exact ⟨hl, .inl ⟨h0, b, cc, hv⟩⟩
    · cases hv
      exact ⟨hl, .inr ⟨g, off + 7, c - 1, rfl, by rw [hsz]; exact hb, fun j u hj => (World.cell?_of_block (hblk g (Ne.symm hKg))).trans (hc j u hj)⟩⟩
  have hrow : w3.ownsRow base 91 7 (.slice a' (o'.length + 1) c') (o' ++ [x]).length (skCells (o' ++ [x])) := by
    rw [hol, skCells_append, skCells_one]
    refine owns_same g4 fun j hj => hblk j (fun e => ?_)
    obtain ⟨_, cu, h3⟩ := owns_blk g4 hj
    exact Apart_type g1 h3 (by decide) e.symm
  refine ⟨?_, by rw [← HL]; simp only [letF, if_pos hxn], fun y hy => hnu y (by simp [hy]), by omega, by simp at hle ⊢; omega, by rw [hw3]; exact ((g6.setCell (by exact hbK) _).setCell (by exact hbK) _).setCell (by exact hbK) _, Nat.le_refl _⟩
  simp only [List.length_cons] at kc
  rcases hH with rfl | ⟨rfl, rfl⟩
  · refine ⟨some ⟨g, off + 7, none⟩, c - 1, .slice a' (o'.length + 1) c', by rw [hm]; exact k3, hsl, by omega, fun g' hg' => ?_, hrow, fun g' h1 h2 => ?_⟩
    · simp [Value.ownBlock] at hg'; subst hg'
      exact ⟨hbg, cur, (hblk g (Ne.symm hKg)).trans g3⟩
    · simp only [Value.ownBlock, Option.some.injEq] at h2; subst h2; exact g5 h1
  · have hr0 : r = [] := List.eq_nil_of_length_eq_zero (by omega)
    subst hr0
    refine ⟨some ⟨g, off, none⟩, 0, .slice a' (o'.length + 1) c', k3, ⟨rfl, .inl ⟨rfl, _, _, rfl⟩⟩, by simp, fun g' hg' => ?_, hrow, fun g' h1 h2 => ?_⟩
    · simp [Value.ownBlock] at hg'; subst hg'
      exact ⟨hbg, cur, (hblk g (Ne.symm hKg)).trans g3⟩
    · simp only [Value.ownBlock, Option.some.injEq] at h2; subst h2; exact g5 h1

set_option maxHeartbeats 2000000 in
set_option maxRecDepth 100000 in
theorem letOut_any (base K : Nat) (next : Int) (h o : List Sk) (w : World) (hk : Keep base K w next h o) (hbK : base ≤ K) (hnums : Nums h) (hn0 : 0 ≤ next ∧ next ≤ 1000000001) (hlen : h.length + o.length ≤ 100) :
    Calls Tryz.prog 172 #[.pointer (some ⟨K, 0, none⟩)] w fun e w' => e = .returned (.tuple #[]) ∧ Keep base K w' (letF next h o).1 (letF next h o).2.1 (letF next h o).2.2 ∧ Below base w w' := by
  obtain ⟨i0, hi, hz0, hz1, hz2⟩ := info_parts Tryz.infoSlot
  obtain ⟨R, hR⟩ : ∃ R, R = letF next h o := ⟨_, rfl⟩
  rw [← hR]
  go_enter Tryz.func172, Tryz.ntmps172
  go_wp2
  go_loopg [] h.length (fun gg wr => ∃ next' h' o', Hid (Keep base K wr next' h' o') ∧ Hid (letF next' h' o' = R) ∧ Nums h' ∧ (0 ≤ next' ∧ next' ≤ 1000000001) ∧ h'.length + o'.length ≤ 100 ∧ Hid (Below base w wr) ∧ h'.length ≤ gg)
  case atStart => exact ⟨next, h, o, hk, hR.symm, hnums, hn0, hlen, Below.refl _ _, Nat.le_refl _⟩
  case round =>
    obtain ⟨next', h', o', HK, HL, hnu, hne, hle, HB, hgg⟩ := hrel
    obtain ⟨a, c, ov, kK, kS, kc, kB, kO, kA⟩ := HK.out
    obtain ⟨d0, d1, d2⟩ := kK.three
    have hKw := kK.lt
    cases h' with
    | nil =>
      simp only [List.length_nil] at d1
      have hd : decide ((0 : Int) < 0) = false := rfl
      clear kK kS kc kB kO kA hk hR
      go_wp2
      go_quiet (fail)
      go_wp2
      go_end0
      rw [← HL.out]
      exact ⟨rfl, HK.out.drewN nq, HB.out.trans (below_drewN (Below.refl _ _) nq)⟩
    | cons x r =>
      obtain ⟨g, off, rfl, hgl, hat⟩ := kS.cons
      obtain ⟨c0, c1, c2, c3, c4, c5, c6⟩ := hat
      obtain ⟨m, hm⟩ : ∃ m, m = (x :: r).length := ⟨_, rfl⟩
      have HM : Hid (m = (x :: r).length) := hm
      rw [← hm] at d1
      have hm1 : (0 : Int) < (m : Int) := by simp at hm; omega
      have hm3 : 0 < m := by omega
      have hm2 : decide (0 < m) = true := decide_eq_true hm3
      by_cases hxn : x.n = next'
      · clear hk hR hm
        go_wp2
        go_quiet (fail)
        obtain ⟨W, hW⟩ : ∃ W, W = wr.drewN nq := ⟨_, rfl⟩
        have HKW : Hid (Keep base K W next' (x :: r) o') := by show Keep _ _ _ _ _ _; rw [hW]; exact HK.out.drewN nq
        have HBW : Hid (Below base w W) := by show Below _ _ _; rw [hW]; exact HB.out.trans (below_drewN (Below.refl _ _) nq)
        rw [← hW]
        have HXN : Hid (x.n = next') := hxn
        clear hxn hW HK HB kK kS kB kO kA kc d0 d1 d2 c0 c1 c2 c3 c4 c5 c6 hgl hKw hm1 hm2 hm3 HM
        obtain ⟨a2, c, ov, kK, kS, kc, kB, kO, kA⟩ := HKW.out
        obtain ⟨d0, d1, d2⟩ := kK.three
        have hKw := kK.lt
        obtain ⟨g, off, rfl, hgl, hat⟩ := kS.cons
        obtain ⟨c0, c1, c2, c3, c4, c5, c6⟩ := hat
        obtain ⟨m, hm⟩ : ∃ m, m = (x :: r).length := ⟨_, rfl⟩
        have HM : Hid (m = (x :: r).length) := hm
        rw [← hm] at d1
        have hm1 : (0 : Int) < (m : Int) := by simp at hm; omega
        have hm3 : 0 < m := by omega
        obtain ⟨hbg, curg, kg⟩ := kB g rfl
        have hxr : Hid (r.length + 1 = m) := by show r.length + 1 = m; rw [hm]; simp
        clear hm
        have own1 : Hid ((W.alloc (.cells #[.int .i64 x.n, .int .i64 x.p.seq, .int .i64 x.p.time, .bool x.p.f, .bool x.p.e, .bool x.p.k, .string x.p.t] 91)).drew.ownsRow base 91 7 ov o'.length (skCells o')) := kO.alloc _
        have new1 : Hid (∀ j u, x.cells.toList[j]? = some u → (W.alloc (.cells #[.int .i64 x.n, .int .i64 x.p.seq, .int .i64 x.p.time, .bool x.p.f, .bool x.p.e, .bool x.p.k, .string x.p.t] 91)).drew.cell? ((⟨W.heap.size, 0, none⟩ : Addr).add j) = some u) := newSlot rfl
        have hbW : Hid (base ≤ (W.alloc (.cells #[.int .i64 x.n, .int .i64 x.p.seq, .int .i64 x.p.time, .bool x.p.f, .bool x.p.e, .bool x.p.k, .string x.p.t] 91)).drew.heap.size) := by show base ≤ (W.alloc _).heap.size; have := HBW.out.size; simp; omega
        have aft : Hid (∀ v' w2, w2.ownsRow base 91 7 v' (o'.length + 1) (skCells o' ++ x.cells.toList) → (W.alloc (.cells #[.int .i64 x.n, .int .i64 x.p.seq, .int .i64 x.p.time, .bool x.p.f, .bool x.p.e, .bool x.p.k, .string x.p.t] 91)).drew.grownBy w2 ov.ownBlock →
            (v'.ownBlock = ov.ownBlock ∨ ∀ g, v'.ownBlock = some g → (W.alloc (.cells #[.int .i64 x.n, .int .i64 x.p.seq, .int .i64 x.p.time, .bool x.p.f, .bool x.p.e, .bool x.p.k, .string x.p.t] 91)).drew.heap.size ≤ g) →
            ∃ a' c', v' = .slice a' (o'.length + 1) c' ∧ w2.cell? ⟨K, 0, none⟩ = some (.int .i64 next') ∧ w2.cell? ⟨K, 1, none⟩ = some (.slice (some ⟨g, off, none⟩) m c) ∧ w2.cell? ⟨K, 2, none⟩ = some ov ∧ (∀ j, w2.frozen? ⟨K, j, none⟩ = false) ∧ 
              Hid (Blk w2 K #[.int .i64 next', .slice (some ⟨g, off, none⟩) m c, ov] 219 ∧ Sls w2 (.slice (some ⟨g, off, none⟩) (x :: r).length c) (x :: r) ∧ (∃ cur, Blk w2 g cur 91) ∧ w2.ownsRow base 91 7 (.slice a' (o'.length + 1) c') (o'.length + 1) (skCells o' ++ x.cells.toList) ∧
                (Value.slice a' (o'.length + 1) c').ownBlock ≠ some g ∧ Below base w w2)) := by
          intro v' w2 ho2 hg2 hd2
          obtain ⟨a', c', rfl⟩ := Sl.len (Sl.of_owns ho2)
          have hKo : some K ≠ ov.ownBlock := fun e => by
            obtain ⟨_, cur, h3⟩ := owns_blk kO e.symm
            exact Apart_type kK h3 (by decide) rfl
          have hgo : some g ≠ ov.ownBlock := fun e => kA g e.symm rfl
          have k2 : Blk w2 K #[.int .i64 next', .slice (some ⟨g, off, none⟩) m c, ov] 219 := (hg2.block K (by show K < (W.alloc _).heap.size; simp; omega) hKo).trans (by have := kK.alloc (.cells #[.int .i64 x.n, .int .i64 x.p.seq, .int .i64 x.p.time, .bool x.p.f, .bool x.p.e, .bool x.p.k, .string x.p.t] 91); rw [HM.out]; exact this)
          have hbg2 : w2.heap[g]? = W.heap[g]? := (hg2.block g (by show g < (W.alloc _).heap.size; simp; omega) hgo).trans (Below.heap_alloc W _ g hgl)
          obtain ⟨e0, e1, e2⟩ := k2.three
          refine ⟨a', c', rfl, e0, e1, e2, k2.free, k2, ?_, ⟨curg, hbg2.trans kg⟩, ho2, ?_, ?_⟩
          · obtain ⟨hl, ⟨h0, _⟩ | ⟨b, of2, c3, hv, hb, hc⟩⟩ := kS
            · simp at h0
            · cases hv
              exact ⟨hl, .inr ⟨g, off, c, rfl, by have := hg2.size; simp at this; omega, fun j u hj => (World.cell?_of_block hbg2).trans (hc j u hj)⟩⟩
          · intro e
            rcases hd2 with hd2 | hd2
            · exact hgo (e.symm.trans hd2)
            · have := hd2 g e
              simp at this; omega
          · exact ((HBW.out.alloc (by have := HBW.out.size; omega) _).drew).grown hg2 (by show base ≤ (W.alloc _).heap.size; have := HBW.out.size; simp; omega) (fun j hj => (kO.lt j hj).1)
        go_wp2
        go_region_law (refine step_append_own2 rfl (.tmp 29) (.tmp 37) 55 rfl base 91 i0 _ 7 48 Tryz.underlying55 hi hz0 hz1 hz2 rfl (by decide) ov o'.length (skCells o') (by simp [Act.eval]) own1.out ⟨W.heap.size, 0, none⟩ 1 1 x.cells.toList (by simp [Act.eval]) rfl new1.out (oneSlot x) (by unfold maxLen; omega) (by omega) hbW.out ?_; intro v' w2 ho2 hg2 hd2; obtain ⟨a', c', hv', g0, g1, g2, gf, G⟩ := aft.out v' w2 ho2 hg2 hd2; clear ho2 hg2 hd2; subst hv')
        all_goals clear own1 new1 hbW aft kK kS kB kO kA kg HKW HBW d0 d1 d2 c0 c1 c2 c3 c4 c5 c6
        all_goals
          have fin : ∀ (H : Value) (w3 : World), Hid (H = .slice (some ⟨g, off + 7, none⟩) (m - 1) (c - 1) ∨ H = .slice (some ⟨g, off, none⟩) 0 0 ∧ c = 1) → Hid (w3 = ((w2.setCell ⟨K, 2, none⟩ (.slice a' (o'.length + 1) c')).setCell ⟨K, 1, none⟩ H).setCell ⟨K, 0, none⟩ (.int .i64 (next' + 1))) →
              Hid (Keep base K w3 (next' + 1) r (o' ++ [x])) ∧ Hid (letF (next' + 1) r (o' ++ [x]) = R) ∧ Nums r ∧ (0 ≤ next' + 1 ∧ next' + 1 ≤ 1000000001) ∧ r.length + (o' ++ [x]).length ≤ 100 ∧ Hid (Below base w w3) ∧ r.length ≤ r.length :=
            letOut_more hbK hbg hnu hne hle HL.out HXN.out hxr.out kc G.out
          have FIN := @id (Hid _) fin
          obtain ⟨hne1, hne2⟩ := hne
          clear fin G HL HXN hnu
          by_cases hc1 : c = 1
          · have hm1' : m = 1 := by have := hxr.out; simp at kc; omega
            subst hc1 hm1'
            go_wp2
            go_roundg r.length
            case measure => simp at hgg; omega
            case rel => exact ⟨_, _, _, FIN.out _ _ (.inr ⟨rfl, trivial⟩) rfl⟩
          · have hmi : (1 : Int) ≤ (m : Int) := by omega
            go_wp2
            go_roundg r.length
            case measure => simp at hgg; omega
            case rel => exact ⟨_, _, _, FIN.out _ _ (.inl rfl) rfl⟩
      · clear kK kS kc kB kO kA hk hR hm
        go_wp2
        go_quiet (fail)
        go_wp2
        go_end0
        have hL := HL.out
        simp only [letF, if_neg hxn] at hL
        rw [← hL]
        exact ⟨rfl, HK.out.drewN nq, HB.out.trans (below_drewN (Below.refl _ _) nq)⟩

end Go.Proofs.YtnpaejknoipicafGreat

namespace Go.Proofs.YtnpaejknoipicafGreat
open Go.RowKit

theorem letF_facts : ∀ (h : List Sk) (next : Int) (o : List Sk), Nums h → (0 ≤ next ∧ next ≤ 1000000001) →
    Nums (letF next h o).2.1 ∧ (0 ≤ (letF next h o).1 ∧ (letF next h o).1 ≤ 1000000001) ∧ (letF next h o).2.1.length + (letF next h o).2.2.length = h.length + o.length
  | [], next, o, hn, hb => ⟨hn, hb, rfl⟩
  | x :: r, next, o, hn, hb => by
    unfold letF
    split
    · have hx := hn x (by simp)
      have := letF_facts r (next + 1) (o ++ [x]) (fun y hy => hn y (by simp [hy])) (by omega)
      refine ⟨this.1, this.2.1, ?_⟩
      rw [this.2.2]; simp; omega
    · exact ⟨hn, hb, rfl⟩

set_option maxHeartbeats 2000000 in
set_option maxRecDepth 100000 in
theorem giveUpTo_any (base K most : Nat) (next : Int) (h o : List Sk) (w : World) (hk : Keep base K w next h o) (hbK : base ≤ K) (hnums : Nums h) (hn0 : 0 ≤ next ∧ next ≤ 1000000001) (hlen : h.length + o.length ≤ 100) :
    Calls Tryz.prog 161 #[.pointer (some ⟨K, 0, none⟩), .int .i64 most] w fun e w' =>
      e = .returned (.tuple #[]) ∧ Keep base K w' (giveF most h.length next h o).1 (giveF most h.length next h o).2.1 (giveF most h.length next h o).2.2 ∧ Below base w w' := by
  obtain ⟨R, hR⟩ : ∃ R, R = giveF most h.length next h o := ⟨_, rfl⟩
  rw [← hR]
  go_enter Tryz.func161, Tryz.ntmps161
  go_wp2
  go_loopg [] h.length (fun gg wr => ∃ next' h' o', Hid (Keep base K wr next' h' o') ∧ Hid (giveF most gg next' h' o' = R) ∧ Nums h' ∧ (0 ≤ next' ∧ next' ≤ 1000000001) ∧ h'.length + o'.length ≤ 100 ∧ Hid (Below base w wr) ∧ h'.length ≤ gg)
  case atStart => exact ⟨next, h, o, hk, hR.symm, hnums, hn0, hlen, Below.refl _ _, Nat.le_refl _⟩
  case round =>
    obtain ⟨next', h', o', HK, HL, hnu, hne, hle, HB, hgg⟩ := hrel
    obtain ⟨a, c, ov, kK, kS, kc, kB, kO, kA⟩ := HK.out
    obtain ⟨d0, d1, d2⟩ := kK.three
    have hKw := kK.lt
    by_cases hm : h'.length ≤ most
    · have hmi : ((h'.length : Nat) : Int) ≤ (most : Int) := by omega
      have hG : Hid (giveF most gk next' h' o' = (next', h', o')) := by
        show giveF most gk next' h' o' = (next', h', o')
        cases gk with
        | zero => rfl
        | succ f =>
          cases h' with
          | nil => rfl
          | cons x r => simp only [List.length_cons] at hm; simp only [giveF, if_pos hm]
      obtain ⟨n, hn⟩ : ∃ n, n = h'.length := ⟨_, rfl⟩
      rw [← hn] at d1 hmi
      clear kK kS kc kB kO kA hk hR hn
      go_wp2
      go_end0
      rw [← HL.out, hG.out]
      exact ⟨rfl, HK.out, HB.out⟩
    · cases h' with
      | nil => simp at hm
      | cons x r =>
        obtain ⟨g, off, rfl, hgl, hat⟩ := kS.cons
        have c0 := hat.1
        obtain ⟨hbg, curg, kg⟩ := kB g rfl
        have hx := hnu x (by simp)
        have hKg : K ≠ g := Apart_type kK kg (by decide)
        obtain ⟨m, hmm⟩ : ∃ m, m = (x :: r).length := ⟨_, rfl⟩
        have hmo : ¬ ((m : Int) ≤ (most : Int)) := by rw [hmm]; omega
        have hm0 : (0 : Int) < (m : Int) := by rw [hmm]; simp
        have fz := kK.free 0
        have k1 : Hid (Keep base K (wr.setCell ⟨K, 0, none⟩ (.int .i64 x.n)) x.n (x :: r) o') := by
          have hblk : ∀ j, j ≠ K → (wr.setCell ⟨K, 0, none⟩ (.int .i64 x.n)).heap[j]? = wr.heap[j]? := fun j hj => Below.heap_setCell _ _ _ _ (by exact hj)
          refine ⟨some ⟨g, off, none⟩, c, ov, kK.set 0 _, ?_, kc, fun g' hg' => ?_, owns_same kO fun j hj => hblk j (fun e => ?_), kA⟩
          · obtain ⟨hl, ⟨h0, _⟩ | ⟨b, of2, c3, hv, hb, hc⟩⟩ := kS
            · simp at h0
            · cases hv
              exact ⟨hl, .inr ⟨g, off, c, rfl, by simp; exact hb, fun j u hj => (World.cell?_of_block (hblk g (Ne.symm hKg))).trans (hc j u hj)⟩⟩
          · simp only [Value.ownBlock, Option.some.injEq] at hg'; subst hg'
            exact ⟨hbg, curg, (hblk g (Ne.symm hKg)).trans kg⟩
          · obtain ⟨_, cu, h3⟩ := owns_blk kO hj
            exact Apart_type kK h3 (by decide) e.symm
        have hcall := letOut_any base K x.n (x :: r) o' _ k1.out hbK hnu (by omega) hle
        have hfacts := letF_facts (x :: r) x.n o' hnu (by omega)
        have hsh : (letF x.n (x :: r) o').2.1.length ≤ r.length := by rw [letF_first]; exact letF_len _ _ _
        obtain ⟨Q, hQ⟩ : ∃ Q, Q = letF x.n (x :: r) o' := ⟨_, rfl⟩
        have HG : Hid (∀ f, gk = f + 1 → giveF most f Q.1 Q.2.1 Q.2.2 = R) := fun f hf => by
          rw [← HL.out, hf, hQ]
          simp only [List.length_cons] at hm
          simp only [giveF, if_neg hm]
        rw [← hQ] at hcall hfacts hsh
        rw [← hmm] at d1
        have HF : Hid _ := hfacts
        have HQ : Hid (Below base w (wr.setCell ⟨K, 0, none⟩ (.int .i64 x.n))) := HB.out.setCell (by exact hbK) _
        clear kK kS kc kB kO kA hk hR hmm k1 kg hat hfacts hQ HL HB HK
        go_wp2_with (go_at_call 172; refine hcall.mono ?_; rintro e w1 ⟨rfl, hk1, hb1⟩)
        have HK1 : Hid _ := hk1
        clear hk1
        go_roundg (gk - 1)
        case measure => simp at hgg; omega
        case rel =>
          obtain ⟨f1, f2, f3⟩ := HF.out
          exact ⟨_, _, _, HK1, HG.out (gk - 1) (by simp at hgg; omega), f1, f2, by omega, HQ.out.trans hb1, by simp at hgg; omega⟩

set_option maxHeartbeats 1000000 in
theorem keep_any (next : Int) (v : Value) (l : List Sk) (w : World) (hv : Sls w v l) (hlen : l.length ≤ 1000) (hshort : ∀ x ∈ l, x.p.t.size ≤ 8) :
    Calls Tryz.prog 159 #[.agg #[.int .i64 next, v]] w fun e w' => ∃ u, e = .returned (.agg #[.int .i64 next, u, .slice none 0 0]) ∧ w'.ownsRow w.heap.size 91 7 u l.length (skCells l) ∧ Below w.heap.size w w' := by
  obtain ⟨a, c, rfl⟩ := hv.len
  have hcp := copyAll_any (.slice a l.length c) l ((w.alloc (.cells #[.int .i64 next, .slice a l.length c] 57)).alloc (.cells #[.int .i64 0, .slice none 0 0, .slice none 0 0] 219)) ((hv.alloc _).alloc _) hlen hshort
  obtain ⟨n, hn⟩ : ∃ n, n = l.length := ⟨_, rfl⟩
  rw [← hn] at hcp ⊢
  clear hv hn
  go_enter Tryz.func159, Tryz.ntmps159
  go_wp2_with fail
  refine hcp.mono ?_
  rintro e w1 ⟨u, rfl, ho, hb⟩
  have k0 := ((Blk.new w #[.int .i64 next, .slice a n c] 57).alloc (.cells #[.int .i64 0, .slice none 0 0, .slice none 0 0] 219)).below hb (by simp; omega)
  have k1 := (Blk.new (w.alloc (.cells #[.int .i64 next, .slice a n c] 57)) #[.int .i64 0, .slice none 0 0, .slice none 0 0] 219).below hb (by simp)
  simp only [World.size_alloc] at k1
  have f0 := k0.free
  have f1 := k1.free
  obtain ⟨c0, c1⟩ := k0.two
  obtain ⟨d0, d1, d2⟩ := k1.three
  obtain ⟨a', c', hu⟩ := Sl.len (Sl.of_owns ho)
  have hbe : Below w.heap.size w w1 := (((Below.refl _ w).alloc (Nat.le_refl _) _).alloc (by simp) _).trans (hb.mono (by simp; omega))
  have HF : Hid (∀ w2 : World, Hid (∀ j, j ≠ w.heap.size → j ≠ w.heap.size + 1 → w2.heap[j]? = w1.heap[j]?) → w2.ownsRow w.heap.size 91 7 u n (skCells l)) := fun w2 h2 =>
    owns_same (owns_base ho (by simp; omega)) fun j hj => by
      have := (ho.lt j hj).1
      simp only [World.size_alloc] at this
      exact h2.out j (by omega) (by omega)
  have HB : Hid (Below w.heap.size w w1) := hbe
  clear hb k0 k1 ho hbe hcp
  subst hu
  go_wp2
  exact bodyPost_ret (v := .agg #[.int .i64 next, .slice a' n c', .slice none 0 0]) (by simp [results, Tryz.results159, go_sem, d0, d1, d2]) rfl ⟨.slice a' n c', rfl, HF.out _ (show ∀ j, _ from fun j h1 h2 => by
    rw [Below.heap_setCell _ _ _ _ (by exact h2), Below.heap_setCell _ _ _ _ (by exact h2), Below.heap_setCell _ _ _ _ (by exact h2), Below.heap_setCell _ _ _ _ (by exact h1)]), by
    have h := HB.out
    exact (((h.setCell (by simp) _).setCell (by simp) _).setCell (by simp) _).setCell (by simp) _⟩

theorem Keep.of_owns {base K : Nat} {w : World} {next : Int} {hv : Value} {h : List Sk} (hK : Blk w K #[.int .i64 next, hv, .slice none 0 0] 219) (hown : w.ownsRow base 91 7 hv h.length (skCells h)) : Keep base K w next h [] := by
  have hsl := Sls.of_owns hown
  obtain ⟨a, c, hv'⟩ := hsl.len
  subst hv'
  refine ⟨a, c, .slice none 0 0, hK, hsl, ?_, fun g hg => owns_blk hown hg, World.ownsRow_nil _ _ _ _, Apart.nil _⟩
  obtain ⟨_, ⟨h1, h2⟩ | ⟨g, cap, cur, h1, _, _, h2, _⟩⟩ := hown
  · omega
  · injection h1 with _ _ h3; omega

end Go.Proofs.YtnpaejknoipicafGreat

namespace Go.Proofs.YtnpaejknoipicafGreat
open Go.RowKit

set_option maxHeartbeats 400000 in
theorem risesLit_fits (next : Int) (v : Value) (l : List Sk) (B : Nat) (w : World) (hB : Blk w B #[.int .i64 next, v] 57) (hv : Sls w v l) (hlen : l.length ≤ 9223372036854775807) :
    Fits 124 #[.pointer (some ⟨B, 0, none⟩)] (qB next l) l.length w := fun W k hk hb => by
  have hBW := hB.below hb hB.lt
  obtain ⟨c0, c1⟩ := hBW.two
  have hcall := rises_any next v l k W (hv.below hb) hk hlen
  obtain ⟨q, hq⟩ : ∃ q, q = qB next l k := ⟨_, rfl⟩
  rw [← hq] at hcall ⊢
  obtain ⟨a, c, rfl⟩ := hv.len
  clear hq hBW hB hv
  show Calls Tryz.prog 124 #[.int .i64 k, .pointer (some ⟨B, 0, none⟩)] W _
  go_enter Tryz.func124, Tryz.ntmps124
  go_wp2_with (go_at_call 125; refine hcall.mono ?_; rintro e w1 ⟨rfl, hbw⟩)
  go_ret
  exact ⟨rfl, hbw⟩

set_option maxHeartbeats 2000000 in
theorem bufCheck_any (next : Int) (v : Value) (l : List Sk) (w : World) (hv : Sls w v l) (hlen : l.length ≤ 9223372036854775807) :
    Calls Tryz.prog 81 #[.agg #[.int .i64 next, v]] w fun e w' => e = .returned (.int .i64 (pchk next l)) ∧ Below w.heap.size w w' := by
  obtain ⟨a, c, hva⟩ := hv.len
  obtain ⟨n, hn⟩ : ∃ n, n = l.length := ⟨_, rfl⟩
  obtain ⟨r, hr⟩ : ∃ r, r = bchk next l := ⟨_, rfl⟩
  rw [← hn] at hva
  unfold pchk
  rw [← hr]
  have HR : Hid (r = bchk next l) := hr
  have HN : Hid (n = l.length) := hn
  have HV : Hid (Sls w v l) := hv
  have hln : n ≤ 9223372036854775807 := by omega
  clear hr hv hn hlen
  subst hva
  cases hb : nextBad next
  · have hnx := nextBad_false.1 hb
    have h0 : next = 0 ∨ ¬ next = 0 ∧ 65536 ≤ next ∧ next ≤ 1000000001 := by omega
    by_cases h4 : 4 < n
    · have hr : r = 2 := by rw [HR.out]; unfold bchk; rw [hb, if_neg (by simp), if_pos (by rw [← HN.out]; exact h4)]
      rw [hr]
      clear hnx hb hr
      rcases h0 with rfl | ⟨h1, h2, h3⟩
      all_goals
        go_enter Tryz.func81, Tryz.ntmps81
        go_wp2
        go_ret
        exact ⟨rfl, by go_grown⟩
    · obtain ⟨w0, hw0⟩ : ∃ w0 : World, w0 = w.alloc (.cells #[.int .i64 next, .slice a n c] 57) := ⟨_, rfl⟩
      have hcA : Calls Tryz.prog 123 #[.slice a n c, .func (.func 124) #[] #[.pointer (some ⟨w.heap.size, 0, none⟩)]] w0 fun e w' => e = .returned (.int .i64 (bgo next next l)) ∧ Below w0.heap.size w0 w' := by
        rw [← fit_all, hw0]
        exact checkAll_any 124 #[.pointer (some ⟨w.heap.size, 0, none⟩)] (qB next l) (enters_of Tryz.func124 (by kernel_rfl) rfl) (.slice a n c) l _ (HV.out.alloc _) (by rw [← HN.out]; exact hln) (risesLit_fits next (.slice a n c) l w.heap.size _ (Blk.new w _ _) (HV.out.alloc _) (by rw [← HN.out]; exact hln))
      have hK0 : Blk w0 w.heap.size #[.int .i64 next, .slice a n c] 57 := by rw [hw0]; exact Blk.new w _ _
      have hB0 : Below w.heap.size w w0 := by rw [hw0]; exact (Below.refl _ w).alloc (Nat.le_refl _) _
      have hs0 : w.heap.size ≤ w0.heap.size := hB0.size
      obtain ⟨ca, hca⟩ : ∃ ca, ca = bgo next next l := ⟨_, rfl⟩
      rw [← hca] at hcA
      have hr : Hid (r = if ca = 0 then (if next = 0 ∧ 0 < n then 4 else 0) else ca) := by
        show r = _
        rw [HR.out, hca]; unfold bchk; rw [hb, if_neg (by simp), if_neg (by rw [← HN.out]; exact h4), HN.out]
      have HA : Hid (Calls Tryz.prog 123 #[.slice a n c, .func (.func 124) #[] #[.pointer (some ⟨w.heap.size, 0, none⟩)]] w0 fun e w' => e = .returned (.int .i64 ca) ∧ Below w0.heap.size w0 w') := hcA
      have HW0 : Hid (w0 = w.alloc (.cells #[.int .i64 next, .slice a n c] 57)) := hw0
      have K0 : Hid (Blk w0 w.heap.size #[.int .i64 next, .slice a n c] 57) := hK0
      have B0 : Hid (Below w.heap.size w w0) := hB0
      clear hca hcA hw0 hK0 hB0 hnx hb HR
      by_cases hc0 : ca = 0
      · subst hc0
        rcases h0 with rfl | ⟨h1, h2, h3⟩
        all_goals
          go_enter Tryz.func81, Tryz.ntmps81
          go_wp2_with fail
          rw [← HW0.out]
          refine HA.out.mono ?_
          rintro e w1 ⟨rfl, hb1⟩
          have k1 := Blk.below K0.out hb1 (Blk.lt K0.out)
          obtain ⟨d0, d1⟩ := k1.two
          have B1 : Hid (Below w.heap.size w w1) := B0.out.trans (hb1.mono hs0)
          clear hb1 k1 HA
          by_cases hn0 : n = 0
          · subst hn0
            go_wp2
            go_ret
            exact ⟨by rw [hr.out]; simp [Array.getD], B1.out⟩
          · have hn1 : (0 : Int) < (n : Int) := by omega
            go_wp2
            go_ret
            refine ⟨?_, B1.out⟩
            rw [hr.out]
            first
              | (rw [if_pos trivial, if_pos ⟨trivial, by omega⟩]; rfl)
              | (rw [if_pos trivial, if_neg (fun h => h1 h.1)]; rfl)
              | (rw [if_pos rfl, if_pos ⟨rfl, by omega⟩]; rfl)
              | (rw [if_pos rfl, if_neg (fun h => h1 h.1)]; rfl)
      · have hr' : r = ca := by rw [hr.out, if_neg hc0]
        rw [hr']
        clear hr hr'
        rcases h0 with rfl | ⟨h1, h2, h3⟩
        all_goals
          go_enter Tryz.func81, Tryz.ntmps81
          go_wp2_with fail
          rw [← HW0.out]
          refine HA.out.mono ?_
          rintro e w1 ⟨rfl, hb1⟩
          have B1 : Hid (Below w.heap.size w w1) := B0.out.trans (hb1.mono hs0)
          clear hb1 HA
          go_wp2
          go_ret
          exact ⟨rfl, B1.out⟩
  · have hr : r = 3 := by rw [HR.out]; unfold bchk; rw [hb, if_pos rfl]
    rw [hr]
    have h0 : ¬ next = 0 := by rintro rfl; simp [nextBad] at hb
    have h1 : next < 65536 ∨ 65536 ≤ next ∧ 1000000001 < next := by simp [nextBad] at hb; omega
    clear hb hr
    rcases h1 with h1 | ⟨h1, h2⟩
    all_goals
      go_enter Tryz.func81, Tryz.ntmps81
      go_wp2
      go_ret
      exact ⟨rfl, by go_grown⟩

end Go.Proofs.YtnpaejknoipicafGreat

namespace Go.Proofs.YtnpaejknoipicafGreat
open Go.RowKit Go.Sort

/-- what comes of a slot that is put -/
def putF (next : Int) (h : List Sk) (x : Sk) : Int × List Sk × List Sk :=
  if x.n < (if next = 0 then x.n else next) then ((if next = 0 then x.n else next), h, [])
  else if (h.any fun y => y.n == x.n) then ((if next = 0 then x.n else next), h, [])
  else relF 4 (if next = 0 then x.n else next) (insF h x) []

theorem nums_ins {h : List Sk} {x : Sk} (hn : Nums h) (hx : 65536 ≤ x.n ∧ x.n ≤ 1000000000) : Nums (insF h x) := fun y hy => by
  simp only [insF, putAt, List.mem_append, List.mem_cons] at hy
  rcases hy with hy | rfl | hy
  · exact hn y (List.mem_of_mem_take hy)
  · exact hx
  · exact hn y (List.mem_of_mem_drop hy)

set_option maxHeartbeats 2000000 in
set_option maxRecDepth 100000 in
theorem put_any (base K : Nat) (next : Int) (hv : Value) (h : List Sk) (x : Sk) (w : World) (hK : Blk w K #[.int .i64 next, hv, .slice none 0 0] 219) (hown : w.ownsRow base 91 7 hv h.length (skCells h)) (hbase : base ≤ w.heap.size) (hbK : base ≤ K)
    (hnums : Nums h) (hx : 65536 ≤ x.n ∧ x.n ≤ 1000000000) (hn0 : next = 0 ∨ 65536 ≤ next ∧ next ≤ 1000000001) (hlen : h.length ≤ 50) :
    Calls Tryz.prog 160 #[.pointer (some ⟨K, 0, none⟩), x.val] w fun e w' => e = .returned (.tuple #[]) ∧ Keep base K w' (putF next h x).1 (putF next h x).2.1 (putF next h x).2.2 ∧ Below base w w' := by
  obtain ⟨c0, c1, c2⟩ := hK.three
  have hKw := hK.lt
  have hfr := hK.free 0
  have HK : Hid (Blk w K #[.int .i64 next, hv, .slice none 0 0] 219) := hK
  have HO : Hid (w.ownsRow base 91 7 hv h.length (skCells h)) := hown
  obtain ⟨t, ht⟩ : ∃ t, t = h.any fun y => y.n == x.n := ⟨_, rfl⟩
  obtain ⟨R, hR⟩ : ∃ R, R = putF next h x := ⟨_, rfl⟩
  rw [← hR]
  have HR : Hid (R = putF next h x) := hR
  have HT : Hid (t = h.any fun y => y.n == x.n) := ht
  clear hK hown hR ht
  simp only [Sk.val]
  by_cases h0 : next = 0
  · subst h0
    go_enter Tryz.func160, Tryz.ntmps160
    go_wp2
    obtain ⟨W, hW⟩ : ∃ W, W = (w.setCell ⟨K, 0, none⟩ (.int .i64 x.n)).alloc (.cells #[.int .i64 x.n, .int .i64 x.p.seq, .int .i64 x.p.time, .bool x.p.f, .bool x.p.e, .bool x.p.k, .string x.p.t] 91) := ⟨_, rfl⟩
    have kW : Blk W K #[.int .i64 x.n, hv, .slice none 0 0] 219 := by rw [hW]; exact (HK.out.set 0 _).alloc _
    have xW : Blk W w.heap.size x.cells 91 := by rw [hW]; exact by have := Blk.new (w.setCell ⟨K, 0, none⟩ (.int .i64 x.n)) x.cells 91; simp only [World.size_setCell] at this; exact this
    have oW : W.ownsRow base 91 7 hv h.length (skCells h) := by rw [hW]; exact (hold_own HO.out HK.out rfl).alloc _
    have bW : Below base w W := by rw [hW]; exact ((Below.refl base w).setCell (by exact hbK) _).alloc (by simp; omega) _
    rw [← hW]
    clear hW
    obtain ⟨d0, d1, d2⟩ := kW.three
    obtain ⟨e0, e1, e2, e3, e4, e5, e6⟩ := xW.seven
    have r0 := cell_regrown d0
    have s0 := cell_regrown e0
    have cH : ∀ d os, Calls Tryz.prog 170 #[.pointer (some ⟨K, 0, none⟩), .int .i64 x.n] (grow (redrawn W d) os) fun e w'' => e = .returned (.bool t) ∧ ∃ p : Regrown, w'' = grow (redrawn W p.d) p.os := fun d os =>
      Calls.regrown_of (by rw [HT.out]; exact holds_any K x.n hv (.slice none 0 0) h x.n _ (kW.below (below_regrown W d os) kW.lt) ((Sls.of_owns oW).below (below_regrown W d os)) (by omega))
    have KW : Hid (Blk W K #[.int .i64 x.n, hv, .slice none 0 0] 219) := kW
    have XW : Hid (Blk W w.heap.size x.cells 91) := xW
    have OW : Hid (W.ownsRow base 91 7 hv h.length (skCells h)) := oW
    have BW : Hid (Below base w W) := bW
    clear kW xW oW bW d0 d1 d2 e0 e1 e2 e3 e4 e5 e6 c0 c1 c2
    refine wp_region_quiet_below (by kernel_rfl) (by kernel_rfl) ?_
    repeat (quiet_step (exact cH _ _))
    refine wpQuiet_nil ?_
    intro _ hw'
    obtain ⟨⟨dq, osq⟩, hw''⟩ := hw'
    subst hw''
    have bR := below_regrown W dq osq
    obtain ⟨V, hV⟩ : ∃ V, V = grow (redrawn W dq) osq := ⟨_, rfl⟩
    rw [← hV] at bR
    have kV := KW.out.below bR KW.out.lt
    have xV := XW.out.below bR XW.out.lt
    have oV := owns_below OW.out bR (Nat.le_refl _)
    have bV : Below base w V := BW.out.trans (bR.mono (by have := BW.out.size; omega))
    rw [← hV]
    clear hV bR KW XW OW BW r0 s0 cH
    cases t
    · obtain ⟨e0, e1, e2, e3, e4, e5, e6⟩ := xV.seven
      have hR2 : R = relF 4 x.n (insF h x) [] := by rw [HR.out]; unfold putF; rw [if_pos rfl]; rw [if_neg (by omega), if_neg (by rw [← HT.out]; decide)]
      have hgl := give_let 4 (insF h x).length (insF h x) (Nat.le_refl _) (letF x.n (insF h x) []).2.1.length x.n []
      have hil := insF_len h x
      have KV : Hid _ := kV
      have BV : Hid _ := bV
      have OV : Hid _ := oV
      clear kV xV oV bV
      go_wp2_with fail
      refine (hold_any base K x.n hv (.slice none 0 0) h x V KV.out OV.out (by omega) (by have := BV.out.size; omega) hbK).mono ?_
      rintro e w2 ⟨rfl, hv2, k2, o2, b2⟩
      have K2 : Hid (Keep base K w2 x.n (insF h x) []) := Keep.of_owns k2 (by rw [hil]; exact o2)
      clear k2 o2 e0 e1 e2 e3 e4 e5 e6
      go_wp2_with fail
      have f3 := letF_facts (insF h x) x.n [] (nums_ins hnums hx) (by omega)
      refine (letOut_any base K x.n (insF h x) [] w2 K2.out hbK (nums_ins hnums hx) (by omega) (by rw [hil]; simp; omega)).mono ?_
      rintro e w3 ⟨rfl, k3, b3⟩
      have K3 : Hid _ := k3
      clear k3
      go_wp2_with fail
      refine (giveUpTo_any base K 4 _ _ _ w3 K3.out hbK f3.1 f3.2.1 (by rw [f3.2.2, hil]; simp; omega)).mono ?_
      rintro e w4 ⟨rfl, k4, b4⟩
      rw [hgl (Nat.le_refl _)] at k4
      go_wp2
      go_end0
      rw [hR2]
      exact ⟨rfl, k4, ((BV.out.trans b2).trans b3).trans b4⟩
    · have hR2 : R = (x.n, h, []) := by rw [HR.out]; unfold putF; rw [if_pos rfl]; rw [if_neg (by omega), if_pos (by rw [← HT.out])]
      have KV : Hid (Keep base K V x.n h []) := Keep.of_owns kV oV
      have BV : Hid _ := bV
      clear kV xV oV bV
      go_wp2
      refine bodyPost_ret (results_none rfl _ _ _) rfl ?_
      rw [hR2]
      exact ⟨rfl, KV.out, BV.out⟩
  · have hne : (next == 0) = false := by simpa using h0
    by_cases hlt : x.n < next
    · have hR2 : R = (next, h, []) := by rw [HR.out]; unfold putF; rw [if_neg h0, if_pos hlt]
      have hd : decide (x.n < next) = true := decide_eq_true hlt
      have HH : Hid (Keep base K w next h []) := Keep.of_owns HK.out HO.out
      go_enter Tryz.func160, Tryz.ntmps160
      go_wp2
      go_quiet (fail)
      go_wp2
      refine bodyPost_ret (results_none rfl _ _ _) rfl ?_
      rw [hR2]
      exact ⟨rfl, (Keep.of_owns (HK.out.alloc _) (HO.out.alloc _)).drewN nq, below_drewN ((Below.refl base w).alloc hbase _) nq⟩
    · have hd : decide (x.n < next) = false := decide_eq_false hlt
      go_enter Tryz.func160, Tryz.ntmps160
      go_wp2
      obtain ⟨W, hW⟩ : ∃ W, W = w.alloc (.cells #[.int .i64 x.n, .int .i64 x.p.seq, .int .i64 x.p.time, .bool x.p.f, .bool x.p.e, .bool x.p.k, .string x.p.t] 91) := ⟨_, rfl⟩
      have kW : Blk W K #[.int .i64 next, hv, .slice none 0 0] 219 := by rw [hW]; exact HK.out.alloc _
      have xW : Blk W w.heap.size x.cells 91 := by rw [hW]; exact Blk.new w _ _
      have oW : W.ownsRow base 91 7 hv h.length (skCells h) := by rw [hW]; exact HO.out.alloc _
      have bW : Below base w W := by rw [hW]; exact (Below.refl base w).alloc hbase _
      rw [← hW]
      clear hW
      obtain ⟨d0, d1, d2⟩ := kW.three
      obtain ⟨e0, e1, e2, e3, e4, e5, e6⟩ := xW.seven
      have r0 := cell_regrown d0
      have s0 := cell_regrown e0
      have cH : ∀ d os, Calls Tryz.prog 170 #[.pointer (some ⟨K, 0, none⟩), .int .i64 x.n] (grow (redrawn W d) os) fun e w'' => e = .returned (.bool t) ∧ ∃ p : Regrown, w'' = grow (redrawn W p.d) p.os := fun d os =>
        Calls.regrown_of (by rw [HT.out]; exact holds_any K next hv (.slice none 0 0) h x.n _ (kW.below (below_regrown W d os) kW.lt) ((Sls.of_owns oW).below (below_regrown W d os)) (by omega))
      have KW : Hid (Blk W K #[.int .i64 next, hv, .slice none 0 0] 219) := kW
      have XW : Hid (Blk W w.heap.size x.cells 91) := xW
      have OW : Hid (W.ownsRow base 91 7 hv h.length (skCells h)) := oW
      have BW : Hid (Below base w W) := bW
      clear kW xW oW bW d0 d1 d2 e0 e1 e2 e3 e4 e5 e6 c0 c1 c2
      refine wp_region_quiet_below (by kernel_rfl) (by kernel_rfl) ?_
      repeat (quiet_step (exact cH _ _))
      refine wpQuiet_nil ?_
      intro _ hw'
      obtain ⟨⟨dq, osq⟩, hw''⟩ := hw'
      subst hw''
      have bR := below_regrown W dq osq
      obtain ⟨V, hV⟩ : ∃ V, V = grow (redrawn W dq) osq := ⟨_, rfl⟩
      rw [← hV] at bR
      have kV := KW.out.below bR KW.out.lt
      have xV := XW.out.below bR XW.out.lt
      have oV := owns_below OW.out bR (Nat.le_refl _)
      have bV : Below base w V := BW.out.trans (bR.mono (by have := BW.out.size; omega))
      rw [← hV]
      clear hV bR KW XW OW BW r0 s0 cH
      cases t
      · obtain ⟨e0, e1, e2, e3, e4, e5, e6⟩ := xV.seven
        have hR2 : R = relF 4 next (insF h x) [] := by rw [HR.out]; unfold putF; rw [if_neg h0]; rw [if_neg (by omega), if_neg (by rw [← HT.out]; decide)]
        have hgl := give_let 4 (insF h x).length (insF h x) (Nat.le_refl _) (letF next (insF h x) []).2.1.length next []
        have hil := insF_len h x
        have KV : Hid _ := kV
        have BV : Hid _ := bV
        have OV : Hid _ := oV
        clear kV xV oV bV
        go_wp2_with fail
        refine (hold_any base K next hv (.slice none 0 0) h x V KV.out OV.out (by omega) (by have := BV.out.size; omega) hbK).mono ?_
        rintro e w2 ⟨rfl, hv2, k2, o2, b2⟩
        have K2 : Hid (Keep base K w2 next (insF h x) []) := Keep.of_owns k2 (by rw [hil]; exact o2)
        clear k2 o2 e0 e1 e2 e3 e4 e5 e6
        go_wp2_with fail
        have f3 := letF_facts (insF h x) next [] (nums_ins hnums hx) (by omega)
        refine (letOut_any base K next (insF h x) [] w2 K2.out hbK (nums_ins hnums hx) (by omega) (by rw [hil]; simp; omega)).mono ?_
        rintro e w3 ⟨rfl, k3, b3⟩
        have K3 : Hid _ := k3
        clear k3
        go_wp2_with fail
        refine (giveUpTo_any base K 4 _ _ _ w3 K3.out hbK f3.1 f3.2.1 (by rw [f3.2.2, hil]; simp; omega)).mono ?_
        rintro e w4 ⟨rfl, k4, b4⟩
        rw [hgl (Nat.le_refl _)] at k4
        go_wp2
        go_end0
        rw [hR2]
        exact ⟨rfl, k4, ((BV.out.trans b2).trans b3).trans b4⟩
      · have hR2 : R = (next, h, []) := by rw [HR.out]; unfold putF; rw [if_neg h0]; rw [if_neg (by omega), if_pos (by rw [← HT.out])]
        have KV : Hid (Keep base K V next h []) := Keep.of_owns kV oV
        have BV : Hid _ := bV
        clear kV xV oV bV
        go_wp2
        refine bodyPost_ret (results_none rfl _ _ _) rfl ?_
        rw [hR2]
        exact ⟨rfl, KV.out, BV.out⟩

end Go.Proofs.YtnpaejknoipicafGreat

namespace Go.Proofs.YtnpaejknoipicafGreat
open Go.RowKit

/-- the errno of Put, and what comes of it -/
def putE (next : Int) (l : List Sk) (x : Sk) : Int := if pchk next l = 0 then x.chk else pchk next l
def putR (next : Int) (l : List Sk) (x : Sk) : Int × List Sk × List Sk := if putE next l x = 0 then putF next l x else (0, [], [])
def flushR (next : Int) (l : List Sk) : Int × List Sk × List Sk := if pchk next l = 0 then relF 0 next l [] else (0, [], [])

theorem Keep.fresh {base K : Nat} {w : World} {next : Int} {h o : List Sk} (hk : Keep base K w next h o) :
    ∃ hv ov, w.cell? ⟨K, 0, none⟩ = some (.int .i64 next) ∧ w.cell? ⟨K, 1, none⟩ = some hv ∧ w.cell? ⟨K, 2, none⟩ = some ov ∧ Fresh base w hv h ∧ Fresh base w ov o ∧ (∃ a c, hv = .slice a h.length c) ∧ (∃ a c, ov = .slice a o.length c) := by
  obtain ⟨a, c, ov, kK, kS, kc, kB, kO, kA⟩ := hk
  obtain ⟨d0, d1, d2⟩ := kK.three
  exact ⟨_, ov, d0, d1, d2, ⟨kS, fun g hg => by obtain ⟨h1, cur, h2⟩ := kB g hg; exact ⟨h1, h2.lt⟩⟩, ⟨Sls.of_owns kO, kO.lt⟩, ⟨a, c, rfl⟩, (Sls.of_owns kO).len⟩

set_option maxHeartbeats 2000000 in
theorem bufPut_no (next : Int) (v : Value) (l : List Sk) (x : Sk) (w : World) (hv : Sls w v l) (hlen : l.length ≤ 9223372036854775807) (hE : ¬ putE next l x = 0) :
    Calls Tryz.prog 113 #[.agg #[.int .i64 next, v], x.val] w fun e w' => e = .returned (.tuple #[.agg #[.int .i64 0, .slice none 0 0], .slice none 0 0, .int .i64 (putE next l x)]) ∧ Below w.heap.size w w' := by
  obtain ⟨a, c, hva⟩ := hv.len
  obtain ⟨n, hn⟩ : ∃ n, n = l.length := ⟨_, rfl⟩
  rw [← hn] at hva
  obtain ⟨E, hEE⟩ : ∃ E, E = putE next l x := ⟨_, rfl⟩
  rw [← hEE] at hE ⊢
  have HE : Hid (E = putE next l x) := hEE
  have HV : Hid (Sls w v l) := hv
  have HC : Hid (∀ w' : World, Sls w' v l → Calls Tryz.prog 81 #[.agg #[.int .i64 next, v]] w' fun e w'' => e = .returned (.int .i64 (pchk next l)) ∧ Below w'.heap.size w' w'') := fun w' hs => bufCheck_any next v l w' hs hlen
  obtain ⟨pc, hpc⟩ : ∃ pc, pc = pchk next l := ⟨_, rfl⟩
  rw [← hpc] at HC
  have HP : Hid (pc = pchk next l) := hpc
  clear hv hn hEE hpc
  subst hva
  have hsc := slotCheck_any x
  obtain ⟨xc, hxc⟩ : ∃ xc, xc = x.chk := ⟨_, rfl⟩
  rw [← hxc] at hsc
  have HX : Hid (xc = x.chk) := hxc
  have HS : Hid _ := hsc
  clear hsc hxc
  by_cases hp : pc = 0
  · have hEx : E = xc := by rw [HE.out, HX.out]; unfold putE; rw [if_pos (by rw [← HP.out]; exact hp)]
    subst hp
    subst hEx
    obtain ⟨xn, seq, time, xf, xe, xk, xt⟩ := x
    simp only [Sk.val] at HS ⊢
    go_enter Tryz.func113, Tryz.ntmps113
    go_wp2_with fail
    refine (HC.out _ (((HV.out.alloc _).alloc _).alloc _)).mono ?_
    rintro e w1 ⟨rfl, hb1⟩
    obtain ⟨kb, kx, kr, bb, hs1⟩ := blocks3 hb1
    have KR : Hid _ := kr
    have B1 : Hid _ := bb
    obtain ⟨e0, e1, e2, e3, e4, e5, e6⟩ := kx.seven
    clear hb1 kb kx kr bb
    go_wp2_with fail
    refine (HS.out _).mono ?_
    rintro e w2 ⟨rfl, hb2⟩
    have kr := Blk.below KR.out hb2 (Blk.lt KR.out)
    have BB : Hid (Below w.heap.size w w2) := B1.out.trans (hb2.mono B1.out.size)
    obtain ⟨r0, r1⟩ := kr.two
    have rf := kr.free
    clear hb2 kr KR B1 e0 e1 e2 e3 e4 e5 e6
    go_wp2
    exact bodyPost_ret (v := .tuple #[.agg #[.int .i64 0, .slice none 0 0], .slice none 0 0, .int .i64 E]) (by simp [results, Tryz.results113, go_sem, r0, r1]) rfl ⟨rfl, by
      have h := BB.out
      exact (h.setCell (by simp; omega) _).setCell (by simp; omega) _⟩
  · have hEp : E = pc := by rw [HE.out, HP.out]; unfold putE; rw [if_neg (by rw [← HP.out]; exact hp)]
    subst hEp
    obtain ⟨xn, seq, time, xf, xe, xk, xt⟩ := x
    simp only [Sk.val]
    go_enter Tryz.func113, Tryz.ntmps113
    go_wp2_with fail
    refine (HC.out _ (((HV.out.alloc _).alloc _).alloc _)).mono ?_
    rintro e w1 ⟨rfl, hb1⟩
    obtain ⟨kb, kx, kr, bb, hs1⟩ := blocks3 hb1
    obtain ⟨r0, r1⟩ := kr.two
    have rf := kr.free
    have BB : Hid _ := bb
    clear hb1 kb kx kr bb
    go_wp2
    exact bodyPost_ret (v := .tuple #[.agg #[.int .i64 0, .slice none 0 0], .slice none 0 0, .int .i64 E]) (by simp [results, Tryz.results113, go_sem, r0, r1]) rfl ⟨rfl, by
      have h := BB.out
      exact (h.setCell (by simp; omega) _).setCell (by simp; omega) _⟩

set_option maxHeartbeats 2000000 in
set_option maxRecDepth 100000 in
theorem bufPut_ok (next : Int) (v : Value) (l : List Sk) (x : Sk) (w : World) (hv : Sls w v l) (hR : Right next l) (hx : x.chk = 0) :
    Calls Tryz.prog 113 #[.agg #[.int .i64 next, v], x.val] w fun e w' => ∃ hv' ov', e = .returned (.tuple #[.agg #[.int .i64 (putF next l x).1, hv'], ov', .int .i64 0]) ∧
      Fresh w.heap.size w' hv' (putF next l x).2.1 ∧ Fresh w.heap.size w' ov' (putF next l x).2.2 ∧ Below w.heap.size w w' := by
  obtain ⟨a, c, hva⟩ := hv.len
  have hl4 : l.length ≤ 4 := hR.2.1
  have hpc : pchk next l = 0 := (pchk_right next l).2 hR
  have HV : Hid (Sls w v l) := hv
  have HC : Hid (∀ w' : World, Sls w' v l → Calls Tryz.prog 81 #[.agg #[.int .i64 next, v]] w' fun e w'' => e = .returned (.int .i64 0) ∧ Below w'.heap.size w' w'') := fun w' hs => by rw [← hpc]; exact bufCheck_any next v l w' hs (by omega)
  have HS : Hid (∀ w' : World, Calls Tryz.prog 91 #[x.val] w' fun e w'' => e = .returned (.int .i64 0) ∧ Below w'.heap.size w' w'') := fun w' => by rw [← hx]; exact slotCheck_any x w'
  have HKp : Hid (∀ w' : World, Sls w' v l → Calls Tryz.prog 159 #[.agg #[.int .i64 next, v]] w' fun e w'' => ∃ u, e = .returned (.agg #[.int .i64 next, u, .slice none 0 0]) ∧ w''.ownsRow w'.heap.size 91 7 u l.length (skCells l) ∧ Below w'.heap.size w' w'') := fun w' hs => keep_any next v l w' hs (by omega) (fun y hy => Sk.chk_short (hR.2.2.1 y hy))
  have HCo : Hid (∀ w' : World, Calls Tryz.prog 94 #[x.val] w' fun e w'' => e = .returned x.val ∧ Below w'.heap.size w' w'') := fun w' => slotCopy_any x w' (Sk.chk_short hx)
  have HPu : Hid (∀ (K base : Nat) (hv' : Value) (w' : World), Blk w' K #[.int .i64 next, hv', .slice none 0 0] 219 → w'.ownsRow base 91 7 hv' l.length (skCells l) → base ≤ w'.heap.size → base ≤ K →
      Calls Tryz.prog 160 #[.pointer (some ⟨K, 0, none⟩), x.val] w' fun e w'' => e = .returned (.tuple #[]) ∧ Keep base K w'' (putF next l x).1 (putF next l x).2.1 (putF next l x).2.2 ∧ Below base w' w'') := fun K base hv' w' h1 h2 h3 h4 =>
    put_any base K next hv' l x w' h1 h2 h3 h4 (fun y hy => by have := Sk.chk_zero (hR.2.2.1 y hy); omega) (by have := Sk.chk_zero hx; omega) (by rcases hR.1 with ⟨h, _⟩ | h <;> omega) (by omega)
  obtain ⟨n, hn⟩ : ∃ n, n = l.length := ⟨_, rfl⟩
  rw [← hn] at hva
  rw [← hn] at HKp HPu
  obtain ⟨R, hRR⟩ : ∃ R, R = putF next l x := ⟨_, rfl⟩
  rw [← hRR] at HPu ⊢
  clear hv hn hpc hR hRR hx hl4
  subst hva
  obtain ⟨xn, seq, time, xf, xe, xk, xt⟩ := x
  simp only [Sk.val] at HS HCo HPu ⊢
  go_enter Tryz.func113, Tryz.ntmps113
  go_wp2_with fail
  refine (HC.out _ (((HV.out.alloc _).alloc _).alloc _)).mono ?_
  rintro e w1 ⟨rfl, hb1⟩
  obtain ⟨kb, kx, kr, bb, hs1⟩ := blocks3 hb1
  have v1 : Hid (Sls w1 (.slice a n c) l) := (((HV.out.alloc _).alloc _).alloc _).below hb1
  have KB1 : Hid _ := kb
  have KX1 : Hid _ := kx
  have KR1 : Hid _ := kr
  have B1 : Hid _ := bb
  obtain ⟨e0, e1, e2, e3, e4, e5, e6⟩ := kx.seven
  clear hb1 kb kx kr bb HC HV
  go_wp2_with fail
  refine (HS.out _).mono ?_
  rintro e w2 ⟨rfl, hb2⟩
  have KB2 : Hid _ := Blk.below KB1.out hb2 (Blk.lt KB1.out)
  have KX2 : Hid _ := Blk.below KX1.out hb2 (Blk.lt KX1.out)
  have KR2 : Hid _ := Blk.below KR1.out hb2 (Blk.lt KR1.out)
  have v2 : Hid (Sls w2 (.slice a n c) l) := v1.out.below hb2
  have B2 : Hid (Below w.heap.size w w2) := B1.out.trans (hb2.mono B1.out.size)
  obtain ⟨f0, f1⟩ := Blk.two KB2.out
  clear hb2 KB1 KX1 KR1 B1 v1 e0 e1 e2 e3 e4 e5 e6 HS
  go_wp2_with fail
  refine (HKp.out _ v2.out).mono ?_
  rintro e w3 ⟨u, rfl, ho3, hb3⟩
  obtain ⟨a', c', hu⟩ := Sl.len (Sl.of_owns ho3)
  have KX3 : Hid _ := Blk.below KX2.out hb3 (Blk.lt KX2.out)
  have KR3 : Hid _ := Blk.below KR2.out hb3 (Blk.lt KR2.out)
  have B3 : Hid (Below w.heap.size w w3) := B2.out.trans (hb3.mono B2.out.size)
  obtain ⟨e0, e1, e2, e3, e4, e5, e6⟩ := Blk.seven KX3.out
  have hle3 := hb3.size
  have hr2 := Blk.lt KR2.out
  subst hu
  have HO3 : Hid (w3.ownsRow w2.heap.size 91 7 (.slice a' n c') n (skCells l)) := ho3
  clear hb3 ho3 f0 f1 v2 KB2 KX2 HKp
  have lt3 : w.heap.size + 1 < w3.heap.size := by omega
  go_wp2_with fail
  refine (HCo.out _).mono ?_
  rintro e w4 ⟨rfl, hb4⟩
  have k4 := Blk.below (Blk.new w3 #[.int .i64 next, .slice a' n c', .slice none 0 0] 219) hb4 (by simp)
  have KR4 : Hid _ := Blk.below (Blk.alloc KR3.out (.cells #[.int .i64 next, .slice a' n c', .slice none 0 0] 219)) hb4 (by have := Blk.lt KR3.out; simp; omega)
  have ho4 := owns_below (HO3.out.alloc (.cells #[.int .i64 next, .slice a' n c', .slice none 0 0] 219)) hb4 (Nat.le_refl _)
  have hs4 := hb4.size
  simp only [World.size_alloc] at hs4
  have B4 : Hid (Below w.heap.size w w4) := (B3.out.alloc B3.out.size _).trans (hb4.mono (by have := B3.out.size; simp; omega))
  clear hb4 KX3 KR3 B3 HO3 e0 e1 e2 e3 e4 e5 e6 HCo
  go_wp2_with fail
  refine (HPu.out w3.heap.size w2.heap.size _ w4 k4 ho4 (by omega) (by omega)).mono ?_
  rintro e w5 ⟨rfl, hk5, hb5⟩
  have kr5 := Blk.below KR4.out hb5 hr2
  obtain ⟨hv', ov', g0, g1, g2, F1, F2, ⟨ah, ch, eh⟩, ⟨ao, co, eo⟩⟩ := hk5.fresh
  obtain ⟨r0, r1⟩ := Blk.two kr5
  have rf := Blk.free kr5
  have hr5 := Blk.lt kr5
  have B5 : Hid (Below w.heap.size w w5) := B4.out.trans (hb5.mono (by have := B2.out.size; omega))
  have hw2 : w.heap.size ≤ w2.heap.size := B2.out.size
  subst eh
  subst eo
  have G1 : Hid (Fresh w2.heap.size w5 (.slice ah R.2.1.length ch) R.2.1) := F1
  have G2 : Hid (Fresh w2.heap.size w5 (.slice ao R.2.2.length co) R.2.2) := F2
  clear hk5 hb5 kr5 k4 ho4 KR4 B4 F1 F2 HPu
  go_wp2_with fail
  have hne5 : ¬ w3.heap.size = w.heap.size + 1 + 1 := by omega
  go_region
  all_goals
    go_wp2
    refine bodyPost_ret (v := .tuple #[.agg #[.int .i64 R.1, .slice ah R.2.1.length ch], .slice ao R.2.2.length co, .int .i64 0]) (by simp [results, Tryz.results113, go_sem, r0, r1]) rfl ⟨_, _, rfl, ?_, ?_, ?_⟩
    · exact ((G1.out.set (by exact hr2) _).set (by exact hr2) _).base hw2
    · exact ((G2.out.set (by exact hr2) _).set (by exact hr2) _).base hw2
    · exact ((B5.out.setCell (by simp; omega) _).setCell (by simp; omega) _).drew

set_option maxHeartbeats 2000000 in
theorem bufFlush_no (next : Int) (v : Value) (l : List Sk) (w : World) (hv : Sls w v l) (hlen : l.length ≤ 9223372036854775807) (hE : ¬ pchk next l = 0) :
    Calls Tryz.prog 114 #[.agg #[.int .i64 next, v]] w fun e w' => e = .returned (.tuple #[.agg #[.int .i64 0, .slice none 0 0], .slice none 0 0, .int .i64 (pchk next l)]) ∧ Below w.heap.size w w' := by
  obtain ⟨a, c, hva⟩ := hv.len
  obtain ⟨n, hn⟩ : ∃ n, n = l.length := ⟨_, rfl⟩
  rw [← hn] at hva
  have HV : Hid (Sls w v l) := hv
  have HC : Hid (∀ w' : World, Sls w' v l → Calls Tryz.prog 81 #[.agg #[.int .i64 next, v]] w' fun e w'' => e = .returned (.int .i64 (pchk next l)) ∧ Below w'.heap.size w' w'') := fun w' hs => bufCheck_any next v l w' hs hlen
  obtain ⟨E, hpc⟩ : ∃ pc, pc = pchk next l := ⟨_, rfl⟩
  rw [← hpc] at HC hE ⊢
  clear hv hn hpc
  subst hva
  go_enter Tryz.func114, Tryz.ntmps114
  go_wp2_with fail
  refine (HC.out _ ((HV.out.alloc _).alloc _)).mono ?_
  rintro e w1 ⟨rfl, hb1⟩
  obtain ⟨kb, kr, bb, hs1⟩ := blocks2 hb1
  obtain ⟨r0, r1⟩ := kr.two
  have rf := kr.free
  have BB : Hid _ := bb
  clear hb1 kb kr bb
  go_wp2
  exact bodyPost_ret (v := .tuple #[.agg #[.int .i64 0, .slice none 0 0], .slice none 0 0, .int .i64 E]) (by simp [results, Tryz.results114, go_sem, r0, r1]) rfl ⟨rfl, by
    have h := BB.out
    exact (h.setCell (by simp) _).setCell (by simp) _⟩

set_option maxHeartbeats 2000000 in
set_option maxRecDepth 100000 in
theorem bufFlush_ok (next : Int) (v : Value) (l : List Sk) (w : World) (hv : Sls w v l) (hR : Right next l) :
    Calls Tryz.prog 114 #[.agg #[.int .i64 next, v]] w fun e w' => ∃ hv' ov', e = .returned (.tuple #[.agg #[.int .i64 (relF 0 next l []).1, hv'], ov', .int .i64 0]) ∧
      Fresh w.heap.size w' hv' (relF 0 next l []).2.1 ∧ Fresh w.heap.size w' ov' (relF 0 next l []).2.2 ∧ Below w.heap.size w w' := by
  obtain ⟨a, c, hva⟩ := hv.len
  have hl4 : l.length ≤ 4 := hR.2.1
  have hpc : pchk next l = 0 := (pchk_right next l).2 hR
  have HV : Hid (Sls w v l) := hv
  have HC : Hid (∀ w' : World, Sls w' v l → Calls Tryz.prog 81 #[.agg #[.int .i64 next, v]] w' fun e w'' => e = .returned (.int .i64 0) ∧ Below w'.heap.size w' w'') := fun w' hs => by rw [← hpc]; exact bufCheck_any next v l w' hs (by omega)
  have HKp : Hid (∀ w' : World, Sls w' v l → Calls Tryz.prog 159 #[.agg #[.int .i64 next, v]] w' fun e w'' => ∃ u, e = .returned (.agg #[.int .i64 next, u, .slice none 0 0]) ∧ w''.ownsRow w'.heap.size 91 7 u l.length (skCells l) ∧ Below w'.heap.size w' w'') := fun w' hs => keep_any next v l w' hs (by omega) (fun y hy => Sk.chk_short (hR.2.2.1 y hy))
  have HPu : Hid (∀ (K base : Nat) (hv' : Value) (w' : World), Blk w' K #[.int .i64 next, hv', .slice none 0 0] 219 → w'.ownsRow base 91 7 hv' l.length (skCells l) → base ≤ K →
      Calls Tryz.prog 161 #[.pointer (some ⟨K, 0, none⟩), .int .i64 0] w' fun e w'' => e = .returned (.tuple #[]) ∧ Keep base K w'' (relF 0 next l []).1 (relF 0 next l []).2.1 (relF 0 next l []).2.2 ∧ Below base w' w'') := fun K base hv' w' h1 h2 h4 => by
    rw [← give_zero l.length l next [] (Nat.le_refl _)]
    exact giveUpTo_any base K 0 next l [] w' (Keep.of_owns h1 h2) h4 (fun y hy => by have := Sk.chk_zero (hR.2.2.1 y hy); omega) (by rcases hR.1 with ⟨h, _⟩ | h <;> omega) (by simp; omega)
  obtain ⟨n, hn⟩ : ∃ n, n = l.length := ⟨_, rfl⟩
  rw [← hn] at hva
  rw [← hn] at HKp HPu
  obtain ⟨R, hRR⟩ : ∃ R, R = relF 0 next l [] := ⟨_, rfl⟩
  rw [← hRR] at HPu ⊢
  clear hv hn hpc hR hRR hl4
  subst hva
  go_enter Tryz.func114, Tryz.ntmps114
  go_wp2_with fail
  refine (HC.out _ ((HV.out.alloc _).alloc _)).mono ?_
  rintro e w2 ⟨rfl, hb2⟩
  obtain ⟨kb, kr, bb, hs1⟩ := blocks2 hb2
  have v2 : Hid (Sls w2 (.slice a n c) l) := ((HV.out.alloc _).alloc _).below hb2
  have KR2 : Hid _ := kr
  have B2 : Hid _ := bb
  obtain ⟨f0, f1⟩ := kb.two
  clear hb2 kb kr bb HC HV
  go_wp2_with fail
  refine (HKp.out _ v2.out).mono ?_
  rintro e w3 ⟨u, rfl, ho3, hb3⟩
  obtain ⟨a', c', hu⟩ := Sl.len (Sl.of_owns ho3)
  have KR3 : Hid _ := Blk.below KR2.out hb3 (Blk.lt KR2.out)
  have B3 : Hid (Below w.heap.size w w3) := B2.out.trans (hb3.mono B2.out.size)
  have hle3 := hb3.size
  have hr2 := Blk.lt KR2.out
  subst hu
  have HO3 : Hid (w3.ownsRow w2.heap.size 91 7 (.slice a' n c') n (skCells l)) := ho3
  clear hb3 ho3 f0 f1 v2 HKp
  go_wp2_with fail
  refine (HPu.out w3.heap.size w2.heap.size _ _ (Blk.new w3 _ _) (HO3.out.alloc _) (by omega)).mono ?_
  rintro e w5 ⟨rfl, hk5, hb5⟩
  have kr5 := Blk.below (Blk.alloc KR3.out (.cells #[.int .i64 next, .slice a' n c', .slice none 0 0] 219)) hb5 hr2
  obtain ⟨hv', ov', g0, g1, g2, F1, F2, ⟨ah, ch, eh⟩, ⟨ao, co, eo⟩⟩ := hk5.fresh
  obtain ⟨r0, r1⟩ := Blk.two kr5
  have rf := Blk.free kr5
  have hr5 := Blk.lt kr5
  have B5 : Hid (Below w.heap.size w w5) := (B3.out.alloc B3.out.size _).trans (hb5.mono (by have := B2.out.size; omega))
  have hw2 : w.heap.size ≤ w2.heap.size := B2.out.size
  subst eh
  subst eo
  have G1 : Hid (Fresh w2.heap.size w5 (.slice ah R.2.1.length ch) R.2.1) := F1
  have G2 : Hid (Fresh w2.heap.size w5 (.slice ao R.2.2.length co) R.2.2) := F2
  clear hk5 hb5 kr5 F1 F2 HPu KR3 B3 HO3
  go_wp2_with fail
  have hne5 : ¬ w3.heap.size = w.heap.size + 1 := by omega
  go_region
  all_goals
    go_wp2
    refine bodyPost_ret (v := .tuple #[.agg #[.int .i64 R.1, .slice ah R.2.1.length ch], .slice ao R.2.2.length co, .int .i64 0]) (by simp [results, Tryz.results114, go_sem, r0, r1]) rfl ⟨_, _, rfl, ?_, ?_, ?_⟩
    · exact ((G1.out.set (by exact hr2) _).set (by exact hr2) _).base hw2
    · exact ((G2.out.set (by exact hr2) _).set (by exact hr2) _).base hw2
    · exact ((B5.out.setCell (by simp) _).setCell (by simp) _).drew

end Go.Proofs.YtnpaejknoipicafGreat

namespace Go.Proofs.YtnpaejknoipicafGreat

theorem upB_mono {a b : Int} {l : List Sk} (h : upB b l = true) (hab : a ≤ b) : upB a l = true := by
  cases l with
  | nil => rfl
  | cons x r => simp only [upB, Bool.and_eq_true, decide_eq_true_eq] at h ⊢; exact ⟨by omega, h.2⟩
theorem upB_all {a : Int} {l : List Sk} (h : upB a l = true) : ∀ x ∈ l, a < x.n := by
  induction l generalizing a with
  | nil => simp
  | cons y r ih =>
    simp only [upB, Bool.and_eq_true, decide_eq_true_eq] at h
    intro x hx
    rcases List.mem_cons.1 hx with rfl | hx
    · exact h.1
    · have := ih h.2 x hx; omega
theorem upB_append {a : Int} {l m : List Sk} (h : upB a (l ++ m) = true) : upB a l = true ∧ ∀ x ∈ l, ∀ y ∈ m, x.n < y.n := by
  induction l generalizing a with
  | nil => exact ⟨rfl, by simp⟩
  | cons z r ih =>
    simp only [List.cons_append, upB, Bool.and_eq_true, decide_eq_true_eq] at h ⊢
    obtain ⟨h1, h2⟩ := h
    obtain ⟨i1, i2⟩ := ih h2
    refine ⟨⟨h1, i1⟩, fun x hx y hy => ?_⟩
    rcases List.mem_cons.1 hx with rfl | hx
    · exact upB_all h2 y (by simp [hy])
    · exact i2 x hx y hy

/-- what released leaves of slots that rise -/
theorem rel_inv (most : Nat) : ∀ (h : List Sk) (next : Int) (o : List Sk), upB (next - 1) h = true →
    ∃ p, h = p ++ (relF most next h o).2.1 ∧ (relF most next h o).2.2 = o ++ p ∧ (∀ x ∈ p, x.n < (relF most next h o).1) ∧ next ≤ (relF most next h o).1 ∧ upB (relF most next h o).1 (relF most next h o).2.1 = true ∧
      (relF most next h o).2.1.length ≤ most ∧ ((relF most next h o).1 = next ∨ ∃ x ∈ p, (relF most next h o).1 = x.n + 1)
  | [], next, o, _ => ⟨[], by simp [relF, upB]⟩
  | x :: r, next, o, hu => by
    simp only [upB, Bool.and_eq_true, decide_eq_true_eq] at hu
    obtain ⟨h1, h2⟩ := hu
    by_cases hx : x.n = next
    · have e : relF most next (x :: r) o = relF most (next + 1) r (o ++ [x]) := by simp [relF, hx]
      rw [e]
      obtain ⟨p, i1, i2, i3, i4, i5, i6, i7⟩ := rel_inv most r (next + 1) (o ++ [x]) (upB_mono h2 (by omega))
      refine ⟨x :: p, by rw [List.cons_append, ← i1], by rw [i2]; simp, fun y hy => ?_, by omega, i5, i6, .inr ?_⟩
      · rcases List.mem_cons.1 hy with rfl | hy
        · omega
        · exact i3 y hy
      · rcases i7 with i7 | ⟨y, hy, i7⟩
        · exact ⟨x, by simp, by omega⟩
        · exact ⟨y, by simp [hy], i7⟩
    · by_cases hm : r.length + 1 ≤ most
      · have e : relF most next (x :: r) o = (next, x :: r, o) := by simp [relF, hx, hm]
        rw [e]
        refine ⟨[], by simp, by simp, by simp, Int.le_refl _, ?_, by simpa using hm, .inl rfl⟩
        simp only [upB, Bool.and_eq_true, decide_eq_true_eq]
        exact ⟨by omega, h2⟩
      · have e : relF most next (x :: r) o = relF most (x.n + 1) r (o ++ [x]) := by simp [relF, hx, hm]
        rw [e]
        obtain ⟨p, i1, i2, i3, i4, i5, i6, i7⟩ := rel_inv most r (x.n + 1) (o ++ [x]) (upB_mono h2 (by omega))
        refine ⟨x :: p, by rw [List.cons_append, ← i1], by rw [i2]; simp, fun y hy => ?_, by omega, i5, i6, .inr ?_⟩
        · rcases List.mem_cons.1 hy with rfl | hy
          · omega
          · exact i3 y hy
        · rcases i7 with i7 | ⟨y, hy, i7⟩
          · exact ⟨x, by simp, by omega⟩
          · exact ⟨y, by simp [hy], i7⟩

theorem place_nil (x : Sk) : place [] x = 0 := rfl
theorem place_cons (y : Sk) (r : List Sk) (x : Sk) : place (y :: r) x = if x.n < y.n then 0 else place r x + 1 := by
  unfold place
  rw [List.findIdx?_cons]
  by_cases h : x.n < y.n
  · simp [h]
  · simp only [h, decide_false]
    cases r.findIdx? fun y => decide (x.n < y.n) <;> simp
theorem insF_nil (x : Sk) : insF [] x = [x] := rfl
theorem insF_cons (y : Sk) (r : List Sk) (x : Sk) : insF (y :: r) x = if x.n < y.n then x :: y :: r else y :: insF r x := by
  unfold insF putAt
  rw [place_cons]
  by_cases h : x.n < y.n
  · simp [h]
  · simp [h]
/-- a slot put in where it belongs: they rise still -/
theorem up_ins (x : Sk) : ∀ (h : List Sk) (a : Int), upB a h = true → a < x.n → (∀ y ∈ h, ¬ y.n = x.n) → upB a (insF h x) = true
  | [], a, _, hx, _ => by simp [insF_nil, upB, hx]
  | y :: r, a, hu, hx, hne => by
    simp only [upB, Bool.and_eq_true, decide_eq_true_eq] at hu
    rw [insF_cons]
    by_cases h : x.n < y.n
    · rw [if_pos h]
      simp only [upB, Bool.and_eq_true, decide_eq_true_eq]
      exact ⟨hx, h, hu.2⟩
    · rw [if_neg h]
      simp only [upB, Bool.and_eq_true, decide_eq_true_eq]
      have := hne y (by simp)
      exact ⟨hu.1, up_ins x r y.n hu.2 (by omega) (fun z hz => hne z (by simp [hz]))⟩
theorem mem_ins {h : List Sk} {x y : Sk} : y ∈ insF h x ↔ y = x ∨ y ∈ h := by
  induction h with
  | nil => simp [insF_nil]
  | cons z r ih =>
    rw [insF_cons]
    by_cases hh : x.n < z.n
    · rw [if_pos hh]; simp
    · rw [if_neg hh]
      simp only [List.mem_cons, ih]
      constructor
      · rintro (h | h | h) <;> simp [h]
      · rintro (h | h | h) <;> simp [h]

/-- what Put does to a buffer that is right -/
theorem put_inv {next : Int} {l : List Sk} {x : Sk} (hR : Right next l) (hx : x.chk = 0) :
    Right (putF next l x).1 (putF next l x).2.1 ∧ next ≤ (putF next l x).1 ∧ (∀ y ∈ (putF next l x).2.2, (y = x ∨ y ∈ l) ∧ next ≤ y.n ∧ y.n < (putF next l x).1) ∧ upB (next - 1) (putF next l x).2.2 = true ∧ (∀ y ∈ (putF next l x).2.1, y = x ∨ y ∈ l) ∧
      (x.n < (putF next l x).1 ∨ ∃ y ∈ (putF next l x).2.1, y.n = x.n) ∧ ¬ (putF next l x).1 = 0 := by
  obtain ⟨r1, r2, r3, r4⟩ := hR
  have hxn := Sk.chk_zero hx
  unfold putF
  by_cases h0 : next = 0
  · have hl : l = [] := by rcases r1 with ⟨_, h⟩ | h; exact h; omega
    subst hl
    simp only [h0, if_true]
    rw [if_neg (by omega)]
    simp only [List.any_nil, Bool.false_eq_true, if_false, insF_nil]
    have e : relF 4 x.n [x] [] = (x.n + 1, [], [x]) := by simp [relF]
    rw [e]
    refine ⟨⟨.inr (by omega), by simp, by simp, rfl⟩, by omega, ?_, ?_, by simp, .inl (by simp; omega), by simp; omega⟩
    · intro y hy; simp at hy; subst hy; exact ⟨.inl rfl, by omega, by omega⟩
    · simp [upB]; omega
  · have hb : 65536 ≤ next ∧ next ≤ 1000000001 := by rcases r1 with ⟨h, _⟩ | h; omega; exact h
    simp only [if_neg h0]
    by_cases h1 : x.n < next
    · rw [if_pos h1]
      exact ⟨⟨.inr hb, r2, r3, r4⟩, Int.le_refl _, by simp, rfl, fun y hy => .inr hy, .inl h1, h0⟩
    · rw [if_neg h1]
      by_cases h2 : (l.any fun y => y.n == x.n) = true
      · rw [if_pos h2]
        refine ⟨⟨.inr hb, r2, r3, r4⟩, Int.le_refl _, by simp, rfl, fun y hy => .inr hy, ?_, h0⟩
        obtain ⟨y, hy, e⟩ := List.any_eq_true.1 h2
        exact .inr ⟨y, hy, by simpa using e⟩
      · rw [if_neg h2]
        have hne : ∀ y ∈ l, ¬ y.n = x.n := fun y hy e => h2 (List.any_eq_true.2 ⟨y, hy, by simp [e]⟩)
        have hup : upB (next - 1) (insF l x) = true := up_ins x l (next - 1) (upB_mono r4 (by omega)) (by omega) hne
        obtain ⟨p, i1, i2, i3, i4, i5, i6, i7⟩ := rel_inv 4 (insF l x) next [] hup
        have hmem : ∀ y ∈ insF l x, y = x ∨ y ∈ l := fun y hy => mem_ins.1 hy
        have hchk : ∀ y ∈ insF l x, y.chk = 0 := fun y hy => by rcases hmem y hy with rfl | h; exact hx; exact r3 y h
        have hpm : ∀ y ∈ p, y ∈ insF l x := fun y hy => by rw [i1]; simp [hy]
        have hqm : ∀ y ∈ (relF 4 next (insF l x) []).2.1, y ∈ insF l x := fun y hy => by rw [i1]; simp [hy]
        rw [i2, List.nil_append]
        refine ⟨⟨.inr ⟨by omega, ?_⟩, i6, fun y hy => hchk y (hqm y hy), i5⟩, i4, fun y hy => ⟨hmem y (hpm y hy), ?_, i3 y hy⟩, ?_, fun y hy => hmem y (hqm y hy), ?_, by omega⟩
        · rcases i7 with i7 | ⟨y, hy, i7⟩
          · omega
          · have := Sk.chk_zero (hchk y (hpm y hy)); omega
        · have := upB_all hup y (hpm y hy); omega
        · rw [i1] at hup; exact (upB_append hup).1
        · have hxi : x ∈ insF l x := mem_ins.2 (.inl rfl)
          rw [i1] at hxi
          rcases List.mem_append.1 hxi with h | h
          · exact .inl (i3 x h)
          · exact .inr ⟨x, h, rfl⟩

/-- what came, comes again without a trace -/
theorem put_again {next : Int} {l : List Sk} {x : Sk} (h0 : ¬ next = 0) (h : x.n < next ∨ ∃ y ∈ l, y.n = x.n) : putF next l x = (next, l, []) := by
  unfold putF
  simp only [if_neg h0]
  by_cases h1 : x.n < next
  · rw [if_pos h1]
  · rw [if_neg h1, if_pos]
    rcases h with h | ⟨y, hy, e⟩
    · exact absurd h h1
    · exact List.any_eq_true.2 ⟨y, hy, by simp [e]⟩
/-- what Flush does to a buffer that is right -/
theorem flush_inv {next : Int} {l : List Sk} (hR : Right next l) :
    Right (relF 0 next l []).1 (relF 0 next l []).2.1 ∧ next ≤ (relF 0 next l []).1 ∧ (∀ y ∈ (relF 0 next l []).2.2, y ∈ l ∧ next ≤ y.n ∧ y.n < (relF 0 next l []).1) ∧ upB (next - 1) (relF 0 next l []).2.2 = true ∧ (relF 0 next l []).2.1 = [] := by
  obtain ⟨r1, r2, r3, r4⟩ := hR
  obtain ⟨p, i1, i2, i3, i4, i5, i6, i7⟩ := rel_inv 0 l next [] (upB_mono r4 (by omega))
  have hnil : (relF 0 next l []).2.1 = [] := List.eq_nil_of_length_eq_zero (by omega)
  rw [i2, List.nil_append, hnil]
  rw [hnil, List.append_nil] at i1
  subst i1
  refine ⟨⟨?_, by simp, by simp, rfl⟩, i4, fun y hy => ⟨hy, by have := upB_all r4 y hy; omega, i3 y hy⟩, upB_mono r4 (by omega), rfl⟩
  rcases i7 with i7 | ⟨y, hy, i7⟩
  · rw [i7]
    rcases r1 with ⟨h, _⟩ | h
    · exact .inl ⟨h, rfl⟩
    · exact .inr h
  · have := Sk.chk_zero (r3 y hy)
    exact .inr (by omega)

end Go.Proofs.YtnpaejknoipicafGreat

namespace Go.Proofs.YtnpaejknoipicafGreat

def foldA (O : List Sk) (l : List Sk) : List Sk × List Fr := l.foldl stepA (O, [])
theorem stepA_out (O : List Sk) (F : List Fr) (x : Sk) : stepA (O, F) x = ((stepA (O, []) x).1, F ++ (stepA (O, []) x).2) := by
  unfold stepA
  by_cases h : addW O x
  · simp [h]
  · simp [h]
theorem foldA_out : ∀ (l : List Sk) (O : List Sk) (F : List Fr), l.foldl stepA (O, F) = ((foldA O l).1, F ++ (foldA O l).2)
  | [], O, F => by simp [foldA]
  | x :: r, O, F => by
    unfold foldA
    simp only [List.foldl_cons]
    rw [stepA_out O F x, foldA_out r _ _]
    obtain ⟨P, G⟩ := stepA (O, []) x
    rw [foldA_out r P G]
    simp
theorem takeF_first (O : List Sk) {x : Sk} (h : x.p.f = true) : takeF O x = [x] := by unfold takeF; rw [if_pos h]
theorem stepA_first (O : List Sk) {x : Sk} (h : x.p.f = true) : stepA (O, []) x = stepA ([], []) x := by
  simp only [stepA, addO, addW, addT, addK, addP, takeF_first _ h]
theorem foldA_first (O : List Sk) {x : Sk} (r : List Sk) (h : x.p.f = true) : foldA O (x :: r) = foldA [] (x :: r) := by
  unfold foldA
  simp only [List.foldl_cons]
  rw [stepA_first O h]
theorem framesS_fold (l : List Sk) : framesS l = (foldA [] l).2 := by unfold framesS upA foldA; rw [List.take_length]
/-- where the second row begins with a First one, the frames of both are those of the first and those of the second -/
theorem framesS_append (l m : List Sk) (h : ∀ x r, m = x :: r → x.p.f = true) : framesS (l ++ m) = framesS l ++ framesS m := by
  rw [framesS_fold, framesS_fold, framesS_fold]
  unfold foldA
  rw [List.foldl_append]
  obtain ⟨O, F⟩ : List Sk × List Fr := l.foldl stepA ([], [])
  rw [foldA_out m O F]
  cases m with
  | nil => simp [foldA]
  | cons x r =>
    rw [foldA_first O r (h x r rfl)]
    rfl

end Go.Proofs.YtnpaejknoipicafGreat

namespace Go.Proofs.YtnpaejknoipicafGreat
open Go.RowKit Go.Sort

/-- what is wrong of an open slot, by the one ahead of it -/
def badO (prev : Option Sk) (x : Sk) : Bool := match prev with
  | none => !x.p.f || x.p.e
  | some a => x.p.e || !nextB a x
def ogo : Option Sk → List Sk → Int
  | _, [] => 0
  | prev, x :: r => if x.chk = 0 then (if badO prev x = true then 4 else ogo (some x) r) else x.chk
/-- what is said of a builder: D1, slot by slot -/
def ochk (l : List Sk) : Int := if 4 ≤ l.length then 2 else ogo none l

theorem ogo_split (x : Sk) (s : List Sk) : ∀ (r : List Sk) (prev : Option Sk), ogo prev r = 0 → ogo prev (r ++ x :: s) = ogo (r.foldl (fun _ y => some y) prev) (x :: s)
  | [], _, _ => rfl
  | y :: r, prev, h => by
    simp only [List.cons_append, List.foldl_cons]
    by_cases hy : y.chk = 0
    · by_cases h2 : badO prev y = true
      · simp [ogo, hy, h2] at h
      · have h' : ogo (some y) r = 0 := by simpa [ogo, hy, h2] using h
        rw [← ogo_split x s r (some y) h']
        conv => lhs; unfold ogo
        rw [if_pos hy, if_neg h2]
    · simp [ogo, hy] at h
theorem olast_at (l : List Sk) (p : Option Sk) (k : Nat) (hk : k ≤ l.length) : (l.take k).foldl (fun _ y => some y) p = if k = 0 then p else some (l[k - 1]?.getD Sk.zero) := by
  cases k with
  | zero => simp
  | succ k =>
    rw [take_one (by omega) Sk.zero, List.foldl_append]
    simp
theorem ogo_at (l : List Sk) (k : Nat) (hk : k < l.length) (h : ogo none (l.take k) = 0) :
    ogo none l = ogo (if k = 0 then none else some (l[k - 1]?.getD Sk.zero)) ((l[k]?.getD Sk.zero) :: l.drop (k + 1)) := by
  have e : l = l.take k ++ (l[k]?.getD Sk.zero) :: l.drop (k + 1) := by
    rw [List.getElem?_eq_getElem hk, Option.getD_some, ← List.drop_eq_getElem_cons hk, List.take_append_drop]
  conv => lhs; rw [e]
  rw [ogo_split _ _ _ _ h, olast_at l none k (by omega)]
theorem ogo_at1 (l : List Sk) (k : Nat) (hk : k < l.length) (h : ogo none (l.take k) = 0) :
    ogo none (l.take (k + 1)) = ogo (if k = 0 then none else some (l[k - 1]?.getD Sk.zero)) [l[k]?.getD Sk.zero] := by
  rw [take_one hk Sk.zero, ogo_split _ _ _ _ h, olast_at l none k (by omega)]
theorem ogo_all : ∀ (l : List Sk) (prev : Option Sk), ogo prev l = 0 → ∀ x ∈ l, x.chk = 0
  | [], _, _, _, hx => absurd hx List.not_mem_nil
  | y :: r, prev, h, x, hx => by
    by_cases hy : y.chk = 0
    · by_cases h2 : badO prev y = true
      · simp [ogo, hy, h2] at h
      · rcases List.mem_cons.1 hx with rfl | hx
        · exact hy
        · exact ogo_all r (some y) (by simpa [ogo, hy, h2] using h) x hx
    · simp [ogo, hy] at h

set_option maxHeartbeats 2000000 in
set_option maxRecDepth 100000 in
theorem refCheckBuilder_any (v : Value) (l : List Sk) (w : World) (hv : Sls w v l) (hlen : l.length ≤ 9223372036854775807) :
    Calls Tryz.prog 72 #[.agg #[v]] w fun e w' => e = .returned (.int .i64 (ochk l)) ∧ Below w.heap.size w w' := by
  obtain ⟨ao, c, hva, hc⟩ := hv.parts
  obtain ⟨n, hn⟩ : ∃ n, n = l.length := ⟨_, rfl⟩
  obtain ⟨r, hr⟩ : ∃ r, r = ochk l := ⟨_, rfl⟩
  rw [← hn] at hva
  rw [← hr]
  have HR : Hid (r = ochk l) := hr
  have HN : Hid (n = l.length) := hn
  have HC : Hid (∀ k, k < l.length → ∃ b off, ao = some ⟨b, off, none⟩ ∧ b < w.heap.size ∧ At7 w b (off + k * 7) (l[k]?.getD Sk.zero)) := hc
  have hln : n ≤ 9223372036854775807 := by omega
  clear hr hv hn hlen hc
  subst hva
  by_cases h4 : 4 ≤ n
  · have hr : r = 2 := by rw [HR.out]; unfold ochk; rw [if_pos (by rw [← HN.out]; exact h4)]
    rw [hr]
    clear hr
    go_enter Tryz.func72, Tryz.ntmps72
    go_wp2
    go_ret
    exact ⟨rfl, by go_grown⟩
  have hr : Hid (r = ogo none l) := by show r = _; rw [HR.out]; unfold ochk; rw [if_neg (by rw [← HN.out]; exact h4)]
  clear HR
  go_enter Tryz.func72, Tryz.ntmps72
  go_wp2
  go_loopw [3] (fun i wr => ∃ k : Nat, k ≤ n ∧ i = .int .i64 k ∧ Hid (ogo none (l.take k) = 0) ∧ Hid (Blk wr w.heap.size #[.slice ao n c] 59) ∧ Hid (Below w.heap.size w wr))
    (fun i _ => n - (intOf i).toNat)
  case atStart => exact ⟨0, Nat.zero_le _, rfl, (show ogo none (l.take 0) = 0 from rfl), Blk.new w _ _, (Below.refl _ w).alloc (Nat.le_refl _) _⟩
  case round =>
    obtain ⟨k, hk, rfl, HK, HBl, HB⟩ := hrel
    have d0 := Blk.one HBl.out
    by_cases hlt : k < n
    · obtain ⟨b, off, rfl, hbb, hat⟩ := HC.out k (by rw [← HN.out]; exact hlt)
      obtain ⟨c0, c1, c2, c3, c4, c5, c6⟩ := hat.below HB.out hbb
      obtain ⟨x, hx⟩ : ∃ x, x = l[k]?.getD Sk.zero := ⟨_, rfl⟩
      rw [← hx] at c0 c1 c2 c3 c4 c5 c6 hat
      have HX : Hid (x = l[k]?.getD Sk.zero) := hx
      have HAT : Hid (At7 w b (off + k * 7) x) := hat
      clear hx hat
      obtain ⟨ch, hch⟩ : ∃ ch, ch = x.chk := ⟨_, rfl⟩
      have HCH : Hid (ch = x.chk) := hch
      have hck : ∀ w : World, Calls Tryz.prog 115 #[x.val] w fun e w' => e = .returned (.int .i64 ch) ∧ Below w.heap.size w w' := fun w => by rw [hch]; exact refSlot_any x w
      clear hch
      simp only [Sk.val] at hck
      go_wp2_with fail
      refine (hck _).mono ?_
      rintro e w1 ⟨rfl, hb1⟩
      have HB1 : Hid (Below w.heap.size w w1) := HB.out.trans (hb1.mono HB.out.size)
      have HBl1 : Hid (Blk w1 w.heap.size #[.slice (some ⟨b, off, none⟩) n c] 59) := Blk.below HBl.out hb1 (Blk.lt HBl.out)
      clear hb1 hck c0 c1 c2 c3 c4 c5 c6 d0 HBl HB
      by_cases h0 : ch = 0
      · subst h0
        have HAT1 : Hid (At7 w1 b (off + k * 7) x) := HAT.out.below HB1.out hbb
        obtain ⟨g0, g1, g2, g3, g4, g5, g6⟩ := HAT1.out
        have e0 := Blk.one HBl1.out
        have hlti : (k : Int) < (n : Int) := by omega
        by_cases hk0 : k = 0
        · subst hk0
          rw [Nat.zero_mul, Nat.add_zero] at g0 g1 g2 g3 g4 g5 g6
          obtain ⟨xf, hxf⟩ : ∃ xf, xf = x.p.f := ⟨_, rfl⟩
          obtain ⟨xe, hxe⟩ : ∃ xe, xe = x.p.e := ⟨_, rfl⟩
          rw [← hxf] at g3
          rw [← hxe] at g4
          have HBAD : Hid (badO none x = (!xf || xe)) := by show _ = _; rw [hxf, hxe]; rfl
          clear hxf hxe
          have h0n : (0 : Int) < (n : Int) := by omega
          cases xf <;> cases xe
          case true.false =>
            have HK1 : Hid (ogo none (l.take (0 + 1)) = 0) := by
              show _ = _
              rw [ogo_at1 l 0 (by rw [← HN.out]; exact hlt) HK.out, ← HX.out]
              simp only [if_true, ogo, ← HCH.out]
              rw [HBAD.out]; rfl
            go_wp2
            go_quiet (fail)
            go_wp2
            go_roundw
            case rel => exact ⟨0 + 1, by omega, by go_num, HK1, HBl1.out, below_drewN HB1.out _⟩
            case measure => simp [intOf]; omega
          all_goals
            have hres : r = 4 := by
              rw [hr.out, ogo_at l 0 (by rw [← HN.out]; exact hlt) HK.out, ← HX.out]
              simp only [if_true, ogo, ← HCH.out]
              rw [HBAD.out]; rfl
            go_wp2
            go_quiet (fail)
            go_wp2
            go_ret
            exact ⟨by rw [hres]; rfl, below_drewN HB1.out _⟩
        · obtain ⟨b', off', hbo, hbb', hat'⟩ := HC.out (k - 1) (by rw [← HN.out]; omega)
          cases hbo
          obtain ⟨p0, p1, p2, p3, p4, p5, p6⟩ := hat'.below HB1.out hbb
          obtain ⟨y, hy⟩ : ∃ y, y = l[k - 1]?.getD Sk.zero := ⟨_, rfl⟩
          rw [← hy] at p0 p1 p2 p3 p4 p5 p6
          have HY : Hid (y = l[k - 1]?.getD Sk.zero) := hy
          have hyn : 0 ≤ y.n ∧ y.n ≤ 1000000001 := by
            have hm : y ∈ l.take k := by
              rw [hy, List.getElem?_eq_getElem (by have := HN.out; omega), Option.getD_some]
              rw [List.mem_take_iff_getElem]
              exact ⟨k - 1, by have := HN.out; omega, rfl⟩
            have := Sk.chk_zero (ogo_all _ _ HK.out y hm)
            omega
          obtain ⟨k1, hk1⟩ : ∃ k1, k1 = k - 1 := ⟨_, rfl⟩
          rw [← hk1] at p0 p1 p2 p3 p4 p5 p6
          have hkk : (k : Int) - 1 = (k1 : Int) := by omega
          have hkn : (k1 : Int) < (n : Int) := by omega
          have hwr : IntKind.i64.wrap (k1 : Int) = (k1 : Int) := by rw [IntKind.wrap_i64]; omega
          have HK0 : Hid (¬ k = 0) := hk0
          have hd1 : ((k : Int) == 0) = false := by simpa using hk0
          have hd2 : decide (0 < k) = true := decide_eq_true (by omega)
          obtain ⟨xe, hxe⟩ : ∃ xe, xe = x.p.e := ⟨_, rfl⟩
          rw [← hxe] at g4
          obtain ⟨t, ht⟩ : ∃ t, t = nextB y x := ⟨_, rfl⟩
          have HBAD : Hid (badO (some y) x = (xe || !t)) := by show _ = _; rw [hxe, ht]; rfl
          have HXE : Hid (xe = x.p.e) := hxe
          have HT : Hid (t = nextB y x) := ht
          clear hy hat' hk0 hk1 hxe ht
          cases xe
          · have cF : ∀ d os, Calls Tryz.prog 116 #[.agg #[.int .i64 y.n, .int .i64 y.p.seq, .int .i64 y.p.time, .bool y.p.f, .bool y.p.e, .bool y.p.k, .string y.p.t], .agg #[.int .i64 x.n, .int .i64 x.p.seq, .int .i64 x.p.time, .bool x.p.f, .bool false, .bool x.p.k, .string x.p.t]] (grow (redrawn w1 d) os) fun e w'' => e = .returned (.bool t) ∧ ∃ p : Regrown, w'' = grow (redrawn w1 p.d) p.os := fun d os =>
              Calls.regrown_of (by
                have h := isNext_any y x (grow (redrawn w1 d) os) hyn
                simp only [Sk.val] at h
                rw [← HT.out, ← HXE.out] at h
                exact h)
            have m0 := cell_regrown e0
            have q0 := cell_regrown p0
            have q1 := cell_regrown p1
            have q2 := cell_regrown p2
            have q3 := cell_regrown p3
            have q4 := cell_regrown p4
            have q5 := cell_regrown p5
            have q6 := cell_regrown p6
            have z0 := cell_regrown g0
            have z1 := cell_regrown g1
            have z2 := cell_regrown g2
            have z3 := cell_regrown g3
            have z4 := cell_regrown g4
            have z5 := cell_regrown g5
            have z6 := cell_regrown g6
            clear p0 p1 p2 p3 p4 p5 p6 g0 g1 g2 g3 g4 g5 g6 e0
            go_wp2
            refine wp_region_quiet_below (by kernel_rfl) (by kernel_rfl) ?_
            repeat (quiet_step (exact cF _ _))
            refine wpQuiet_nil ?_
            intro _ hw'
            obtain ⟨⟨dq, osq⟩, hw''⟩ := hw'
            subst hw''
            have bR := below_regrown w1 dq osq
            obtain ⟨V, hV⟩ : ∃ V, V = grow (redrawn w1 dq) osq := ⟨_, rfl⟩
            rw [← hV] at bR
            have bV : Hid (Below w.heap.size w V) := HB1.out.trans (bR.mono HB1.out.size)
            have kV : Hid (Blk V w.heap.size #[.slice (some ⟨b, off, none⟩) n c] 59) := HBl1.out.below bR HBl1.out.lt
            rw [← hV]
            clear hV bR cF m0 q0 q1 q2 q3 q4 q5 q6 z0 z1 z2 z3 z4 z5 z6
            cases t
            · have hres : r = 4 := by
                rw [hr.out, ogo_at l k (by rw [← HN.out]; exact hlt) HK.out, ← HX.out, ← HY.out, if_neg HK0.out]
                simp only [if_true, ogo, ← HCH.out]
                rw [HBAD.out]; rfl
              go_wp2
              go_ret
              exact ⟨by rw [hres]; rfl, bV.out⟩
            · have HK1 : Hid (ogo none (l.take (k + 1)) = 0) := by
                show _ = _
                rw [ogo_at1 l k (by rw [← HN.out]; exact hlt) HK.out, ← HX.out, ← HY.out, if_neg HK0.out]
                simp only [if_true, ogo, ← HCH.out]
                rw [HBAD.out]; rfl
              go_wp2
              go_roundw
              case rel => exact ⟨k + 1, by omega, by go_num, HK1, kV.out, bV.out⟩
              case measure => simp [intOf]; omega
          · have hres : r = 4 := by
              rw [hr.out, ogo_at l k (by rw [← HN.out]; exact hlt) HK.out, ← HX.out, ← HY.out, if_neg HK0.out]
              simp only [if_true, ogo, ← HCH.out]
              rw [HBAD.out]; rfl
            go_wp2
            go_quiet (fail)
            go_wp2
            go_ret
            exact ⟨by rw [hres]; rfl, below_drewN HB1.out _⟩
      · have hres : r = ch := by
          rw [hr.out, ogo_at l k (by rw [← HN.out]; exact hlt) HK.out, ← HX.out]
          simp only [ogo, ← HCH.out]
          rw [if_neg h0]
        go_wp2
        go_ret
        exact ⟨by rw [hres]; rfl, HB1.out⟩
    · have hkl : k = n := by omega
      subst hkl
      have hres : r = 0 := by
        have := HK.out
        rw [HN.out, List.take_length] at this
        rw [hr.out, this]
      go_wp2
      go_ret
      exact ⟨by rw [hres]; rfl, HB.out⟩

end Go.Proofs.YtnpaejknoipicafGreat

namespace Go.Proofs.YtnpaejknoipicafGreat

theorem ogo_take : ∀ (l : List Sk) (prev : Option Sk) (k : Nat), ogo prev l = 0 → ogo prev (l.take k) = 0
  | [], _, _, _ => by simp [ogo]
  | _ :: _, _, 0, _ => by simp [ogo]
  | y :: r, prev, k + 1, h => by
    rw [List.take_succ_cons]
    by_cases hy : y.chk = 0
    · by_cases h2 : badO prev y = true
      · simp [ogo, hy, h2] at h
      · have h' : ogo (some y) r = 0 := by simpa [ogo, hy, h2] using h
        have := ogo_take r (some y) k h'
        simpa [ogo, hy, h2] using this
    · simp [ogo, hy] at h
theorem ogo_each {l : List Sk} (h : ogo none l = 0) {i : Nat} (hi : i < l.length) : badO (if i = 0 then none else some (l[i - 1]?.getD Sk.zero)) (l[i]?.getD Sk.zero) = false := by
  have h1 := ogo_take l none (i + 1) h
  rw [ogo_at1 l i hi (ogo_take l none i h)] at h1
  cases hb : badO (if i = 0 then none else some (l[i - 1]?.getD Sk.zero)) (l[i]?.getD Sk.zero)
  · rfl
  · by_cases hc : (l[i]?.getD Sk.zero).chk = 0
    · simp [ogo, hc, hb] at h1
    · simp [ogo, hc] at h1
theorem nextB_iff {a x : Sk} : nextB a x = true ↔ x.p.f = false ∧ x.n = a.n + 1 ∧ x.p.time = a.p.time := by
  unfold nextB folB
  simp
/-- of a right builder's slots: the first one alone is First, none is End, each has the number behind the one ahead, and all have one time -/
theorem ogo_facts {l : List Sk} (h : ogo none l = 0) : ∀ i, i < l.length → (l[i]?.getD Sk.zero).p.f = decide (i = 0) ∧ (l[i]?.getD Sk.zero).p.e = false ∧ (l[i]?.getD Sk.zero).p.time = (l[0]?.getD Sk.zero).p.time ∧ (0 < i → (l[i]?.getD Sk.zero).n = (l[i - 1]?.getD Sk.zero).n + 1)
  | 0, hi => by
    have := ogo_each h hi
    rw [if_pos rfl] at this
    simp [badO] at this
    exact ⟨by rw [this.1]; rfl, this.2, rfl, fun h => absurd h (Nat.lt_irrefl _)⟩
  | i + 1, hi => by
    have := ogo_each h hi
    rw [if_neg (by omega)] at this
    simp only [badO, Bool.or_eq_false_iff, Bool.not_eq_false'] at this
    obtain ⟨h1, h2⟩ := this
    obtain ⟨h3, h4, h5⟩ := nextB_iff.1 h2
    have ih := ogo_facts h i (by omega)
    refine ⟨by rw [h3]; rfl, h1, ?_, fun _ => h4⟩
    rw [h5]
    exact ih.2.2.1
/-- the same of all that is open with a slot that follows -/
theorem ogo_more {l : List Sk} (h : ogo none l = 0) {x : Sk} (h0 : 0 < l.length) (hx : nextB (lastSk l) x = true) : ∀ i, i < l.length + 1 →
    ((l ++ [x])[i]?.getD Sk.zero).p.f = decide (i = 0) ∧ ((l ++ [x])[i]?.getD Sk.zero).p.time = ((l ++ [x])[0]?.getD Sk.zero).p.time ∧ (0 < i → ((l ++ [x])[i]?.getD Sk.zero).n = ((l ++ [x])[i - 1]?.getD Sk.zero).n + 1) := by
  intro i hi
  have e0 : (l ++ [x])[0]? = l[0]? := List.getElem?_append_left h0
  by_cases hl : i < l.length
  · have e1 : (l ++ [x])[i]? = l[i]? := List.getElem?_append_left hl
    have e2 : (l ++ [x])[i - 1]? = l[i - 1]? := List.getElem?_append_left (by omega)
    rw [e0, e1, e2]
    have := ogo_facts h i hl
    exact ⟨this.1, this.2.2.1, this.2.2.2⟩
  · have hi' : i = l.length := by omega
    subst hi'
    have e1 : (l ++ [x])[l.length]? = some x := by simp
    have e2 : (l ++ [x])[l.length - 1]? = l[l.length - 1]? := List.getElem?_append_left (by omega)
    rw [e0, e1, e2]
    obtain ⟨h3, h4, h5⟩ := nextB_iff.1 hx
    have := ogo_facts h (l.length - 1) (by omega)
    refine ⟨?_, ?_, fun _ => h4⟩
    · rw [Option.getD_some, h3, decide_eq_false (by omega)]
    · rw [Option.getD_some, h5]
      exact this.2.2.1

end Go.Proofs.YtnpaejknoipicafGreat

namespace Go.Proofs.YtnpaejknoipicafGreat

theorem stepG_out (A : List (List Fr)) (o : List Fr) (f : Fr) : stepG (A, o) f = (A ++ (stepG ([], o) f).1, (stepG ([], o) f).2) := by
  unfold stepG
  simp only
  split <;> simp
def foldG (o : List Fr) (l : List Fr) : List (List Fr) × List Fr := l.foldl stepG ([], o)
theorem foldG_out : ∀ (l : List Fr) (A : List (List Fr)) (o : List Fr), l.foldl stepG (A, o) = (A ++ (foldG o l).1, (foldG o l).2)
  | [], A, o => by simp [foldG]
  | f :: r, A, o => by
    have e : foldG o (f :: r) = r.foldl stepG ((stepG ([], o) f).1, (stepG ([], o) f).2) := rfl
    rw [e, foldG_out r, List.foldl_cons, stepG_out, foldG_out r]
    simp
theorem groupsE_zero {l : List Fr} : groupsE l = 0 ↔ l.length ≤ 100 ∧ ∀ k, k < l.length → (frAt l k).chk = 0 := by
  unfold groupsE
  by_cases h : 100 < l.length
  · rw [if_pos h]
    exact ⟨fun h2 => (by cases h2), fun h2 => (by omega)⟩
  · rw [if_neg h]
    exact ⟨fun h2 => ⟨by omega, fun k hk => goN_zero _ _ h2 k (Nat.zero_le _) (by omega)⟩, fun h2 => goN_all _ _ (fun j _ hj => h2.2 j (by omega))⟩
theorem frAt_append (l m : List Fr) (k : Nat) : frAt (l ++ m) k = if k < l.length then frAt l k else frAt m (k - l.length) := by
  unfold frAt
  split
  · rename_i h; rw [List.getElem?_append_left h]
  · rename_i h; rw [List.getElem?_append_right (by omega)]
theorem groupsE_append {l m : List Fr} (h1 : groupsE l = 0) (h2 : groupsE m = 0) (h : l.length + m.length ≤ 100) : groupsE (l ++ m) = 0 := by
  rw [groupsE_zero] at *
  refine ⟨by rw [List.length_append]; exact h, fun k hk => ?_⟩
  rw [List.length_append] at hk
  rw [frAt_append]
  split
  · exact h1.2 k (by assumption)
  · exact h2.2 _ (by omega)
theorem upG_fold (l : List Fr) : upG l l.length = foldG [] l := by unfold upG foldG; rw [List.take_length]
/-- where the second row begins with a whole one, nothing of what was ahead matters, but that it is closed -/
theorem upG_append (l : List Fr) (f : Fr) (r : List Fr) (hf : f.key = true) : upG (l ++ f :: r) (l ++ f :: r).length = ((upG l l.length).1 ++ (if 0 < (upG l l.length).2.length then [(upG l l.length).2] else []) ++ (upG (f :: r) (f :: r).length).1, (upG (f :: r) (f :: r).length).2) := by
  rw [upG_fold, upG_fold, upG_fold]
  have e1 : foldG [] (l ++ f :: r) = (f :: r).foldl stepG (foldG [] l) := by unfold foldG; rw [List.foldl_append]
  rw [e1]
  obtain ⟨A, o⟩ : List (List Fr) × List Fr := foldG [] l
  have e2 : ∀ o', growG o' f = [f] := fun o' => by unfold growG; rw [if_pos hf]
  have e3 : foldG [] (f :: r) = foldG [f] r := by
    unfold foldG
    rw [List.foldl_cons]
    congr 1
    unfold stepG
    simp [hf, e2]
  rw [e3, List.foldl_cons]
  have e4 : stepG (A, o) f = (A ++ (if 0 < o.length then [o] else []), [f]) := by
    unfold stepG
    simp only [hf, Bool.true_and, e2]
    by_cases h0 : 0 < o.length
    · rw [if_pos (decide_eq_true h0), if_pos h0]
    · rw [if_neg (by rw [decide_eq_true_eq]; exact h0), if_neg h0]; simp
  rw [e4, foldG_out]

end Go.Proofs.YtnpaejknoipicafGreat

namespace Go.Proofs.YtnpaejknoipicafGreat

theorem gchk_one {f : Fr} (h : f.chk = 0) (hk : f.key = true) : gchk [f] = 0 := by
  refine gchk_zero.2 ⟨by simp, by simp, fun k hk' => ?_⟩
  have : k = 0 := by simpa using hk'
  subst this
  exact ⟨h, by unfold inPl; rw [if_pos rfl]; exact hk⟩
theorem gchk_snoc {o : List Fr} {f : Fr} (ho : gchk o = 0) (h6 : o.length < 6) (h : f.chk = 0) (hk : f.key = false) (ht : (frAt o (o.length - 1)).time ≤ f.time) : gchk (o ++ [f]) = 0 := by
  obtain ⟨h1, _, h3⟩ := gchk_zero.1 ho
  refine gchk_zero.2 ⟨by simp, by simp; omega, fun k hk' => ?_⟩
  simp at hk'
  by_cases hl : k < o.length
  · have e : frAt (o ++ [f]) k = frAt o k := by rw [frAt_append, if_pos hl]
    have := h3 k hl
    rw [e]
    refine ⟨this.1, ?_⟩
    have h2 := this.2
    unfold inPl at h2 ⊢
    rw [e]
    by_cases h0 : k = 0
    · rw [if_pos h0] at h2 ⊢; exact h2
    · rw [if_neg h0] at h2 ⊢
      rw [frAt_append, if_pos (by omega)]; exact h2
  · have e0 : k = o.length := by omega
    subst e0
    have e : frAt (o ++ [f]) o.length = f := by rw [frAt_append, if_neg (by omega)]; simp [frAt]
    rw [e]
    refine ⟨h, ?_⟩
    unfold inPl
    rw [if_neg (by omega), e, hk, frAt_append, if_pos (by omega)]
    simp [ht]
def RightG (s : List (List Fr) × List Fr) : Prop := (∀ g ∈ s.1, gchk g = 0) ∧ (s.2 = [] ∨ gchk s.2 = 0)
theorem stepG_right {s : List (List Fr) × List Fr} {f : Fr} (h : RightG s) (hf : f.chk = 0) : RightG (stepG s f) := by
  obtain ⟨A, o⟩ := s
  obtain ⟨h1, h2⟩ := h
  simp only at h1 h2
  constructor
  · simp only [stepG]
    split
    · rename_i hc
      simp only [Bool.and_eq_true, decide_eq_true_eq] at hc
      intro g hg
      rcases List.mem_append.1 hg with hg | hg
      · exact h1 g hg
      · simp at hg; subst hg
        rcases h2 with h2 | h2
        · rw [h2] at hc; simp at hc
        · exact h2
    · exact h1
  · simp only [stepG]
    unfold growG
    split
    · rename_i hk; right; exact gchk_one hf hk
    · split
      · exact h2
      · rename_i hk hc
        right
        rcases h2 with h2 | h2
        · rw [h2] at hc; simp at hc
        · exact gchk_snoc h2 (by omega) hf (by simpa using hk) (by omega)
theorem fold_right : ∀ (l : List Fr) (s : List (List Fr) × List Fr), RightG s → (∀ f ∈ l, f.chk = 0) → RightG (l.foldl stepG s)
  | [], _, h, _ => h
  | f :: r, s, h, hl => fold_right r (stepG s f) (stepG_right h (hl f List.mem_cons_self)) (fun x hx => hl x (List.mem_cons_of_mem _ hx))
theorem upG_right {l : List Fr} (h : groupsE l = 0) : RightG (upG l l.length) := by
  rw [upG_fold]
  refine fold_right l ([], []) ⟨fun g hg => absurd hg List.not_mem_nil, .inl rfl⟩ (fun f hf => ?_)
  obtain ⟨k, hk, rfl⟩ := List.getElem_of_mem hf
  have := (groupsE_zero.1 h).2 k hk
  unfold frAt at this
  rw [List.getElem?_eq_getElem hk] at this
  exact this
/-- some of what came, in order; each whole one is there -/
inductive SubF : List Fr → List Fr → Prop
  | nil {l : List Fr} : (∀ f ∈ l, f.key = false) → SubF [] l
  | take {f : Fr} {X l : List Fr} : SubF X l → SubF (f :: X) (f :: l)
  | skip {f : Fr} {X l : List Fr} : f.key = false → SubF X l → SubF X (f :: l)
theorem SubF.drop {f : Fr} (hf : f.key = false) : ∀ {l X : List Fr}, SubF (f :: X) l → SubF X l
  | [], _, h => by cases h
  | g :: l, X, h => by
    cases h with
    | take h => exact .skip hf h
    | skip h1 h2 => exact .skip h1 (SubF.drop hf h2)
theorem SubF.hit {f : Fr} {X l : List Fr} (h : SubF (f :: X) (f :: l)) : SubF X l := by
  cases h with
  | take h => exact h
  | skip h1 h2 => exact SubF.drop h1 h2
theorem SubF.miss {f g : Fr} {X l : List Fr} (h : SubF (f :: X) (g :: l)) (hne : ¬ g = f) : g.key = false ∧ SubF (f :: X) l := by
  cases h with
  | take h => exact absurd rfl hne
  | skip h1 h2 => exact ⟨h1, h2⟩
theorem SubF.none {l : List Fr} (h : SubF [] l) : ∀ f ∈ l, f.key = false := by
  induction l with
  | nil => intro f hf; cases hf
  | cons g r ih =>
    cases h with
    | nil h => exact h
    | skip h1 h2 =>
      intro f hf
      rcases List.mem_cons.1 hf with rfl | hf
      · exact h1
      · exact ih h2 f hf
def flatG (s : List (List Fr) × List Fr) : List Fr := s.1.flatten ++ s.2
theorem flat_step (s : List (List Fr) × List Fr) (f : Fr) : flatG (stepG s f) = flatG s ++ [f] ∨ (f.key = false ∧ flatG (stepG s f) = flatG s) := by
  obtain ⟨A, o⟩ := s
  unfold flatG stepG
  simp only
  cases hk : f.key
  · unfold growG
    rw [hk]
    simp only [Bool.false_and, Bool.false_eq_true, if_false]
    split
    · right; simp
    · left; simp
  · left
    unfold growG
    rw [hk]
    simp only [Bool.true_and, if_true]
    cases o with
    | nil => simp
    | cons x r => simp
theorem flat_fold : ∀ (l : List Fr) (s : List (List Fr) × List Fr), ∃ Y, flatG (l.foldl stepG s) = flatG s ++ Y ∧ SubF Y l
  | [], s => ⟨[], by simp, .nil (fun f hf => absurd hf List.not_mem_nil)⟩
  | f :: r, s => by
    obtain ⟨Y, h1, h2⟩ := flat_fold r (stepG s f)
    rcases flat_step s f with h | ⟨hk, h⟩
    · exact ⟨f :: Y, by rw [List.foldl_cons, h1, h]; simp, .take h2⟩
    · exact ⟨Y, by rw [List.foldl_cons, h1, h], .skip hk h2⟩
theorem upG_sub (l : List Fr) : SubF (flatG (upG l l.length)) l := by
  rw [upG_fold]
  obtain ⟨Y, h1, h2⟩ := flat_fold l ([], [])
  unfold foldG
  rw [h1]
  exact h2

end Go.Proofs.YtnpaejknoipicafGreat

namespace Go.Proofs.YtnpaejknoipicafGreat

abbrev grAt (L : List (List Fr)) (k : Nat) : List Fr := L[k]?.getD []
/-- bytes of groups -/
def sumG (L : List (List Fr)) : Nat := (L.map gsize).sum
/-- too many bytes? -/
def tooB (L : List (List Fr)) : Bool := decide (1 < L.length) && decide (100 < sumG L)
/-- too many, or too much -/
def fullB (L : List (List Fr)) : Bool := decide (5 < L.length) || tooB L
/-- what Check says of a store -/
def stchk (first : Int) (L : List (List Fr)) (O : List Fr) : Int :=
  if first < 0 then 3 else if 100000 < first then 3 else if 5 < L.length then 2 else
    if goN (fun k => gchk (grAt L k)) L.length 0 = 0 then (if tooB L then 2 else if 0 < O.length then gchk O else 0) else goN (fun k => gchk (grAt L k)) L.length 0

theorem gsize_le (g : List Fr) : gsize g ≤ 192 := by
  unfold gsize
  by_cases h : gchk g = 0
  · rw [if_pos h]
    obtain ⟨_, h2, h3⟩ := gchk_zero.1 h
    have := szG_le (l := g) (fun k hk => fr_szP (h3 k hk).1) g.length (Nat.le_refl _)
    rw [List.take_length] at this
    omega
  · rw [if_neg h]; omega
theorem sumG_take (L : List (List Fr)) (k : Nat) (hk : k < L.length) : sumG (L.take (k + 1)) = sumG (L.take k) + gsize (grAt L k) := by
  unfold sumG
  rw [take_one hk [], List.map_append, List.sum_append]; simp
theorem sumG_le (L : List (List Fr)) : ∀ k, k ≤ L.length → sumG (L.take k) ≤ k * 192
  | 0, _ => by simp [sumG]
  | k + 1, hk => by
    rw [sumG_take L k (by omega)]
    have := sumG_le L k (by omega)
    have := gsize_le (grAt L k)
    omega
theorem stchk_zero {first : Int} {L : List (List Fr)} {O : List Fr} : stchk first L O = 0 ↔ 0 ≤ first ∧ first ≤ 100000 ∧ L.length ≤ 5 ∧ (∀ g ∈ L, gchk g = 0) ∧ tooB L = false ∧ (O = [] ∨ gchk O = 0) := by
  unfold stchk
  by_cases h1 : first < 0
  · rw [if_pos h1]; constructor
    · intro h; cases h
    · intro h; omega
  rw [if_neg h1]
  by_cases h2 : 100000 < first
  · rw [if_pos h2]; constructor
    · intro h; cases h
    · intro h; omega
  rw [if_neg h2]
  by_cases h3 : 5 < L.length
  · rw [if_pos h3]; constructor
    · intro h; cases h
    · intro h; omega
  rw [if_neg h3]
  have hall : goN (fun k => gchk (grAt L k)) L.length 0 = 0 ↔ ∀ g ∈ L, gchk g = 0 := by
    constructor
    · intro h g hg
      obtain ⟨k, hk, e⟩ := List.mem_iff_getElem.1 hg
      have := goN_zero _ _ h k (Nat.zero_le _) (by omega)
      rw [show grAt L k = g by simp [grAt, List.getElem?_eq_getElem hk, e]] at this
      exact this
    · intro h
      refine goN_all _ _ (fun j _ hj => h _ ?_)
      have hj' : j < L.length := by omega
      rw [show grAt L j = L[j] by simp [grAt, List.getElem?_eq_getElem hj']]
      exact List.getElem_mem _
  by_cases h4 : goN (fun k => gchk (grAt L k)) L.length 0 = 0
  · rw [if_pos h4]
    have h5 := hall.1 h4
    cases h6 : tooB L
    · simp only [Bool.false_eq_true, if_false]
      by_cases h7 : 0 < O.length
      · rw [if_pos h7]
        have hne : ¬ O = [] := fun e => by rw [e] at h7; simp at h7
        constructor
        · intro h; exact ⟨by omega, by omega, by omega, h5, trivial, .inr h⟩
        · rintro ⟨_, _, _, _, _, h | h⟩
          · exact absurd h hne
          · exact h
      · rw [if_neg h7]
        have he : O = [] := List.eq_nil_of_length_eq_zero (by omega)
        exact ⟨fun _ => ⟨by omega, by omega, by omega, h5, trivial, .inl he⟩, fun _ => rfl⟩
    · simp only [if_true]
      constructor
      · intro h; cases h
      · rintro ⟨_, _, _, _, h, _⟩; cases h
  · rw [if_neg h4]
    constructor
    · intro h; exact absurd h h4
    · rintro ⟨_, _, _, h, _⟩; exact absurd (hall.2 h) h4

end Go.Proofs.YtnpaejknoipicafGreat

namespace Go.Proofs.YtnpaejknoipicafGreat
open Go.RowKit

set_option maxHeartbeats 4000000 in
theorem areTooGreat_any (S : Nat → Prop) (v : Value) (L : List (List Fr)) (w : World) (hv : GrsIn S w v L) (hL : L.length ≤ 1000) :
    Calls Tryz.prog 85 #[v] w fun e w' => e = .returned (.bool (tooB L)) ∧ Below w.heap.size w w' := by
  obtain ⟨ao, c, hva, h1, h2, hc⟩ := hv
  obtain ⟨n, hn⟩ : ∃ n, n = L.length := ⟨_, rfl⟩
  have HN : Hid (n = L.length) := hn
  have HC : Hid (∀ k, k < L.length → ∃ b off, ao = some ⟨b, off, none⟩ ∧ b < w.heap.size ∧ S b ∧ ∃ sv, w.cell? ⟨b, off + k, none⟩ = some sv ∧ FrsIn S w sv (L[k]?.getD [])) := hc
  rw [← hn] at hva h1 hL
  obtain ⟨T, hT⟩ : ∃ T, T = tooB L := ⟨_, rfl⟩
  have HT : Hid (T = tooB L) := hT
  rw [← hT]
  clear hc hn hT
  subst hva
  go_enter Tryz.func85, Tryz.ntmps85
  go_wp2_with fail
  go_loopw [3, 10] (fun s i wr => ∃ k y : Nat, k ≤ n ∧ i = .int .i64 k ∧ s = .int .i64 y ∧ Hid (y = sumG (L.take k)) ∧ Hid (y ≤ k * 192) ∧ Hid (Below w.heap.size w wr))
    (fun _ i _ => n - (intOf i).toNat)
  case atStart => exact ⟨0, 0, Nat.zero_le _, rfl, rfl, (show 0 = sumG [] from rfl), (show 0 ≤ 0 from Nat.le_refl _), Below.refl _ _⟩
  case round =>
    obtain ⟨k, y, hk, rfl, rfl, HY, HYL, HB⟩ := hrel
    by_cases hlt : k < n
    · obtain ⟨b, off, rfl, hb, _, sv, c0, hs⟩ := HC.out k (by rw [← HN.out]; exact hlt)
      obtain ⟨g, hg⟩ : ∃ g, g = L[k]?.getD [] := ⟨_, rfl⟩
      rw [← hg] at hs
      have c1 := (HB.out.cell (p := ⟨b, off + k, none⟩) hb).trans c0
      obtain ⟨sa, sc, esv, _, _⟩ := hs.len
      obtain ⟨gn, hgn⟩ : ∃ gn, gn = g.length := ⟨_, rfl⟩
      rw [← hgn] at esv
      obtain ⟨z, hz⟩ : ∃ z : Nat, z = gsize g := ⟨_, rfl⟩
      obtain ⟨e, he⟩ : ∃ e, e = gchk g := ⟨_, rfl⟩
      have HS : Hid (∀ U, Below w.heap.size w U → Calls Tryz.prog 129 #[.agg #[sv]] U fun e' w'' => e' = .returned (.tuple #[.int .i64 z, .int .i64 e]) ∧ Below U.heap.size U w'') := fun U hU => by
        rw [hz, he]; exact groupSize_any S sv g U (hs.below hU)
      have HY2 : Hid (y + z = sumG (L.take (k + 1))) := by show _ = _; rw [sumG_take L k (by rw [← HN.out]; exact hlt), HY.out, hz, hg]
      have hz2 : z ≤ 192 := by rw [hz]; exact gsize_le g
      have hyl := HYL.out
      have hlti : (k : Int) < (n : Int) := by omega
      clear hs hg hgn hz he c0
      subst esv
      go_wp2_with fail
      have B1 : Hid (Below w.heap.size w (wr.alloc (.cells #[.slice sa gn sc] 25))) := HB.out.alloc HB.out.size _
      refine (HS.out _ B1.out).mono ?_
      rintro e' w2 ⟨rfl, hb2⟩
      have B2 : Hid (Below w.heap.size w w2) := B1.out.trans (hb2.mono B1.out.size)
      clear hb2 c1
      go_wp2_with fail
      go_roundw
      case rel => exact ⟨k + 1, y + z, by omega, by go_num, by go_num, HY2, (show _ ≤ _ by omega), B2⟩
      case measure => simp [intOf]; omega
    · have hkl : k = n := by omega
      subst hkl
      have hy : y = sumG L := by rw [HY.out, HN.out, List.take_length]
      have hT : T = (decide (1 < k) && decide (100 < y)) := by rw [HT.out, hy]; unfold tooB; rw [← HN.out]
      clear hy
      by_cases h1 : 1 < k
      · have h1i : (1 : Int) < (k : Int) := by omega
        by_cases h2 : 100 < y
        · have h2i : (100 : Int) < (y : Int) := by omega
          have hT2 : T = true := by rw [hT]; simp [h1, h2]
          go_wp2
          go_ret
          exact ⟨by first | rfl | (rw [hT2]; rfl), HB.out⟩
        · have h2i : ¬ (100 : Int) < (y : Int) := by omega
          have hT2 : T = false := by rw [hT]; simp [h1, h2]
          go_wp2
          go_ret
          exact ⟨by first | rfl | (rw [hT2]; rfl), HB.out⟩
      · have h1i : ¬ (1 : Int) < (k : Int) := by omega
        have hT2 : T = false := by rw [hT]; simp [h1]
        go_wp2
        go_ret
        exact ⟨by first | rfl | (rw [hT2]; rfl), HB.out⟩

set_option maxHeartbeats 4000000 in
theorem storeCheck_any (S : Nat → Prop) (first : Int) (gv ov : Value) (L : List (List Fr)) (O : List Fr) (w : World) (hg : GrsIn S w gv L) (ho : FrsIn S w ov O) :
    Calls Tryz.prog 34 #[.agg #[.int .i64 first, gv, ov]] w fun e w' => e = .returned (.int .i64 (stchk first L O)) ∧ Below w.heap.size w w' := by
  have HG : Hid (GrsIn S w gv L) := hg
  have HO : Hid (FrsIn S w ov O) := ho
  obtain ⟨ao, c, hva, h1, h2, hc⟩ := hg
  obtain ⟨oa, oc, eo, _, hol⟩ := ho.len
  obtain ⟨n, hn⟩ : ∃ n, n = L.length := ⟨_, rfl⟩
  obtain ⟨m, hm⟩ : ∃ m, m = O.length := ⟨_, rfl⟩
  have HN : Hid (n = L.length) := hn
  have HC : Hid (∀ k, k < L.length → ∃ b off, ao = some ⟨b, off, none⟩ ∧ b < w.heap.size ∧ S b ∧ ∃ sv, w.cell? ⟨b, off + k, none⟩ = some sv ∧ FrsIn S w sv (L[k]?.getD [])) := hc
  rw [← hn] at hva h1
  rw [← hm] at eo hol
  obtain ⟨E, hE⟩ : ∃ E, E = stchk first L O := ⟨_, rfl⟩
  have HE : Hid (E = if first < 0 then 3 else if 100000 < first then 3 else if 5 < n then 2 else
    if goN (fun k => gchk (grAt L k)) n 0 = 0 then (if tooB L then 2 else if 0 < m then gchk O else 0) else goN (fun k => gchk (grAt L k)) n 0) := by show _ = _; rw [hE, hn, hm]; rfl
  rw [← hE]
  clear hc hn hm hE ho
  subst hva eo
  by_cases f1 : first < 0
  · have e : E = 3 := by rw [HE.out, if_pos f1]
    rw [e]
    go_enter Tryz.func34, Tryz.ntmps34
    go_wp2
    go_ret
    exact ⟨rfl, (Below.refl _ _).alloc (Nat.le_refl _) _⟩
  by_cases f2 : 100000 < first
  · have e : E = 3 := by rw [HE.out, if_neg f1, if_pos f2]
    rw [e]
    go_enter Tryz.func34, Tryz.ntmps34
    go_wp2
    go_ret
    exact ⟨rfl, (Below.refl _ _).alloc (Nat.le_refl _) _⟩
  by_cases f3 : 5 < n
  · have e : E = 2 := by rw [HE.out, if_neg f1, if_neg f2, if_pos f3]
    have f3i : (5 : Int) < (n : Int) := by omega
    rw [e]
    go_enter Tryz.func34, Tryz.ntmps34
    go_wp2
    go_ret
    exact ⟨rfl, (Below.refl _ _).alloc (Nat.le_refl _) _⟩
  have f3i : ¬ (5 : Int) < (n : Int) := by omega
  have HE2 : Hid (E = if goN (fun k => gchk (grAt L k)) n 0 = 0 then (if tooB L then 2 else if 0 < m then gchk O else 0) else goN (fun k => gchk (grAt L k)) n 0) := by show _ = _; rw [HE.out, if_neg f1, if_neg f2, if_neg f3]
  clear HE
  go_enter Tryz.func34, Tryz.ntmps34
  go_wp2_with fail
  go_loopw [21] (fun i wr => ∃ k : Nat, k ≤ n ∧ i = .int .i64 k ∧ Hid (∀ j, j < k → gchk (grAt L j) = 0) ∧ Hid (Blk wr w.heap.size #[.int .i64 first, .slice ao n c, .slice oa m oc] 27) ∧ Hid (Below w.heap.size w wr))
    (fun i _ => n - (intOf i).toNat)
  case atStart => exact ⟨0, Nat.zero_le _, rfl, (show ∀ j, _ → _ from fun j hj => absurd hj (Nat.not_lt_zero _)), Blk.new _ _ _, (Below.refl _ _).alloc (Nat.le_refl _) _⟩
  case round =>
    obtain ⟨k, hk, rfl, HK, KB, HB⟩ := hrel
    by_cases hlt : k < n
    · obtain ⟨b, off, rfl, hb, _, sv, c0, hs⟩ := HC.out k (by rw [← HN.out]; exact hlt)
      obtain ⟨g, hg⟩ : ∃ g, g = grAt L k := ⟨_, rfl⟩
      rw [show L[k]?.getD [] = g from hg.symm] at hs
      have c1 := (HB.out.cell (p := ⟨b, off + k, none⟩) hb).trans c0
      obtain ⟨sa, sc, esv, _, _⟩ := hs.len
      obtain ⟨gn, hgn⟩ : ∃ gn, gn = g.length := ⟨_, rfl⟩
      rw [← hgn] at esv
      obtain ⟨e, he⟩ : ∃ e, e = gchk g := ⟨_, rfl⟩
      have HS : Hid (∀ U, Below w.heap.size w U → Calls Tryz.prog 84 #[.agg #[sv]] U fun e' w'' => e' = .returned (.int .i64 e) ∧ Below U.heap.size U w'') := fun U hU => by
        rw [he]; exact groupCheck_any S sv g U (hs.below hU)
      have hlti : (k : Int) < (n : Int) := by omega
      have HGE : Hid (e = gchk (grAt L k)) := by show _ = _; rw [he, hg]
      clear hs hg hgn he c0
      subst esv
      go_wp2_with fail
      have B1 : Hid (Below w.heap.size w (wr.alloc (.cells #[.slice sa gn sc] 25))) := HB.out.alloc HB.out.size _
      have K1 : Hid (Blk (wr.alloc (.cells #[.slice sa gn sc] 25)) w.heap.size #[.int .i64 first, .slice (some ⟨b, off, none⟩) n c, .slice oa m oc] 27) := KB.out.alloc _
      refine (HS.out _ B1.out).mono ?_
      rintro e' w2 ⟨rfl, hb2⟩
      have B2 : Hid (Below w.heap.size w w2) := B1.out.trans (hb2.mono B1.out.size)
      have K2 : Hid (Blk w2 w.heap.size #[.int .i64 first, .slice (some ⟨b, off, none⟩) n c, .slice oa m oc] 27) := K1.out.below hb2 K1.out.lt
      clear hb2 c1 K1 B1 KB HB
      by_cases he0 : e = 0
      · have HK2 : Hid (∀ j, j < k + 1 → gchk (grAt L j) = 0) := fun j hj => by
          by_cases e' : j = k
          · subst e'; rw [← HGE.out]; exact he0
          · exact HK.out j (by omega)
        clear HGE
        subst he0
        go_wp2_with fail
        go_roundw
        case rel => exact ⟨k + 1, by omega, by go_num, HK2, K2, B2⟩
        case measure => simp [intOf]; omega
      · have hE : E = e := by
          have hh := goN_hit (e := fun k => gchk (grAt L k)) n 0 k (Nat.zero_le _) (by omega) (fun j _ hj => HK.out j hj) (by show ¬ gchk (grAt L k) = 0; rw [← HGE.out]; exact he0)
          change goN (fun k => gchk (grAt L k)) n 0 = gchk (grAt L k) at hh
          rw [← HGE.out] at hh
          rw [HE2.out, hh, if_neg he0]
        have HEE : Hid (E = e) := hE
        clear hE
        go_wp2
        go_ret
        exact ⟨by rw [HEE.out]; rfl, B2.out⟩
    · have hkl : k = n := by omega
      subst hkl
      have hz : goN (fun k => gchk (grAt L k)) k 0 = 0 := goN_all _ _ (fun j _ hj => HK.out j (by omega))
      have HE3 : Hid (E = if tooB L then 2 else if 0 < m then gchk O else 0) := by show _ = _; rw [HE2.out, if_pos hz]
      obtain ⟨T, hT⟩ : ∃ T, T = tooB L := ⟨_, rfl⟩
      have HTG : Hid (∀ U, Below w.heap.size w U → Calls Tryz.prog 85 #[.slice ao k c] U fun e' w'' => e' = .returned (.bool T) ∧ Below U.heap.size U w'') := fun U hU => by
        rw [hT]; exact areTooGreat_any S _ L U (HG.out.below hU) (by rw [← HN.out]; omega)
      have HE4 : Hid (E = if T then 2 else if 0 < m then gchk O else 0) := by show _ = _; rw [hT]; exact HE3.out
      clear hz hT HE3 HE2
      obtain ⟨k0, k1, k2⟩ := KB.out.three
      go_wp2_with fail
      refine (HTG.out _ HB.out).mono ?_
      rintro e' w2 ⟨rfl, hb2⟩
      have B2 : Hid (Below w.heap.size w w2) := HB.out.trans (hb2.mono HB.out.size)
      obtain ⟨j0, j1, j2⟩ := (KB.out.below hb2 KB.out.lt).three
      clear hb2 k0 k1 k2
      cases T
      case true =>
        have HEE : Hid (E = 2) := HE4.out
        go_wp2
        go_ret
        exact ⟨by rw [HEE.out]; rfl, B2.out⟩
      case false =>
        by_cases hm0 : 0 < m
        · have hm0i : (0 : Int) < (m : Int) := by omega
          have HEO : Hid (E = gchk O) := by show _ = _; rw [HE4.out]; simp [hm0]
          go_wp2_with fail
          refine (groupCheck_any S _ O _ (HO.out.below B2.out)).mono ?_
          rintro e' w3 ⟨rfl, hb3⟩
          rw [← HEO.out]
          have B3 : Hid (Below w.heap.size w w3) := B2.out.trans (hb3.mono B2.out.size)
          clear hb3 j0 j1 j2
          go_wp2
          go_ret
          exact ⟨rfl, B3.out⟩
        · have hm0i : ¬ (0 : Int) < (m : Int) := by omega
          have HEE : Hid (E = 0) := by show _ = _; rw [HE4.out]; simp [hm0]
          go_wp2
          go_ret
          exact ⟨by rw [HEE.out]; rfl, B2.out⟩

end Go.Proofs.YtnpaejknoipicafGreat

namespace Go.Proofs.YtnpaejknoipicafGreat
open Go.RowKit

/-- new blocks, but a row's own -/
def NS (base : Nat) (u : Value) : Nat → Prop := fun g => base ≤ g ∧ some g ≠ u.ownBlock

/-- one more frame behind a row of the call's own -/
theorem fr_snoc {base : Nat} {w : World} {u pv : Value} {l : List Fr} {f : Fr} (h : OwnFrs base (NS base u) w u l) (hp : StrsIn (NS base u) w pv f.parts) (hl : l.length ≤ 999) (hb : base ≤ w.heap.size) :
    ∃ v' w', (Builtin.append_ #[23, 23] 23 #[u, .slice (some ⟨w.heap.size, 0, none⟩) 1 1]).run Tryz.prog (w.alloc (.cells #[.int .i64 f.time, .bool f.key, pv] 30)) = .ok v' w' ∧ OwnFrs base (NS base v') w' v' (l ++ [f]) ∧ Below base w w' := by
  obtain ⟨i0, hi, hz0, hz1, hz2⟩ := info_parts Tryz.infoFrm
  have h1 : OwnFrs base (fun g => NS base u g ∧ g < w.heap.size) (w.alloc (.cells #[.int .i64 f.time, .bool f.key, pv] 30)) u l := (h.to (SameOn.refl _ _) (fun g hg hs => ⟨hs, hg⟩) (fun _ _ => rfl)).below ((Below.refl _ w).alloc (Nat.le_refl _) _)
  have hp1 : StrsIn (fun g => NS base u g ∧ g < w.heap.size) (w.alloc (.cells #[.int .i64 f.time, .bool f.key, pv] 30)) pv f.parts := (hp.mono fun g hg hs => ⟨hs, hg⟩).alloc _
  obtain ⟨ps, p1, p2, p3⟩ := h1
  have hps : ps.length = l.length := by rw [← p1, List.length_map]
  obtain ⟨pa, pc, ep⟩ := hp.1.len
  obtain ⟨v', w', r, o, g, dd⟩ := run_append_any (P := Tryz.prog) (w.alloc (.cells #[.int .i64 f.time, .bool f.key, pv] 30)) base 23 23 30 i0 _ 3 40 Tryz.underlying23 hi hz0 hz1 hz2 rfl (by decide) u ps.length (frCells ps) p2 1 [.int .i64 f.time, .bool f.key, pv] (.slice (some ⟨w.heap.size, 0, none⟩) 1 1) (Sl.new w #[.int .i64 f.time, .bool f.key, pv] 30 1 3 1 rfl) (fun x hx => by simp at hx; rcases hx with rfl | rfl | rfl; rfl; rfl; rw [ep]; rfl) (by unfold maxLen; omega) (by omega) (by simp; omega)
  have o1 := OwnFrs.snoc p1 p3 hp1 o g (fun g hg => hg.1.2)
  refine ⟨v', w', r, o1.to (SameOn.refl _ _) (fun g _ hg => ⟨hg.1.1, fun e => ?_⟩) (fun _ _ => rfl), ((Below.refl base w).alloc hb _).grown g (by simp; omega) (fun j hj => (p2.lt j hj).1)⟩
  rcases dd with d | d
  · rw [d] at e; exact hg.1.2 e
  · have := d g e.symm; simp at this; omega
/-- one more group behind a row of the call's own -/
theorem gr_snoc {base : Nat} {w : World} {u sv : Value} {L : List (List Fr)} {g : List Fr} (h : OwnGrs base (NS base u) w u L) (hp : FrsIn (NS base u) w sv g) (hl : L.length ≤ 999) (hb : base ≤ w.heap.size) :
    ∃ v' w', (Builtin.append_ #[22, 22] 22 #[u, .slice (some ⟨w.heap.size, 0, none⟩) 1 1]).run Tryz.prog (w.alloc (.cells #[sv] 25)) = .ok v' w' ∧ OwnGrs base (NS base v') w' v' (L ++ [g]) ∧ Below base w w' := by
  have h1 : OwnGrs base (fun g => NS base u g ∧ g < w.heap.size) (w.alloc (.cells #[sv] 25)) u L := (h.to (SameOn.refl _ _) (fun g hg hs => ⟨hs, hg⟩) (fun _ _ => rfl)).below ((Below.refl _ w).alloc (Nat.le_refl _) _)
  obtain ⟨v', w', r, o, gr, dd⟩ := groups_app (qs := [(g, sv)]) h1 rfl (Sl.new w #[sv] 25 1 1 1 rfl) (fun p hp' => by
    simp at hp'; subst hp'
    exact ((hp.mono (S' := fun g => NS base u g ∧ g < w.heap.size) fun g hg hs => ⟨hs, hg⟩).alloc _)) (fun g hg => hg.1.2) (by simp; omega) (by simp; omega)
  refine ⟨v', w', r, o.to (SameOn.refl _ _) (fun g _ hg => ⟨hg.1.1, fun e => ?_⟩) (fun _ _ => rfl), ((Below.refl base w).alloc hb _).grown gr (by simp; omega) (fun j hj => (h.lt j hj).1)⟩
  rcases dd with d | d
  · rw [d] at e; exact hg.1.2 e
  · have := d g e.symm; simp at this; omega

set_option maxHeartbeats 4000000 in
set_option maxRecDepth 100000 in
theorem cloneFrs_any (S : Nat → Prop) (v : Value) (l : List Fr) (w : World) (hv : FrsIn S w v l) (hlen : l.length ≤ 6) (hck : ∀ k, k < l.length → (frAt l k).chk = 0) :
    Calls Tryz.prog 102 #[v, .func (.func 103) #[] #[]] w fun e w' => ∃ u, e = .returned u ∧ OwnFrs w.heap.size (NS w.heap.size u) w' u l ∧ Below w.heap.size w w' := by
  obtain ⟨ao, c, hva, h1, h2, hc⟩ := hv
  obtain ⟨n, hn⟩ : ∃ n, n = l.length := ⟨_, rfl⟩
  have HN : Hid (n = l.length) := hn
  have HC : Hid (∀ k, k < l.length → ∃ b off, ao = some ⟨b, off, none⟩ ∧ b < w.heap.size ∧ S b ∧ At3In S w b (off + k * 3) (l[k]?.getD Fr.zero)) := hc
  have H8 : Hid (∀ k, k < l.length → (frAt l k).chk = 0) := hck
  have eg : Enters Tryz.prog 103 := enters_of Tryz.func103 (by kernel_rfl) rfl
  have eg' : ∀ (args : Array Value) (w : World), (callFunc 103 args).run Tryz.prog w = .ok (.enter 103 args) w := eg
  rw [← hn] at hva hlen h1
  clear hc hn hck eg
  subst hva
  go_enter Tryz.func102, Tryz.ntmps102
  go_wp2_with fail
  go_loopw [5, 10] (fun u i wr => ∃ k : Nat, k ≤ n ∧ i = .int .i64 k ∧ Hid (OwnFrs w.heap.size (NS w.heap.size u) wr u (l.take k)) ∧ Hid (Below w.heap.size w wr))
    (fun _ i _ => n - (intOf i).toNat)
  case atStart => exact ⟨0, Nat.zero_le _, rfl, OwnFrs.nil _ _ _, Below.refl _ _⟩
  case round =>
    obtain ⟨k, hk, rfl, HO, HB⟩ := hrel
    by_cases hlt : k < n
    · obtain ⟨b, off, rfl, hb, _, pv, c0, c1, c2, hps⟩ := HC.out k (by rw [← HN.out]; exact hlt)
      obtain ⟨f, hf⟩ : ∃ f, f = frAt l k := ⟨_, rfl⟩
      rw [show l[k]?.getD Fr.zero = f from hf.symm] at c0 c1 hps
      have d0 := (HB.out.cell (p := ⟨b, off + k * 3, none⟩) hb).trans c0
      have d1 := (HB.out.cell (p := ⟨b, off + k * 3 + 1, none⟩) hb).trans c1
      have d2 := (HB.out.cell (p := ⟨b, off + k * 3 + 2, none⟩) hb).trans c2
      have hfk := H8.out k (by rw [← HN.out]; exact hlt)
      rw [← hf] at hfk
      obtain ⟨pa, pc, ep⟩ := hps.1.len
      obtain ⟨pn, hpn⟩ : ∃ pn, pn = f.parts.length := ⟨_, rfl⟩
      rw [← hpn] at ep
      have HCL : Hid (∀ U, Below w.heap.size w U → Calls Tryz.prog 103 #[.agg #[.int .i64 f.time, .bool f.key, pv]] U fun e w' => ∃ a c, e = .returned (.agg #[.int .i64 f.time, .bool f.key, .slice a pn c]) ∧ Hid (StrsIn (fun g => U.heap.size ≤ g) w' (.slice a pn c) f.parts) ∧ Below U.heap.size U w') := fun U hU => by
        rw [hpn]; exact cloneFrame_any S f pv U (hps.below hU) hfk
      have hlti : (k : Int) < (n : Int) := by omega
      have HTK : Hid (l.take (k + 1) = l.take k ++ [f]) := by show _ = _; rw [take_one (by rw [← HN.out]; exact hlt) Fr.zero, hf]
      clear hps hf hpn c0 c1 c2 hfk
      subst ep
      go_wp2_with fail
      have B1 : Hid (Below w.heap.size w (wr.alloc (.cells #[.int .i64 f.time, .bool f.key, .slice pa pn pc] 30))) := HB.out.alloc HB.out.size _
      refine (HCL.out _ B1.out).mono ?_
      rintro e w2 ⟨a2, c2, rfl, HS2, hb2⟩
      have B2 : Below w.heap.size w w2 := B1.out.trans (hb2.mono B1.out.size)
      have hsz := B1.out.size
      have O2 : OwnFrs w.heap.size (NS w.heap.size u5) w2 u5 (l.take k) := (HO.out.below ((Below.refl _ wr).alloc (Nat.le_refl _) _)).below hb2
      obtain ⟨v', w3, r3, o3, b3⟩ := fr_snoc (f := f) (pv := .slice a2 pn c2) O2 (HS2.out.mono fun g _ hg => ⟨by simp at hg; have := HB.out.size; omega, fun e => by have := (HO.out.lt g e.symm).2; simp at hg; omega⟩) (by simp; omega) B2.size
      have O3 : Hid (OwnFrs w.heap.size (NS w.heap.size v') w3 v' (l.take (k + 1))) := by
        show OwnFrs _ _ _ _ _
        rw [HTK.out]; exact o3
      have B3 : Hid (Below w.heap.size w w3) := B2.trans b3
      clear hb2 d0 d1 d2 O2 o3 b3 HS2 B1 HO HB B2
      go_wp2_with (at_builtin; refine wpList_append_run rfl (.tmp 14) (.tmp 18) 23 23 rfl _ _ rfl rfl r3 ?_)
      go_roundw
      case rel => exact ⟨k + 1, by omega, by go_num, O3, B3⟩
      case measure => simp [intOf]; omega
    · have hkl : k = n := by omega
      subst hkl
      go_wp2
      go_ret
      have ho := HO.out
      rw [HN.out, List.take_length] at ho
      exact ⟨_, rfl, ho, HB.out⟩

set_option maxHeartbeats 4000000 in
set_option maxRecDepth 100000 in
theorem cloneGroup_any (S : Nat → Prop) (v : Value) (l : List Fr) (w : World) (hv : FrsIn S w v l) (hk : gchk l = 0) :
    Calls Tryz.prog 57 #[.agg #[v]] w fun e w' => ∃ a c, e = .returned (.agg #[.slice a l.length c]) ∧ FrsIn (fun g => w.heap.size ≤ g) w' (.slice a l.length c) l ∧ Below w.heap.size w w' := by
  obtain ⟨_, h6, hck⟩ := gchk_zero.1 hk
  obtain ⟨va, vc, ev, _, _⟩ := hv.len
  obtain ⟨n, hn⟩ : ∃ n, n = l.length := ⟨_, rfl⟩
  have HN : Hid (n = l.length) := hn
  have HV : Hid (FrsIn S w v l) := hv
  have HC : Hid (∀ U, Below w.heap.size w U → Calls Tryz.prog 102 #[v, .func (.func 103) #[] #[]] U fun e w' => ∃ a c, e = .returned (.slice a n c) ∧ Hid (FrsIn (fun g => U.heap.size ≤ g) w' (.slice a n c) l) ∧ Below U.heap.size U w') := fun U hU => by
    refine (cloneFrs_any S v l U (HV.out.below hU) h6 (fun k hk => (hck k hk).1)).mono ?_
    rintro e w' ⟨u, rfl, ho, hb⟩
    have hf : FrsIn (fun g => U.heap.size ≤ g) w' u l := ho.frsIn (fun g _ h => h.1) (fun g hg => (ho.lt g hg).1)
    obtain ⟨a, c, e, _, _⟩ := hf.len
    rw [← hn] at e
    subst e
    exact ⟨a, c, rfl, hf, hb⟩
  rw [← hn] at ev ⊢
  clear hv hk hck hn h6
  subst ev
  go_enter Tryz.func57, Tryz.ntmps57
  go_wp2_with fail
  have B1 : Hid (Below w.heap.size w ((w.alloc (.cells #[.slice va n vc] 25)).alloc (.cells #[.slice none 0 0] 25))) := ((Below.refl _ _).alloc (Nat.le_refl _) _).alloc (by simp) _
  have K1 : Hid (Blk ((w.alloc (.cells #[.slice va n vc] 25)).alloc (.cells #[.slice none 0 0] 25)) (w.heap.size + 1) #[.slice none 0 0] 25) := by
    have := Blk.new (w.alloc (.cells #[.slice va n vc] 25)) #[.slice none 0 0] 25
    simpa [Hid] using this
  refine (HC.out _ B1.out).mono ?_
  rintro e w2 ⟨a2, c2, rfl, HF, hb2⟩
  have B2 : Hid (Below w.heap.size w w2) := B1.out.trans (hb2.mono B1.out.size)
  have K2 := K1.out.below hb2 K1.out.lt
  have r0 := K2.one
  have r1 := K2.free 0
  have c9 : (w2.setCell ⟨w.heap.size + 1, 0, none⟩ (.slice a2 n c2)).cell? ⟨w.heap.size + 1, 0, none⟩ = some (.slice a2 n c2) := (K2.set 0 _).cell rfl
  have F9 : Hid (FrsIn (fun g => w.heap.size ≤ g) (w2.setCell ⟨w.heap.size + 1, 0, none⟩ (.slice a2 n c2)) (.slice a2 n c2) l) := HF.out.to (SameOn.setCell (fun g hg => by simp at hg ⊢; omega) _) (fun g _ hg => by simp at hg; omega)
  clear hb2 K1 B1 K2 HF
  go_wp2
  exact bodyPost_ret (v := .agg #[.slice a2 n c2]) (by simp [results, Tryz.results57, go_sem, c9]) rfl ⟨a2, c2, rfl, F9.out, B2.out.setCell (by simp) _⟩

set_option maxHeartbeats 4000000 in
set_option maxRecDepth 100000 in
theorem cloneGroups_any (S : Nat → Prop) (v : Value) (L : List (List Fr)) (w : World) (hv : GrsIn S w v L) (hlen : L.length ≤ 100) (hck : ∀ g ∈ L, gchk g = 0) :
    Calls Tryz.prog 99 #[v] w fun e w' => ∃ u, e = .returned u ∧ OwnGrs w.heap.size (NS w.heap.size u) w' u L ∧ Below w.heap.size w w' := by
  obtain ⟨ao, c, hva, h1, h2, hc⟩ := hv
  obtain ⟨n, hn⟩ : ∃ n, n = L.length := ⟨_, rfl⟩
  have HN : Hid (n = L.length) := hn
  have HC : Hid (∀ k, k < L.length → ∃ b off, ao = some ⟨b, off, none⟩ ∧ b < w.heap.size ∧ S b ∧ ∃ sv, w.cell? ⟨b, off + k, none⟩ = some sv ∧ FrsIn S w sv (L[k]?.getD [])) := hc
  have H8 : Hid (∀ k, k < L.length → gchk (L[k]?.getD []) = 0) := fun k hk => hck _ (by rw [List.getElem?_eq_getElem hk]; exact List.getElem_mem _)
  have eg : Enters Tryz.prog 57 := enters_of Tryz.func57 (by kernel_rfl) rfl
  have eg' : ∀ (args : Array Value) (w : World), (callFunc 57 args).run Tryz.prog w = .ok (.enter 57 args) w := eg
  rw [← hn] at hva hlen h1
  clear hc hn hck eg
  subst hva
  have ALL : Hid (Calls Tryz.prog 145 #[.slice ao n c, .func (.func 57) #[] #[]] w fun e w' => ∃ u, e = .returned u ∧ OwnGrs w.heap.size (NS w.heap.size u) w' u L ∧ Below w.heap.size w w') := by
    show Calls _ _ _ _ _
    go_enter Tryz.func145, Tryz.ntmps145
    go_wp2_with fail
    go_loopw [5, 10] (fun u i wr => ∃ k : Nat, k ≤ n ∧ i = .int .i64 k ∧ Hid (OwnGrs w.heap.size (NS w.heap.size u) wr u (L.take k)) ∧ Hid (Below w.heap.size w wr))
      (fun _ i _ => n - (intOf i).toNat)
    case atStart => exact ⟨0, Nat.zero_le _, rfl, OwnGrs.nil _ _ _, Below.refl _ _⟩
    case round =>
      obtain ⟨k, hk, rfl, HO, HB⟩ := hrel
      by_cases hlt : k < n
      · obtain ⟨b, off, rfl, hb, _, sv, c0, hs⟩ := HC.out k (by rw [← HN.out]; exact hlt)
        have hgk := H8.out k (by rw [← HN.out]; exact hlt)
        obtain ⟨g, hg⟩ : ∃ g, g = L[k]?.getD [] := ⟨_, rfl⟩
        rw [← hg] at hs hgk
        have d0 := (HB.out.cell (p := ⟨b, off + k, none⟩) hb).trans c0
        obtain ⟨sa, sc, es, _, _⟩ := hs.len
        obtain ⟨gn, hgn⟩ : ∃ gn, gn = g.length := ⟨_, rfl⟩
        rw [← hgn] at es
        have HCL : Hid (∀ U, Below w.heap.size w U → Calls Tryz.prog 57 #[.agg #[sv]] U fun e w' => ∃ a c, e = .returned (.agg #[.slice a gn c]) ∧ Hid (FrsIn (fun g => U.heap.size ≤ g) w' (.slice a gn c) g) ∧ Below U.heap.size U w') := fun U hU => by
          rw [hgn]; exact cloneGroup_any S sv g U (hs.below hU) hgk
        have hlti : (k : Int) < (n : Int) := by omega
        have HTK : Hid (L.take (k + 1) = L.take k ++ [g]) := by show _ = _; rw [take_one (by rw [← HN.out]; exact hlt) [], hg]
        clear hs hg hgn c0 hgk
        subst es
        go_wp2_with fail
        have B1 : Hid (Below w.heap.size w (wr.alloc (.cells #[.slice sa gn sc] 25))) := HB.out.alloc HB.out.size _
        refine (HCL.out _ B1.out).mono ?_
        rintro e w2 ⟨a2, c2, rfl, HS2, hb2⟩
        have B2 : Below w.heap.size w w2 := B1.out.trans (hb2.mono B1.out.size)
        have hsz := B1.out.size
        have O2 : OwnGrs w.heap.size (NS w.heap.size u5) w2 u5 (L.take k) := (HO.out.below ((Below.refl _ wr).alloc (Nat.le_refl _) _)).below hb2
        obtain ⟨v', w3, r3, o3, b3⟩ := gr_snoc (g := g) (sv := .slice a2 gn c2) O2 (HS2.out.mono fun g _ hg => ⟨by simp at hg; have := HB.out.size; omega, fun e => by have := (HO.out.lt g e.symm).2; simp at hg; omega⟩) (by simp; omega) B2.size
        have O3 : Hid (OwnGrs w.heap.size (NS w.heap.size v') w3 v' (L.take (k + 1))) := by
          show OwnGrs _ _ _ _ _
          rw [HTK.out]; exact o3
        have B3 : Hid (Below w.heap.size w w3) := B2.trans b3
        clear hb2 d0 O2 o3 b3 HS2 B1 HO HB B2
        go_wp2_with (at_builtin; refine wpList_append_run rfl (.tmp 14) (.tmp 18) 22 22 rfl _ _ rfl rfl r3 ?_)
        go_roundw
        case rel => exact ⟨k + 1, by omega, by go_num, O3, B3⟩
        case measure => simp [intOf]; omega
      · have hkl : k = n := by omega
        subst hkl
        go_wp2
        go_ret
        have ho := HO.out
        rw [HN.out, List.take_length] at ho
        exact ⟨_, rfl, ho, HB.out⟩
  clear eg' HC H8
  go_enter Tryz.func99, Tryz.ntmps99
  go_wp2_with fail
  refine ALL.out.mono ?_
  rintro e w1 ⟨u, rfl, ho, hb⟩
  have HO : Hid (OwnGrs w.heap.size (NS w.heap.size u) w1 u L) := ho
  clear ho ALL
  go_wp2
  go_ret
  exact ⟨u, rfl, HO.out, hb⟩

end Go.Proofs.YtnpaejknoipicafGreat

namespace Go.Proofs.YtnpaejknoipicafGreat
open Go.RowKit

/-- how many of the first groups go -/
def trimD : List (List Fr) → Nat
  | [] => 0
  | g :: r => if fullB (g :: r) then trimD r + 1 else 0
theorem fullB_nil : fullB [] = false := by simp [fullB, tooB]
theorem trimD_no {L : List (List Fr)} (h : fullB L = false) : trimD L = 0 := by
  cases L with
  | nil => rfl
  | cons g r => simp [trimD, h]
theorem trimD_yes {L : List (List Fr)} (h : fullB L = true) : trimD L = trimD L.tail + 1 := by
  cases L with
  | nil => rw [fullB_nil] at h; cases h
  | cons g r => simp [trimD, h]
theorem trimD_drop (L : List (List Fr)) : ∀ k, (∀ j, j < k → fullB (L.drop j) = true) → trimD L = k + trimD (L.drop k)
  | 0, _ => by simp
  | k + 1, h => by
    rw [trimD_drop L k (fun j hj => h j (by omega)), trimD_yes (h k (by omega)), List.tail_drop]
    omega
theorem fullB_len {L : List (List Fr)} (h : fullB L = true) : 1 < L.length := by
  simp only [fullB, tooB, Bool.or_eq_true, Bool.and_eq_true, decide_eq_true_eq] at h
  omega

theorem GrsIn.tail {S : Nat → Prop} {w : World} {ao : Option Addr} {n c : Nat} {L : List (List Fr)} (h : GrsIn S w (.slice ao n c) L) (h1 : 1 < L.length) : ∃ b off, ao = some ⟨b, off, none⟩ ∧ n = L.length ∧ L.length ≤ c ∧ GrsIn S w (.slice (some ⟨b, off + 1, none⟩) (L.length - 1) (c - 1)) L.tail := by
  obtain ⟨ao', c', e, hc1, hc2, hc⟩ := h
  injection e with e1 e2 e3
  subst e1 e2 e3
  obtain ⟨b, off, e, _⟩ := hc 0 (by omega)
  subst e
  refine ⟨b, off, rfl, rfl, hc1, some ⟨b, off + 1, none⟩, c - 1, by rw [List.length_tail], by rw [List.length_tail]; omega, by omega, fun k hk => ?_⟩
  rw [List.length_tail] at hk
  obtain ⟨b', off', e, hb, hS, sv, h1, h2⟩ := hc (k + 1) (by omega)
  injection e with e
  injection e with e1 e2
  subst e1 e2
  refine ⟨b, off + 1, rfl, hb, hS, sv, by rw [show off + 1 + k = off + (k + 1) by omega]; exact h1, ?_⟩
  rw [List.getElem?_tail]; exact h2

set_option maxHeartbeats 4000000 in
set_option maxRecDepth 100000 in
theorem letGo_any (M : Nat) (first : Int) (gv ov : Value) (L : List (List Fr)) (S : Nat → Prop) (w : World) (hM : Blk w M #[.int .i64 first, gv, ov] 103) (hg : GrsIn S w gv L) (hS : ∀ g, S g → g ≠ M) (hL : L.length ≤ 1000) (hf0 : 0 ≤ first) (hf1 : first ≤ 1000000) :
    Calls Tryz.prog 100 #[.pointer (some ⟨M, 0, none⟩)] w fun e w' => e = .returned (.tuple #[]) ∧ ∃ gv', Blk w' M #[.int .i64 (first + trimD L), gv', ov] 103 ∧ GrsIn S w' gv' (L.drop (trimD L)) ∧ Kept [M] w w' := by
  have HL : Hid (L.length ≤ 1000) := hL
  obtain ⟨n, hn⟩ : ∃ n, n = L.length := ⟨_, rfl⟩
  have HN : Hid (n = L.length) := hn
  have hn1 : n ≤ 1000 := by omega
  have HS : Hid (∀ g, S g → g ≠ M) := hS
  have HG : Hid (GrsIn S w gv L) := hg
  have HM : Hid (Blk w M #[.int .i64 first, gv, ov] 103) := hM
  clear hn hL hg hM hS
  go_enter Tryz.func100, Tryz.ntmps100
  go_wp2_with fail
  go_loopw [] (fun wr => ∃ (k : Nat) (gk : Value), k ≤ n ∧ Hid (∀ j, j < k → fullB (L.drop j) = true) ∧ Hid (Blk wr M #[.int .i64 (first + k), gk, ov] 103) ∧ Hid (GrsIn S wr gk (L.drop k)) ∧ Hid (Kept [M] w wr))
    (fun wr => n - (intOf ((wr.cell? ⟨M, 0, none⟩).getD undef) - first).toNat)
  case atStart => exact ⟨0, gv, Nat.zero_le _, (show ∀ j, _ → _ from fun j hj => absurd hj (Nat.not_lt_zero _)), by simpa [Hid] using HM.out, by simpa [Hid] using HG.out, Kept.refl _ _⟩
  case round =>
    obtain ⟨k, gk, hk, HF, KB, GK, KP⟩ := hrel
    obtain ⟨N, hN⟩ : ∃ N, N = L.drop k := ⟨_, rfl⟩
    have HNK : Hid (N = L.drop k) := hN
    rw [← hN] at GK
    obtain ⟨q, hq⟩ : ∃ q, q = N.length := ⟨_, rfl⟩
    have HQ : Hid (q = N.length) := hq
    have hql : q ≤ 1000 := by rw [hq, hN, List.length_drop]; have := HL.out; omega
    have HQN : Hid (q = n - k) := by show _ = _; rw [hq, hN, List.length_drop, HN.out]
    obtain ⟨ga, gc, eg, hgl, hg63⟩ := GK.out.len
    rw [← hq] at eg hgl hg63
    clear hN hq
    subst eg
    obtain ⟨k0, k1, k2⟩ := KB.out.three
    have f0 := KB.out.free 0
    have f1 := KB.out.free 1
    have hms : (intOf ((wr.cell? ⟨M, 0, none⟩).getD undef) - first).toNat = k := by rw [k0]; simp [intOf]; omega
    -- one goes
    have GO : Hid (fullB N = true → ∃ b off, ga = some ⟨b, off, none⟩ ∧ 1 < q ∧ q ≤ gc ∧ ∀ V : World, Blk V M #[.int .i64 (first + k), .slice ga q gc, ov] 103 → GrsIn S V (.slice ga q gc) N → Kept [M] w V → Hid (Blk ((V.setCell ⟨M, 1, none⟩ (.slice (some ⟨b, off + 1, none⟩) (q - 1) (gc - 1))).setCell ⟨M, 0, none⟩ (.int .i64 (first + k + 1))) M #[.int .i64 (first + (k + 1 : Nat)), .slice (some ⟨b, off + 1, none⟩) (q - 1) (gc - 1), ov] 103) ∧ Hid (GrsIn S ((V.setCell ⟨M, 1, none⟩ (.slice (some ⟨b, off + 1, none⟩) (q - 1) (gc - 1))).setCell ⟨M, 0, none⟩ (.int .i64 (first + k + 1))) (.slice (some ⟨b, off + 1, none⟩) (q - 1) (gc - 1)) (L.drop (k + 1))) ∧ Hid (Kept [M] w ((V.setCell ⟨M, 1, none⟩ (.slice (some ⟨b, off + 1, none⟩) (q - 1) (gc - 1))).setCell ⟨M, 0, none⟩ (.int .i64 (first + k + 1)))) ∧ Hid (∀ j, j < k + 1 → fullB (L.drop j) = true)) := fun hf => by
      have h1 := fullB_len hf
      obtain ⟨b, off, e1, _, h3, _⟩ := GK.out.tail h1
      refine ⟨b, off, e1, by rw [HQ.out]; exact h1, by rw [HQ.out]; exact h3, fun V h4 h5 h6 => ?_⟩
      obtain ⟨b', off', e2, _, _, h7⟩ := h5.tail h1
      rw [e1] at e2
      injection e2 with e2
      injection e2 with e2 e3
      subst e2 e3
      have hd : L.drop (k + 1) = N.tail := by rw [HNK.out, List.tail_drop]
      refine ⟨?_, ?_, (h6.setCell (by simp) _).setCell (by simp) _, fun j hj => ?_⟩
      · have := (h4.set 1 (.slice (some ⟨b, off + 1, none⟩) (q - 1) (gc - 1))).set 0 (.int .i64 (first + k + 1))
        rw [show first + ((k + 1 : Nat) : Int) = first + k + 1 by omega]
        simpa [Hid] using this
      · show GrsIn _ _ _ _
        rw [hd, HQ.out]
        exact h7.to ((SameOn.setCell (fun g hg => HS.out g hg) _).trans (SameOn.setCell (fun g hg => HS.out g hg) _)) (fun _ _ h => h)
      · by_cases e : j = k
        · subst e; rw [← HNK.out]; exact hf
        · exact HF.out j (by omega)
    -- nothing goes
    have END : Hid (fullB N = false → ∀ V : World, Blk V M #[.int .i64 (first + k), .slice ga q gc, ov] 103 → GrsIn S V (.slice ga q gc) N → Kept [M] w V → ∃ gv', Blk V M #[.int .i64 (first + trimD L), gv', ov] 103 ∧ GrsIn S V gv' (L.drop (trimD L)) ∧ Kept [M] w V) := fun hf V h1 h2 h3 => by
      have ht : trimD L = k := by rw [trimD_drop L k HF.out, ← HNK.out, trimD_no hf]; omega
      rw [ht]
      exact ⟨_, h1, by rw [← HNK.out]; exact h2, h3⟩
    by_cases h5 : 5 < q
    · have h5i : (5 : Int) < (q : Int) := by omega
      have hfull : fullB N = true := by unfold fullB; rw [← HQ.out]; simp [h5]
      obtain ⟨b, off, e1, h1q, hqc, hgo⟩ := GO.out hfull
      obtain ⟨r1, r2, r3, r4⟩ := hgo wr KB.out GK.out KP.out
      subst e1
      have h1i : (1 : Int) ≤ (q : Int) := by omega
      have hqci : (q : Int) ≤ (gc : Int) := by omega
      have c1 : (wr.setCell ⟨M, 1, none⟩ (.slice (some ⟨b, off + 1, none⟩) (q - 1) (gc - 1))).cell? ⟨M, 0, none⟩ = some (.int .i64 (first + k)) := (KB.out.set 1 _).cell rfl
      clear hfull hgo GO END HF
      go_wp2_with fail
      go_roundw
      case rel => exact ⟨k + 1, _, by have := HQN.out; omega, r4, r1, r2, r3⟩
      case measure =>
        have c2 := r1.out.cell (j := 0) rfl
        rw [hms, c2]
        simp [intOf]
        have := HQN.out
        omega
    · have h5i : ¬ (5 : Int) < (q : Int) := by omega
      obtain ⟨T, hT⟩ : ∃ T, T = tooB N := ⟨_, rfl⟩
      have HTG : Hid (Calls Tryz.prog 85 #[.slice ga q gc] wr fun e' w'' => e' = .returned (.bool T) ∧ Below wr.heap.size wr w'') := by
        show Calls _ _ _ _ _
        rw [hT]; exact areTooGreat_any S _ N wr GK.out (by rw [← HQ.out]; omega)
      have HFB : Hid (fullB N = T) := by show _ = _; unfold fullB; rw [← HQ.out, ← hT]; simp; omega
      clear hT
      go_wp2_with fail
      refine HTG.out.mono ?_
      rintro e' w2 ⟨rfl, hb2⟩
      have KB2 : Hid (Blk w2 M #[.int .i64 (first + k), .slice ga q gc, ov] 103) := KB.out.below hb2 KB.out.lt
      have GK2 : Hid (GrsIn S w2 (.slice ga q gc) N) := GK.out.below hb2
      have KP2 : Hid (Kept [M] w w2) := KP.out.below hb2
      clear hb2 HTG k0 k1 k2 f0 f1
      obtain ⟨k0, k1, k2⟩ := KB2.out.three
      have f0 := KB2.out.free 0
      have f1 := KB2.out.free 1
      cases T
      case true =>
        obtain ⟨b, off, e1, h1q, hqc, hgo⟩ := GO.out HFB.out
        obtain ⟨r1, r2, r3, r4⟩ := hgo w2 KB2.out GK2.out KP2.out
        subst e1
        have h1i : (1 : Int) ≤ (q : Int) := by omega
        have hqci : (q : Int) ≤ (gc : Int) := by omega
        have c1 : (w2.setCell ⟨M, 1, none⟩ (.slice (some ⟨b, off + 1, none⟩) (q - 1) (gc - 1))).cell? ⟨M, 0, none⟩ = some (.int .i64 (first + k)) := (KB2.out.set 1 _).cell rfl
        clear hgo GO END HF
        go_wp2_with fail
        go_roundw
        case rel => exact ⟨k + 1, _, by have := HQN.out; omega, r4, r1, r2, r3⟩
        case measure =>
          have c2 := r1.out.cell (j := 0) rfl
          rw [hms, c2]
          simp [intOf]
          have := HQN.out
          omega
      case false =>
        have HEND : Hid (∃ gv', Blk w2 M #[.int .i64 (first + trimD L), gv', ov] 103 ∧ GrsIn S w2 gv' (L.drop (trimD L)) ∧ Kept [M] w w2) := END.out HFB.out w2 KB2.out GK2.out KP2.out
        clear GO END HF
        go_wp2
        go_end0
        exact ⟨rfl, HEND.out⟩

end Go.Proofs.YtnpaejknoipicafGreat

namespace Go.Proofs.YtnpaejknoipicafGreat
open Go.RowKit

theorem zeroCells_len (z : Array Value) (n : Nat) : (Builtin.zeroCells z n).size = n * z.size := by simp [Builtin.zeroCells]

section
variable {P : Program}
theorem grow_run (w : World) (T tn ty E : TypeId) (i : TypeInfo) (z : Value) (size bytes : Nat) (ht : P.underlying T = some (.slice E)) (htn : P.underlying tn = some (.int .i64)) (hi : P.info? E = some i) (hz : i.zero = some z) (hsize : i.size = size) (hby : i.bytes = bytes) (hzs : z.cells.size = size) (hsz : 0 < size)
    (n : Nat) (h0 : 0 < n) (hn : n ≤ 1000) (hb : bytes ≤ 1000) :
    ∃ cap w', (Builtin.append_ #[T, tn] ty #[.slice none 0 0, .int .i64 n]).run P w = .ok (.slice (some ⟨w.heap.size, 0, none⟩) n cap) w' ∧ n ≤ cap ∧ w'.ownsRow w.heap.size E size (.slice (some ⟨w.heap.size, 0, none⟩) 0 cap) 0 [] ∧ Below w.heap.size w w' := by
  have hnb : n * i.bytes ≤ 1000 * 1000 := by rw [hby]; exact Nat.mul_le_mul hn hb
  have r := Lib.run_append_nil_zeros (P := P) w T tn ty E i z .i64 .i64 ht htn hi hz n h0 (by omega) (by omega) (by omega)
  have hg := grownCap_ge w n 0 E
  refine ⟨_, _, r, hg, ⟨by simp, .inr ⟨w.heap.size, _, _, rfl, Nat.le_refl _, heap_alloc_new w.drew _, Nat.zero_le _, grownCap_le_maxLen w n 0 E (by unfold maxLen; omega), ?_, by simp⟩⟩, (Below.refl _ w).drew.alloc (Nat.le_refl _) _⟩
  rw [Array.size_append, zeroCells_len, zeroCells_len, hzs, ← Nat.add_mul]
  congr 1; omega
end

/-- append of a row of frames to a row of the call's own -/
theorem appFrs {base : Nat} {S : Nat → Prop} {w : World} {v u : Value} {l m : List Fr} (hv : OwnFrs base S w v l) (hu : FrsIn S w u m) (hS : ∀ g, S g → g < base) (hb : l.length + m.length ≤ 1000) (hbase : base ≤ w.heap.size) :
    ∃ v' w', (Builtin.append_ #[23, 23] 23 #[v, u]).run Tryz.prog w = .ok v' w' ∧ OwnFrs base S w' v' (l ++ m) ∧ Below base w w' := by
  obtain ⟨i0, hi, hz0, hz1, hz2⟩ := info_parts Tryz.infoFrm
  obtain ⟨ps, p1, p2, p3⟩ := hv
  obtain ⟨qs, q1, q2, q3⟩ := hu.sl
  have hps : ps.length = l.length := by rw [← p1, List.length_map]
  have hqs : qs.length = m.length := by rw [← q1, List.length_map]
  obtain ⟨v', w', r, o, g, _⟩ := run_append_any (P := Tryz.prog) w base 23 23 30 i0 _ 3 40 Tryz.underlying23 hi hz0 hz1 hz2 rfl (by decide) v ps.length (frCells ps) p2 qs.length (frCells qs) u q2 (fr_one2 q3) (by unfold maxLen; omega) (by omega) hbase
  have hs : SameOn S w w' := SameOn.grown g (fun g hg e => by have := (p2.lt g e.symm).1; have := hS g hg; omega)
  refine ⟨v', w', r, ⟨ps ++ qs, by rw [List.map_append, p1, q1], by rw [List.length_append, frCells_append]; exact o, fun p hp => ?_⟩, (Below.refl base w).grown g hbase (fun j hj => (p2.lt j hj).1)⟩
  rcases List.mem_append.1 hp with hp | hp
  · exact (p3 p hp).to hs (fun _ _ h => h)
  · exact (q3 p hp).to hs (fun _ _ h => h)
theorem appGrs {base : Nat} {S : Nat → Prop} {w : World} {v u : Value} {l m : List (List Fr)} (hv : OwnGrs base S w v l) (hu : GrsIn S w u m) (hS : ∀ g, S g → g < base) (hb : l.length + m.length ≤ 1000) (hbase : base ≤ w.heap.size) :
    ∃ v' w', (Builtin.append_ #[22, 22] 22 #[v, u]).run Tryz.prog w = .ok v' w' ∧ OwnGrs base S w' v' (l ++ m) ∧ Below base w w' := by
  obtain ⟨qs, q1, q2, q3⟩ := hu.sl
  obtain ⟨v', w', r, o, g, _⟩ := groups_app hv q1 q2 q3 (fun g hg e => by have := (hv.lt g e.symm).1; have := hS g hg; omega) hb hbase
  exact ⟨v', w', r, o, (Below.refl base w).grown g hbase (fun j hj => (hv.lt j hj).1)⟩

set_option maxHeartbeats 2000000 in
set_option maxRecDepth 100000 in
theorem growFrs_any (n : Nat) (w : World) (hn : n ≤ 1000) :
    Calls Tryz.prog 144 #[.slice none 0 0, .int .i64 n] w fun e w' => ∃ u, e = .returned u ∧ w'.ownsRow w.heap.size 30 3 u 0 [] ∧ Below w.heap.size w w' := by
  by_cases h0 : n = 0
  · subst h0
    go_enter Tryz.func144, Tryz.ntmps144
    go_wp2
    go_ret
    exact ⟨_, rfl, World.ownsRow_nil _ _ _ _, Below.refl _ _⟩
  · obtain ⟨i0, hi, hz0, hz1, hz2⟩ := info_parts Tryz.infoFrm
    obtain ⟨cap, w', r, hc, ho, hb⟩ := grow_run (P := Tryz.prog) w 23 3 23 30 i0 _ 3 40 Tryz.underlying23 Tryz.underlying3 hi hz0 hz1 hz2 rfl (by decide) n (by omega) hn (by decide)
    have HO : Hid (w'.ownsRow w.heap.size 30 3 (.slice (some ⟨w.heap.size, 0, none⟩) 0 cap) 0 []) := ho
    have HB : Hid (Below w.heap.size w w') := hb
    have h0i : (0 : Int) < (n : Int) := by omega
    have hw : IntKind.i64.wrap (n : Int) = (n : Int) := by rw [IntKind.wrap_i64]; omega
    clear ho hb hi hz0 hz1 hz2
    go_enter Tryz.func144, Tryz.ntmps144
    go_wp2_with (at_builtin; refine wpList_append_run rfl (.tmp 20) (.tmp 21) 23 3 rfl _ _ rfl rfl r ?_)
    go_ret
    exact ⟨_, rfl, HO.out, HB.out⟩

set_option maxHeartbeats 4000000 in
set_option maxRecDepth 100000 in
theorem concatFrs_any (S : Nat → Prop) (q : Nat) (av bv : Value) (l m : List Fr) (w : World) (hq0 : w.cell? ⟨q, 0, none⟩ = some av) (hq1 : w.cell? ⟨q, 1, none⟩ = some bv) (ha : FrsIn S w av l) (hb : FrsIn S w bv m) (hlen : l.length + m.length ≤ 1000) :
    Calls Tryz.prog 98 #[.slice (some ⟨q, 0, none⟩) 2 2] w fun e w' => ∃ u, e = .returned u ∧ OwnFrs w.heap.size (fun g => S g ∧ g < w.heap.size) w' u (l ++ m) ∧ Below w.heap.size w w' := by
  have hqw : q < w.heap.size := block_lt_of_cell hq0
  have HA : Hid (FrsIn (fun g => S g ∧ g < w.heap.size) w av l) := ha.mono fun g hg hs => ⟨hs, hg⟩
  have HB' : Hid (FrsIn (fun g => S g ∧ g < w.heap.size) w bv m) := hb.mono fun g hg hs => ⟨hs, hg⟩
  obtain ⟨aa, ac, ea, _, _⟩ := ha.len
  obtain ⟨ba, bc, eb, _, _⟩ := hb.len
  obtain ⟨la, hla⟩ : ∃ n, n = l.length := ⟨_, rfl⟩
  obtain ⟨lb, hlb⟩ : ∃ n, n = m.length := ⟨_, rfl⟩
  have HLA : Hid (la = l.length) := hla
  have HLB : Hid (lb = m.length) := hlb
  rw [← hla] at ea hlen
  rw [← hlb] at eb hlen
  clear ha hb hla hlb
  subst ea eb
  go_enter Tryz.func98, Tryz.ntmps98
  go_wp2_with fail
  go_loopw [3, 11] (fun s i wr => ∃ k y : Nat, ((k = 0 ∧ y = 0) ∨ (k = 1 ∧ y = la) ∨ (k = 2 ∧ y = la + lb)) ∧ i = .int .i64 k ∧ s = .int .i64 y ∧ w = wr)
    (fun _ i _ => 2 - (intOf i).toNat)
  case atStart => exact ⟨0, 0, .inl ⟨rfl, rfl⟩, rfl, rfl, rfl⟩
  case round =>
    obtain ⟨k, y, hk, rfl, rfl, rfl⟩ := hrel
    rcases hk with ⟨rfl, rfl⟩ | ⟨rfl, rfl⟩ | ⟨rfl, rfl⟩
    · go_wp2_with fail
      go_roundw
      case rel => exact ⟨1, la, .inr (.inl ⟨rfl, rfl⟩), by go_num, by go_num, by first | rfl | trivial⟩
      case measure => simp [intOf]
    · go_wp2_with fail
      go_roundw
      case rel => exact ⟨2, y + lb, .inr (.inr ⟨rfl, rfl⟩), by go_num, by go_num, by first | rfl | trivial⟩
      case measure => simp [intOf]
    · have HG : Hid (∀ U : World, Calls Tryz.prog 144 #[.slice none 0 0, .int .i64 ((la : Int) + (lb : Int))] U fun e w' => ∃ u, e = .returned u ∧ Hid (w'.ownsRow U.heap.size 30 3 u 0 []) ∧ Below U.heap.size U w') := fun U => by
        have := growFrs_any (la + lb) U hlen
        rw [show ((la + lb : Nat) : Int) = (la : Int) + (lb : Int) by omega] at this
        exact this
      go_wp2_with fail
      refine (HG.out _).mono ?_
      rintro e w1 ⟨u1, rfl, HO1, hb1⟩
      have B1 : Hid (Below w.heap.size w w1) := hb1
      have O1 : Hid (OwnFrs w.heap.size (fun g => S g ∧ g < w.heap.size) w1 u1 []) := ⟨[], rfl, HO1.out, fun _ hp => absurd hp List.not_mem_nil⟩
      have CQ : Hid (∀ U, Below w.heap.size w U → U.cell? ⟨q, 0, none⟩ = some (.slice aa la ac) ∧ U.cell? ⟨q, 1, none⟩ = some (.slice ba lb bc)) := fun U hU => ⟨(hU.cell (p := ⟨q, 0, none⟩) hqw).trans hq0, (hU.cell (p := ⟨q, 1, none⟩) hqw).trans hq1⟩
      clear hb1 HO1 HG hq0 hq1
      go_wp2_with fail
      go_loopw [6, 27] (fun u i w2 => ∃ k : Nat, k ≤ 2 ∧ i = .int .i64 k ∧ Hid (OwnFrs w.heap.size (fun g => S g ∧ g < w.heap.size) w2 u (if k = 0 then [] else if k = 1 then l else l ++ m)) ∧ Hid (Below w.heap.size w w2))
        (fun _ i _ => 2 - (intOf i).toNat)
      case atStart => exact ⟨0, by omega, rfl, O1, B1⟩
      case round =>
        obtain ⟨k, hk, rfl, HO, HB⟩ := hrel
        have hk3 : k = 0 ∨ k = 1 ∨ k = 2 := by omega
        obtain ⟨c0, c1⟩ := CQ.out _ HB.out
        rcases hk3 with rfl | rfl | rfl
        · have ho : OwnFrs w.heap.size (fun g => S g ∧ g < w.heap.size) wr u6 [] := HO.out
          obtain ⟨v', w3, r3, o3, b3⟩ := appFrs ho (HA.out.below HB.out) (fun g hg => hg.2) (by rw [← HLA.out]; simp; omega) HB.out.size
          have O3 : Hid (OwnFrs w.heap.size (fun g => S g ∧ g < w.heap.size) w3 v' l) := by simpa [Hid] using o3
          have B3 : Hid (Below w.heap.size w w3) := HB.out.trans b3
          clear o3 b3 ho HO HB
          go_wp2_with (at_builtin; refine wpList_append_run rfl (.tmp 31) (.tmp 32) 23 23 rfl _ _ rfl rfl r3 ?_)
          go_roundw
          case rel => exact ⟨1, by omega, by go_num, O3, B3⟩
          case measure => simp [intOf]
        · have ho : OwnFrs w.heap.size (fun g => S g ∧ g < w.heap.size) wr u6 l := HO.out
          obtain ⟨v', w3, r3, o3, b3⟩ := appFrs ho (HB'.out.below HB.out) (fun g hg => hg.2) (by rw [← HLA.out, ← HLB.out]; omega) HB.out.size
          have O3 : Hid (OwnFrs w.heap.size (fun g => S g ∧ g < w.heap.size) w3 v' (l ++ m)) := o3
          have B3 : Hid (Below w.heap.size w w3) := HB.out.trans b3
          clear o3 b3 ho HO HB
          go_wp2_with (at_builtin; refine wpList_append_run rfl (.tmp 31) (.tmp 32) 23 23 rfl _ _ rfl rfl r3 ?_)
          go_roundw
          case rel => exact ⟨2, by omega, by go_num, O3, B3⟩
          case measure => simp [intOf]
        · have ho : OwnFrs w.heap.size (fun g => S g ∧ g < w.heap.size) wr u6 (l ++ m) := HO.out
          go_wp2
          go_ret
          exact ⟨_, rfl, ho, HB.out⟩

set_option maxHeartbeats 2000000 in
set_option maxRecDepth 100000 in
theorem growGrs_any (n : Nat) (w : World) (hn : n ≤ 1000) :
    Calls Tryz.prog 146 #[.slice none 0 0, .int .i64 n] w fun e w' => ∃ u, e = .returned u ∧ w'.ownsRow w.heap.size 25 1 u 0 [] ∧ Below w.heap.size w w' := by
  by_cases h0 : n = 0
  · subst h0
    go_enter Tryz.func146, Tryz.ntmps146
    go_wp2
    go_ret
    exact ⟨_, rfl, World.ownsRow_nil _ _ _ _, Below.refl _ _⟩
  · obtain ⟨i0, hi, hz0, hz1, hz2⟩ := info_parts Tryz.infoGrp
    obtain ⟨cap, w', r, hc, ho, hb⟩ := grow_run (P := Tryz.prog) w 22 3 22 25 i0 _ 1 24 Tryz.underlying22 Tryz.underlying3 hi hz0 hz1 hz2 rfl (by decide) n (by omega) hn (by decide)
    have HO : Hid (w'.ownsRow w.heap.size 25 1 (.slice (some ⟨w.heap.size, 0, none⟩) 0 cap) 0 []) := ho
    have HB : Hid (Below w.heap.size w w') := hb
    have h0i : (0 : Int) < (n : Int) := by omega
    have hw : IntKind.i64.wrap (n : Int) = (n : Int) := by rw [IntKind.wrap_i64]; omega
    clear ho hb hi hz0 hz1 hz2
    go_enter Tryz.func146, Tryz.ntmps146
    go_wp2_with (at_builtin; refine wpList_append_run rfl (.tmp 20) (.tmp 21) 22 3 rfl _ _ rfl rfl r ?_)
    go_ret
    exact ⟨_, rfl, HO.out, HB.out⟩

set_option maxHeartbeats 4000000 in
set_option maxRecDepth 100000 in
theorem concatGrs_any (S : Nat → Prop) (q : Nat) (av bv : Value) (l m : List (List Fr)) (w : World) (hq0 : w.cell? ⟨q, 0, none⟩ = some av) (hq1 : w.cell? ⟨q, 1, none⟩ = some bv) (ha : GrsIn S w av l) (hb : GrsIn S w bv m) (hlen : l.length + m.length ≤ 1000) :
    Calls Tryz.prog 101 #[.slice (some ⟨q, 0, none⟩) 2 2] w fun e w' => ∃ u, e = .returned u ∧ OwnGrs w.heap.size (fun g => S g ∧ g < w.heap.size) w' u (l ++ m) ∧ Below w.heap.size w w' := by
  have hqw : q < w.heap.size := block_lt_of_cell hq0
  have HA : Hid (GrsIn (fun g => S g ∧ g < w.heap.size) w av l) := ha.mono fun g hg hs => ⟨hs, hg⟩
  have HB' : Hid (GrsIn (fun g => S g ∧ g < w.heap.size) w bv m) := hb.mono fun g hg hs => ⟨hs, hg⟩
  obtain ⟨aa, ac, ea, _, _⟩ := ha.len
  obtain ⟨ba, bc, eb, _, _⟩ := hb.len
  obtain ⟨la, hla⟩ : ∃ n, n = l.length := ⟨_, rfl⟩
  obtain ⟨lb, hlb⟩ : ∃ n, n = m.length := ⟨_, rfl⟩
  have HLA : Hid (la = l.length) := hla
  have HLB : Hid (lb = m.length) := hlb
  rw [← hla] at ea hlen
  rw [← hlb] at eb hlen
  clear ha hb hla hlb
  subst ea eb
  go_enter Tryz.func101, Tryz.ntmps101
  go_wp2_with fail
  go_loopw [3, 11] (fun s i wr => ∃ k y : Nat, ((k = 0 ∧ y = 0) ∨ (k = 1 ∧ y = la) ∨ (k = 2 ∧ y = la + lb)) ∧ i = .int .i64 k ∧ s = .int .i64 y ∧ w = wr)
    (fun _ i _ => 2 - (intOf i).toNat)
  case atStart => exact ⟨0, 0, .inl ⟨rfl, rfl⟩, rfl, rfl, rfl⟩
  case round =>
    obtain ⟨k, y, hk, rfl, rfl, rfl⟩ := hrel
    rcases hk with ⟨rfl, rfl⟩ | ⟨rfl, rfl⟩ | ⟨rfl, rfl⟩
    · go_wp2_with fail
      go_roundw
      case rel => exact ⟨1, la, .inr (.inl ⟨rfl, rfl⟩), by go_num, by go_num, by first | rfl | trivial⟩
      case measure => simp [intOf]
    · go_wp2_with fail
      go_roundw
      case rel => exact ⟨2, y + lb, .inr (.inr ⟨rfl, rfl⟩), by go_num, by go_num, by first | rfl | trivial⟩
      case measure => simp [intOf]
    · have HG : Hid (∀ U : World, Calls Tryz.prog 146 #[.slice none 0 0, .int .i64 ((la : Int) + (lb : Int))] U fun e w' => ∃ u, e = .returned u ∧ Hid (w'.ownsRow U.heap.size 25 1 u 0 []) ∧ Below U.heap.size U w') := fun U => by
        have := growGrs_any (la + lb) U hlen
        rw [show ((la + lb : Nat) : Int) = (la : Int) + (lb : Int) by omega] at this
        exact this
      go_wp2_with fail
      refine (HG.out _).mono ?_
      rintro e w1 ⟨u1, rfl, HO1, hb1⟩
      have B1 : Hid (Below w.heap.size w w1) := hb1
      have O1 : Hid (OwnGrs w.heap.size (fun g => S g ∧ g < w.heap.size) w1 u1 []) := ⟨[], rfl, HO1.out, fun _ hp => absurd hp List.not_mem_nil⟩
      have CQ : Hid (∀ U, Below w.heap.size w U → U.cell? ⟨q, 0, none⟩ = some (.slice aa la ac) ∧ U.cell? ⟨q, 1, none⟩ = some (.slice ba lb bc)) := fun U hU => ⟨(hU.cell (p := ⟨q, 0, none⟩) hqw).trans hq0, (hU.cell (p := ⟨q, 1, none⟩) hqw).trans hq1⟩
      clear hb1 HO1 HG hq0 hq1
      go_wp2_with fail
      go_loopw [6, 27] (fun u i w2 => ∃ k : Nat, k ≤ 2 ∧ i = .int .i64 k ∧ Hid (OwnGrs w.heap.size (fun g => S g ∧ g < w.heap.size) w2 u (if k = 0 then [] else if k = 1 then l else l ++ m)) ∧ Hid (Below w.heap.size w w2))
        (fun _ i _ => 2 - (intOf i).toNat)
      case atStart => exact ⟨0, by omega, rfl, O1, B1⟩
      case round =>
        obtain ⟨k, hk, rfl, HO, HB⟩ := hrel
        have hk3 : k = 0 ∨ k = 1 ∨ k = 2 := by omega
        obtain ⟨c0, c1⟩ := CQ.out _ HB.out
        rcases hk3 with rfl | rfl | rfl
        · have ho : OwnGrs w.heap.size (fun g => S g ∧ g < w.heap.size) wr u6 [] := HO.out
          obtain ⟨v', w3, r3, o3, b3⟩ := appGrs ho (HA.out.below HB.out) (fun g hg => hg.2) (by rw [← HLA.out]; simp; omega) HB.out.size
          have O3 : Hid (OwnGrs w.heap.size (fun g => S g ∧ g < w.heap.size) w3 v' l) := by simpa [Hid] using o3
          have B3 : Hid (Below w.heap.size w w3) := HB.out.trans b3
          clear o3 b3 ho HO HB
          go_wp2_with (at_builtin; refine wpList_append_run rfl (.tmp 31) (.tmp 32) 22 22 rfl _ _ rfl rfl r3 ?_)
          go_roundw
          case rel => exact ⟨1, by omega, by go_num, O3, B3⟩
          case measure => simp [intOf]
        · have ho : OwnGrs w.heap.size (fun g => S g ∧ g < w.heap.size) wr u6 l := HO.out
          obtain ⟨v', w3, r3, o3, b3⟩ := appGrs ho (HB'.out.below HB.out) (fun g hg => hg.2) (by rw [← HLA.out, ← HLB.out]; omega) HB.out.size
          have O3 : Hid (OwnGrs w.heap.size (fun g => S g ∧ g < w.heap.size) w3 v' (l ++ m)) := o3
          have B3 : Hid (Below w.heap.size w w3) := HB.out.trans b3
          clear o3 b3 ho HO HB
          go_wp2_with (at_builtin; refine wpList_append_run rfl (.tmp 31) (.tmp 32) 22 22 rfl _ _ rfl rfl r3 ?_)
          go_roundw
          case rel => exact ⟨2, by omega, by go_num, O3, B3⟩
          case measure => simp [intOf]
        · have ho : OwnGrs w.heap.size (fun g => S g ∧ g < w.heap.size) wr u6 (l ++ m) := HO.out
          go_wp2
          go_ret
          exact ⟨_, rfl, ho, HB.out⟩

end Go.Proofs.YtnpaejknoipicafGreat

namespace Go.Proofs.YtnpaejknoipicafGreat
open Go.RowKit

/-- groups of a store, the open one, too -/
def allG (L : List (List Fr)) (O : List Fr) : List (List Fr) := if 0 < O.length then L ++ [O] else L

theorem GrsIn.one {S : Nat → Prop} {w : World} {b : Nat} {O : List Fr} {ov : Value} (hb : Blk w b #[ov] 25) (hS : S b) (ho : FrsIn S w ov O) : GrsIn S w (.slice (some ⟨b, 0, none⟩) 1 1) [O] := by
  refine ⟨some ⟨b, 0, none⟩, 1, rfl, Nat.le_refl _, by omega, fun k hk => ⟨b, 0, rfl, hb.lt, hS, ov, ?_⟩⟩
  have : k = 0 := by simpa using hk
  subst this
  exact ⟨hb.one, ho⟩

set_option maxHeartbeats 4000000 in
set_option maxRecDepth 100000 in
theorem keeperAll_any (M : Nat) (first : Int) (gv ov : Value) (L : List (List Fr)) (O : List Fr) (w : World) (hM : Blk w M #[.int .i64 first, gv, ov] 103) (hg : GrsIn (fun _ => True) w gv L) (ho : FrsIn (fun _ => True) w ov O) (hL : L.length ≤ 100) :
    Calls Tryz.prog 56 #[.pointer (some ⟨M, 0, none⟩)] w fun e w' => ∃ u, e = .returned u ∧ GrsIn (fun _ => True) w' u (allG L O) ∧ Below w.heap.size w w' := by
  obtain ⟨ga, gc, eg, _, _⟩ := hg.len
  obtain ⟨oa, oc, eo, _, hol⟩ := ho.len
  obtain ⟨n, hn⟩ : ∃ n, n = L.length := ⟨_, rfl⟩
  obtain ⟨m, hm⟩ : ∃ m, m = O.length := ⟨_, rfl⟩
  rw [← hn] at eg hL
  rw [← hm] at eo hol
  have HG : Hid (GrsIn (fun _ => True) w gv L) := hg
  have HO : Hid (FrsIn (fun _ => True) w ov O) := ho
  have HN : Hid (n = L.length) := hn
  have HK : Hid (Blk w M #[.int .i64 first, gv, ov] 103) := hM
  obtain ⟨k0, k1, k2⟩ := hM.three
  obtain ⟨A, hA⟩ : ∃ A, A = allG L O := ⟨_, rfl⟩
  have HA : Hid (A = if 0 < m then L ++ [O] else L) := by show _ = _; rw [hA, hm]; rfl
  rw [← hA]
  clear hg ho hn hm hM hA
  subst eg eo
  by_cases h0 : m = 0
  · have HAA : Hid (A = L) := by show _ = _; rw [HA.out, if_neg (by omega)]
    subst h0
    go_enter Tryz.func56, Tryz.ntmps56
    go_wp2
    go_ret
    exact ⟨_, rfl, by rw [HAA.out]; exact HG.out, Below.refl _ _⟩
  have HAA : Hid (A = L ++ [O]) := by show _ = _; rw [HA.out, if_pos (by omega)]
  have h0i : ((m : Int) == 0) = false := by simp; omega
  have hMw : M < w.heap.size := HK.out.lt
  clear h0
  go_enter Tryz.func56, Tryz.ntmps56
  go_wp2_with fail
  refine region_chain (by kernel_rfl) (by kernel_rfl) [.quiet (.pointer (some ⟨M, 0, none⟩)) 4, .quiet (.pointer (some ⟨M, 0, none⟩)) 4, .quiet (.pointer (some ⟨M, 0, none⟩)) 4, .quiet (.pointer (some ⟨M, 1, none⟩)) 4, .quiet (.slice ga n gc) 4, .quiet (.pointer (some ⟨M, 0, none⟩)) 4, .quiet (.pointer (some ⟨M, 0, none⟩)) 4, .quiet (.pointer (some ⟨M, 0, none⟩)) 4, .quiet (.pointer (some ⟨M, 2, none⟩)) 4, .quiet (.agg #[.slice oa m oc]) 4, .step 0, .step 1, .step 2, .step 3] [10, 11, 12, 13] (by kernel_rfl)
    (fun s r w' => match s with
      | 0 => Below w.heap.size w w'
      | 1 => ∃ V, Below w.heap.size w V ∧ w' = V.alloc (.cells #[.slice oa m oc] 25) ∧ r 0 = .slice (some ⟨V.heap.size, 0, none⟩) 1 1
      | 2 => ∃ V, Below w.heap.size w V ∧ w' = (V.alloc (.cells #[.slice oa m oc] 25)).alloc (.cells #[.slice ga n gc, .slice (some ⟨V.heap.size, 0, none⟩) 1 1] 22) ∧ r 1 = .slice (some ⟨V.heap.size + 1, 0, none⟩) 2 2
      | 3 => GrsIn (fun _ => True) w' (r 2) (L ++ [O]) ∧ Below w.heap.size w w'
      | _ => GrsIn (fun _ => True) w' (r 3) (L ++ [O]) ∧ Below w.heap.size w w') ?i0 ?step ?fin
  case i0 => exact ⟨rfl, rfl, rfl, Nat.le_refl _, fun _ _ => rfl⟩
  case step =>
    intro i o ho a' w' s r hI hfree hvals
    have f0 : a'.eval (.tmp 0) = .pointer (some ⟨M, 0, none⟩) := (hfree 0 (by kernel_rfl)).trans rfl
    have hBw : Below w.heap.size w w' := by
      match s, hI with
      | 0, h => exact h
      | 1, ⟨V, h1, h2, _⟩ => rw [h2]; exact h1.alloc h1.size _
      | 2, ⟨V, h1, h2, _⟩ => rw [h2]; exact (h1.alloc h1.size _).alloc (by have := h1.size; simp; omega) _
      | 3, h => exact h.2
      | _ + 4, h => exact h.2
    have y1 := (hBw.cell (p := ⟨M, 1, none⟩) hMw).trans k1
    have y2 := (hBw.cell (p := ⟨M, 2, none⟩) hMw).trans k2
    match i, ho with
    | 0, ho | 5, ho =>
      simp at ho; subst ho
      show s ≤ 4 → (execOp a'.eval _).run _ w' = .ok (.value _) w'
      intro _
      generalize a'.eval = ρ at *
      simp [execOp, go_sem, f0]
    | 1, ho =>
      simp at ho; subst ho
      have e1 : a'.eval (.tmp 16) = .pointer (some ⟨M, 0, none⟩) := hvals 0 _ _ (by kernel_rfl) rfl rfl
      show s ≤ 4 → (execOp a'.eval _).run _ w' = .ok (.value _) w'
      intro _
      generalize a'.eval = ρ at *
      simp [execOp, go_sem, e1]
    | 2, ho =>
      simp at ho; subst ho
      have e1 : a'.eval (.tmp 17) = .pointer (some ⟨M, 0, none⟩) := hvals 1 _ _ (by kernel_rfl) rfl rfl
      show s ≤ 4 → (execOp a'.eval _).run _ w' = .ok (.value _) w'
      intro _
      generalize a'.eval = ρ at *
      simp [execOp, go_sem, e1]
    | 3, ho =>
      simp at ho; subst ho
      have e1 : a'.eval (.tmp 18) = .pointer (some ⟨M, 0, none⟩) := hvals 2 _ _ (by kernel_rfl) rfl rfl
      show s ≤ 4 → (execOp a'.eval _).run _ w' = .ok (.value _) w'
      intro _
      generalize a'.eval = ρ at *
      simp [execOp, go_sem, e1]
    | 4, ho =>
      simp at ho; subst ho
      have e1 : a'.eval (.tmp 19) = .pointer (some ⟨M, 1, none⟩) := hvals 3 _ _ (by kernel_rfl) rfl rfl
      show s ≤ 4 → (execOp a'.eval _).run _ w' = .ok (.value _) w'
      intro _
      generalize a'.eval = ρ at *
      simp [execOp, go_sem, e1, y1]
    | 6, ho =>
      simp at ho; subst ho
      have e1 : a'.eval (.tmp 21) = .pointer (some ⟨M, 0, none⟩) := hvals 5 _ _ (by kernel_rfl) rfl rfl
      show s ≤ 4 → (execOp a'.eval _).run _ w' = .ok (.value _) w'
      intro _
      generalize a'.eval = ρ at *
      simp [execOp, go_sem, e1]
    | 7, ho =>
      simp at ho; subst ho
      have e1 : a'.eval (.tmp 22) = .pointer (some ⟨M, 0, none⟩) := hvals 6 _ _ (by kernel_rfl) rfl rfl
      show s ≤ 4 → (execOp a'.eval _).run _ w' = .ok (.value _) w'
      intro _
      generalize a'.eval = ρ at *
      simp [execOp, go_sem, e1]
    | 8, ho =>
      simp at ho; subst ho
      have e1 : a'.eval (.tmp 23) = .pointer (some ⟨M, 0, none⟩) := hvals 7 _ _ (by kernel_rfl) rfl rfl
      show s ≤ 4 → (execOp a'.eval _).run _ w' = .ok (.value _) w'
      intro _
      generalize a'.eval = ρ at *
      simp [execOp, go_sem, e1]
    | 9, ho =>
      simp at ho; subst ho
      have e1 : a'.eval (.tmp 24) = .pointer (some ⟨M, 2, none⟩) := hvals 8 _ _ (by kernel_rfl) rfl rfl
      show s ≤ 4 → (execOp a'.eval _).run _ w' = .ok (.value _) w'
      intro _
      generalize a'.eval = ρ at *
      simp [execOp, go_sem, e1, y2]
    | 10, ho =>
      simp at ho; subst ho
      have e1 : a'.eval (.tmp 25) = .agg #[.slice oa m oc] := hvals 9 _ _ (by kernel_rfl) rfl rfl
      show s = 0 → _
      intro hs
      subst hs
      refine oper_wp_ok (v := .slice (some ⟨w'.heap.size, 0, none⟩) 1 1) (w' := w'.alloc (.cells #[.slice oa m oc] 25)) ?_ ⟨_, rfl, ?_⟩
      · generalize a'.eval = ρ at *
        simp [execOp, go_sem, e1]
      · exact ⟨w', hBw, rfl, updR_at _ _ _⟩
    | 11, ho =>
      simp at ho; subst ho
      show s = 1 → _
      intro hs
      subst hs
      obtain ⟨V, h1, h2, h3⟩ := hI
      have e1 : a'.eval (.tmp 20) = .slice ga n gc := hvals 4 _ _ (by kernel_rfl) rfl rfl
      have e2 : a'.eval (.tmp 26) = .slice (some ⟨V.heap.size, 0, none⟩) 1 1 := (hvals 10 _ _ (by kernel_rfl) rfl rfl).trans h3
      refine oper_wp_ok (v := .slice (some ⟨V.heap.size + 1, 0, none⟩) 2 2) (w' := w'.alloc (.cells #[.slice ga n gc, .slice (some ⟨V.heap.size, 0, none⟩) 1 1] 22)) ?_ ⟨_, rfl, ?_⟩
      · generalize a'.eval = ρ at *
        rw [h2]
        simp [execOp, go_sem, e1, e2]
      · exact ⟨V, h1, by rw [h2], updR_at _ _ _⟩
    | 12, ho =>
      simp at ho; subst ho
      show s = 2 → _
      intro hs
      subst hs
      obtain ⟨V, h1, h2, h3⟩ := hI
      have e1 : a'.eval (.tmp 27) = .slice (some ⟨V.heap.size + 1, 0, none⟩) 2 2 := (hvals 11 _ _ (by kernel_rfl) rfl rfl).trans h3
      have ef : a'.eval (.func 101) = .func (.func 101) #[] #[] := rfl
      have KV : Blk w' (V.heap.size + 1) #[.slice ga n gc, .slice (some ⟨V.heap.size, 0, none⟩) 1 1] 22 := by
        have := Blk.new (V.alloc (.cells #[.slice oa m oc] 25)) #[.slice ga n gc, .slice (some ⟨V.heap.size, 0, none⟩) 1 1] 22
        rw [h2]; simpa using this
      have KO : Blk w' V.heap.size #[.slice oa m oc] 25 := by rw [h2]; exact (Blk.new V _ _).alloc _
      obtain ⟨z0, z1⟩ := KV.two
      have hc := concatGrs_any (fun _ => True) (V.heap.size + 1) (.slice ga n gc) (.slice (some ⟨V.heap.size, 0, none⟩) 1 1) L [O] w' z0 z1 (HG.out.below hBw) (GrsIn.one KO trivial (HO.out.below hBw)) (by rw [← HN.out]; simp; omega)
      refine oper_wp_call (f := 101) (args := #[.slice (some ⟨V.heap.size + 1, 0, none⟩) 2 2]) ?_ (hc.mono ?_)
      · generalize a'.eval = ρ at *
        simp [execOp, go_sem, e1, ef]
      · rintro e w'' ⟨u, rfl, o1, b1⟩
        exact ⟨u, rfl, u, rfl, by rw [updR_at]; exact o1.grsIn (fun _ _ _ => trivial) (fun _ _ => trivial), hBw.trans (b1.mono hBw.size)⟩
    | 13, ho =>
      simp at ho; subst ho
      show s = 3 → _
      intro hs
      subst hs
      have e1 : a'.eval (.tmp 28) = r 2 := hvals 12 _ _ (by kernel_rfl) rfl rfl
      refine oper_wp_ok (v := r 2) (w' := w') ?_ ⟨_, rfl, ?_⟩
      · generalize a'.eval = ρ at *
        simp [execOp, go_sem, e1]
      · exact ⟨by rw [updR_at]; exact hI.1, hI.2⟩
    | i + 14, ho => simp at ho
  case fin =>
    rintro r W ⟨h1, h2⟩
    have H1 : Hid (GrsIn (fun _ => True) W (r 3) A ∧ Below w.heap.size w W) := ⟨by rw [HAA.out]; exact h1, h2⟩
    clear h1 h2 k0 k1 k2 h0i hMw HG HO HN HK HA HAA
    simp only [putC, Ck.out]
    go_wp2_with fail
    exact bodyPost_ret (v := r 3) (by simp [results, Tryz.results56, go_sem]) rfl ⟨_, rfl, H1.out⟩

end Go.Proofs.YtnpaejknoipicafGreat

namespace Go.Proofs.YtnpaejknoipicafGreat
open Go.RowKit

def gon (o : List Fr) (f : Fr) : Bool := decide (0 < o.length) && decide (o.length < 6) && decide ((frAt o (o.length - 1)).time ≤ f.time)
theorem gon_grow {o : List Fr} {f : Fr} (hk : f.key = false) : growG o f = if gon o f then o ++ [f] else o := by
  unfold growG gon
  rw [if_neg (by simp [hk])]
  by_cases h : o.length = 0 ∨ 6 ≤ o.length ∨ f.time < (frAt o (o.length - 1)).time
  · rw [if_pos h, if_neg]
    simp only [Bool.and_eq_true, decide_eq_true_eq]
    omega
  · rw [if_neg h, if_pos]
    simp only [Bool.and_eq_true, decide_eq_true_eq]
    omega

set_option maxHeartbeats 2000000 in
theorem goesOn_any (base M : Nat) (fv cv : Value) (o : List Fr) (cl : List (List Fr)) (f : Fr) (pa : Option Addr) (pn pc : Nat) (w : World) (hM : GMk base M w fv cv o cl) :
    Calls Tryz.prog 167 #[.pointer (some ⟨M, 0, none⟩), .agg #[.int .i64 f.time, .bool f.key, .slice pa pn pc]] w fun e w' => e = .returned (.bool (gon o f)) ∧ Below w.heap.size w w' := by
  obtain ⟨kM, hF, _⟩ := hM
  obtain ⟨ao, c, efv, h1, h2, hc⟩ := hF.frsIn (S' := fun _ => True) (fun _ _ _ => trivial) (fun _ _ => trivial)
  obtain ⟨n, hn⟩ : ∃ n, n = o.length := ⟨_, rfl⟩
  rw [← hn] at efv h1
  have k0 := kM.two.1
  have hMw := kM.lt
  have hMw1 : M < w.heap.size + 1 := by omega
  rw [efv] at k0
  unfold gon
  rw [← hn]
  obtain ⟨t, k, ps⟩ := f
  simp only
  by_cases h0 : n = 0
  · have hd : decide (0 < n) = false := decide_eq_false (by omega)
    rw [hd]
    subst h0
    clear hn hc efv kM hF
    go_enter Tryz.func167, Tryz.ntmps167
    go_wp2_with fail
    go_quiet (fail)
    go_wp2
    go_ret
    exact ⟨by simp, below_drewN ((Below.refl _ w).alloc (Nat.le_refl _) _) _⟩
  · have hd : decide (0 < n) = true := decide_eq_true (by omega)
    rw [hd, Bool.true_and]
    by_cases h6 : n < 6
    · have hd6 : decide (n < 6) = true := decide_eq_true h6
      rw [hd6, Bool.true_and]
      obtain ⟨b, off, e1, hb, _, pv, c0, _⟩ := hc (n - 1) (by omega)
      obtain ⟨n1, hn1⟩ : ∃ n1, n1 = n - 1 := ⟨_, rfl⟩
      rw [← hn1] at c0 ⊢
      obtain ⟨t', ht'⟩ : ∃ t', t' = (frAt o n1).time := ⟨_, rfl⟩
      rw [show (o[n1]?.getD Fr.zero).time = t' from ht'.symm] at c0
      rw [← ht']
      subst e1
      have hn1i : (n : Int) - 1 = (n1 : Int) := by omega
      have hn1l : (n1 : Int) < (n : Int) := by omega
      have hn1w : IntKind.i64.wrap (n1 : Int) = (n1 : Int) := by rw [IntKind.wrap_i64]; omega
      have hn6i : (n : Int) < 6 := by omega
      have hb1 : b < w.heap.size + 1 := by omega
      clear hn hc efv kM hF ht' hn1
      go_enter Tryz.func167, Tryz.ntmps167
      go_wp2_with fail
      go_quiet (fail)
      go_wp2
      go_ret
      exact ⟨by simp, below_drewN ((Below.refl _ w).alloc (Nat.le_refl _) _) _⟩
    · have hd6 : decide (n < 6) = false := decide_eq_false h6
      rw [hd6, Bool.false_and]
      have hn6i : ¬ (n : Int) < 6 := by omega
      have hd6i : decide ((n : Int) < 6) = false := decide_eq_false hn6i
      clear hn hc efv kM hF
      go_enter Tryz.func167, Tryz.ntmps167
      go_wp2_with fail
      go_quiet (fail)
      go_wp2
      go_ret
      exact ⟨by simp, below_drewN ((Below.refl _ w).alloc (Nat.le_refl _) _) _⟩

set_option maxHeartbeats 4000000 in
set_option maxRecDepth 100000 in
theorem groupTake_any (base M : Nat) (fv cv : Value) (o : List Fr) (cl : List (List Fr)) (f : Fr) (pv : Value) (w : World) (hM : GMk base M w fv cv o cl) (hbM : base ≤ M) (ho : o.length ≤ 6) (hcl : cl.length ≤ 1000) (hp : StrsIn (fun g => g < base) w pv f.parts) (hf : f.chk = 0) :
    Calls Tryz.prog 143 #[.pointer (some ⟨M, 0, none⟩), .agg #[.int .i64 f.time, .bool f.key, pv]] w fun e w' => e = .returned (.tuple #[]) ∧ GMake base M w' (growG o f) (if f.key && decide (0 < o.length) then cl ++ [o] else cl) ∧ Below base w w' := by
  obtain ⟨i0, hi, hz0, hz1, hz2⟩ := info_parts Tryz.infoFrm
  obtain ⟨pa, pc, ep⟩ := hp.1.len
  have HP : Hid (StrsIn (fun g => g < base) w pv f.parts) := hp
  obtain ⟨R, hR⟩ : ∃ R, R = growG o f := ⟨_, rfl⟩
  obtain ⟨C, hC⟩ : ∃ C, C = if f.key && decide (0 < o.length) then cl ++ [o] else cl := ⟨_, rfl⟩
  obtain ⟨o', ho'⟩ : ∃ o', o' = if f.key then [] else o := ⟨_, rfl⟩
  have HKEY : Hid (f.key = true → R = o' ++ [f] ∧ C = (if 0 < o.length then cl ++ [o] else cl) ∧ o' = []) := fun h => by
    refine ⟨?_, ?_, by rw [ho', if_pos h]⟩
    · rw [hR, ho', if_pos h]; unfold growG; rw [if_pos h]; rfl
    · rw [hC, h, Bool.true_and]
      by_cases h0 : 0 < o.length
      · rw [if_pos (decide_eq_true h0), if_pos h0]
      · rw [if_neg (by rw [decide_eq_true_eq]; exact h0), if_neg h0]
  have HNK : Hid (f.key = false → C = cl ∧ o' = o ∧ (gon o f = true → R = o' ++ [f]) ∧ (gon o f = false → R = o)) := fun h => by
    have e : o' = o := by rw [ho', h]; rfl
    refine ⟨by rw [hC, h]; rfl, e, fun h2 => ?_, fun h2 => ?_⟩
    · rw [hR, gon_grow h, h2, if_pos rfl, e]
    · rw [hR, gon_grow h, h2]; rfl
  have HO7 : Hid (o'.length ≤ 6) := by
    show _ ≤ _
    rw [ho']
    split
    · simp
    · exact ho
  have HGO : Hid (∀ w' : World, GMk base M w' fv cv o cl → Calls Tryz.prog 167 #[.pointer (some ⟨M, 0, none⟩), .agg #[.int .i64 f.time, .bool f.key, .slice pa f.parts.length pc]] w' fun e w'' => e = .returned (.bool (gon o f)) ∧ Below w'.heap.size w' w'') := fun w' h => goesOn_any base M fv cv o cl f _ _ _ w' h
  have HCL : Hid (∀ w' : World, GMk base M w' fv cv o cl → Calls Tryz.prog 166 #[.pointer (some ⟨M, 0, none⟩)] w' fun e w'' => e = .returned (.tuple #[]) ∧ (∃ cv', GMk base M w'' (.slice none 0 0) cv' [] (if 0 < o.length then cl ++ [o] else cl)) ∧ Below base w' w'' ∧ ∀ j, j < w'.heap.size → j ≠ M → some j ≠ cv.ownBlock → w''.heap[j]? = w'.heap[j]?) := fun w' h => groupClose_any base M fv cv o cl w' h hbM ho hcl
  have HCF : Hid (∀ w' : World, StrsIn (fun g => g < base) w' pv f.parts → Calls Tryz.prog 103 #[.agg #[.int .i64 f.time, .bool f.key, pv]] w' fun e w'' => ∃ a c, e = .returned (.agg #[.int .i64 f.time, .bool f.key, .slice a f.parts.length c]) ∧ StrsIn (fun g => w'.heap.size ≤ g) w'' (.slice a f.parts.length c) f.parts ∧ Below w'.heap.size w' w'') := fun w' h => cloneFrame_any _ f pv w' h hf
  have HMK : Hid (GMk base M w fv cv o cl) := hM
  have hMw := hM.1.lt
  obtain ⟨gg, hgg⟩ : ∃ gg, gg = gon o f := ⟨_, rfl⟩
  rw [← hgg] at HGO HNK
  rw [← hR, ← hC]
  obtain ⟨t, k, parts⟩ := f
  simp only at ep HP HGO HCF HKEY HNK ⊢
  obtain ⟨pn, hpn⟩ : ∃ pn, pn = parts.length := ⟨_, rfl⟩
  have HPN : Hid (pn = parts.length) := hpn
  rw [← hpn] at ep HGO HCF
  clear hM hp hf hR hC ho' hgg hpn ho hcl
  have HEP : Hid (pv = .slice pa pn pc) := ep
  subst ep
  go_enter Tryz.func143, Tryz.ntmps143
  go_upto_if 5 with fail
  go_cut [] (fun wc => ∃ fv' cv', Hid (GMk base M wc fv' cv' o' C) ∧ Hid (R = o' ++ [⟨t, k, parts⟩]) ∧ Hid (Blk wc w.heap.size #[.int .i64 t, .bool k, .slice pa pn pc] 30) ∧ Hid (∀ g, fv'.ownBlock = some g → g ≠ w.heap.size) ∧ Hid (StrsIn (fun g => g < base) wc (.slice pa pn pc) parts) ∧ Hid (Below base w wc))
  case first =>
    have MK1 : Hid (GMk base M (w.alloc (.cells #[.int .i64 t, .bool k, .slice pa pn pc] 30)) fv cv o cl) := HMK.out.below ((Below.refl _ w).alloc (Nat.le_refl _) _)
    cases k
    · have hnk := HNK.out rfl
      have HNK2 : Hid (C = cl ∧ o' = o ∧ (gg = true → R = o' ++ [⟨t, false, parts⟩]) ∧ (gg = false → R = o)) := hnk
      clear hnk
      go_wp2_with fail
      refine (HGO.out _ MK1.out).mono ?_
      rintro e w1 ⟨rfl, hb1⟩
      have B1 : Hid (Below w.heap.size w w1) := ((Below.refl _ w).alloc (Nat.le_refl _) _).trans (hb1.mono (by simp))
      have MK2 : Hid (GMk base M w1 fv cv o C) := by rw [HNK2.out.1]; exact MK1.out.below hb1
      have KF : Hid (Blk w1 w.heap.size #[.int .i64 t, .bool false, .slice pa pn pc] 30) := (Blk.new w _ _).below hb1 (by simp)
      have SP : Hid (StrsIn (fun g => g < base) w1 (.slice pa pn pc) parts) := HP.out.below B1.out
      clear hb1
      cases gg
      · have HRO : Hid (R = o) := HNK2.out.2.2.2 rfl
        go_wp2
        refine bodyPost_ret (v := .tuple #[]) (results_none rfl _ _ _) rfl ?_
        exact ⟨rfl, ⟨fv, cv, by rw [HRO.out]; exact MK2.out⟩, B1.out.mono (by omega)⟩
      · have HRO : Hid (R = o' ++ [⟨t, false, parts⟩]) := HNK2.out.2.2.1 rfl
        go_wp2_with fail
        go_meet
        case rel => exact ⟨fv, cv, (show GMk base M w1 fv cv o' C by rw [HNK2.out.2.1]; exact MK2.out), HRO, KF, (show ∀ g, _ → _ from fun g hg e => by have := (HMK.out.2.1.lt g hg).2; omega), SP, (show Below base w w1 from B1.out.mono (by omega))⟩
    · have hk := HKEY.out rfl
      have HK2 : Hid (R = o' ++ [⟨t, true, parts⟩] ∧ C = (if 0 < o.length then cl ++ [o] else cl) ∧ o' = []) := hk
      clear hk
      go_wp2_with fail
      refine (HCL.out _ MK1.out).mono ?_
      rintro e w1 ⟨rfl, ⟨cv', hmk⟩, hb1, oth⟩
      have B1 : Hid (Below base w w1) := ((Below.refl base w).alloc (by omega) _).trans hb1
      have KF : Hid (Blk w1 w.heap.size #[.int .i64 t, .bool true, .slice pa pn pc] 30) := (oth w.heap.size (by simp) (by omega) (fun e => by have := (HMK.out.2.2.lt _ e.symm).2; omega)).trans (Blk.new w _ _)
      have MK2 : Hid (GMk base M w1 (.slice none 0 0) cv' o' C) := by rw [HK2.out.2.1, HK2.out.2.2]; exact hmk
      have SP : Hid (StrsIn (fun g => g < base) w1 (.slice pa pn pc) parts) := HP.out.to ⟨B1.out.size, fun g _ h => B1.out.block g h⟩ (fun _ _ h => h)
      have HRO : Hid (R = o' ++ [⟨t, true, parts⟩]) := HK2.out.1
      clear hmk hb1 oth
      go_wp2_with fail
      go_meet
      case rel => exact ⟨.slice none 0 0, cv', MK2, HRO, KF, (show ∀ g, _ → _ from fun g hg => by simp [Value.ownBlock] at hg), SP, B1⟩
  case rest =>
    obtain ⟨fv', cv', MK, HR, KF, NF, SP, BC⟩ := hcut
    have hmk := MK.out
    obtain ⟨kM, hF, hCl⟩ := hmk
    obtain ⟨qs, fq1, fq2, fq3⟩ := hF
    obtain ⟨fa, fc, efv, hfc, _⟩ := owns_cap fq2
    have hql : qs.length = o'.length := by rw [← fq1, List.length_map]
    obtain ⟨n, hn⟩ : ∃ n, n = o'.length := ⟨_, rfl⟩
    have HN : Hid (n = o'.length) := hn
    have hn6 : n ≤ 6 := by rw [hn]; exact HO7.out
    rw [hql, ← hn] at efv hfc fq2
    have HE1 : Hid (fv' = .slice fa n fc) := efv
    have k0 := kM.two.1
    rw [efv] at k0
    have FQ1 : Hid (qs.map Prod.fst = o') := fq1
    have FQ2 : Hid (wc.ownsRow base 30 3 fv' n (frCells qs)) := fq2
    have FQ3 : Hid (∀ p ∈ qs, StrsIn (GS base M fv' cv') wc p.2 p.1.parts) := fq3
    have HQL : Hid (qs.length = n) := by show _ = _; rw [hql, hn]
    have hMc := kM.lt
    have hKl := KF.out.lt
    obtain ⟨y0, y1, y2⟩ := KF.out.three
    clear kM hCl fq1 fq2 fq3 efv hql hn
    go_wp2_with fail
    refine region_chain (by kernel_rfl) (by kernel_rfl) [.quiet (.pointer (some ⟨M, 0, none⟩)) 4, .quiet (.pointer (some ⟨M, 0, none⟩)) 4, .quiet (.pointer (some ⟨M, 0, none⟩)) 4, .quiet (.pointer (some ⟨M, 0, none⟩)) 4, .quiet (.pointer (some ⟨M, 0, none⟩)) 4, .quiet (.slice fa n fc) 2, .quiet (.agg #[.int .i64 t, .bool k, .slice pa pn pc]) 0, .step 0, .step 1, .step 2, .quiet (.pointer (some ⟨M, 0, none⟩)) 4, .quiet (.pointer (some ⟨M, 0, none⟩)) 4, .quiet (.pointer (some ⟨M, 0, none⟩)) 4, .step 3] [7, 8, 9, 13] (by kernel_rfl)
      (fun s r w' => match s with
        | 0 => Below wc.heap.size wc w'
        | 1 => ∃ a c, r 0 = .agg #[.int .i64 t, .bool k, .slice a pn c] ∧ StrsIn (fun g => wc.heap.size ≤ g) w' (.slice a pn c) parts ∧ Below wc.heap.size wc w'
        | 2 => ∃ a c V, StrsIn (fun g => wc.heap.size ≤ g) V (.slice a pn c) parts ∧ Below wc.heap.size wc V ∧ w' = V.alloc (.cells #[.int .i64 t, .bool k, .slice a pn c] 30) ∧ r 1 = .slice (some ⟨V.heap.size, 0, none⟩) 1 1
        | 3 => ∃ a c V, StrsIn (fun g => wc.heap.size ≤ g) V (.slice a pn c) parts ∧ Below wc.heap.size wc V ∧ w'.ownsRow base 30 3 (r 2) (n + 1) (frCells qs ++ [.int .i64 t, .bool k, .slice a pn c]) ∧ (V.alloc (.cells #[.int .i64 t, .bool k, .slice a pn c] 30)).grownBy w' fv'.ownBlock ∧ ((r 2).ownBlock = fv'.ownBlock ∨ ∀ g, (r 2).ownBlock = some g → (V.alloc (.cells #[.int .i64 t, .bool k, .slice a pn c] 30)).heap.size ≤ g)
        | _ => ∃ a c V w2 v', StrsIn (fun g => wc.heap.size ≤ g) V (.slice a pn c) parts ∧ Below wc.heap.size wc V ∧ w2.ownsRow base 30 3 v' (n + 1) (frCells qs ++ [.int .i64 t, .bool k, .slice a pn c]) ∧ (V.alloc (.cells #[.int .i64 t, .bool k, .slice a pn c] 30)).grownBy w2 fv'.ownBlock ∧ (v'.ownBlock = fv'.ownBlock ∨ ∀ g, v'.ownBlock = some g → (V.alloc (.cells #[.int .i64 t, .bool k, .slice a pn c] 30)).heap.size ≤ g) ∧ w' = w2.setCell ⟨M, 0, none⟩ v') ((Below.refl _ wc).drew) ?step ?fin
    case step =>
      intro i o ho a' w' s r hI hfree hvals
      have f0 : a'.eval (.tmp 0) = .pointer (some ⟨M, 0, none⟩) := (hfree 0 (by kernel_rfl)).trans rfl
      have f3 : a'.eval (.tmp 3) = .pointer (some ⟨w.heap.size, 0, none⟩) := (hfree 3 (by kernel_rfl)).trans rfl
      match i, ho with
      | 0, ho | 1, ho =>
        simp at ho; subst ho
        show s ≤ 4 → (execOp a'.eval _).run _ w' = .ok (.value _) w'
        intro _
        generalize a'.eval = ρ at *
        simp [execOp, go_sem, f0]
      | 2, ho =>
        simp at ho; subst ho
        have e1 : a'.eval (.tmp 13) = .pointer (some ⟨M, 0, none⟩) := hvals 1 _ _ (by kernel_rfl) rfl rfl
        show s ≤ 4 → (execOp a'.eval _).run _ w' = .ok (.value _) w'
        intro _
        generalize a'.eval = ρ at *
        simp [execOp, go_sem, e1]
      | 3, ho =>
        simp at ho; subst ho
        have e1 : a'.eval (.tmp 14) = .pointer (some ⟨M, 0, none⟩) := hvals 2 _ _ (by kernel_rfl) rfl rfl
        show s ≤ 4 → (execOp a'.eval _).run _ w' = .ok (.value _) w'
        intro _
        generalize a'.eval = ρ at *
        simp [execOp, go_sem, e1]
      | 4, ho =>
        simp at ho; subst ho
        have e1 : a'.eval (.tmp 15) = .pointer (some ⟨M, 0, none⟩) := hvals 3 _ _ (by kernel_rfl) rfl rfl
        show s ≤ 4 → (execOp a'.eval _).run _ w' = .ok (.value _) w'
        intro _
        generalize a'.eval = ρ at *
        simp [execOp, go_sem, e1]
      | 5, ho =>
        simp at ho; subst ho
        have e1 : a'.eval (.tmp 16) = .pointer (some ⟨M, 0, none⟩) := hvals 4 _ _ (by kernel_rfl) rfl rfl
        show s ≤ 2 → (execOp a'.eval _).run _ w' = .ok (.value _) w'
        intro hs
        have hc : w'.cell? ⟨M, 0, none⟩ = some (.slice fa n fc) := by
          match s, hs, hI with
          | 0, _, hI => exact (Below.cell hI (p := ⟨M, 0, none⟩) hMc).trans k0
          | 1, _, ⟨_, _, _, _, hI⟩ => exact (Below.cell hI (p := ⟨M, 0, none⟩) hMc).trans k0
          | 2, _, ⟨_, _, V, _, hI, hw, _⟩ => rw [hw]; exact (World.cell?_alloc_past _ _ _ (Nat.lt_of_lt_of_le hMc hI.size)).trans ((Below.cell hI (p := ⟨M, 0, none⟩) hMc).trans k0)
        generalize a'.eval = ρ at *
        simp [execOp, go_sem, e1, hc]
      | 6, ho =>
        simp at ho; subst ho
        show s ≤ 0 → (execOp a'.eval _).run _ w' = .ok (.value _) w'
        intro hs
        have hB : Below wc.heap.size wc w' := by
          match s, hs, hI with
          | 0, _, hI => exact hI
        have z0 := (hB.cell (p := ⟨w.heap.size, 0, none⟩) hKl).trans y0
        have z1 := (hB.cell (p := ⟨w.heap.size, 1, none⟩) hKl).trans y1
        have z2 := (hB.cell (p := ⟨w.heap.size, 2, none⟩) hKl).trans y2
        generalize a'.eval = ρ at *
        simp [execOp, go_sem, f3, z0, z1, z2]
      | 7, ho =>
        simp at ho; subst ho
        have e1 : a'.eval (.tmp 18) = .agg #[.int .i64 t, .bool k, .slice pa pn pc] := hvals 6 _ _ (by kernel_rfl) rfl rfl
        have ef : a'.eval (.func 103) = .func (.func 103) #[] #[] := rfl
        show s = 0 → Oper.wp _ _ _ _ _ _
        intro hs
        subst hs
        have hB : Below wc.heap.size wc w' := hI
        refine oper_wp_call (f := 103) (args := #[.agg #[.int .i64 t, .bool k, .slice pa pn pc]]) ?_ ?_
        · generalize a'.eval = ρ at *
          simp [execOp, go_sem, e1, ef]
        · refine (HCF.out w' (SP.out.below hB)).mono ?_
          rintro e w'' ⟨a, c, rfl, hs1, hb1⟩
          refine ⟨_, rfl, _, rfl, a, c, updR_at _ _ _, hs1.mono (fun g _ hg => Nat.le_trans hB.size hg), hB.trans (hb1.mono hB.size)⟩
      | 8, ho =>
        simp at ho; subst ho
        have e1 : a'.eval (.tmp 19) = r 0 := hvals 7 _ _ (by kernel_rfl) rfl rfl
        show s = 1 → Oper.wp _ _ _ _ _ _
        intro hs
        subst hs
        obtain ⟨a, c, hr0, h1, h2⟩ := hI
        rw [hr0] at e1
        refine oper_wp_ok (v := .slice (some ⟨w'.heap.size, 0, none⟩) 1 1) (w' := w'.alloc (.cells #[.int .i64 t, .bool k, .slice a pn c] 30)) ?_ ⟨_, rfl, a, c, w', h1, h2, rfl, updR_at _ _ _⟩
        generalize a'.eval = ρ at *
        simp [execOp, go_sem, e1]
      | 9, ho =>
        simp at ho; subst ho
        have e1 : a'.eval (.tmp 17) = .slice fa n fc := hvals 5 _ _ (by kernel_rfl) rfl rfl
        have e2 : a'.eval (.tmp 20) = r 1 := hvals 8 _ _ (by kernel_rfl) rfl rfl
        show s = 2 → Oper.wp _ _ _ _ _ _
        intro hs
        subst hs
        obtain ⟨a, c, V, h1, h2, hw, hr1⟩ := hI
        rw [hr1] at e2
        subst hw
        have hV := h2.size
        have hown : (V.alloc (.cells #[.int .i64 t, .bool k, .slice a pn c] 30)).ownsRow base 30 3 fv' n (frCells qs) := (owns_below FQ2.out h2 (Nat.le_refl _)).alloc _
        obtain ⟨v', w2, hrun, g2, g3, g4⟩ := run_append_own2 (P := Tryz.prog) (V.alloc (.cells #[.int .i64 t, .bool k, .slice a pn c] 30)) base 23 23 30 i0 _ 3 40 Tryz.underlying23 hi hz0 hz1 hz2 rfl (by decide) fv' n (frCells qs) hown ⟨V.heap.size, 0, none⟩ 1 1 [.int .i64 t, .bool k, .slice a pn c] rfl (fun j u hj => by
            rw [Addr.add_lit, Nat.zero_add]
            exact (Blk.new V #[.int .i64 t, .bool k, .slice a pn c] 30).cell (by simpa using hj)) (fun u hu => by simp at hu; rcases hu with rfl | rfl | rfl <;> rfl) (by unfold maxLen; omega) (by omega) (by simp; omega)
        rw [HE1.out] at hrun
        refine oper_wp_ok (v := v') (w' := w2) ?_ ⟨_, rfl, a, c, V, h1, h2, ?_⟩
        · generalize a'.eval = ρ at *
          simp [execOp, resolve, invoke, builtin, e1, e2, hrun, Result.andThen]
        · rw [updR_at]
          exact ⟨g2, g3, g4⟩
      | 10, ho =>
        simp at ho; subst ho
        have e1 : a'.eval (.tmp 12) = .pointer (some ⟨M, 0, none⟩) := hvals 0 _ _ (by kernel_rfl) rfl rfl
        show s ≤ 4 → (execOp a'.eval _).run _ w' = .ok (.value _) w'
        intro _
        generalize a'.eval = ρ at *
        simp [execOp, go_sem, e1]
      | 11, ho =>
        simp at ho; subst ho
        have e1 : a'.eval (.tmp 22) = .pointer (some ⟨M, 0, none⟩) := hvals 10 _ _ (by kernel_rfl) rfl rfl
        show s ≤ 4 → (execOp a'.eval _).run _ w' = .ok (.value _) w'
        intro _
        generalize a'.eval = ρ at *
        simp [execOp, go_sem, e1]
      | 12, ho =>
        simp at ho; subst ho
        have e1 : a'.eval (.tmp 23) = .pointer (some ⟨M, 0, none⟩) := hvals 11 _ _ (by kernel_rfl) rfl rfl
        show s ≤ 4 → (execOp a'.eval _).run _ w' = .ok (.value _) w'
        intro _
        generalize a'.eval = ρ at *
        simp [execOp, go_sem, e1]
      | 13, ho =>
        simp at ho; subst ho
        have e1 : a'.eval (.tmp 24) = .pointer (some ⟨M, 0, none⟩) := hvals 12 _ _ (by kernel_rfl) rfl rfl
        have e2 : a'.eval (.tmp 21) = r 2 := hvals 9 _ _ (by kernel_rfl) rfl rfl
        show s = 3 → Oper.wp _ _ _ _ _ _
        intro hs
        subst hs
        obtain ⟨a, c, V, h1, h2, g2, g3, g4⟩ := hI
        obtain ⟨va, vc, ev, _⟩ := owns_cap g2
        have hV := h2.size
        have kM2 : Blk w' M #[fv', cv'] 201 := (g3.block M (by simp; omega) (fun e => MK.out.fneM e.symm)).trans ((MK.out.1.below h2 hMc).alloc _)
        have z0 := kM2.two.1
        have z1 := kM2.free 0
        refine oper_wp_skip (w' := w'.setCell ⟨M, 0, none⟩ (r 2)) ?_ ⟨_, rfl, a, c, V, w', r 2, h1, h2, g2, g3, g4, rfl⟩
        rw [ev] at e2 ⊢
        generalize a'.eval = ρ at *
        simp [execOp, go_sem, e1, e2, z0, z1]
      | i + 14, ho => simp at ho
    case fin =>
      rintro r w' ⟨a, c, V, w2, v', h1, h2, g2, g3, g4, hw⟩
      have hmk := MK.out
      have hV := h2.size
      have hsz2 := g3.size
      simp only [World.size_alloc] at hsz2
      have kM2 : Blk w2 M #[fv', cv'] 201 := (g3.block M (by simp; omega) (fun e => hmk.fneM e.symm)).trans ((hmk.1.below h2 hMc).alloc _)
      have hvM : v'.ownBlock ≠ some M := fun e => by
        rcases g4 with g4 | g4
        · rw [g4] at e; exact hmk.fneM e
        · have := g4 M e; simp at this; omega
      have hnew : ∀ g, g < V.heap.size → some g ≠ fv'.ownBlock → some g ≠ v'.ownBlock := fun g hg h1 e => by
        rcases g4 with g4 | g4
        · rw [g4] at e; exact h1 e
        · have := g4 g e.symm; simp at this; omega
      have hsm : SameOn (fun g => g < V.heap.size ∧ some g ≠ fv'.ownBlock) V w2 := ⟨by omega, fun g hg h2 => by
        rw [g3.block g (by simp; omega) h2.2]
        exact Below.heap_alloc V _ g hg⟩
      have hsm2 : SameOn (GS base M fv' cv') wc w2 := (SameOn.of_below h2).trans (hsm.mono' (fun g hg hs => ⟨hg, hs.2.2.1⟩))
      have hSS : ∀ g, g < wc.heap.size → GS base M fv' cv' g → GS base M v' cv' g := fun g hg hs => ⟨hs.1, hs.2.1, hnew g (by omega) hs.2.2.1, hs.2.2.2⟩
      have hcb : ∀ g, cv'.ownBlock = some g → w2.heap[g]? = wc.heap[g]? := fun g hg => by
        have h3 := (hmk.2.2.lt g hg).2
        rw [hsm.2 g (by omega) ⟨by omega, fun e => hmk.fnec g e.symm hg⟩]
        exact h2.block g h3
      have hp2 : StrsIn (GS base M v' cv') w2 (.slice a pn c) parts := by
        refine (h1.mono (S' := fun g => wc.heap.size ≤ g ∧ g < V.heap.size) (fun g hg h => ⟨h, hg⟩)).to (hsm.mono (fun g hg => ⟨hg.2, fun e => by have := (hmk.2.1.lt g e.symm).2; omega⟩)) (fun g hg hs => ⟨?_, ?_, ?_, ?_⟩)
        · have := hmk.1.lt; omega
        · omega
        · exact hnew g hs.2 (fun e => by have := (hmk.2.1.lt g e.symm).2; omega)
        · exact fun e => by have := (hmk.2.2.lt g e.symm).2; omega
      have hof : OwnFrs base (GS base M v' cv') w2 v' (o' ++ [⟨t, k, parts⟩]) := by
        refine ⟨qs ++ [(⟨t, k, parts⟩, .slice a pn c)], by rw [List.map_append, FQ1.out]; rfl, by rw [List.length_append, frCells_append, HQL.out]; exact g2, fun p hp => ?_⟩
        rcases List.mem_append.1 hp with hp | hp
        · exact (FQ3.out p hp).to hsm2 hSS
        · simp at hp; subst hp; exact hp2
      have hoc : OwnGrs base (GS base M v' cv') w2 cv' C := hmk.2.2.to hsm2 hSS hcb
      have set0 : SameOn (GS base M v' cv') w2 (w2.setCell ⟨M, 0, none⟩ v') := SameOn.setCell (fun g hg => hg.2.1) _
      have FIN : Hid (GMake base M (w2.setCell ⟨M, 0, none⟩ v') R C) := ⟨v', cv', kM2.set 0 _, by
          rw [HR.out]
          exact hof.to set0 (fun _ _ h => h) (fun g hg => Below.heap_setCell _ _ _ _ (fun e => hvM (by rw [hg]; exact congrArg some e))),
        hoc.to set0 (fun _ _ h => h) (fun g hg => Below.heap_setCell _ _ _ _ (fun e => hmk.cneM (by rw [hg]; exact congrArg some e)))⟩
      have BEL : Hid (Below base w (w2.setCell ⟨M, 0, none⟩ v')) := (((BC.out.trans (h2.mono (by have := hmk.1.lt; omega))).alloc (by have := hmk.1.lt; omega) _).grown g3 (by have := hmk.1.lt; simp; omega) (fun j hj => (hmk.2.1.lt j hj).1)).setCell (by exact hbM) _
      subst hw
      simp only [putC, Ck.out]
      clear hof hoc hp2 hSS hsm2 hcb hsm hnew g2 g3 g4 kM2 k0 y0 y1 y2 set0
      go_wp2
      go_end0
      exact ⟨rfl, FIN.out, BEL.out⟩

end Go.Proofs.YtnpaejknoipicafGreat

namespace Go.Proofs.YtnpaejknoipicafGreat
open Go.RowKit

def eachE (l : List Fr) : Int := goN (fun k => (frAt l k).chk) l.length 0

set_option maxHeartbeats 4000000 in
set_option maxRecDepth 100000 in
theorem groupEach_any (base M : Nat) (v : Value) (l : List Fr) (w : World) (hM : GMk base M w (.slice none 0 0) (.slice none 0 0) [] []) (hbM : base ≤ M) (hv : FrsIn (fun g => g < base) w v l) (hl : l.length ≤ 100) :
    Calls Tryz.prog 142 #[v, .func (.func 143) #[.pointer (some ⟨M, 0, none⟩)] #[]] w fun e w' => e = .returned (.int .i64 (eachE l)) ∧ (eachE l = 0 → GMake base M w' (upG l l.length).2 (upG l l.length).1) ∧ Below base w w' := by
  have HV : Hid (FrsIn (fun g => g < base) w v l) := hv
  obtain ⟨ao, c, hva, h1, h2, hc⟩ := hv
  have HC : Hid (∀ k, k < l.length → ∃ b off, ao = some ⟨b, off, none⟩ ∧ b < w.heap.size ∧ b < base ∧ At3In (fun g => g < base) w b (off + k * 3) (l[k]?.getD Fr.zero)) := hc
  obtain ⟨n, hn⟩ : ∃ n, n = l.length := ⟨_, rfl⟩
  have HN : Hid (n = l.length) := hn
  have hbw : base ≤ w.heap.size := by have := hM.1.lt; omega
  obtain ⟨E, hE⟩ : ∃ E, E = eachE l := ⟨_, rfl⟩
  have HE : Hid (E = goN (fun k => (frAt l k).chk) n 0) := by show _ = _; rw [hE, hn]; rfl
  have HMK : Hid (GMk base M w (.slice none 0 0) (.slice none 0 0) [] []) := hM
  have eg : Enters Tryz.prog 143 := enters_of Tryz.func143 (by kernel_rfl) rfl
  have eg' : ∀ (args : Array Value) (w : World), (callFunc 143 args).run Tryz.prog w = .ok (.enter 143 args) w := eg
  rw [← hn] at hva h1 hl
  rw [← hE, ← hn]
  clear hc hn hE hM eg
  subst hva
  go_enter Tryz.func142, Tryz.ntmps142
  go_wp2_with fail
  go_loopw [10] (fun i wr => ∃ k : Nat, k ≤ n ∧ i = .int .i64 k ∧ Hid (∀ j, j < k → (frAt l j).chk = 0) ∧ Hid (GMake base M wr (upG l k).2 (upG l k).1) ∧ Hid (Below base w wr))
    (fun i _ => n - (intOf i).toNat)
  case atStart => exact ⟨0, Nat.zero_le _, rfl, (show ∀ j, j < 0 → _ from fun j hj => absurd hj (Nat.not_lt_zero _)), ⟨_, _, HMK.out⟩, Below.refl _ _⟩
  case round =>
    obtain ⟨k, hk, rfl, HK, MK, HB⟩ := hrel
    by_cases hlt : k < n
    · obtain ⟨b, off, hao, hb, hbb, pv, c0, c1, c2, hp⟩ := HC.out k (by rw [← HN.out]; exact hlt)
      have d0 := (HB.out.cell (p := ⟨b, off + k * 3, none⟩) hbb).trans c0
      have d1 := (HB.out.cell (p := ⟨b, off + k * 3 + 1, none⟩) hbb).trans c1
      have d2 := (HB.out.cell (p := ⟨b, off + k * 3 + 2, none⟩) hbb).trans c2
      have hpr : StrsIn (fun g => g < base) wr pv (l[k]?.getD Fr.zero).parts := hp.to ⟨HB.out.size, fun g _ h => HB.out.block g h⟩ (fun _ _ h => h)
      obtain ⟨f, hf⟩ : ∃ f, f = frAt l k := ⟨_, rfl⟩
      rw [show (l[k]?.getD Fr.zero) = f from hf.symm] at d0 d1 hpr
      obtain ⟨pa, pc, ep⟩ := hpr.1.len
      obtain ⟨fv, cv, mk⟩ := MK.out
      have hlens := upG_len l k (by rw [← HN.out]; omega)
      have HUP : Hid (upG l (k + 1) = stepG (upG l k) f) := by show _ = _; rw [hf]; exact upG_succ l k (by rw [← HN.out]; exact hlt)
      have HFC : Hid (frAt l k = f) := hf.symm
      obtain ⟨cl, o, hco⟩ : ∃ cl o, upG l k = (cl, o) := ⟨_, _, rfl⟩
      rw [hco] at mk hlens HUP
      simp only at mk hlens
      have HM1 : Hid (GMk base M wr fv cv o cl) := mk
      have HTK : Hid (f.chk = 0 → ∀ w' : World, GMk base M w' fv cv o cl → StrsIn (fun g => g < base) w' pv f.parts → Calls Tryz.prog 143 #[.pointer (some ⟨M, 0, none⟩), .agg #[.int .i64 f.time, .bool f.key, pv]] w' fun e w'' => e = .returned (.tuple #[]) ∧ GMake base M w'' (growG o f) (if f.key && decide (0 < o.length) then cl ++ [o] else cl) ∧ Below base w' w'') := fun h w' h1 h2 => groupTake_any base M fv cv o cl f pv w' h1 hbM hlens.1 (by have := hlens.2; omega) h2 h
      obtain ⟨ck, hck⟩ : ∃ ck, ck = f.chk := ⟨_, rfl⟩
      have HCF : Hid (∀ w' : World, Strs w' pv f.parts → Calls Tryz.prog 49 #[.agg #[.int .i64 f.time, .bool f.key, pv]] w' fun e w'' => e = .returned (.int .i64 ck) ∧ Below w'.heap.size w' w'') := fun w' hs => by rw [hck]; exact frameCheck_any f.time f.key _ f.parts w' hs hpr.2.1
      have HP : Hid (StrsIn (fun g => g < base) wr pv f.parts) := hpr
      have HCK : Hid (ck = f.chk) := hck
      rw [← hck] at HTK
      obtain ⟨R, hR⟩ : ∃ R, R = growG o f := ⟨_, rfl⟩
      obtain ⟨C, hC⟩ : ∃ C, C = (if f.key && decide (0 < o.length) then cl ++ [o] else cl) := ⟨_, rfl⟩
      have HUP2 : Hid (upG l (k + 1) = (C, R)) := by show _ = _; rw [HUP.out, hR, hC]; rfl
      rw [← hR, ← hC] at HTK
      obtain ⟨pn, hpn⟩ : ∃ pn, pn = f.parts.length := ⟨_, rfl⟩
      rw [← hpn] at ep
      subst ep
      subst hao
      have hlti : (k : Int) < (n : Int) := by omega
      obtain ⟨ft, fk, fp⟩ := f
      simp only at d0 d1 HP HCF HTK
      clear c0 c1 c2 hp hpr hf hck hpn hco mk hlens hR hC MK HUP
      go_wp2_with fail
      refine (HCF.out _ (HP.out.1.below ((Below.refl _ wr).alloc (Nat.le_refl _) _))).mono ?_
      rintro e w1 ⟨rfl, hb1⟩
      have B1 : Hid (Below wr.heap.size wr w1) := ((Below.refl _ wr).alloc (Nat.le_refl _) _).trans (hb1.mono (by simp))
      have BB1 : Hid (Below base w w1) := HB.out.trans (B1.out.mono (by have := HB.out.size; omega))
      obtain ⟨y0, y1, y2⟩ := ((Blk.new wr #[.int .i64 ft, .bool fk, .slice pa pn pc] 30).below hb1 (by simp)).three
      clear hb1 d0 d1 d2
      by_cases hc0 : ck = 0
      · have MK1 : Hid (GMk base M w1 fv cv o cl) := HM1.out.below B1.out
        have SP1 : Hid (StrsIn (fun g => g < base) w1 (.slice pa pn pc) fp) := HP.out.below B1.out
        have HCK0 : Hid ((frAt l k).chk = 0) := by show _ = _; rw [HFC.out, ← HCK.out, hc0]
        have HT2 : Hid (∀ w' : World, GMk base M w' fv cv o cl → StrsIn (fun g => g < base) w' (.slice pa pn pc) fp → Calls Tryz.prog 143 #[.pointer (some ⟨M, 0, none⟩), .agg #[.int .i64 ft, .bool fk, .slice pa pn pc]] w' fun e w'' => e = .returned (.tuple #[]) ∧ GMake base M w'' R C ∧ Below base w' w'') := HTK.out hc0
        subst hc0
        clear HTK HCK
        go_wp2_with (go_at_fn 143; refine (HT2.out _ MK1.out SP1.out).mono ?_; rintro e w2 ⟨rfl, mk2, hb2⟩)
        have MK3 : Hid (GMake base M w2 (upG l (k + 1)).2 (upG l (k + 1)).1) := by show GMake _ _ _ _ _; rw [HUP2.out]; exact mk2
        have BB2 : Hid (Below base w w2) := BB1.out.trans hb2
        clear mk2 hb2 y0 y1 y2
        go_roundw
        case rel => exact ⟨k + 1, by omega, by go_num, (show ∀ j, j < k + 1 → _ from fun j hj => by
          by_cases e : j = k
          · subst e; exact HCK0.out
          · exact HK.out j (by omega)), MK3, BB2⟩
        case measure => simp [intOf]; omega
      · have HEE : Hid (E = ck) := by
          show _ = _
          rw [HE.out, goN_hit n 0 k (Nat.zero_le _) (by omega) (fun j _ hj => HK.out j hj) (by rw [HFC.out, ← HCK.out]; exact hc0), HFC.out, ← HCK.out]
        go_wp2
        go_ret
        exact ⟨by rw [HEE.out]; rfl, fun h => absurd (HEE.out.symm.trans h) hc0, BB1.out⟩
    · have hkl : k = n := by omega
      subst hkl
      have HEE : Hid (E = 0) := by show _ = _; rw [HE.out]; exact goN_all _ _ (fun j _ hj => HK.out j (by omega))
      go_wp2
      go_ret
      exact ⟨by rw [HEE.out]; rfl, fun _ => MK.out, HB.out⟩

end Go.Proofs.YtnpaejknoipicafGreat

namespace Go.Proofs.YtnpaejknoipicafGreat
open Go.RowKit

/-- what All answers lies in blocks of its own -/
def Fresh3 (base : Nat) (w : World) (cv fv : Value) (r : List (List Fr) × List Fr) : Prop := GrsIn (fun g => base ≤ g) w cv r.1 ∧ FrsIn (fun g => base ≤ g) w fv r.2

set_option maxHeartbeats 4000000 in
set_option maxRecDepth 100000 in
theorem groupAll_any (v : Value) (l : List Fr) (w : World) (S : Nat → Prop) (hv : FrsIn S w v l) :
    Calls Tryz.prog 97 #[v] w fun e w' => ∃ ca cc fa fc, e = .returned (.tuple #[.slice ca (groupsR l).1.length cc, .agg #[.slice fa (groupsR l).2.length fc], .int .i64 (groupsE l)]) ∧ GrsIn (fun g => w.heap.size ≤ g) w' (.slice ca (groupsR l).1.length cc) (groupsR l).1 ∧ FrsIn (fun g => w.heap.size ≤ g) w' (.slice fa (groupsR l).2.length fc) (groupsR l).2 ∧ Below w.heap.size w w' := by
  obtain ⟨a, c, hva, _, hl⟩ := hv.len
  have HV : Hid (FrsIn S w v l) := hv
  obtain ⟨n, hn⟩ : ∃ n, n = l.length := ⟨_, rfl⟩
  have HN : Hid (n = l.length) := hn
  obtain ⟨E, hE⟩ : ∃ E, E = groupsE l := ⟨_, rfl⟩
  obtain ⟨R, hR⟩ : ∃ R, R = groupsR l := ⟨_, rfl⟩
  have HE : Hid (E = if 100 < n then 2 else eachE l) := by show _ = _; rw [hE, hn]; rfl
  have HR : Hid (R = if E = 0 then upG l n else ([], [])) := by show _ = _; rw [hR, hE, hn]; rfl
  rw [← hn] at hva hl
  rw [← hE, ← hR]
  clear hv hn hE hR
  subst hva
  by_cases h1 : 100 < n
  · have hE2 : E = 2 := by rw [HE.out, if_pos h1]
    have hR2 : R = ([], []) := by rw [HR.out, hE2]; rfl
    rw [hE2, hR2]
    have hr := Blk.new w #[.slice none 0 0] 25
    have r0 := hr.one
    have r1 := hr.free 0
    have HBl : Hid (Below w.heap.size w (w.alloc (.cells #[.slice none 0 0] 25))) := (Below.refl _ w).alloc (Nat.le_refl _) _
    clear hr
    go_enter Tryz.func97, Tryz.ntmps97
    go_wp2
    exact bodyPost_ret (v := .tuple #[.slice none 0 0, .agg #[.slice none 0 0], .int .i64 2]) (by simp [results, Tryz.results97, go_sem]) rfl ⟨none, 0, none, 0, rfl, GrsIn.nil _ _, FrsIn.nil _ _, HBl.out⟩
  have hn100 : n ≤ 100 := by omega
  have HE2 : Hid (E = eachE l) := by show _ = _; rw [HE.out, if_neg h1]
  have HEA : Hid (∀ w' : World, GMk (w.heap.size + 1) (w.heap.size + 1) w' (.slice none 0 0) (.slice none 0 0) [] [] → FrsIn (fun g => g < w.heap.size + 1) w' (.slice a n c) l → Calls Tryz.prog 142 #[.slice a n c, .func (.func 143) #[.pointer (some ⟨w.heap.size + 1, 0, none⟩)] #[]] w' fun e w'' => e = .returned (.int .i64 E) ∧ (E = 0 → GMake (w.heap.size + 1) (w.heap.size + 1) w'' (upG l n).2 (upG l n).1) ∧ Below (w.heap.size + 1) w' w'') := fun w' h1 h2 => by
    have := groupEach_any (w.heap.size + 1) (w.heap.size + 1) (.slice a n c) l w' h1 (Nat.le_refl _) h2 (by rw [← HN.out]; exact hn100)
    rw [← HE2.out, ← HN.out] at this
    exact this
  clear HE h1
  go_enter Tryz.func97, Tryz.ntmps97
  have HM0 : Hid (GMk (w.heap.size + 1) (w.heap.size + 1) ((w.alloc (.cells #[.slice none 0 0] 25)).alloc (.cells #[.slice none 0 0, .slice none 0 0] 201)) (.slice none 0 0) (.slice none 0 0) [] []) := by
    refine ⟨?_, OwnFrs.nil _ _ _, OwnGrs.nil _ _ _⟩
    have := Blk.new (w.alloc (.cells #[.slice none 0 0] 25)) #[.slice none 0 0, .slice none 0 0] 201
    simp only [World.size_alloc] at this
    exact this
  have HV0 : Hid (FrsIn (fun g => g < w.heap.size + 1) ((w.alloc (.cells #[.slice none 0 0] 25)).alloc (.cells #[.slice none 0 0, .slice none 0 0] 201)) (.slice a n c) l) := ((HV.out.mono (S' := fun g => g < w.heap.size + 1) (fun g hg _ => by show g < _; omega)).alloc _).alloc _
  go_wp2_with fail
  refine (HEA.out _ HM0.out HV0.out).mono ?_
  rintro e w1 ⟨rfl, hmk, hb1⟩
  have kR : Blk w1 w.heap.size #[.slice none 0 0] 25 := ((Blk.new w #[.slice none 0 0] 25).alloc (.cells #[.slice none 0 0, .slice none 0 0] 201)).below hb1 (by omega)
  have B1 : Hid (Below w.heap.size w w1) := (((Below.refl _ w).alloc (Nat.le_refl _) _).alloc (by simp) _).trans (hb1.mono (by omega))
  have r0 := kR.one
  have r1 := kR.free 0
  by_cases hE0 : E = 0
  · obtain ⟨fv, cv, mk⟩ := hmk hE0
    have hR2 : R = upG l n := by rw [HR.out, if_pos hE0]
    rw [← hR2] at mk
    obtain ⟨kM, hF, hC⟩ := mk
    have GF : FrsIn (fun g => w.heap.size + 1 ≤ g) w1 fv R.2 := hF.frsIn (fun g _ h => h.1) (fun g hg => (hF.lt g hg).1)
    have GC : GrsIn (fun g => w.heap.size + 1 ≤ g) w1 cv R.1 := hC.grsIn (fun g _ h => h.1) (fun g hg => (hC.lt g hg).1)
    obtain ⟨fa, fc, efv, _⟩ := GF.len
    obtain ⟨ca, cc, ecv, _⟩ := GC.len
    obtain ⟨k0, k1⟩ := kM.two
    rw [efv] at GF k0
    rw [ecv] at GC k1
    have HGF : Hid (FrsIn (fun g => w.heap.size + 1 ≤ g) w1 (.slice fa R.2.length fc) R.2) := GF
    have HGC : Hid (GrsIn (fun g => w.heap.size + 1 ≤ g) w1 (.slice ca R.1.length cc) R.1) := GC
    obtain ⟨nF, hnF⟩ : ∃ nF, nF = R.2.length := ⟨_, rfl⟩
    obtain ⟨nC, hnC⟩ : ∃ nC, nC = R.1.length := ⟨_, rfl⟩
    rw [← hnF] at HGF k0
    rw [← hnC] at HGC k1
    have HNF : Hid (nF = R.2.length) := hnF
    have HNC : Hid (nC = R.1.length) := hnC
    have hne : ¬ w.heap.size + 1 = w.heap.size := by omega
    have hMl := kM.lt
    subst hE0
    clear hmk hb1 kR kM hF hC efv ecv GF GC hR2 hnF hnC
    go_wp2_with fail
    go_region
    all_goals
      go_wp2
      refine bodyPost_ret (v := .tuple #[.slice ca nC cc, .agg #[.slice fa nF fc], .int .i64 0]) (by simp [results, Tryz.results97, go_sem, r0]) rfl ⟨ca, cc, fa, fc, by rw [HNC.out, HNF.out], ?_, ?_, ?_⟩
      · rw [← HNC.out]
        exact HGC.out.to (SameOn.setCell (fun g (hg : w.heap.size + 1 ≤ g) => by show g ≠ w.heap.size; omega) _) (fun g _ hg => by omega)
      · rw [← HNF.out]
        exact HGF.out.to (SameOn.setCell (fun g (hg : w.heap.size + 1 ≤ g) => by show g ≠ w.heap.size; omega) _) (fun g _ hg => by omega)
      · exact (B1.out.setCell (by simp) _).drew
  · have hR2 : R = ([], []) := by rw [HR.out, if_neg hE0]
    have HR2 : Hid (R = ([], [])) := hR2
    clear hmk hb1 kR hR2
    go_wp2
    refine bodyPost_ret (v := .tuple #[.slice none 0 0, .agg #[.slice none 0 0], .int .i64 E]) (by simp [results, Tryz.results97, go_sem, r0]) rfl ?_
    rw [HR2.out]
    exact ⟨none, 0, none, 0, rfl, GrsIn.nil _ _, FrsIn.nil _ _, B1.out.setCell (by simp) _⟩

end Go.Proofs.YtnpaejknoipicafGreat

namespace Go.Proofs.YtnpaejknoipicafGreat
open Go.RowKit

theorem FrsIn.two {S : Nat → Prop} {w : World} {b : Nat} {f : Fr} {pv : Value} (hb : Blk w b #[.int .i64 f.time, .bool f.key, pv] 30) (hS : S b) (hp : StrsIn S w pv f.parts) : FrsIn S w (.slice (some ⟨b, 0, none⟩) 1 1) [f] := FrsIn.one hb hS hp

/-- what is known behind each step -/
def AddI (w1 : World) (f : Fr) (pa : Option Addr) (pn pc : Nat) (oa : Option Addr) (lo oc : Nat) (X : List Fr) (C : List (List Fr)) (R : List Fr) (E : Int) (s : Nat) (r : Nat → Value) (b : Option Nat) (w' : World) : Prop :=
  Below w1.heap.size w1 w' ∧ (s ≤ 4 → ∀ g, b = some g → w1.heap.size ≤ g ∧ Blk w' g #[.slice none 0 0] 25) ∧ match s with
    | 0 => True
    | 1 => ∃ g1, r 0 = .slice (some ⟨g1, 0, none⟩) 1 1 ∧ Blk w' g1 #[.int .i64 f.time, .bool f.key, .slice pa pn pc] 30
    | 2 => ∃ g1 g2, r 1 = .slice (some ⟨g2, 0, none⟩) 2 2 ∧ Blk w' g1 #[.int .i64 f.time, .bool f.key, .slice pa pn pc] 30 ∧ Blk w' g2 #[.slice oa lo oc, .slice (some ⟨g1, 0, none⟩) 1 1] 23
    | 3 => FrsIn (fun _ => True) w' (r 2) X
    | 4 => ∃ ca cc fa fc, r 3 = .tuple #[.slice ca C.length cc, .agg #[.slice fa R.length fc], .int .i64 E] ∧ GrsIn (fun x => b ≠ some x ∧ w1.heap.size ≤ x) w' (.slice ca C.length cc) C ∧ FrsIn (fun x => b ≠ some x ∧ w1.heap.size ≤ x) w' (.slice fa R.length fc) R
    | _ => ∃ g ca cc fa fc, b = some g ∧ w1.heap.size ≤ g ∧ r 3 = .tuple #[.slice ca C.length cc, .agg #[.slice fa R.length fc], .int .i64 E] ∧ GrsIn (fun x => b ≠ some x ∧ w1.heap.size ≤ x) w' (.slice ca C.length cc) C ∧ FrsIn (fun x => b ≠ some x ∧ w1.heap.size ≤ x) w' (.slice fa R.length fc) R ∧ Blk w' g #[.slice fa R.length fc] 25

theorem AddI.box {w1 : World} {f : Fr} {pa : Option Addr} {pn pc : Nat} {oa : Option Addr} {lo oc : Nat} {X : List Fr} {C : List (List Fr)} {R : List Fr} {E : Int} {s : Nat} {r : Nat → Value} {w' : World} (h : AddI w1 f pa pn pc oa lo oc X C R E s r none w') : AddI w1 f pa pn pc oa lo oc X C R E s r (some w'.heap.size) (w'.alloc (.cells #[.slice none 0 0] 25)) := by
  obtain ⟨h1, _, h3⟩ := h
  refine ⟨h1.alloc h1.size _, fun _ g hg => by injection hg with hg; subst hg; exact ⟨h1.size, Blk.new _ _ _⟩, ?_⟩
  match s, h3 with
  | 0, _ => trivial
  | 1, ⟨g1, e1, e2⟩ => exact ⟨g1, e1, e2.alloc _⟩
  | 2, ⟨g1, g2, e1, e2, e3⟩ => exact ⟨g1, g2, e1, e2.alloc _, e3.alloc _⟩
  | 3, h => exact FrsIn.alloc h _
  | 4, ⟨ca, cc, fa, fc, e1, e2, e3⟩ => exact ⟨ca, cc, fa, fc, e1, (e2.mono fun g hg h => ⟨fun e => (by injection e with e; omega), h.2⟩).alloc _, (e3.mono fun g hg h => ⟨fun e => (by injection e with e; omega), h.2⟩).alloc _⟩
  | _ + 5, ⟨g, _, _, _, _, e, _⟩ => cases e

end Go.Proofs.YtnpaejknoipicafGreat

namespace Go.Proofs.YtnpaejknoipicafGreat
open Go.RowKit

/-- what the frames of a right group make: that group -/
theorem upG_group {O : List Fr} (h : O = [] ∨ gchk O = 0) : ∀ k, k ≤ O.length → upG O k = ([], O.take k) := by
  rcases h with h | h
  · subst h; intro k hk
    have : k = 0 := by simpa using hk
    subst this; rfl
  · obtain ⟨_, h6, hc⟩ := gchk_zero.1 h
    intro k
    induction k with
    | zero => intro _; rfl
    | succ k ih =>
      intro hk
      rw [upG_succ O k (by omega), ih (by omega), take_one (by omega) Fr.zero]
      have hin := (hc k (by omega)).2
      unfold inPl at hin
      by_cases h0 : k = 0
      · subst h0
        rw [if_pos rfl] at hin
        simp [stepG, growG, hin]
      · rw [if_neg h0] at hin
        simp only [Bool.and_eq_true, Bool.not_eq_true', decide_eq_true_eq] at hin
        have hl : (O.take k).length = k := by simp; omega
        have hlast : frAt (O.take k) (k - 1) = frAt O (k - 1) := by
          unfold frAt; rw [List.getElem?_take_of_lt (by omega)]
        simp only [stepG, hin.1, Bool.false_and, Bool.false_eq_true, if_false]
        unfold growG
        rw [if_neg (by rw [hin.1]; simp), hl, hlast, if_neg (by omega)]
theorem groups_more {O : List Fr} {f : Fr} (h : O = [] ∨ gchk O = 0) (hf : f.chk = 0) : groupsE (O ++ [f]) = 0 ∧ groupsR (O ++ [f]) = (if f.key && decide (0 < O.length) then [O] else [], growG O f) := by
  have hO6 : O.length ≤ 6 := by
    rcases h with h | h
    · rw [h]; simp
    · exact (gchk_zero.1 h).2.1
  have hok : ∀ k, k < (O ++ [f]).length → (frAt (O ++ [f]) k).chk = 0 := fun k hk => by
    by_cases hkl : k < O.length
    · have e : frAt (O ++ [f]) k = frAt O k := by unfold frAt; rw [List.getElem?_append_left hkl]
      rw [e]
      rcases h with h | h
      · rw [h] at hkl; simp at hkl
      · exact ((gchk_zero.1 h).2.2 k hkl).1
    · have : k = O.length := by simp at hk; omega
      subst this
      have e : frAt (O ++ [f]) O.length = f := by unfold frAt; simp
      rw [e]; exact hf
  have hE : groupsE (O ++ [f]) = 0 := by
    unfold groupsE
    rw [if_neg (by simp; omega)]
    exact goN_all _ _ (fun j _ hj => hok j (by omega))
  refine ⟨hE, ?_⟩
  unfold groupsR
  rw [if_pos hE]
  have h1 : upG (O ++ [f]) (O ++ [f]).length = stepG (upG O O.length) f := by
    unfold upG
    rw [List.take_length, List.take_length, List.foldl_append]; rfl
  rw [h1, upG_group h O.length (Nat.le_refl _), List.take_length]
  simp [stepG]

set_option maxHeartbeats 8000000 in
set_option maxRecDepth 100000 in
theorem keeperAdd_any (M : Nat) (first : Int) (gv ov pv : Value) (L : List (List Fr)) (O : List Fr) (f : Fr) (w : World) (hM : Blk w M #[.int .i64 first, gv, ov] 103) (hg : GrsIn (fun g => g ≠ M) w gv L) (ho : FrsIn (fun g => g ≠ M) w ov O) (hp : StrsIn (fun g => g ≠ M) w pv f.parts)
    (hL : L.length ≤ 5) (hLr : ∀ g ∈ L, gchk g = 0) (hOr : O = [] ∨ gchk O = 0) (hf : f.chk = 0) (hf0 : 0 ≤ first) (hf1 : first ≤ 100000) (C : List (List Fr)) (hC : C = if f.key && decide (0 < O.length) then [O] else []) :
    Calls Tryz.prog 55 #[.pointer (some ⟨M, 0, none⟩), .agg #[.int .i64 f.time, .bool f.key, pv]] w fun e w' => e = .returned (.bool (decide (0 < C.length))) ∧ ∃ gv' ov', Blk w' M #[.int .i64 (first + trimD (L ++ C)), gv', ov'] 103 ∧ GrsIn (fun g => w.heap.size ≤ g) w' gv' ((L ++ C).drop (trimD (L ++ C))) ∧ FrsIn (fun g => w.heap.size ≤ g) w' ov' (growG O f) ∧ Kept [M] w w' := by
  obtain ⟨hE, hR⟩ := groups_more hOr hf
  rw [← hC] at hR
  obtain ⟨R, hRR⟩ : ∃ R, R = growG O f := ⟨_, rfl⟩
  rw [← hRR] at hR
  obtain ⟨ga, gc, eg, _, _⟩ := hg.len
  obtain ⟨oa, oc, eo, _, _⟩ := ho.len
  obtain ⟨pa, pc, ep⟩ := hp.1.len
  obtain ⟨ln, hln⟩ : ∃ n, n = L.length := ⟨_, rfl⟩
  obtain ⟨lo, hlo⟩ : ∃ n, n = O.length := ⟨_, rfl⟩
  obtain ⟨pn, hpn⟩ : ∃ n, n = f.parts.length := ⟨_, rfl⟩
  rw [← hln] at eg
  rw [← hlo] at eo
  rw [← hpn] at ep
  have hO6 : O.length ≤ 6 := by
    rcases hOr with h | h
    · rw [h]; simp
    · exact (gchk_zero.1 h).2.1
  have hC1 : C.length ≤ 1 := by rw [hC]; split <;> simp
  have HX : Hid (∀ (U : World) (x : Value), FrsIn (fun _ => True) U x (O ++ [f]) → Calls Tryz.prog 97 #[x] U fun e w'' => ∃ ca cc fa fc, e = .returned (.tuple #[.slice ca C.length cc, .agg #[.slice fa R.length fc], .int .i64 0]) ∧ GrsIn (fun g => U.heap.size ≤ g) w'' (.slice ca C.length cc) C ∧ FrsIn (fun g => U.heap.size ≤ g) w'' (.slice fa R.length fc) R ∧ Below U.heap.size U w'') := fun U x hx => by
    have := groupAll_any x (O ++ [f]) U _ hx
    rw [hE, hR] at this
    exact this
  have HG : Hid (GrsIn (fun g => g ≠ M) w gv L) := hg
  have HO : Hid (FrsIn (fun g => g ≠ M) w ov O) := ho
  have HP : Hid (StrsIn (fun g => g ≠ M) w pv f.parts) := hp
  have HM : Hid (Blk w M #[.int .i64 first, gv, ov] 103) := hM
  have HLR : Hid (∀ g ∈ L, gchk g = 0) := hLr
  have HO6 : Hid (O.length ≤ 6) := hO6
  have HLO : Hid (lo = O.length) := hlo
  have hMw : M < w.heap.size := hM.lt
  rw [← hRR]
  clear hE hR hg ho hp hM hLr hOr hf hRR hC hln hpn hlo
  subst eg eo ep
  go_enter Tryz.func55, Tryz.ntmps55
  go_wp2_with fail
  obtain ⟨w1, hw1⟩ : ∃ w1, w1 = w.alloc (.cells #[.int .i64 f.time, .bool f.key, .slice pa pn pc] 30) := ⟨_, rfl⟩
  have B1 : Below w.heap.size w w1 := by rw [hw1]; exact (Below.refl _ _).alloc (Nat.le_refl _) _
  have KF : Blk w1 w.heap.size #[.int .i64 f.time, .bool f.key, .slice pa pn pc] 30 := by rw [hw1]; exact Blk.new _ _ _
  have KM : Blk w1 M #[.int .i64 first, .slice ga ln gc, .slice oa lo oc] 103 := HM.out.below B1 hMw
  have hw1s : w1.heap.size = w.heap.size + 1 := by rw [hw1]; simp
  rw [← hw1]
  have BB1 : Hid (Below w.heap.size w w1) := B1
  have KMH : Hid (Blk w1 M #[.int .i64 first, .slice ga ln gc, .slice oa lo oc] 103) := KM
  clear hw1 B1
  refine region_box (by kernel_rfl) (by kernel_rfl) [.quiet (.pointer (some ⟨M, 0, none⟩)) 5, .quiet (.pointer (some ⟨M, 0, none⟩)) 5, .quiet (.pointer (some ⟨M, 0, none⟩)) 5, .quiet (.pointer (some ⟨M, 2, none⟩)) 5, .quiet (.pointer (some ⟨M, 2, none⟩)) 5, .quiet (.slice oa lo oc) 5, .quiet (.agg #[.int .i64 f.time, .bool f.key, .slice pa pn pc]) 5, .step 0, .step 1, .step 2, .step 3, .fin 3 (fun x => x), .fin 3 (exT 0), .fin 3 (exT 1), .fin 3 (exT 2), .box, .fin 3 (exT 0), .step 4, .fin 3 (exT 2)] [7, 8, 9, 10, 17] 15 (by kernel_rfl)
    (AddI w1 f pa pn pc oa lo oc (O ++ [f]) C R 0) ?i0 ?step ?fin
  case i0 => exact ⟨⟨rfl, rfl, rfl, Nat.le_refl _, fun _ _ => rfl⟩, fun _ g hg => (by cases hg), trivial⟩
  case step =>
    intro i o ho a' w' s r b hI hfree hvals hbx
    have f0 : a'.eval (.tmp 0) = .pointer (some ⟨M, 0, none⟩) := (hfree 0 (by kernel_rfl)).trans rfl
    have f3 : a'.eval (.tmp 3) = .pointer (some ⟨w.heap.size, 0, none⟩) := (hfree 3 (by kernel_rfl)).trans rfl
    have hBw : Below w1.heap.size w1 w' := hI.1
    have hMw1 := KM.lt
    have hFw1 := KF.lt
    obtain ⟨_, _, y2⟩ := (KM.below hBw hMw1).three
    obtain ⟨z0, z1, z2⟩ := (KF.below hBw hFw1).three
    have hR3 : 3 < s → ∃ ca cc fa fc, r 3 = .tuple #[.slice ca C.length cc, .agg #[.slice fa R.length fc], .int .i64 0] := fun hs => by
      match s, hs, hI.2.2 with
      | 4, _, ⟨ca, cc, fa, fc, e, _⟩ => exact ⟨ca, cc, fa, fc, e⟩
      | _ + 5, _, ⟨_, ca, cc, fa, fc, _, _, e, _⟩ => exact ⟨ca, cc, fa, fc, e⟩
    match i, ho with
    | 0, ho =>
      simp at ho; subst ho
      show s ≤ 5 → (execOp a'.eval _).run _ w' = .ok (.value _) w'
      intro _
      generalize a'.eval = ρ at *
      simp [execOp, go_sem, f0]
    | 1, ho =>
      simp at ho; subst ho
      have e1 : a'.eval (.tmp 9) = .pointer (some ⟨M, 0, none⟩) := hvals 0 _ _ (by kernel_rfl) rfl rfl
      show s ≤ 5 → (execOp a'.eval _).run _ w' = .ok (.value _) w'
      intro _
      generalize a'.eval = ρ at *
      simp [execOp, go_sem, e1]
    | 2, ho =>
      simp at ho; subst ho
      have e1 : a'.eval (.tmp 10) = .pointer (some ⟨M, 0, none⟩) := hvals 1 _ _ (by kernel_rfl) rfl rfl
      show s ≤ 5 → (execOp a'.eval _).run _ w' = .ok (.value _) w'
      intro _
      generalize a'.eval = ρ at *
      simp [execOp, go_sem, e1]
    | 3, ho =>
      simp at ho; subst ho
      have e1 : a'.eval (.tmp 11) = .pointer (some ⟨M, 0, none⟩) := hvals 2 _ _ (by kernel_rfl) rfl rfl
      show s ≤ 5 → (execOp a'.eval _).run _ w' = .ok (.value _) w'
      intro _
      generalize a'.eval = ρ at *
      simp [execOp, go_sem, e1]
    | 4, ho =>
      simp at ho; subst ho
      have e1 : a'.eval (.tmp 12) = .pointer (some ⟨M, 2, none⟩) := hvals 3 _ _ (by kernel_rfl) rfl rfl
      show s ≤ 5 → (execOp a'.eval _).run _ w' = .ok (.value _) w'
      intro _
      generalize a'.eval = ρ at *
      simp [execOp, go_sem, e1]
    | 5, ho =>
      simp at ho; subst ho
      have e1 : a'.eval (.tmp 13) = .pointer (some ⟨M, 2, none⟩) := hvals 4 _ _ (by kernel_rfl) rfl rfl
      show s ≤ 5 → (execOp a'.eval _).run _ w' = .ok (.value _) w'
      intro _
      generalize a'.eval = ρ at *
      simp [execOp, go_sem, e1, y2]
    | 6, ho =>
      simp at ho; subst ho
      show s ≤ 5 → (execOp a'.eval _).run _ w' = .ok (.value _) w'
      intro _
      generalize a'.eval = ρ at *
      simp [execOp, go_sem, f3, z0, z1, z2]
    | 7, ho =>
      simp at ho; subst ho
      have e1 : a'.eval (.tmp 15) = .agg #[.int .i64 f.time, .bool f.key, .slice pa pn pc] := hvals 6 _ _ (by kernel_rfl) rfl rfl
      show s = 0 → _
      intro hs
      subst hs
      refine oper_wp_ok (v := .slice (some ⟨w'.heap.size, 0, none⟩) 1 1) (w' := w'.alloc (.cells #[.int .i64 f.time, .bool f.key, .slice pa pn pc] 30)) ?_ ⟨_, rfl, hBw.alloc hBw.size _, fun _ g hg => ⟨(hI.2.1 (by omega) g hg).1, (hI.2.1 (by omega) g hg).2.alloc _⟩, w'.heap.size, updR_at _ _ _, Blk.new _ _ _⟩
      generalize a'.eval = ρ at *
      simp [execOp, go_sem, e1]
    | 8, ho =>
      simp at ho; subst ho
      show s = 1 → _
      intro hs
      subst hs
      obtain ⟨g1, q1, q2⟩ := hI.2.2
      have e1 : a'.eval (.tmp 14) = .slice oa lo oc := hvals 5 _ _ (by kernel_rfl) rfl rfl
      have e2 : a'.eval (.tmp 16) = .slice (some ⟨g1, 0, none⟩) 1 1 := (hvals 7 _ _ (by kernel_rfl) rfl rfl).trans q1
      refine oper_wp_ok (v := .slice (some ⟨w'.heap.size, 0, none⟩) 2 2) (w' := w'.alloc (.cells #[.slice oa lo oc, .slice (some ⟨g1, 0, none⟩) 1 1] 23)) ?_ ⟨_, rfl, hBw.alloc hBw.size _, fun _ g hg => ⟨(hI.2.1 (by omega) g hg).1, (hI.2.1 (by omega) g hg).2.alloc _⟩, g1, w'.heap.size, updR_at _ _ _, q2.alloc _, Blk.new _ _ _⟩
      generalize a'.eval = ρ at *
      simp [execOp, go_sem, e1, e2]
    | 9, ho =>
      simp at ho; subst ho
      show s = 2 → _
      intro hs
      subst hs
      obtain ⟨g1, g2, q1, q2, q3⟩ := hI.2.2
      have e1 : a'.eval (.tmp 17) = .slice (some ⟨g2, 0, none⟩) 2 2 := (hvals 8 _ _ (by kernel_rfl) rfl rfl).trans q1
      have ef : a'.eval (.func 98) = .func (.func 98) #[] #[] := rfl
      obtain ⟨t0, t1⟩ := q3.two
      have hbw : Below w.heap.size w w' := BB1.out.trans (hBw.mono BB1.out.size)
      have hc := concatFrs_any (fun _ => True) g2 (.slice oa lo oc) (.slice (some ⟨g1, 0, none⟩) 1 1) O [f] w' t0 t1 ((HO.out.below hbw).mono fun _ _ _ => trivial) (FrsIn.one q2 trivial ((HP.out.below hbw).mono fun _ _ _ => trivial)) (by have := HO6.out; simp; omega)
      refine oper_wp_call (f := 98) (args := #[.slice (some ⟨g2, 0, none⟩) 2 2]) ?_ (hc.mono ?_)
      · generalize a'.eval = ρ at *
        simp [execOp, go_sem, e1, ef]
      · rintro e w'' ⟨u, rfl, o1, b1⟩
        exact ⟨u, rfl, u, rfl, hBw.trans (b1.mono hBw.size), fun _ g hg => ⟨(hI.2.1 (by omega) g hg).1, (hI.2.1 (by omega) g hg).2.below b1 (hI.2.1 (by omega) g hg).2.lt⟩, by show FrsIn _ _ _ _; rw [updR_at]; exact o1.frsIn (fun _ _ _ => trivial) (fun _ _ => trivial)⟩
    | 10, ho =>
      simp at ho; subst ho
      show s = 3 → _
      intro hs
      subst hs
      have e1 : a'.eval (.tmp 18) = r 2 := hvals 9 _ _ (by kernel_rfl) rfl rfl
      have ef : a'.eval (.func 97) = .func (.func 97) #[] #[] := rfl
      refine oper_wp_call (f := 97) (args := #[r 2]) ?_ ((HX.out w' (r 2) hI.2.2).mono ?_)
      · generalize a'.eval = ρ at *
        simp [execOp, go_sem, e1, ef]
      · rintro e w'' ⟨ca, cc, fa, fc, rfl, s1, s2, b1⟩
        have hne : ∀ x, w'.heap.size ≤ x → b ≠ some x := fun x hx e => by have := (hI.2.1 (by omega) x e).2.lt; omega
        exact ⟨_, rfl, _, rfl, hBw.trans (b1.mono hBw.size), fun _ g hg => ⟨(hI.2.1 (by omega) g hg).1, (hI.2.1 (by omega) g hg).2.below b1 (hI.2.1 (by omega) g hg).2.lt⟩, ca, cc, fa, fc, updR_at _ _ _, s1.mono fun x _ hx => ⟨hne x hx, by have := hBw.size; omega⟩, s2.mono fun x _ hx => ⟨hne x hx, by have := hBw.size; omega⟩⟩
    | 11, ho =>
      simp at ho; subst ho
      have e1 : a'.eval (.tmp 19) = r 3 := hvals 10 _ _ (by kernel_rfl) rfl rfl
      show 3 < s → (execOp a'.eval _).run _ w' = .ok (.value _) w'
      intro hs
      obtain ⟨ca, cc, fa, fc, er⟩ := hR3 hs
      rw [er] at e1 ⊢
      generalize a'.eval = ρ at *
      simp [execOp, go_sem, e1]
    | 12, ho =>
      simp at ho; subst ho
      have e1 : a'.eval (.tmp 8) = r 3 := hvals 11 _ _ (by kernel_rfl) rfl rfl
      show 3 < s → (execOp a'.eval _).run _ w' = .ok (.value _) w'
      intro hs
      obtain ⟨ca, cc, fa, fc, er⟩ := hR3 hs
      rw [er] at e1 ⊢
      simp only [exT] at e1 ⊢
      generalize a'.eval = ρ at *
      simp [execOp, go_sem, e1]
    | 13, ho =>
      simp at ho; subst ho
      have e1 : a'.eval (.tmp 8) = r 3 := hvals 11 _ _ (by kernel_rfl) rfl rfl
      show 3 < s → (execOp a'.eval _).run _ w' = .ok (.value _) w'
      intro hs
      obtain ⟨ca, cc, fa, fc, er⟩ := hR3 hs
      rw [er] at e1 ⊢
      simp only [exT] at e1 ⊢
      generalize a'.eval = ρ at *
      simp [execOp, go_sem, e1]
    | 14, ho =>
      simp at ho; subst ho
      have e1 : a'.eval (.tmp 8) = r 3 := hvals 11 _ _ (by kernel_rfl) rfl rfl
      show 3 < s → (execOp a'.eval _).run _ w' = .ok (.value _) w'
      intro hs
      obtain ⟨ca, cc, fa, fc, er⟩ := hR3 hs
      rw [er] at e1 ⊢
      simp only [exT] at e1 ⊢
      generalize a'.eval = ρ at *
      simp [execOp, go_sem, e1]
    | 15, ho =>
      simp at ho; subst ho
      show b = none → _
      intro hb
      subst hb
      refine ⟨.cells #[.slice none 0 0] 25, ?_, hI.box⟩
      generalize a'.eval = ρ at *
      simp [execOp, go_sem]
    | 16, ho =>
      simp at ho; subst ho
      have e1 : a'.eval (.tmp 20) = exT 0 (r 3) := hvals 12 _ _ (by kernel_rfl) rfl rfl
      show 3 < s → (execOp a'.eval _).run _ w' = .ok (.value _) w'
      intro hs
      obtain ⟨ca, cc, fa, fc, er⟩ := hR3 hs
      rw [er] at e1 ⊢
      simp only [exT] at e1 ⊢
      generalize a'.eval = ρ at *
      simp [execOp, go_sem, e1]
    | 17, ho =>
      simp at ho; subst ho
      show s = 4 → _
      intro hs
      subst hs
      obtain ⟨ca, cc, fa, fc, er, s1, s2⟩ := hI.2.2
      obtain ⟨g, hg⟩ := Option.isSome_iff_exists.1 (hbx (by kernel_rfl))
      subst hg
      obtain ⟨hgb, kg⟩ := hI.2.1 (by omega) g rfl
      have e1 : a'.eval (.tmp 6) = .pointer (some ⟨g, 0, none⟩) := hvals 15 _ _ (by kernel_rfl) rfl rfl
      have e2 : a'.eval (.tmp 21) = .agg #[.slice fa R.length fc] := (hvals 13 _ _ (by kernel_rfl) rfl rfl).trans (by show exT 1 (r 3) = _; rw [er]; rfl)
      have t0 := kg.one
      have t1 := kg.free 0
      refine oper_wp_skip (w' := w'.setCell ⟨g, 0, none⟩ (.slice fa R.length fc)) ?_ ⟨_, rfl, hBw.setCell hgb _, fun h => absurd h (by omega), ?_⟩
      · generalize a'.eval = ρ at *
        simp [execOp, go_sem, e1, e2, t0, t1]
      · exact ⟨g, ca, cc, fa, fc, rfl, hgb, by rw [updR_ne (by omega)]; exact er, s1.to (SameOn.setCell (fun x hx e => hx.1 (by rw [e])) _) (fun _ _ h => h), s2.to (SameOn.setCell (fun x hx e => hx.1 (by rw [e])) _) (fun _ _ h => h), kg.set 0 _⟩
    | 18, ho =>
      simp at ho; subst ho
      have e1 : a'.eval (.tmp 22) = exT 2 (r 3) := hvals 14 _ _ (by kernel_rfl) rfl rfl
      show 3 < s → (execOp a'.eval _).run _ w' = .ok (.value _) w'
      intro hs
      obtain ⟨ca, cc, fa, fc, er⟩ := hR3 hs
      rw [er] at e1 ⊢
      simp only [exT] at e1 ⊢
      generalize a'.eval = ρ at *
      simp [execOp, go_sem, e1]
    | i + 19, ho => simp at ho
  case fin =>
    rintro r g W ⟨hB, _, g', ca, cc, fa, fc, hgg, hg1, er, s1, s2, kg⟩
    injection hgg with hgg
    subst hgg
    simp only [putB, Cb.out, er, exT]
    obtain ⟨nC, hnC⟩ : ∃ n, n = C.length := ⟨_, rfl⟩
    obtain ⟨nR, hnR⟩ : ∃ n, n = R.length := ⟨_, rfl⟩
    rw [← hnC] at s1
    rw [← hnR] at s2 kg
    have HNC : Hid (nC = C.length) := hnC
    simp only [← hnC, ← hnR]
    have KMW : Blk W M #[.int .i64 first, .slice ga ln gc, .slice oa lo oc] 103 := KMH.out.below hB KMH.out.lt
    have BW : Below w.heap.size w W := BB1.out.trans (hB.mono BB1.out.size)
    have GW : GrsIn (fun x => x ≠ M) W (.slice ga ln gc) L := HG.out.below BW
    have hMW : M < W.heap.size := KMW.lt
    have HCLN : Hid (Calls Tryz.prog 99 #[.slice ga ln gc] W fun e w' => ∃ u, e = .returned u ∧ OwnGrs W.heap.size (NS W.heap.size u) w' u L ∧ Below W.heap.size W w') := cloneGroups_any _ _ L W GW (by omega) HLR.out
    have S1 : Hid (GrsIn (fun x => w1.heap.size ≤ x ∧ x < W.heap.size) W (.slice ca nC cc) C) := s1.mono fun x hx h => ⟨h.2, hx⟩
    have S2 : Hid (FrsIn (fun x => w1.heap.size ≤ x ∧ x < W.heap.size) W (.slice fa nR fc) R) := s2.mono fun x hx h => ⟨h.2, hx⟩
    have KG : Hid (Blk W g #[.slice fa nR fc] 25) := kg
    have KMW2 : Hid (Blk W M #[.int .i64 first, .slice ga ln gc, .slice oa lo oc] 103) := KMW
    have HKW : Hid (Kept [M] w W) := (Kept.refl [M] w).below BW
    have hgM : g ≠ M := by omega
    have hWw : w.heap.size ≤ W.heap.size := BW.size
    obtain ⟨q0, q1, q2⟩ := KMW.three
    clear s1 s2 kg hB er BW GW KMW
    have HNR : Hid (nR = R.length) := hnR
    clear hnC hnR KM KF
    go_wp2_with fail
    refine HCLN.out.mono ?_
    rintro e w2 ⟨u, rfl, ou, bu⟩
    have hu : ∀ x, u.ownBlock = some x → W.heap.size ≤ x ∧ x < w2.heap.size := ou.lt
    have O2 : OwnGrs W.heap.size (fun x => w.heap.size ≤ x ∧ some x ≠ u.ownBlock ∧ x < w2.heap.size) w2 u L := ou.to (SameOn.refl _ _) (fun x hx h => ⟨by have := h.1; omega, h.2, hx⟩) (fun _ _ => rfl)
    have S3 : GrsIn (fun x => w.heap.size ≤ x ∧ some x ≠ u.ownBlock ∧ x < w2.heap.size) w2 (.slice ca nC cc) C := (S1.out.below bu).mono fun x hx h => ⟨by have := h.1; omega, fun e => (by have := (hu x e.symm).1; omega), hx⟩
    obtain ⟨qs, t1, t2, t3⟩ := S3.sl
    obtain ⟨v', w3, r3, o3, g3, dd⟩ := groups_app O2 t1 t2 t3 (fun x hx => hx.2.1) (by omega) bu.size
    have hg3 : ∀ x, x < W.heap.size → w3.heap[x]? = W.heap[x]? := fun x hx => (g3.block x (Nat.lt_of_lt_of_le hx bu.size) (fun e => by have := (hu x e.symm).1; omega)).trans (bu.block x hx)
    have hs3 : w2.heap.size ≤ w3.heap.size := g3.size
    have hWs3 : W.heap.size ≤ w3.heap.size := Nat.le_trans bu.size hs3
    have BW3 : Below W.heap.size W w3 := bu.grown g3 bu.size (fun x hx => (hu x hx).1)
    have K3 : Blk w3 M #[.int .i64 first, .slice ga ln gc, .slice oa lo oc] 103 := (hg3 M hMW).trans KMW2.out
    have G3 : Blk w3 g #[.slice fa nR fc] 25 := (hg3 g KG.out.lt).trans KG.out
    have hv' : ∀ x, v'.ownBlock = some x → W.heap.size ≤ x := fun x hx => (o3.lt x hx).1
    have V3 : GrsIn (fun x => w.heap.size ≤ x) w3 v' (L ++ C) := o3.grsIn (fun x _ h => h.1) (fun x hx => by have := hv' x hx; omega)
    have R3 : FrsIn (fun x => w.heap.size ≤ x) w3 (.slice fa nR fc) R := S2.out.to ⟨hWs3, fun x hx _ => hg3 x hx⟩ (fun x _ h => by have := h.1; omega)
    obtain ⟨va, vc, ev, _, _⟩ := V3.len
    obtain ⟨nV, hnV⟩ : ∃ n, n = (L ++ C).length := ⟨_, rfl⟩
    rw [← hnV] at ev
    clear hnV
    have c1 := K3.three
    obtain ⟨c10, c11, c12⟩ := c1
    have fr := K3.free
    have cg := G3.one
    obtain ⟨w5, hw5⟩ : ∃ w5, w5 = (w3.setCell ⟨M, 1, none⟩ v').setCell ⟨M, 2, none⟩ (.slice fa nR fc) := ⟨_, rfl⟩
    have K5 : Blk w5 M #[.int .i64 first, v', .slice fa nR fc] 103 := by
      rw [hw5]; exact (K3.set 1 v').set 2 (.slice fa nR fc)
    have same5 : SameOn (fun x => w.heap.size ≤ x) w3 w5 := by
      rw [hw5]
      exact (SameOn.setCell (S := fun x => w.heap.size ≤ x) (w := w3) (a := ⟨M, 1, none⟩) (fun x hx => (by show x ≠ M; omega)) v').trans (SameOn.setCell (S := fun x => w.heap.size ≤ x) (w := w3.setCell ⟨M, 1, none⟩ v') (a := ⟨M, 2, none⟩) (fun x hx => (by show x ≠ M; omega)) (.slice fa nR fc))
    have V5 : GrsIn (fun x => w.heap.size ≤ x) w5 v' (L ++ C) := V3.to same5 (fun _ _ h => h)
    have R5 : Hid (FrsIn (fun x => w.heap.size ≤ x) w5 (.slice fa nR fc) R) := R3.to same5 (fun _ _ h => h)
    have P5 : Hid (Kept [M] w w5) := by
      rw [hw5]; exact ((HKW.out.below BW3).setCell (by simp) _).setCell (by simp) _
    have HLG : Hid (Calls Tryz.prog 100 #[.pointer (some ⟨M, 0, none⟩)] w5 fun e w' => e = .returned (.tuple #[]) ∧ ∃ gv', Blk w' M #[.int .i64 (first + trimD (L ++ C)), gv', .slice fa nR fc] 103 ∧ GrsIn (fun x => w.heap.size ≤ x) w' gv' ((L ++ C).drop (trimD (L ++ C))) ∧ Kept [M] w5 w') := letGo_any M first v' _ (L ++ C) _ w5 K5 V5 (fun x hx => (by show x ≠ M; omega)) (by simp; omega) hf0 (by omega)
    clear ou bu hu O2 S3 t1 t2 t3 o3 g3 dd hg3 hs3 BW3 K3 G3 hv' V3 R3 K5 V5 same5 q0 q1 q2 HCLN
    subst ev
    go_wp2_with (at_builtin; refine wpList_append_run rfl (.tmp 29) (.tmp 30) 22 22 rfl _ _ rfl rfl r3 ?_)
    rw [← hw5]
    refine HLG.out.mono ?_
    rintro e w6 ⟨rfl, gv', k6, v6, p6⟩
    have R6 : FrsIn (fun x => w.heap.size ≤ x) w6 (.slice fa nR fc) R := R5.out.to ⟨p6.size, fun x hx h => p6.block x hx (by simp; omega)⟩ (fun _ _ h => h)
    have FIN : Hid (∃ gv' ov', Blk w6 M #[.int .i64 (first + trimD (L ++ C)), gv', ov'] 103 ∧ GrsIn (fun g => w.heap.size ≤ g) w6 gv' ((L ++ C).drop (trimD (L ++ C))) ∧ FrsIn (fun g => w.heap.size ≤ g) w6 ov' R ∧ Kept [M] w w6) := ⟨gv', .slice fa nR fc, k6, v6, R6, P5.out.trans p6⟩
    clear k6 v6 p6 R6 R5 P5 HLG hw5 c10 c11 c12 fr cg r3
    go_wp2
    go_ret
    exact ⟨by rw [← HNC.out]; first | rfl | simp, FIN.out⟩

end Go.Proofs.YtnpaejknoipicafGreat

namespace Go.Proofs.YtnpaejknoipicafGreat
open Go.RowKit

/-- the group that a frame closes -/
def closedG (O : List Fr) (f : Fr) : List (List Fr) := if f.key && decide (0 < O.length) then [O] else []
/-- what Add says, and what it leaves -/
def addsE (first : Int) (L : List (List Fr)) (O : List Fr) (f : Fr) : Int := if stchk first L O = 0 then (if f.chk = 0 then (if 100000 < first + trimD (L ++ closedG O f) then 2 else 0) else f.chk) else stchk first L O
def addsF (first : Int) (L : List (List Fr)) (O : List Fr) (f : Fr) : Int := if addsE first L O f = 0 then first + trimD (L ++ closedG O f) else 0
def addsL (first : Int) (L : List (List Fr)) (O : List Fr) (f : Fr) : List (List Fr) := if addsE first L O f = 0 then (L ++ closedG O f).drop (trimD (L ++ closedG O f)) else []
def addsO (first : Int) (L : List (List Fr)) (O : List Fr) (f : Fr) : List Fr := if addsE first L O f = 0 then growG O f else []
def addsB (first : Int) (L : List (List Fr)) (O : List Fr) (f : Fr) : Bool := if addsE first L O f = 0 then decide (0 < (closedG O f).length) else false

set_option maxHeartbeats 8000000 in
set_option maxRecDepth 100000 in
theorem storeAdd_new (first : Int) (gv ov pv : Value) (L : List (List Fr)) (O : List Fr) (f : Fr) (w : World) (hg : GrsIn (fun _ => True) w gv L) (ho : FrsIn (fun _ => True) w ov O) (hp : StrsIn (fun _ => True) w pv f.parts) :
    Calls Tryz.prog 14 #[.agg #[.int .i64 first, gv, ov], .agg #[.int .i64 f.time, .bool f.key, pv]] w fun e w' => ∃ gv' ov', e = .returned (.tuple #[.agg #[.int .i64 (addsF first L O f), gv', ov'], .bool (addsB first L O f), .int .i64 (addsE first L O f)]) ∧ GrsIn (fun g => w.heap.size ≤ g) w' gv' (addsL first L O f) ∧ FrsIn (fun g => w.heap.size ≤ g) w' ov' (addsO first L O f) ∧ Below w.heap.size w w' := by
  obtain ⟨ga, gc, eg, _, _⟩ := hg.len
  obtain ⟨oa, oc, eo, _, _⟩ := ho.len
  obtain ⟨pa, pc, ep⟩ := hp.1.len
  obtain ⟨ln, hln⟩ : ∃ n, n = L.length := ⟨_, rfl⟩
  obtain ⟨lo, hlo⟩ : ∃ n, n = O.length := ⟨_, rfl⟩
  obtain ⟨pn, hpn⟩ : ∃ n, n = f.parts.length := ⟨_, rfl⟩
  rw [← hln] at eg
  rw [← hlo] at eo
  rw [← hpn] at ep
  have HG : Hid (GrsIn (fun g => g < w.heap.size) w gv L) := hg.mono fun g h _ => h
  have HO : Hid (FrsIn (fun g => g < w.heap.size) w ov O) := ho.mono fun g h _ => h
  have HP : Hid (StrsIn (fun g => g < w.heap.size) w pv f.parts) := hp.mono fun g h _ => h
  obtain ⟨E, hE⟩ : ∃ E, E = addsE first L O f := ⟨_, rfl⟩
  obtain ⟨K, hK⟩ : ∃ K, K = stchk first L O := ⟨_, rfl⟩
  obtain ⟨Z, hZ⟩ : ∃ Z, Z = f.chk := ⟨_, rfl⟩
  obtain ⟨C, hC⟩ : ∃ C, C = closedG O f := ⟨_, rfl⟩
  have HE : Hid (E = if K = 0 then (if Z = 0 then (if 100000 < first + trimD (L ++ C) then 2 else 0) else Z) else K) := by show _ = _; rw [hE, hK, hZ, hC]; rfl
  have HBAD : Hid (¬ E = 0 → addsF first L O f = 0 ∧ addsL first L O f = [] ∧ addsO first L O f = [] ∧ addsB first L O f = false) := fun h => by
    rw [hE] at h
    exact ⟨if_neg h, if_neg h, if_neg h, if_neg h⟩
  have HGOOD : Hid (E = 0 → addsF first L O f = first + trimD (L ++ C) ∧ addsL first L O f = (L ++ C).drop (trimD (L ++ C)) ∧ addsO first L O f = growG O f ∧ addsB first L O f = decide (0 < C.length)) := fun h => by
    rw [hE] at h
    rw [hC]
    exact ⟨if_pos h, if_pos h, if_pos h, if_pos h⟩
  have HCK : Hid (∀ U, Below w.heap.size w U → Calls Tryz.prog 34 #[.agg #[.int .i64 first, gv, ov]] U fun e w' => e = .returned (.int .i64 K) ∧ Below U.heap.size U w') := fun U hU => by
    rw [hK]; exact storeCheck_any _ first gv ov L O U (HG.out.below hU) (HO.out.below hU)
  have HCF : Hid (∀ U, Below w.heap.size w U → Calls Tryz.prog 49 #[.agg #[.int .i64 f.time, .bool f.key, pv]] U fun e w' => e = .returned (.int .i64 Z) ∧ Below U.heap.size U w') := fun U hU => by
    rw [hZ]; exact frameCheck_any _ _ _ _ _ (HP.out.below hU).1 HP.out.2.1
  have HADD : Hid (K = 0 → Z = 0 → ∀ (M : Nat) (U : World), w.heap.size ≤ M → Blk U M #[.int .i64 first, gv, ov] 103 → Below w.heap.size w U → Calls Tryz.prog 55 #[.pointer (some ⟨M, 0, none⟩), .agg #[.int .i64 f.time, .bool f.key, pv]] U fun e w' => e = .returned (.bool (decide (0 < C.length))) ∧ ∃ gv' ov', Blk w' M #[.int .i64 (first + trimD (L ++ C)), gv', ov'] 103 ∧ GrsIn (fun g => U.heap.size ≤ g) w' gv' ((L ++ C).drop (trimD (L ++ C))) ∧ FrsIn (fun g => U.heap.size ≤ g) w' ov' (growG O f) ∧ Kept [M] U w') := fun h1 h2 M U hM hk hU => by
    have h1' : stchk first L O = 0 := by rw [← hK]; exact h1
    obtain ⟨a1, a2, a3, a4, _, a6⟩ := stchk_zero.1 h1'
    exact keeperAdd_any M first gv ov pv L O f U hk ((HG.out.below hU).mono fun g _ h => by omega) ((HO.out.below hU).mono fun g _ h => by omega) ((HP.out.below hU).mono fun g _ h => by omega) a3 a4 a6 (by rw [← hZ]; exact h2) a1 a2 C hC
  have HTR : Hid (K = 0 → 0 ≤ first ∧ first ≤ 100000) := fun h => by
    have h1' : stchk first L O = 0 := by rw [← hK]; exact h
    obtain ⟨a1, a2, _⟩ := stchk_zero.1 h1'
    exact ⟨a1, a2⟩
  have HEE : Hid (E = addsE first L O f) := hE
  clear hg ho hp hE hK hZ hC hln hlo hpn
  subst eg eo ep
  go_enter Tryz.func14, Tryz.ntmps14
  go_wp2_with fail
  obtain ⟨w1, hw1⟩ : ∃ w1, w1 = ((w.alloc (.cells #[.int .i64 first, .slice ga ln gc, .slice oa lo oc] 27)).alloc (.cells #[.int .i64 f.time, .bool f.key, .slice pa pn pc] 30)).alloc (.cells #[.int .i64 0, .slice none 0 0, .slice none 0 0] 27) := ⟨_, rfl⟩
  have B1 : Hid (Below w.heap.size w w1) := by
    rw [hw1]; exact (((Below.refl _ _).alloc (Nat.le_refl _) _).alloc (by simp) _).alloc (by simp; omega) _
  have K1 : Hid (Blk w1 w.heap.size #[.int .i64 first, .slice ga ln gc, .slice oa lo oc] 27) := by rw [hw1]; exact ((Blk.new w _ _).alloc _).alloc _
  have F1 : Hid (Blk w1 (w.heap.size + 1) #[.int .i64 f.time, .bool f.key, .slice pa pn pc] 30) := by
    have := (Blk.new (w.alloc (.cells #[.int .i64 first, .slice ga ln gc, .slice oa lo oc] 27)) #[.int .i64 f.time, .bool f.key, .slice pa pn pc] 30).alloc (.cells #[.int .i64 0, .slice none 0 0, .slice none 0 0] 27)
    rw [hw1]; simpa [Hid] using this
  have R1 : Hid (Blk w1 (w.heap.size + 1 + 1) #[.int .i64 0, .slice none 0 0, .slice none 0 0] 27) := by
    have := Blk.new ((w.alloc (.cells #[.int .i64 first, .slice ga ln gc, .slice oa lo oc] 27)).alloc (.cells #[.int .i64 f.time, .bool f.key, .slice pa pn pc] 30)) #[.int .i64 0, .slice none 0 0, .slice none 0 0] 27
    rw [hw1]; simpa [Hid] using this
  rw [← hw1]
  clear hw1
  refine (HCK.out _ B1.out).mono ?_
  rintro e w2 ⟨rfl, hb⟩
  have B2 : Hid (Below w.heap.size w w2) := B1.out.trans (hb.mono B1.out.size)
  have K2 : Hid (Blk w2 w.heap.size #[.int .i64 first, .slice ga ln gc, .slice oa lo oc] 27) := K1.out.below hb K1.out.lt
  have F2 : Hid (Blk w2 (w.heap.size + 1) #[.int .i64 f.time, .bool f.key, .slice pa pn pc] 30) := F1.out.below hb F1.out.lt
  have R2 : Hid (Blk w2 (w.heap.size + 1 + 1) #[.int .i64 0, .slice none 0 0, .slice none 0 0] 27) := R1.out.below hb R1.out.lt
  clear hb B1 K1 F1 R1 HCK
  by_cases hK : K = 0
  case neg =>
    have HEK : Hid (E = K) := by show _ = _; rw [HE.out, if_neg hK]
    obtain ⟨r0, r1, r2⟩ := R2.out.three
    have fr := R2.out.free
    go_wp2
    obtain ⟨b1, b2, b3, b4⟩ := HBAD.out (by rw [HEK.out]; exact hK)
    rw [b1, b2, b3, b4, ← HEE.out, HEK.out]
    refine bodyPost_ret (v := .tuple #[.agg #[.int .i64 0, .slice none 0 0, .slice none 0 0], .bool false, .int .i64 K]) (by simp [results, Tryz.results14, go_sem, r0, r1, r2]) rfl ⟨_, _, rfl, GrsIn.nil _ _, FrsIn.nil _ _, ?_⟩
    first | exact B2.out | exact ((B2.out.setCell (by show _ ≤ w.heap.size + 1 + 1; omega) _).setCell (by show _ ≤ w.heap.size + 1 + 1; omega) _).setCell (by show _ ≤ w.heap.size + 1 + 1; omega) _
  obtain ⟨hf0, hf1⟩ := HTR.out hK
  obtain ⟨f0, f1, f2⟩ := F2.out.three
  go_wp2_with fail
  refine (HCF.out _ B2.out).mono ?_
  rintro e w3 ⟨rfl, hb⟩
  have B3 : Hid (Below w.heap.size w w3) := B2.out.trans (hb.mono B2.out.size)
  have K3 : Hid (Blk w3 w.heap.size #[.int .i64 first, .slice ga ln gc, .slice oa lo oc] 27) := K2.out.below hb K2.out.lt
  have F3 : Hid (Blk w3 (w.heap.size + 1) #[.int .i64 f.time, .bool f.key, .slice pa pn pc] 30) := F2.out.below hb F2.out.lt
  have R3 : Hid (Blk w3 (w.heap.size + 1 + 1) #[.int .i64 0, .slice none 0 0, .slice none 0 0] 27) := R2.out.below hb R2.out.lt
  clear hb B2 K2 F2 R2 HCF f0 f1 f2
  by_cases hZ : Z = 0
  case neg =>
    have HEK : Hid (E = Z) := by show _ = _; rw [HE.out, if_pos hK, if_neg hZ]
    obtain ⟨r0, r1, r2⟩ := R3.out.three
    have fr := R3.out.free
    subst hK
    go_wp2
    obtain ⟨b1, b2, b3, b4⟩ := HBAD.out (by rw [HEK.out]; exact hZ)
    rw [b1, b2, b3, b4, ← HEE.out, HEK.out]
    refine bodyPost_ret (v := .tuple #[.agg #[.int .i64 0, .slice none 0 0, .slice none 0 0], .bool false, .int .i64 Z]) (by simp [results, Tryz.results14, go_sem, r0, r1, r2]) rfl ⟨_, _, rfl, GrsIn.nil _ _, FrsIn.nil _ _, ?_⟩
    first | exact B3.out | exact ((B3.out.setCell (by show _ ≤ w.heap.size + 1 + 1; omega) _).setCell (by show _ ≤ w.heap.size + 1 + 1; omega) _).setCell (by show _ ≤ w.heap.size + 1 + 1; omega) _
  have HAD2 : Hid (∀ (M : Nat) (U : World), w.heap.size ≤ M → Blk U M #[.int .i64 first, .slice ga ln gc, .slice oa lo oc] 103 → Below w.heap.size w U → Calls Tryz.prog 55 #[.pointer (some ⟨M, 0, none⟩), .agg #[.int .i64 f.time, .bool f.key, .slice pa pn pc]] U fun e w' => e = .returned (.bool (decide (0 < C.length))) ∧ ∃ gv' ov', Blk w' M #[.int .i64 (first + trimD (L ++ C)), gv', ov'] 103 ∧ GrsIn (fun g => U.heap.size ≤ g) w' gv' ((L ++ C).drop (trimD (L ++ C))) ∧ FrsIn (fun g => U.heap.size ≤ g) w' ov' (growG O f) ∧ Kept [M] U w') := HADD.out hK hZ
  have HE2 : Hid (E = if 100000 < first + trimD (L ++ C) then 2 else 0) := by show _ = _; rw [HE.out, if_pos hK, if_pos hZ]
  obtain ⟨T, hT⟩ : ∃ T : Int, T = first + trimD (L ++ C) := ⟨_, rfl⟩
  obtain ⟨D, hD⟩ : ∃ D : Bool, D = decide (0 < C.length) := ⟨_, rfl⟩
  rw [← hT] at HAD2 HE2 HGOOD
  rw [← hD] at HAD2 HGOOD
  clear HADD HE HTR hT hD
  subst hK hZ
  obtain ⟨k0, k1, k2⟩ := K3.out.three
  obtain ⟨f0, f1, f2⟩ := F3.out.three
  have hFl : w.heap.size + 1 < w3.heap.size := F3.out.lt
  have hKl : w.heap.size < w3.heap.size := K3.out.lt
  go_wp2_with fail
  obtain ⟨U, hU⟩ : ∃ U, U = w3.alloc (.cells #[.int .i64 first, .slice ga ln gc, .slice oa lo oc] 103) := ⟨_, rfl⟩
  have BU : Hid (Below w.heap.size w U) := by rw [hU]; exact B3.out.alloc B3.out.size _
  have KU : Hid (Blk U w3.heap.size #[.int .i64 first, .slice ga ln gc, .slice oa lo oc] 103) := by rw [hU]; exact Blk.new _ _ _
  have RU : Hid (Blk U (w.heap.size + 1 + 1) #[.int .i64 0, .slice none 0 0, .slice none 0 0] 27) := by rw [hU]; exact R3.out.alloc _
  rw [← hU]
  have hMR : w.heap.size + 1 + 1 < w3.heap.size := R3.out.lt
  clear hU k0 k1 k2 f0 f1 f2 K3 F3 R3 B3
  refine (HAD2.out _ _ (by omega) KU.out BU.out).mono ?_
  rintro e w5 ⟨rfl, gv', ov', k5, v5, o5, p5⟩
  have B5 : Hid (Below w.heap.size w w5) := BU.out.trans (p5.toBelow BU.out.size (fun k hk => by simp at hk; omega))
  have R5 : Hid (Blk w5 (w.heap.size + 1 + 1) #[.int .i64 0, .slice none 0 0, .slice none 0 0] 27) := RU.out.kept p5 (by simp; omega)
  have hRU := RU.out.lt
  obtain ⟨va, vc, ev, _, _⟩ := v5.len
  obtain ⟨qa, qc, eq, _, _⟩ := o5.len
  obtain ⟨nv, hnv⟩ : ∃ n, n = ((L ++ C).drop (trimD (L ++ C))).length := ⟨_, rfl⟩
  obtain ⟨nq, hnq⟩ : ∃ n, n = (growG O f).length := ⟨_, rfl⟩
  rw [← hnv] at ev
  rw [← hnq] at eq
  clear hnv hnq
  subst ev eq
  have V5 : Hid (GrsIn (fun g => U.heap.size ≤ g) w5 (.slice va nv vc) ((L ++ C).drop (trimD (L ++ C)))) := v5
  have O5 : Hid (FrsIn (fun g => U.heap.size ≤ g) w5 (.slice qa nq qc) (growG O f)) := o5
  obtain ⟨k0, k1, k2⟩ := k5.three
  obtain ⟨r0, r1, r2⟩ := R5.out.three
  have fr := R5.out.free
  clear v5 o5 p5 HAD2 RU KU
  by_cases hT : 100000 < T
  · have HEK : Hid (E = 2) := by show _ = _; rw [HE2.out, if_pos hT]
    go_wp2
    obtain ⟨b1, b2, b3, b4⟩ := HBAD.out (by rw [HEK.out]; decide)
    rw [b1, b2, b3, b4, ← HEE.out, HEK.out]
    refine bodyPost_ret (v := .tuple #[.agg #[.int .i64 0, .slice none 0 0, .slice none 0 0], .bool false, .int .i64 2]) (by simp [results, Tryz.results14, go_sem, r0, r1, r2]) rfl ⟨_, _, rfl, GrsIn.nil _ _, FrsIn.nil _ _, ?_⟩
    first | exact B5.out | exact ((B5.out.setCell (by show _ ≤ w.heap.size + 1 + 1; omega) _).setCell (by show _ ≤ w.heap.size + 1 + 1; omega) _).setCell (by show _ ≤ w.heap.size + 1 + 1; omega) _
  · have HEK : Hid (E = 0) := by show _ = _; rw [HE2.out, if_neg hT]
    obtain ⟨V, hV⟩ : ∃ V, V = ((w5.setCell ⟨w.heap.size + 1 + 1, 0, none⟩ (.int .i64 T)).setCell ⟨w.heap.size + 1 + 1, 1, none⟩ (.slice va nv vc)).setCell ⟨w.heap.size + 1 + 1, 2, none⟩ (.slice qa nq qc) := ⟨_, rfl⟩
    have KV : Blk V (w.heap.size + 1 + 1) #[.int .i64 T, .slice va nv vc, .slice qa nq qc] 27 := by
      rw [hV]; exact ((R5.out.set 0 (.int .i64 T)).set 1 (.slice va nv vc)).set 2 (.slice qa nq qc)
    have hVo : ∀ g, g ≠ w.heap.size + 1 + 1 → V.heap[g]? = w5.heap[g]? := fun g hg => by
      rw [hV, Below.heap_setCell _ _ _ _ (by exact hg), Below.heap_setCell _ _ _ _ (by exact hg), Below.heap_setCell _ _ _ _ (by exact hg)]
    have hVs : V.heap.size = w5.heap.size := by rw [hV]; simp
    have GV : Hid (GrsIn (fun g => w.heap.size ≤ g) V (.slice va nv vc) ((L ++ C).drop (trimD (L ++ C)))) := V5.out.to ⟨by omega, fun g _ hg => hVo g (by omega)⟩ (fun _ _ _ => by omega)
    have OV : Hid (FrsIn (fun g => w.heap.size ≤ g) V (.slice qa nq qc) (growG O f)) := O5.out.to ⟨by omega, fun g _ hg => hVo g (by omega)⟩ (fun _ _ _ => by omega)
    have BV : Hid (Below w.heap.size w V) := by
      rw [hV]; exact ((B5.out.setCell (by show _ ≤ w.heap.size + 1 + 1; omega) _).setCell (by show _ ≤ w.heap.size + 1 + 1; omega) _).setCell (by show _ ≤ w.heap.size + 1 + 1; omega) _
    obtain ⟨c0, c1, c2⟩ := KV.three
    clear hVo hVs V5 O5 KV
    go_wp2_with fail
    rw [← hV]
    obtain ⟨b1, b2, b3, b4⟩ := HGOOD.out HEK.out
    rw [b1, b2, b3, b4, ← HEE.out, HEK.out]
    exact bodyPost_ret (v := .tuple #[.agg #[.int .i64 T, .slice va nv vc, .slice qa nq qc], .bool D, .int .i64 0]) (by simp [results, Tryz.results14, go_sem, c0, c1, c2]) rfl ⟨_, _, rfl, GV.out, OV.out, BV.out⟩

theorem storeAdd_any (first : Int) (gv ov pv : Value) (L : List (List Fr)) (O : List Fr) (f : Fr) (w : World) (hg : GrsIn (fun _ => True) w gv L) (ho : FrsIn (fun _ => True) w ov O) (hp : StrsIn (fun _ => True) w pv f.parts) :
    Calls Tryz.prog 14 #[.agg #[.int .i64 first, gv, ov], .agg #[.int .i64 f.time, .bool f.key, pv]] w fun e w' => ∃ gv' ov', e = .returned (.tuple #[.agg #[.int .i64 (addsF first L O f), gv', ov'], .bool (addsB first L O f), .int .i64 (addsE first L O f)]) ∧ GrsIn (fun _ => True) w' gv' (addsL first L O f) ∧ FrsIn (fun _ => True) w' ov' (addsO first L O f) ∧ Below w.heap.size w w' := by
  refine (storeAdd_new first gv ov pv L O f w hg ho hp).mono ?_
  rintro e w' ⟨gv', ov', he, h1, h2, h3⟩
  exact ⟨gv', ov', he, h1.mono (fun _ _ _ => trivial), h2.mono (fun _ _ _ => trivial), h3⟩

end Go.Proofs.YtnpaejknoipicafGreat

namespace Go.Proofs.YtnpaejknoipicafGreat
open Go.RowKit

/-- what Get says, and what it finds -/
def getE (first : Int) (L : List (List Fr)) (O : List Fr) (n : Int) : Int := if stchk first L O = 0 then (if n < first then 5 else if ((allG L O).length : Int) ≤ n - first then 5 else 0) else stchk first L O
def getG (first : Int) (L : List (List Fr)) (O : List Fr) (n : Int) : List Fr := if getE first L O n = 0 then grAt (allG L O) (n - first).toNat else []
theorem allG_len (L : List (List Fr)) (O : List Fr) (h : L.length ≤ 5) : (allG L O).length ≤ 6 := by
  unfold allG; split
  · simp; omega
  · omega
theorem allG_right {first : Int} {L : List (List Fr)} {O : List Fr} (h : stchk first L O = 0) : ∀ g ∈ allG L O, gchk g = 0 := by
  obtain ⟨_, _, _, h1, _, h2⟩ := stchk_zero.1 h
  intro g hg
  unfold allG at hg
  split at hg
  · rcases List.mem_append.1 hg with hg | hg
    · exact h1 g hg
    · simp at hg; subst hg
      rcases h2 with h2 | h2
      · rename_i h0; rw [h2] at h0; simp at h0
      · exact h2
  · exact h1 g hg

set_option maxHeartbeats 4000000 in
set_option maxRecDepth 100000 in
theorem storeGet_new (first : Int) (gv ov : Value) (L : List (List Fr)) (O : List Fr) (n : Int) (w : World) (hg : GrsIn (fun _ => True) w gv L) (ho : FrsIn (fun _ => True) w ov O) (hnb : n ≤ 9223372036854775807) :
    Calls Tryz.prog 16 #[.agg #[.int .i64 first, gv, ov], .int .i64 n] w fun e w' => ∃ a c, e = .returned (.tuple #[.agg #[.slice a (getG first L O n).length c], .int .i64 (getE first L O n)]) ∧ FrsIn (fun g => w.heap.size ≤ g) w' (.slice a (getG first L O n).length c) (getG first L O n) ∧ Below w.heap.size w w' := by
  obtain ⟨ga, gc, eg, _, _⟩ := hg.len
  obtain ⟨oa, oc, eo, _, _⟩ := ho.len
  obtain ⟨ln, hln⟩ : ∃ n, n = L.length := ⟨_, rfl⟩
  obtain ⟨lo, hlo⟩ : ∃ n, n = O.length := ⟨_, rfl⟩
  rw [← hln] at eg
  rw [← hlo] at eo
  have HG : Hid (GrsIn (fun _ => True) w gv L) := hg
  have HO : Hid (FrsIn (fun _ => True) w ov O) := ho
  obtain ⟨E, hE⟩ : ∃ E, E = getE first L O n := ⟨_, rfl⟩
  obtain ⟨G, hG⟩ : ∃ G, G = getG first L O n := ⟨_, rfl⟩
  obtain ⟨K, hK⟩ : ∃ K, K = stchk first L O := ⟨_, rfl⟩
  have HE : Hid (E = if K = 0 then (if n < first then 5 else if ((allG L O).length : Int) ≤ n - first then 5 else 0) else K) := by show _ = _; rw [hE, hK]; rfl
  have HGG : Hid (G = if E = 0 then grAt (allG L O) (n - first).toNat else []) := by show _ = _; rw [hG, hE]; rfl
  have HC : Hid (∀ U, Below w.heap.size w U → Calls Tryz.prog 34 #[.agg #[.int .i64 first, gv, ov]] U fun e w' => e = .returned (.int .i64 K) ∧ Below U.heap.size U w') := fun U hU => by
    rw [hK]; exact storeCheck_any _ first gv ov L O U (HG.out.below hU) (HO.out.below hU)
  have HK0 : Hid (K = 0 → 0 ≤ first ∧ first ≤ 100000 ∧ L.length ≤ 5 ∧ (∀ g ∈ allG L O, gchk g = 0)) := fun h => by
    have h' : stchk first L O = 0 := by rw [← hK]; exact h
    obtain ⟨h1, h2, h3, _⟩ := stchk_zero.1 h'
    exact ⟨h1, h2, h3, allG_right h'⟩
  rw [← hE, ← hG]
  clear hg ho hE hG hK hln hlo
  subst eg eo
  go_enter Tryz.func16, Tryz.ntmps16
  go_wp2_with fail
  have B1 : Hid (Below w.heap.size w ((w.alloc (.cells #[.int .i64 first, .slice ga ln gc, .slice oa lo oc] 27)).alloc (.cells #[.slice none 0 0] 25))) := ((Below.refl _ _).alloc (Nat.le_refl _) _).alloc (by simp) _
  have K1 : Hid (Blk ((w.alloc (.cells #[.int .i64 first, .slice ga ln gc, .slice oa lo oc] 27)).alloc (.cells #[.slice none 0 0] 25)) w.heap.size #[.int .i64 first, .slice ga ln gc, .slice oa lo oc] 27) := (Blk.new w _ _).alloc _
  have R1 : Hid (Blk ((w.alloc (.cells #[.int .i64 first, .slice ga ln gc, .slice oa lo oc] 27)).alloc (.cells #[.slice none 0 0] 25)) (w.heap.size + 1) #[.slice none 0 0] 25) := by
    have := Blk.new (w.alloc (.cells #[.int .i64 first, .slice ga ln gc, .slice oa lo oc] 27)) #[.slice none 0 0] 25
    simpa [Hid] using this
  refine (HC.out _ B1.out).mono ?_
  rintro e w2 ⟨rfl, hb2⟩
  have B2 : Hid (Below w.heap.size w w2) := B1.out.trans (hb2.mono B1.out.size)
  have K2 : Hid (Blk w2 w.heap.size #[.int .i64 first, .slice ga ln gc, .slice oa lo oc] 27) := K1.out.below hb2 K1.out.lt
  have R2 : Hid (Blk w2 (w.heap.size + 1) #[.slice none 0 0] 25) := R1.out.below hb2 R1.out.lt
  clear hb2 B1 K1 R1 HC
  obtain ⟨k0, k1, k2⟩ := K2.out.three
  have r0 := R2.out.one
  have r1 := R2.out.free 0
  by_cases hK : K = 0
  case neg =>
    have HEE : Hid (E = K ∧ G = []) := by
      have e1 : E = K := by rw [HE.out, if_neg hK]
      exact ⟨e1, by rw [HGG.out, if_neg (by rw [e1]; exact hK)]⟩
    go_wp2
    obtain ⟨e1, e2⟩ := HEE.out
    rw [e1, e2]
    exact bodyPost_ret (v := .tuple #[.agg #[.slice none 0 0], .int .i64 K]) (by simp [results, Tryz.results16, go_sem, r0]) rfl ⟨none, 0, rfl, FrsIn.nil _ _, by first | exact B2.out | exact B2.out.setCell (by simp) _⟩
  obtain ⟨hf0, hf1, hL5, hAR⟩ := HK0.out hK
  have HAR : Hid (∀ g ∈ allG L O, gchk g = 0) := hAR
  have HE2 : Hid (E = if n < first then 5 else if ((allG L O).length : Int) ≤ n - first then 5 else 0) := by show _ = _; rw [HE.out, if_pos hK]
  have HAL : Hid ((allG L O).length ≤ 6) := allG_len L O hL5
  have HL5 : Hid (L.length ≤ 100) := by show _ ≤ _; omega
  clear hAR HE HK0 hL5
  subst hK
  obtain ⟨A, hA⟩ : ∃ A, A = allG L O := ⟨_, rfl⟩
  rw [← hA] at HAR HE2 HAL HGG
  obtain ⟨q, hq⟩ : ∃ q, q = A.length := ⟨_, rfl⟩
  have HQ : Hid (q = A.length) := hq
  have hq6 : q ≤ 6 := by rw [hq]; exact HAL.out
  rw [← hq] at HE2
  have HALL : Hid (∀ (M : Nat) (U : World), Blk U M #[.int .i64 first, .slice ga ln gc, .slice oa lo oc] 103 → Below w.heap.size w U → Calls Tryz.prog 56 #[.pointer (some ⟨M, 0, none⟩)] U fun e w' => ∃ a c, e = .returned (.slice a q c) ∧ Hid (GrsIn (fun _ => True) w' (.slice a q c) A) ∧ Below U.heap.size U w') := fun M U h1 h2 => by
    refine (keeperAll_any M first _ _ L O U h1 (HG.out.below h2) (HO.out.below h2) HL5.out).mono ?_
    rintro e w' ⟨u, rfl, h3, h4⟩
    rw [← hA] at h3
    obtain ⟨a, c, e, _, _⟩ := h3.len
    rw [← hq] at e
    subst e
    exact ⟨a, c, rfl, h3, h4⟩
  clear hA hq
  go_wp2_with fail
  have B3 : Hid (Below w.heap.size w (w2.alloc (.cells #[.int .i64 first, .slice ga ln gc, .slice oa lo oc] 103))) := B2.out.alloc B2.out.size _
  have M3 : Hid (Blk (w2.alloc (.cells #[.int .i64 first, .slice ga ln gc, .slice oa lo oc] 103)) w2.heap.size #[.int .i64 first, .slice ga ln gc, .slice oa lo oc] 103) := Blk.new _ _ _
  refine (HALL.out _ _ M3.out B3.out).mono ?_
  rintro e w4 ⟨ua, uc, rfl, GU, hb4⟩
  have B4 : Hid (Below w.heap.size w w4) := B3.out.trans (hb4.mono B3.out.size)
  have M4 : Hid (Blk w4 w2.heap.size #[.int .i64 first, .slice ga ln gc, .slice oa lo oc] 103) := M3.out.below hb4 M3.out.lt
  have R4 : Hid (Blk w4 (w.heap.size + 1) #[.slice none 0 0] 25) := (R2.out.alloc _).below hb4 (by have := R2.out.lt; simp; omega)
  clear hb4 B3 M3 B2 K2 R2 k0 k1 k2 r0 r1 HALL
  obtain ⟨k0, k1, k2⟩ := M4.out.three
  have r0 := R4.out.one
  have r1 := R4.out.free 0
  by_cases hn1 : n < first
  · have HEE : Hid (E = 5 ∧ G = []) := by
      have e1 : E = 5 := by rw [HE2.out, if_pos hn1]
      exact ⟨e1, by rw [HGG.out, if_neg (by rw [e1]; decide)]⟩
    go_wp2
    obtain ⟨e1, e2⟩ := HEE.out
    rw [e1, e2]
    exact bodyPost_ret (v := .tuple #[.agg #[.slice none 0 0], .int .i64 5]) (by simp [results, Tryz.results16, go_sem, r0]) rfl ⟨none, 0, rfl, FrsIn.nil _ _, by first | exact B4.out | exact B4.out.setCell (by simp) _⟩
  by_cases hn2 : (q : Int) ≤ n - first
  · have HEE : Hid (E = 5 ∧ G = []) := by
      have e1 : E = 5 := by rw [HE2.out, if_neg hn1, if_pos hn2]
      exact ⟨e1, by rw [HGG.out, if_neg (by rw [e1]; decide)]⟩
    go_wp2
    obtain ⟨e1, e2⟩ := HEE.out
    rw [e1, e2]
    exact bodyPost_ret (v := .tuple #[.agg #[.slice none 0 0], .int .i64 5]) (by simp [results, Tryz.results16, go_sem, r0]) rfl ⟨none, 0, rfl, FrsIn.nil _ _, by first | exact B4.out | exact B4.out.setCell (by simp) _⟩
  obtain ⟨d, hd⟩ : ∃ d : Nat, (d : Int) = n - first := ⟨(n - first).toNat, by omega⟩
  have hdq : d < q := by omega
  have hnd : n = first + d := by omega
  have HEE : Hid (E = 0 ∧ G = grAt A d) := by
    have e1 : E = 0 := by rw [HE2.out, if_neg hn1, if_neg hn2]
    exact ⟨e1, by rw [HGG.out, if_pos e1, ← hd]; rfl⟩
  obtain ⟨ao, c', eu, _, _, hc⟩ := GU.out
  rw [← HQ.out] at eu
  injection eu with eu eu2 eu3
  clear eu2
  subst eu eu3
  obtain ⟨b, off, e1, hb, _, sv, c0, hsv⟩ := hc d (by rw [← HQ.out]; exact hdq)
  have hGd : grAt A d = G := HEE.out.2.symm
  rw [show A[d]?.getD [] = G from hGd] at hsv
  obtain ⟨sa, sc, es, _, _⟩ := hsv.len
  obtain ⟨gn, hgn⟩ : ∃ gn, gn = G.length := ⟨_, rfl⟩
  rw [← hgn] at es
  have HGN : Hid (gn = G.length) := hgn
  have hGR : gchk G = 0 := HAR.out G (by rw [← hGd]; unfold grAt; rw [List.getElem?_eq_getElem (by rw [← HQ.out]; exact hdq)]; exact List.getElem_mem _)
  have HCL : Hid (Calls Tryz.prog 57 #[.agg #[sv]] w4 fun e w' => ∃ a c, e = .returned (.agg #[.slice a gn c]) ∧ Hid (FrsIn (fun g => w4.heap.size ≤ g) w' (.slice a gn c) G) ∧ Below w4.heap.size w4 w') := by
    show Calls _ _ _ _ _
    rw [hgn]; exact cloneGroup_any _ sv G w4 hsv hGR
  have HE0 : Hid (E = 0) := HEE.out.1
  have hdw : IntKind.i64.wrap (d : Int) = (d : Int) := by rw [IntKind.wrap_i64]; omega
  have hdqi : (d : Int) < (q : Int) := by omega
  have hnf : first + (d : Int) - first = (d : Int) := by omega
  have hnl : ¬ first + (d : Int) < first := by omega
  have hqd : ¬ (q : Int) ≤ (d : Int) := by omega
  clear hc hsv hGd hGR hn1 hn2 hd HE2 HGG HEE hgn
  subst hnd es e1
  go_wp2_with fail
  refine HCL.out.mono ?_
  rintro e w5 ⟨a5, c5, rfl, HF5, hb5⟩
  have B5 : Hid (Below w.heap.size w w5) := B4.out.trans (hb5.mono B4.out.size)
  have K5 := R4.out.below hb5 R4.out.lt
  have q0 := K5.one
  have q1 := K5.free 0
  have c9 : (w5.setCell ⟨w.heap.size + 1, 0, none⟩ (.slice a5 gn c5)).cell? ⟨w.heap.size + 1, 0, none⟩ = some (.slice a5 gn c5) := (K5.set 0 _).cell rfl
  have hlt4 := R4.out.lt
  have F9 : Hid (FrsIn (fun g => w.heap.size ≤ g) (w5.setCell ⟨w.heap.size + 1, 0, none⟩ (.slice a5 gn c5)) (.slice a5 gn c5) G) := HF5.out.to (SameOn.setCell (fun g hg => by simp at hg ⊢; omega) _) (fun g _ h => by omega)
  clear hb5 K5 HF5 HCL c0 k0 k1 k2 r0 r1
  go_wp2
  rw [HE0.out, ← HGN.out]
  exact bodyPost_ret (v := .tuple #[.agg #[.slice a5 gn c5], .int .i64 0]) (by simp [results, Tryz.results16, go_sem, c9]) rfl ⟨a5, c5, rfl, F9.out, B5.out.setCell (by simp) _⟩

theorem storeGet_any (first : Int) (gv ov : Value) (L : List (List Fr)) (O : List Fr) (n : Int) (w : World) (hg : GrsIn (fun _ => True) w gv L) (ho : FrsIn (fun _ => True) w ov O) (hnb : n ≤ 9223372036854775807) :
    Calls Tryz.prog 16 #[.agg #[.int .i64 first, gv, ov], .int .i64 n] w fun e w' => ∃ a c, e = .returned (.tuple #[.agg #[.slice a (getG first L O n).length c], .int .i64 (getE first L O n)]) ∧ FrsIn (fun _ => True) w' (.slice a (getG first L O n).length c) (getG first L O n) ∧ Below w.heap.size w w' := by
  refine (storeGet_new first gv ov L O n w hg ho hnb).mono ?_
  rintro e w' ⟨a, c, rfl, h1, h2⟩
  exact ⟨a, c, rfl, h1.mono (fun _ _ _ => trivial), h2⟩

end Go.Proofs.YtnpaejknoipicafGreat

namespace Go.Proofs.YtnpaejknoipicafGreat
open Go.RowKit

/-- the last one behind the first that begins so early, or the first one -/
def seekI (A : List (List Fr)) (t : Int) : Nat → Nat
  | 0 => 0
  | i + 1 => if (frAt (grAt A (i + 1)) 0).time ≤ t then i + 1 else seekI A t i
theorem seekI_le (A : List (List Fr)) (t : Int) : ∀ i, seekI A t i ≤ i
  | 0 => Nat.le_refl _
  | i + 1 => by
    unfold seekI; split
    · exact Nat.le_refl _
    · exact Nat.le_succ_of_le (seekI_le A t i)
theorem seekI_hit {A : List (List Fr)} {t : Int} {i i1 : Nat} (h : i = i1 + 1) (hl : (frAt (grAt A i) 0).time ≤ t) : seekI A t i = i := by
  subst h; simp only [seekI]; rw [if_pos hl]
theorem seekI_miss {A : List (List Fr)} {t : Int} {i i1 : Nat} (h : i = i1 + 1) (hl : ¬ (frAt (grAt A i) 0).time ≤ t) : seekI A t i = seekI A t i1 := by
  subst h; simp only [seekI]; rw [if_neg hl]
def seekE (first : Int) (L : List (List Fr)) (O : List Fr) (t : Int) : Int := if stchk first L O = 0 then (if t < 0 then 3 else if 1000000 < t then 3 else if (allG L O).length = 0 then 5 else 0) else stchk first L O
def seekN (first : Int) (L : List (List Fr)) (O : List Fr) (t : Int) : Int := if seekE first L O t = 0 then first + seekI (allG L O) t ((allG L O).length - 1) else 0

set_option maxHeartbeats 4000000 in
set_option maxRecDepth 100000 in
theorem storeSeek_any (first : Int) (gv ov : Value) (L : List (List Fr)) (O : List Fr) (t : Int) (w : World) (hg : GrsIn (fun _ => True) w gv L) (ho : FrsIn (fun _ => True) w ov O) :
    Calls Tryz.prog 33 #[.agg #[.int .i64 first, gv, ov], .int .i64 t] w fun e w' => e = .returned (.tuple #[.int .i64 (seekN first L O t), .int .i64 (seekE first L O t)]) ∧ Below w.heap.size w w' := by
  obtain ⟨ga, gc, eg, _, _⟩ := hg.len
  obtain ⟨oa, oc, eo, _, _⟩ := ho.len
  obtain ⟨ln, hln⟩ : ∃ n, n = L.length := ⟨_, rfl⟩
  obtain ⟨lo, hlo⟩ : ∃ n, n = O.length := ⟨_, rfl⟩
  rw [← hln] at eg
  rw [← hlo] at eo
  have HG : Hid (GrsIn (fun _ => True) w gv L) := hg
  have HO : Hid (FrsIn (fun _ => True) w ov O) := ho
  obtain ⟨E, hE⟩ : ∃ E, E = seekE first L O t := ⟨_, rfl⟩
  obtain ⟨N, hN⟩ : ∃ N, N = seekN first L O t := ⟨_, rfl⟩
  obtain ⟨K, hK⟩ : ∃ K, K = stchk first L O := ⟨_, rfl⟩
  have HE : Hid (E = if K = 0 then (if t < 0 then 3 else if 1000000 < t then 3 else if (allG L O).length = 0 then 5 else 0) else K) := by show _ = _; rw [hE, hK]; rfl
  have HNN : Hid (N = if E = 0 then first + seekI (allG L O) t ((allG L O).length - 1) else 0) := by show _ = _; rw [hN, hE]; rfl
  have HC : Hid (∀ U, Below w.heap.size w U → Calls Tryz.prog 34 #[.agg #[.int .i64 first, gv, ov]] U fun e w' => e = .returned (.int .i64 K) ∧ Below U.heap.size U w') := fun U hU => by
    rw [hK]; exact storeCheck_any _ first gv ov L O U (HG.out.below hU) (HO.out.below hU)
  have HK0 : Hid (K = 0 → 0 ≤ first ∧ first ≤ 100000 ∧ L.length ≤ 5 ∧ (∀ g ∈ allG L O, gchk g = 0)) := fun h => by
    have h' : stchk first L O = 0 := by rw [← hK]; exact h
    obtain ⟨h1, h2, h3, _⟩ := stchk_zero.1 h'
    exact ⟨h1, h2, h3, allG_right h'⟩
  have HBAD : Hid (∀ e : Int, E = e → ¬ e = 0 → N = 0) := fun e h1 h2 => by rw [HNN.out, if_neg (by rw [h1]; exact h2)]
  rw [← hE, ← hN]
  clear hg ho hE hN hK hln hlo
  subst eg eo
  go_enter Tryz.func33, Tryz.ntmps33
  go_wp2_with fail
  have B1 : Hid (Below w.heap.size w (w.alloc (.cells #[.int .i64 first, .slice ga ln gc, .slice oa lo oc] 27))) := (Below.refl _ _).alloc (Nat.le_refl _) _
  have K1 : Hid (Blk (w.alloc (.cells #[.int .i64 first, .slice ga ln gc, .slice oa lo oc] 27)) w.heap.size #[.int .i64 first, .slice ga ln gc, .slice oa lo oc] 27) := Blk.new w _ _
  refine (HC.out _ B1.out).mono ?_
  rintro e w2 ⟨rfl, hb2⟩
  have B2 : Hid (Below w.heap.size w w2) := B1.out.trans (hb2.mono B1.out.size)
  have K2 : Hid (Blk w2 w.heap.size #[.int .i64 first, .slice ga ln gc, .slice oa lo oc] 27) := K1.out.below hb2 K1.out.lt
  clear hb2 B1 K1 HC
  obtain ⟨k0, k1, k2⟩ := K2.out.three
  by_cases hK : K = 0
  case neg =>
    have e1 : E = K := by rw [HE.out, if_neg hK]
    have HEE : Hid (E = K ∧ N = 0) := ⟨e1, HBAD.out K e1 hK⟩
    clear e1
    go_wp2
    obtain ⟨e1, e2⟩ := HEE.out
    rw [e1, e2]
    go_ret2
    exact ⟨rfl, B2.out⟩
  obtain ⟨hf0, hf1, hL5, hAR⟩ := HK0.out hK
  have HAR : Hid (∀ g ∈ allG L O, gchk g = 0) := hAR
  have HE2 : Hid (E = if t < 0 then 3 else if 1000000 < t then 3 else if (allG L O).length = 0 then 5 else 0) := by show _ = _; rw [HE.out, if_pos hK]
  have HAL : Hid ((allG L O).length ≤ 6) := allG_len L O hL5
  have HL5 : Hid (L.length ≤ 100) := by show _ ≤ _; omega
  clear hAR HE HK0 hL5
  subst hK
  by_cases ht1 : t < 0
  · have e1 : E = 3 := by rw [HE2.out, if_pos ht1]
    have HEE : Hid (E = 3 ∧ N = 0) := ⟨e1, HBAD.out 3 e1 (by decide)⟩
    clear e1
    go_wp2
    obtain ⟨e1, e2⟩ := HEE.out
    rw [e1, e2]
    go_ret2
    exact ⟨rfl, B2.out⟩
  by_cases ht2 : 1000000 < t
  · have e1 : E = 3 := by rw [HE2.out, if_neg ht1, if_pos ht2]
    have HEE : Hid (E = 3 ∧ N = 0) := ⟨e1, HBAD.out 3 e1 (by decide)⟩
    clear e1
    go_wp2
    obtain ⟨e1, e2⟩ := HEE.out
    rw [e1, e2]
    go_ret2
    exact ⟨rfl, B2.out⟩
  obtain ⟨A, hA⟩ : ∃ A, A = allG L O := ⟨_, rfl⟩
  rw [← hA] at HAR HE2 HAL HNN
  obtain ⟨q, hq⟩ : ∃ q, q = A.length := ⟨_, rfl⟩
  have HQ : Hid (q = A.length) := hq
  have hq6 : q ≤ 6 := by rw [hq]; exact HAL.out
  rw [← hq] at HE2 HNN
  have HALL : Hid (∀ (M : Nat) (U : World), Blk U M #[.int .i64 first, .slice ga ln gc, .slice oa lo oc] 103 → Below w.heap.size w U → Calls Tryz.prog 56 #[.pointer (some ⟨M, 0, none⟩)] U fun e w' => ∃ a c, e = .returned (.slice a q c) ∧ Hid (GrsIn (fun _ => True) w' (.slice a q c) A) ∧ Below U.heap.size U w') := fun M U h1 h2 => by
    refine (keeperAll_any M first _ _ L O U h1 (HG.out.below h2) (HO.out.below h2) HL5.out).mono ?_
    rintro e w' ⟨u, rfl, h3, h4⟩
    rw [← hA] at h3
    obtain ⟨a, c, e, _, _⟩ := h3.len
    rw [← hq] at e
    subst e
    exact ⟨a, c, rfl, h3, h4⟩
  clear hA hq
  go_wp2_with fail
  have B3 : Hid (Below w.heap.size w (w2.alloc (.cells #[.int .i64 first, .slice ga ln gc, .slice oa lo oc] 103))) := B2.out.alloc B2.out.size _
  have M3 : Hid (Blk (w2.alloc (.cells #[.int .i64 first, .slice ga ln gc, .slice oa lo oc] 103)) w2.heap.size #[.int .i64 first, .slice ga ln gc, .slice oa lo oc] 103) := Blk.new _ _ _
  refine (HALL.out _ _ M3.out B3.out).mono ?_
  rintro e w4 ⟨ua, uc, rfl, GU, hb4⟩
  have B4 : Hid (Below w.heap.size w w4) := B3.out.trans (hb4.mono B3.out.size)
  have M4 : Hid (Blk w4 w2.heap.size #[.int .i64 first, .slice ga ln gc, .slice oa lo oc] 103) := M3.out.below hb4 M3.out.lt
  clear hb4 B3 M3 B2 K2 k0 k1 k2 HALL
  obtain ⟨k0, k1, k2⟩ := M4.out.three
  by_cases hq0 : q = 0
  · have e1 : E = 5 := by rw [HE2.out, if_neg (by omega), if_neg (by omega), if_pos hq0]
    have HEE : Hid (E = 5 ∧ N = 0) := ⟨e1, HBAD.out 5 e1 (by decide)⟩
    clear e1
    subst hq0
    go_wp2
    obtain ⟨e1, e2⟩ := HEE.out
    rw [e1, e2]
    go_ret2
    exact ⟨rfl, B4.out⟩
  have e1 : E = 0 := by rw [HE2.out, if_neg (by omega), if_neg (by omega), if_neg hq0]
  have HEE : Hid (E = 0 ∧ N = first + seekI A t (q - 1)) := ⟨e1, by rw [HNN.out, if_pos e1]⟩
  obtain ⟨ao, c', eu, _, _, hc⟩ := GU.out
  rw [← HQ.out] at eu
  injection eu with eu eu2 eu3
  clear eu2
  subst eu eu3
  have HTM : Hid (∀ i, i < q → ∃ b off sa sn sc b2 off2, ua = some ⟨b, off, none⟩ ∧ b < w4.heap.size ∧ w4.cell? ⟨b, off + i, none⟩ = some (.slice (some ⟨b2, off2, none⟩) sn sc) ∧ 0 < sn ∧ sa = (frAt (grAt A i) 0).time ∧ w4.cell? ⟨b2, off2, none⟩ = some (.int .i64 sa)) := fun i hi => by
    obtain ⟨b, off, e1, hb, _, sv, c0, hsv⟩ := hc i (by rw [← HQ.out]; exact hi)
    have hgr : gchk (grAt A i) = 0 := HAR.out _ (by unfold grAt; rw [List.getElem?_eq_getElem (by rw [← HQ.out]; exact hi)]; exact List.getElem_mem _)
    obtain ⟨h0, _⟩ := gchk_zero.1 hgr
    obtain ⟨sa, sc, es, _, _, hf⟩ := hsv
    obtain ⟨b2, off2, e2, _, _, pv, d0, _⟩ := hf 0 h0
    subst e2
    exact ⟨b, off, _, _, sc, b2, off2, e1, hb, by rw [c0, es], h0, rfl, by simpa using d0⟩
  have hqi : ((q : Int) == 0) = false := by simp; omega
  obtain ⟨q1, hq1⟩ : ∃ q1, q1 = q - 1 := ⟨_, rfl⟩
  have hq1i : (q : Int) - 1 = (q1 : Int) := by omega
  rw [← hq1] at HEE
  have hq1l : q1 < q := by omega
  clear e1 hc HAR HE2 HNN HBAD hq1
  go_wp2_with fail
  go_loopw [9] (fun s wr => ∃ i : Nat, i ≤ q1 ∧ s = .int .i64 i ∧ Hid (seekI A t q1 = seekI A t i) ∧ wr = w4)
    (fun s _ => (intOf s).toNat)
  case atStart => exact ⟨q1, Nat.le_refl _, by go_num, (show _ = _ from rfl), rfl⟩
  case round =>
    obtain ⟨i, hi, rfl, HI, rfl⟩ := hrel
    by_cases hi0 : i = 0
    · subst hi0
      go_wp2
      obtain ⟨e1, e2⟩ := HEE.out
      rw [e1, e2, HI.out]
      go_ret2
      exact ⟨by simp [seekI], B4.out⟩
    · obtain ⟨b, off, sa, sn, sc, b2, off2, eu, hb, c0, hsn, hsa, d0⟩ := HTM.out i (by omega)
      have hi0i : (0 : Int) < (i : Int) := by omega
      have hiq : (i : Int) < (q : Int) := by omega
      have hsni : (0 : Int) < (sn : Int) := by omega
      have HSA : Hid (sa = (frAt (grAt A i) 0).time) := hsa
      obtain ⟨i1, hi1⟩ : ∃ i1, i = i1 + 1 := ⟨i - 1, by omega⟩
      have HI1 : Hid (i = i1 + 1) := hi1
      have hi1i : (i : Int) - 1 = (i1 : Int) := by omega
      clear hsa hi1
      subst eu
      by_cases hle : sa ≤ t
      · have HS : Hid (seekI A t i = i) := seekI_hit HI1.out (by rw [← HSA.out]; exact hle)
        go_wp2
        obtain ⟨e1, e2⟩ := HEE.out
        rw [e1, e2, HI.out, HS.out]
        go_ret2
        exact ⟨rfl, B4.out⟩
      · have HS : Hid (seekI A t q1 = seekI A t i1) := HI.out.trans (seekI_miss HI1.out (by rw [← HSA.out]; exact hle))
        go_wp2_with fail
        go_roundw
        case rel => exact ⟨i1, by have := HI1.out; omega, by go_num, HS, by first | rfl | trivial⟩
        case measure => simp [intOf]; omega

end Go.Proofs.YtnpaejknoipicafGreat

namespace Go.Proofs.YtnpaejknoipicafGreat

theorem trimD_le : ∀ L : List (List Fr), trimD L ≤ L.length - 1
  | [] => Nat.le_refl _
  | g :: r => by
    unfold trimD
    split
    · rename_i h
      have := fullB_len h
      have := trimD_le r
      simp at *
      omega
    · omega
theorem trimD_done : ∀ L : List (List Fr), fullB (L.drop (trimD L)) = false
  | [] => fullB_nil
  | g :: r => by
    unfold trimD
    split
    · rw [List.drop_succ_cons]; exact trimD_done r
    · rename_i h; simpa using h
theorem closedG_cases (O : List Fr) (f : Fr) : (closedG O f = [] ∧ ¬ (f.key = true ∧ 0 < O.length)) ∨ (closedG O f = [O] ∧ f.key = true ∧ 0 < O.length) := by
  unfold closedG
  by_cases h : (f.key && decide (0 < O.length)) = true
  · rw [if_pos h]
    simp only [Bool.and_eq_true, decide_eq_true_eq] at h
    exact .inr ⟨rfl, h⟩
  · rw [if_neg h]
    simp only [Bool.and_eq_true, decide_eq_true_eq] at h
    exact .inl ⟨rfl, h⟩
theorem addsE_zero {first : Int} {L : List (List Fr)} {O : List Fr} {f : Fr} (h : addsE first L O f = 0) : stchk first L O = 0 ∧ f.chk = 0 ∧ first + trimD (L ++ closedG O f) ≤ 100000 ∧ addsF first L O f = first + trimD (L ++ closedG O f) ∧ addsL first L O f = (L ++ closedG O f).drop (trimD (L ++ closedG O f)) ∧ addsO first L O f = growG O f ∧ addsB first L O f = decide (0 < (closedG O f).length) := by
  have h0 := h
  unfold addsE at h0
  by_cases h1 : stchk first L O = 0
  · rw [if_pos h1] at h0
    by_cases h2 : f.chk = 0
    · rw [if_pos h2] at h0
      by_cases h3 : 100000 < first + trimD (L ++ closedG O f)
      · rw [if_pos h3] at h0; cases h0
      · exact ⟨h1, h2, by omega, if_pos h, if_pos h, if_pos h, if_pos h⟩
    · rw [if_neg h2] at h0; exact absurd h0 h2
  · rw [if_neg h1] at h0; exact absurd h0 h1
theorem addsE_bad {first : Int} {L : List (List Fr)} {O : List Fr} {f : Fr} (h : ¬ addsE first L O f = 0) : addsF first L O f = 0 ∧ addsL first L O f = [] ∧ addsO first L O f = [] ∧ addsB first L O f = false := ⟨if_neg h, if_neg h, if_neg h, if_neg h⟩
theorem growG_right {O : List Fr} {f : Fr} (hO : O = [] ∨ gchk O = 0) (hf : f.chk = 0) : growG O f = [] ∨ gchk (growG O f) = 0 := by
  have := stepG_right (s := ([], O)) (f := f) ⟨fun g hg => absurd hg List.not_mem_nil, hO⟩ hf
  exact this.2
/-- what Add leaves is right -/
theorem adds_right {first : Int} {L : List (List Fr)} {O : List Fr} {f : Fr} (h : addsE first L O f = 0) : stchk (addsF first L O f) (addsL first L O f) (addsO first L O f) = 0 := by
  obtain ⟨h1, h2, h3, e1, e2, e3, _⟩ := addsE_zero h
  obtain ⟨a1, a2, a3, a4, a5, a6⟩ := stchk_zero.1 h1
  rw [e1, e2, e3]
  have hd := trimD_done (L ++ closedG O f)
  simp only [fullB, Bool.or_eq_false_iff, decide_eq_false_iff_not] at hd
  refine stchk_zero.2 ⟨by omega, h3, by omega, fun g hg => ?_, hd.2, growG_right a6 h2⟩
  have hm := List.mem_of_mem_drop hg
  rcases List.mem_append.1 hm with hm | hm
  · exact a4 g hm
  · rcases closedG_cases O f with ⟨e, _⟩ | ⟨e, _, h0⟩
    · rw [e] at hm; exact absurd hm List.not_mem_nil
    · rw [e] at hm
      simp at hm
      subst hm
      rcases a6 with a6 | a6
      · rw [a6] at h0; simp at h0
      · exact a6
theorem fullB_right {first : Int} {L : List (List Fr)} {O : List Fr} (h : stchk first L O = 0) : fullB L = false := by
  obtain ⟨_, _, a3, _, a5, _⟩ := stchk_zero.1 h
  simp only [fullB, Bool.or_eq_false_iff, decide_eq_false_iff_not]
  exact ⟨by omega, a5⟩
/-- a frame that closes none leaves the closed ones as they were -/
theorem adds_open {first : Int} {L : List (List Fr)} {O : List Fr} {f : Fr} (h : addsE first L O f = 0) (hb : addsB first L O f = false) : addsF first L O f = first ∧ addsL first L O f = L := by
  obtain ⟨h1, _, _, e1, e2, _, e4⟩ := addsE_zero h
  rw [e4, decide_eq_false_iff_not] at hb
  have hc : closedG O f = [] := List.eq_nil_of_length_eq_zero (by omega)
  rw [hc, List.append_nil] at e1 e2
  rw [trimD_no (fullB_right h1)] at e1 e2
  exact ⟨by rw [e1]; simp, by rw [e2]; simp⟩
theorem grAt_append (L M : List (List Fr)) (k : Nat) : grAt (L ++ M) k = if k < L.length then grAt L k else grAt M (k - L.length) := by
  unfold grAt
  split
  · rename_i h; rw [List.getElem?_append_left h]
  · rename_i h; rw [List.getElem?_append_right (by omega)]
theorem grAt_drop (L : List (List Fr)) (d k : Nat) : grAt (L.drop d) k = grAt L (d + k) := by
  unfold grAt; rw [List.getElem?_drop]
/-- what Get says of a store that is right -/
theorem getE_in {first : Int} {L : List (List Fr)} {O : List Fr} (h : stchk first L O = 0) {n : Int} {d : Nat} (hn : n = first + d) (hd : d < (allG L O).length) : getE first L O n = 0 ∧ getG first L O n = grAt (allG L O) d := by
  have e : getE first L O n = 0 := by
    unfold getE; rw [if_pos h, if_neg (by omega), if_neg (by omega)]
  refine ⟨e, ?_⟩
  unfold getG; rw [if_pos e]
  congr 1; omega
theorem getE_out {first : Int} {L : List (List Fr)} {O : List Fr} (h : stchk first L O = 0) {n : Int} (hn : n < first ∨ first + (allG L O).length ≤ n) : getE first L O n = 5 ∧ getG first L O n = [] := by
  have e : getE first L O n = 5 := by
    unfold getE; rw [if_pos h]
    by_cases h1 : n < first
    · rw [if_pos h1]
    · rw [if_neg h1, if_pos (by omega)]
  exact ⟨e, by unfold getG; rw [if_neg (by rw [e]; decide)]⟩
theorem allG_length (L : List (List Fr)) (O : List Fr) : (allG L O).length = L.length + (if 0 < O.length then 1 else 0) := by
  unfold allG; split <;> simp
/-- what was stored is there, by its number, or is gone -/
theorem adds_get {first : Int} {L : List (List Fr)} {O : List Fr} {f : Fr} (h : addsE first L O f = 0) {i : Nat} (hi : i < (L ++ closedG O f).length) :
    (first + i < addsF first L O f → getE (addsF first L O f) (addsL first L O f) (addsO first L O f) (first + i) = 5) ∧
    (¬ first + i < addsF first L O f → getE (addsF first L O f) (addsL first L O f) (addsO first L O f) (first + i) = 0 ∧ getG (addsF first L O f) (addsL first L O f) (addsO first L O f) (first + i) = grAt (L ++ closedG O f) i) := by
  have hr := adds_right h
  obtain ⟨_, _, _, e1, e2, _, _⟩ := addsE_zero h
  refine ⟨fun h1 => (getE_out hr (.inl h1)).1, fun h1 => ?_⟩
  rw [e1] at h1
  have hd : i - trimD (L ++ closedG O f) < (addsL first L O f).length := by rw [e2, List.length_drop]; omega
  obtain ⟨g1, g2⟩ := getE_in hr (n := first + i) (d := i - trimD (L ++ closedG O f)) (by rw [e1]; omega) (by rw [allG_length]; omega)
  refine ⟨g1, ?_⟩
  rw [g2]
  unfold allG
  have : grAt (addsL first L O f) (i - trimD (L ++ closedG O f)) = grAt (L ++ closedG O f) i := by
    rw [e2, grAt_drop]; congr 1; omega
  split
  · rw [grAt_append, if_pos hd, this]
  · exact this
/-- the newest one is there -/
theorem adds_last {first : Int} {L : List (List Fr)} {O : List Fr} {f : Fr} (h : addsE first L O f = 0) : addsF first L O f ≤ first + ((L ++ closedG O f).length - 1 : Nat) ∧ first ≤ addsF first L O f ∧ (0 < (L ++ closedG O f).length → 0 < (addsL first L O f).length) := by
  obtain ⟨_, _, _, e1, e2, _, _⟩ := addsE_zero h
  have := trimD_le (L ++ closedG O f)
  rw [e1, e2, List.length_drop]
  exact ⟨by omega, by omega, fun _ => by omega⟩
/-- what Seek finds -/
theorem seekI_spec (A : List (List Fr)) (t : Int) : ∀ i, (∀ j, seekI A t i < j → j ≤ i → t < (frAt (grAt A j) 0).time) ∧ (t < (frAt (grAt A (seekI A t i)) 0).time → seekI A t i = 0)
  | 0 => ⟨fun j h1 h2 => by simp [seekI] at h1; omega, fun _ => rfl⟩
  | i + 1 => by
    by_cases h : (frAt (grAt A (i + 1)) 0).time ≤ t
    · rw [seekI_hit rfl h]
      exact ⟨fun j h1 h2 => by omega, fun h2 => by omega⟩
    · rw [seekI_miss rfl h]
      have ih := seekI_spec A t i
      refine ⟨fun j h1 h2 => ?_, ih.2⟩
      by_cases hj : j = i + 1
      · subst hj; omega
      · exact ih.1 j h1 (by omega)
theorem seekE_zero {first : Int} {L : List (List Fr)} {O : List Fr} {t : Int} (h : seekE first L O t = 0) : stchk first L O = 0 ∧ 0 ≤ t ∧ t ≤ 1000000 ∧ 0 < (allG L O).length ∧ seekN first L O t = first + seekI (allG L O) t ((allG L O).length - 1) := by
  have h0 := h
  unfold seekE at h0
  by_cases h1 : stchk first L O = 0
  · rw [if_pos h1] at h0
    by_cases h2 : t < 0
    · rw [if_pos h2] at h0; cases h0
    rw [if_neg h2] at h0
    by_cases h3 : 1000000 < t
    · rw [if_pos h3] at h0; cases h0
    rw [if_neg h3] at h0
    by_cases h4 : (allG L O).length = 0
    · rw [if_pos h4] at h0; cases h0
    exact ⟨h1, by omega, by omega, by omega, if_pos h⟩
  · rw [if_neg h1] at h0; exact absurd h0 h1

end Go.Proofs.YtnpaejknoipicafGreat

namespace Go.Proofs.YtnpaejknoipicafGreat

/-- what a builder makes of a slot more -/
def addF (l : List Sk) (x : Sk) : Fr := ⟨addT l x, addK l x, addP l x⟩

theorem takeF_chk {l : List Sk} {x : Sk} (hl : ∀ y ∈ l, y.chk = 0) (hx : x.chk = 0) : ∀ y ∈ takeF l x, y.chk = 0 := fun y hy => by
  rcases takeF_mem hy with h | h
  · exact hl y h
  · rw [h]; exact hx
theorem ochk_len {l : List Sk} (h : ochk l = 0) : l.length ≤ 3 ∧ ogo none l = 0 ∧ ∀ y ∈ l, y.chk = 0 := by
  unfold ochk at h
  by_cases h4 : 4 ≤ l.length
  · rw [if_pos h4] at h; cases h
  · rw [if_neg h4] at h
    exact ⟨by omega, h, ogo_all l none h⟩
theorem ochk_nil : ochk [] = 0 := rfl
/-- a builder stays right -/
theorem ochk_add {l : List Sk} {x : Sk} (h : ochk l = 0) (hx : x.chk = 0) : ochk (addO l x) = 0 := by
  obtain ⟨h1, h2, h3⟩ := ochk_len h
  unfold addO
  cases hw : addW l x
  · rw [if_neg (by simp)]
    by_cases h4 : (takeF l x).length = 4
    · rw [if_pos h4]; rfl
    · rw [if_neg h4]
      unfold addW at hw
      unfold takeF at h4 hw ⊢
      by_cases hf : x.p.f = true
      · rw [if_pos hf] at hw ⊢
        have he : x.p.e = false := by simpa using hw
        unfold ochk
        rw [if_neg (by simp)]
        simp [ogo, hx, badO, hf, he]
      · rw [if_neg hf] at h4 hw ⊢
        have hff : x.p.f = false := by simpa using hf
        by_cases hc : 0 < l.length ∧ folB (lastSk l) x = true
        · rw [if_pos hc] at h4 hw ⊢
          have he : x.p.e = false := by simpa using hw
          rw [List.length_append, List.length_singleton] at h4
          unfold ochk
          rw [if_neg (by rw [List.length_append, List.length_singleton]; omega), ogo_split _ _ _ _ h2]
          have hlast : l.foldl (fun _ y => some y) none = some (lastSk l) := by
            have := olast_at l none l.length (Nat.le_refl _)
            rw [List.take_length, if_neg (by omega)] at this
            exact this
          rw [hlast]
          simp [ogo, hx, badO, he, nextB, hff, hc.2]
        · rw [if_neg hc]; rfl
  · rw [if_pos rfl]; rfl
/-- and what it makes is right -/
theorem addF_right {l : List Sk} {x : Sk} (h : ochk l = 0) (hx : x.chk = 0) (hw : addW l x = true) : (addF l x).chk = 0 := by
  obtain ⟨h1, _, h3⟩ := ochk_len h
  have ht := takeF_chk h3 hx
  have hlen := takeF_len l x
  have hw0 := hw
  unfold addW at hw0
  simp only [Bool.and_eq_true, decide_eq_true_eq] at hw0
  unfold addF Fr.chk chkF
  simp only
  unfold addT addP
  rw [if_pos hw, if_pos hw]
  have h0 : (takeF l x)[0]?.getD Sk.zero ∈ takeF l x := by
    rw [List.getElem?_eq_getElem hw0.1, Option.getD_some]; exact List.getElem_mem _
  obtain ⟨_, _, c3, c4, _⟩ := Pk.chk_ok (Sk.chk_zero (ht _ h0)).2.2.1
  have hp : (texts (takeF l x)).length = (takeF l x).length := by unfold texts; rw [List.length_map]
  rw [if_neg (by omega), if_neg (by omega), if_neg (by omega), if_neg]
  intro hany
  obtain ⟨s, hs, hl⟩ := List.any_eq_true.1 hany
  unfold texts at hs
  obtain ⟨y, hy, e⟩ := List.mem_map.1 hs
  have := Sk.chk_short (ht y hy)
  rw [e] at this
  unfold longB at hl
  have := of_decide_eq_true hl
  omega

structure Tr where
  last : Int
  next : Int
  h : List Sk
  o : List Sk
  first : Int
  L : List (List Fr)
  O : List Fr
def Tr.zero : Tr := ⟨0, 0, [], [], 0, [], []⟩
/-- what Check says of a track -/
def Tr.chk (t : Tr) : Int :=
  if ¬ t.last = 0 ∧ Cn.isNB t.last = false then 3 else
    if bchk t.next t.h = 0 then
      (if ochk t.o = 0 then (if stchk t.first t.L t.O = 0 then (if (t.last == 0) = (t.next == 0) then 0 else 4) else stchk t.first t.L t.O) else ochk t.o)
    else bchk t.next t.h
theorem Tr.chk_zero {t : Tr} : t.chk = 0 ↔ (t.last = 0 ∨ Cn.isNB t.last = true) ∧ Right t.next t.h ∧ ochk t.o = 0 ∧ stchk t.first t.L t.O = 0 ∧ (t.last = 0 ↔ t.next = 0) := by
  unfold Tr.chk
  rw [← bchk_right]
  have hbe : ((t.last == 0) = (t.next == 0)) ↔ (t.last = 0 ↔ t.next = 0) := by
    by_cases h1 : t.last = 0 <;> by_cases h2 : t.next = 0
    · simp [h1, h2]
    · simp [h1, h2]
    · simp [h1, h2]
    · have e1 : (t.last == 0) = false := by simpa using h1
      have e2 : (t.next == 0) = false := by simpa using h2
      rw [e1, e2]; simp [h1, h2]
  by_cases h1 : ¬ t.last = 0 ∧ Cn.isNB t.last = false
  · rw [if_pos h1]
    refine ⟨fun h => (by cases h), fun h => ?_⟩
    rcases h.1 with h | h
    · exact absurd h h1.1
    · rw [h] at h1; cases h1.2
  rw [if_neg h1]
  have h1' : t.last = 0 ∨ Cn.isNB t.last = true := by
    by_cases h : t.last = 0
    · exact .inl h
    · right
      cases hb : Cn.isNB t.last
      · exact absurd ⟨h, hb⟩ h1
      · rfl
  by_cases h2 : bchk t.next t.h = 0
  · rw [if_pos h2]
    by_cases h3 : ochk t.o = 0
    · rw [if_pos h3]
      by_cases h4 : stchk t.first t.L t.O = 0
      · rw [if_pos h4]
        by_cases h5 : (t.last == 0) = (t.next == 0)
        · rw [if_pos h5]; exact ⟨fun _ => ⟨h1', h2, h3, h4, hbe.1 h5⟩, fun _ => rfl⟩
        · rw [if_neg h5]; exact ⟨fun h => (by cases h), fun h => absurd (hbe.2 h.2.2.2.2) h5⟩
      · rw [if_neg h4]; exact ⟨fun h => absurd h h4, fun h => absurd h.2.2.2.1 h4⟩
    · rw [if_neg h3]; exact ⟨fun h => absurd h h3, fun h => absurd h.2.2.1 h3⟩
  · rw [if_neg h2]; exact ⟨fun h => absurd h h2, fun h => absurd h.2.1 h2⟩

/-- a track with other numbers, and another buffer -/
def Tr.buf (t : Tr) (l n : Int) (h : List Sk) : Tr := ⟨l, n, h, t.o, t.first, t.L, t.O⟩
/-- one slot taken: the track behind it, how many groups were closed, the error -/
def tk1 (t : Tr) (x : Sk) : Tr × Nat × Int :=
  if addW t.o x then (⟨t.last, t.next, t.h, addO t.o x, addsF t.first t.L t.O (addF t.o x), addsL t.first t.L t.O (addF t.o x), addsO t.first t.L t.O (addF t.o x)⟩, if addsB t.first t.L t.O (addF t.o x) then 1 else 0, addsE t.first t.L t.O (addF t.o x))
  else (⟨t.last, t.next, t.h, addO t.o x, t.first, t.L, t.O⟩, 0, 0)
/-- all of them -/
def tkN : List Sk → Tr × Nat → Tr × Nat × Int
  | [], s => (s.1, s.2, 0)
  | x :: r, s => if (tk1 s.1 x).2.2 = 0 then tkN r ((tk1 s.1 x).1, s.2 + (tk1 s.1 x).2.1) else (Tr.zero, 0, (tk1 s.1 x).2.2)
/-- the number of a packet -/
def numE (last : Int) (p : Pk) : Int := if last = 0 then 0 else Cn.uwE last p.seq
def numN (last : Int) (p : Pk) : Int := if last = 0 then p.seq + 65536 else Cn.uwN last p.seq
/-- a packet fed, its number known -/
def feedP (t : Tr) (n : Int) (p : Pk) : Tr × Nat × Int := tkN (putF t.next t.h ⟨n, p⟩).2.2 (t.buf (max t.last n) (putF t.next t.h ⟨n, p⟩).1 (putF t.next t.h ⟨n, p⟩).2.1, 0)
def feedR (t : Tr) (s : List UInt8) : Tr × Nat × Int :=
  if (Pk.dec s).2 = 0 then (if numE t.last (Pk.dec s).1 = 0 then feedP t (numN t.last (Pk.dec s).1) (Pk.dec s).1 else (Tr.zero, 0, numE t.last (Pk.dec s).1)) else (Tr.zero, 0, (Pk.dec s).2)
def drainR (t : Tr) : Tr × Nat × Int := tkN (relF 0 t.next t.h []).2.2 (t.buf t.last (relF 0 t.next t.h []).1 (relF 0 t.next t.h []).2.1, 0)
def feedA (t : Tr) (s : List UInt8) : Tr × Nat × Int := if t.chk = 0 then feedR t s else (Tr.zero, 0, t.chk)
def drainA (t : Tr) : Tr × Nat × Int := if t.chk = 0 then drainR t else (Tr.zero, 0, t.chk)

theorem tk1_buf (t : Tr) (l n : Int) (h : List Sk) (x : Sk) : tk1 (t.buf l n h) x = ((tk1 t x).1.buf l n h, (tk1 t x).2) := by
  unfold tk1 Tr.buf
  simp only
  cases addW t.o x <;> rfl
theorem tk1_keep (t : Tr) (x : Sk) : (tk1 t x).1.last = t.last ∧ (tk1 t x).1.next = t.next ∧ (tk1 t x).1.h = t.h := by
  unfold tk1
  cases addW t.o x <;> exact ⟨rfl, rfl, rfl⟩
/-- builder and store are right -/
def TkOk (t : Tr) : Prop := ochk t.o = 0 ∧ stchk t.first t.L t.O = 0
theorem tk1_ok {t : Tr} {x : Sk} (h : TkOk t) (hx : x.chk = 0) : ((tk1 t x).2.2 = 0 ∧ TkOk (tk1 t x).1) ∨ (tk1 t x).2.2 = 2 := by
  obtain ⟨h1, h2⟩ := h
  have ho := ochk_add h1 hx
  unfold tk1
  cases hw : addW t.o x
  · left; exact ⟨rfl, ho, h2⟩
  · have hf := addF_right h1 hx hw
    simp only [if_true]
    by_cases hE : addsE t.first t.L t.O (addF t.o x) = 0
    · left
      exact ⟨hE, ho, adds_right hE⟩
    · right
      unfold addsE at hE ⊢
      rw [if_pos h2, if_pos hf] at hE ⊢
      split
      · rfl
      · rename_i h; rw [if_neg h] at hE; exact absurd rfl hE
theorem tkN_ok : ∀ (l : List Sk) (s : Tr × Nat), TkOk s.1 → (∀ x ∈ l, x.chk = 0) → ((tkN l s).2.2 = 0 ∧ TkOk (tkN l s).1 ∧ (tkN l s).1.last = s.1.last ∧ (tkN l s).1.next = s.1.next ∧ (tkN l s).1.h = s.1.h) ∨ ((tkN l s).2.2 = 2 ∧ (tkN l s).1 = Tr.zero ∧ (tkN l s).2.1 = 0)
  | [], s, h, _ => .inl ⟨rfl, h, rfl, rfl, rfl⟩
  | x :: r, s, h, hl => by
    simp only [tkN]
    rcases tk1_ok h (hl x List.mem_cons_self) with ⟨e, h'⟩ | e
    · rw [if_pos e]
      have hk := tk1_keep s.1 x
      rcases tkN_ok r ((tk1 s.1 x).1, s.2 + (tk1 s.1 x).2.1) h' (fun y hy => hl y (List.mem_cons_of_mem _ hy)) with h3 | h3
      · left
        obtain ⟨a1, a2, a3, a4, a5⟩ := h3
        exact ⟨a1, a2, by rw [a3]; exact hk.1, by rw [a4]; exact hk.2.1, by rw [a5]; exact hk.2.2⟩
      · exact .inr h3
    · rw [if_neg (by omega)]
      exact .inr ⟨e, rfl, rfl⟩
theorem tkN_bad : ∀ (l : List Sk) (s : Tr × Nat), ¬ (tkN l s).2.2 = 0 → (tkN l s).1 = Tr.zero ∧ (tkN l s).2.1 = 0
  | [], _, h => absurd rfl h
  | x :: r, s, h => by
    simp only [tkN] at h ⊢
    by_cases e : (tk1 s.1 x).2.2 = 0
    · rw [if_pos e] at h ⊢
      exact tkN_bad r _ h
    · rw [if_neg e]; exact ⟨rfl, rfl⟩
theorem feedA_bad {t : Tr} {s : List UInt8} (h : ¬ (feedA t s).2.2 = 0) : (feedA t s).1 = Tr.zero ∧ (feedA t s).2.1 = 0 := by
  unfold feedA at h ⊢
  by_cases h1 : t.chk = 0
  · rw [if_pos h1] at h ⊢
    unfold feedR at h ⊢
    by_cases h2 : (Pk.dec s).2 = 0
    · rw [if_pos h2] at h ⊢
      by_cases h3 : numE t.last (Pk.dec s).1 = 0
      · rw [if_pos h3] at h ⊢; exact tkN_bad _ _ h
      · rw [if_neg h3]; exact ⟨rfl, rfl⟩
    · rw [if_neg h2]; exact ⟨rfl, rfl⟩
  · rw [if_neg h1]; exact ⟨rfl, rfl⟩
theorem drainA_bad {t : Tr} (h : ¬ (drainA t).2.2 = 0) : (drainA t).1 = Tr.zero ∧ (drainA t).2.1 = 0 := by
  unfold drainA at h ⊢
  by_cases h1 : t.chk = 0
  · rw [if_pos h1] at h ⊢; exact tkN_bad _ _ h
  · rw [if_neg h1]; exact ⟨rfl, rfl⟩

/-- a packet's number -/
theorem num_ok {last : Int} {p : Pk} (hp : p.chk = 0) (hl : last = 0 ∨ Cn.isNB last = true) (h : numE last p = 0) : Cn.isNB (numN last p) = true ∧ numN last p % 65536 = p.seq ∧ numE (max last (numN last p)) p = 0 ∧ numN (max last (numN last p)) p = numN last p ∧ Cn.isNB (max last (numN last p)) = true := by
  obtain ⟨p1, p2, _⟩ := Pk.chk_ok hp
  obtain ⟨n, hn⟩ : ∃ n, n = numN last p := ⟨_, rfl⟩
  have key : Cn.isNB n = true ∧ n % 65536 = p.seq ∧ (last = 0 ∨ (last - 32767 ≤ n ∧ n ≤ last + 32768)) := by
    unfold numE at h
    unfold numN at hn
    by_cases h0 : last = 0
    · rw [if_pos h0] at hn
      subst hn
      exact ⟨Cn.isNB_true (by omega) (by omega), by omega, .inl h0⟩
    · rw [if_neg h0] at h hn
      cases ho : Cn.okB last p.seq
      · rw [(Cn.uw_no ho).1] at h; cases h
      · rw [(Cn.uw_ok ho).2] at hn
        obtain ⟨_, _, _, b1, b2⟩ := Cn.okB_iff.1 ho
        obtain ⟨r1, r2, r3⟩ := Cn.raw_near last p.seq p1 p2
        subst hn
        exact ⟨Cn.isNB_true b1 b2, r1, .inr ⟨r2, r3⟩⟩
  obtain ⟨k1, k2, k3⟩ := key
  rw [← hn]
  obtain ⟨n1, n2⟩ := Cn.isNB_iff.1 k1
  obtain ⟨m, hm⟩ : ∃ m, m = max last n := ⟨_, rfl⟩
  rw [← hm]
  have hlb : last = 0 ∨ 65536 ≤ last ∧ last ≤ 1000000000 := hl.imp id Cn.isNB_iff.1
  have hm1 : 65536 ≤ m ∧ m ≤ 1000000000 ∧ m - 32767 ≤ n ∧ n ≤ m + 32768 := by omega
  have hm0 : ¬ m = 0 := by omega
  have hraw := Cn.raw_uniq m p.seq n k2 hm1.2.2.1 hm1.2.2.2
  have hok : Cn.okB m p.seq = true := Cn.okB_iff.2 ⟨⟨hm1.1, hm1.2.1⟩, p1, p2, by omega, by omega⟩
  refine ⟨k1, k2, ?_, ?_, Cn.isNB_true hm1.1 hm1.2.1⟩
  · unfold numE; rw [if_neg hm0]; exact (Cn.uw_ok hok).1
  · unfold numN; rw [if_neg hm0, (Cn.uw_ok hok).2]; exact hraw
theorem num_slot {last : Int} {p : Pk} (hp : p.chk = 0) (hl : last = 0 ∨ Cn.isNB last = true) (h : numE last p = 0) : (Sk.mk (numN last p) p).chk = 0 := by
  obtain ⟨h1, h2, _⟩ := num_ok hp hl h
  exact Sk.chk_ok h1 hp h2

/-- what Feed leaves is right, and what comes again leaves no trace -/
theorem feed_right {t : Tr} {s : List UInt8} (h : (feedA t s).2.2 = 0) : (feedA t s).1.chk = 0 ∧ feedA (feedA t s).1 s = ((feedA t s).1, 0, 0) ∧ t.chk = 0 := by
  have hc : t.chk = 0 := by
    by_cases h1 : t.chk = 0
    · exact h1
    · unfold feedA at h; rw [if_neg h1] at h; exact h
  obtain ⟨c1, c2, c3, c4, c5⟩ := Tr.chk_zero.1 hc
  have e0 : feedA t s = feedR t s := by unfold feedA; rw [if_pos hc]
  have hd : (Pk.dec s).2 = 0 := by
    by_cases h1 : (Pk.dec s).2 = 0
    · exact h1
    · rw [e0] at h; unfold feedR at h; rw [if_neg h1] at h; exact absurd h h1
  have hp : (Pk.dec s).1.chk = 0 := by
    rcases Pk.dec_or s with ⟨_, h2⟩ | ⟨_, h2, _⟩
    · rw [hd] at h2; cases h2
    · exact h2
  have hn : numE t.last (Pk.dec s).1 = 0 := by
    by_cases h1 : numE t.last (Pk.dec s).1 = 0
    · exact h1
    · rw [e0] at h; unfold feedR at h; rw [if_pos hd, if_neg h1] at h; exact absurd h h1
  have e1 : feedA t s = feedP t (numN t.last (Pk.dec s).1) (Pk.dec s).1 := by rw [e0]; unfold feedR; rw [if_pos hd, if_pos hn]
  obtain ⟨n1, n2, n3, n4, n5⟩ := num_ok hp c1 hn
  have hx := num_slot hp c1 hn
  obtain ⟨i1, i2, i3, i4, i5, i6, i7⟩ := put_inv c2 hx
  rw [e1] at h ⊢
  have hall : ∀ y ∈ (putF t.next t.h ⟨numN t.last (Pk.dec s).1, (Pk.dec s).1⟩).2.2, y.chk = 0 := fun y hy => by
    rcases (i3 y hy).1 with e | e
    · rw [e]; exact hx
    · exact c2.2.2.1 y e
  obtain ⟨B, hB⟩ : ∃ B, B = t.buf (max t.last (numN t.last (Pk.dec s).1)) (putF t.next t.h ⟨numN t.last (Pk.dec s).1, (Pk.dec s).1⟩).1 (putF t.next t.h ⟨numN t.last (Pk.dec s).1, (Pk.dec s).1⟩).2.1 := ⟨_, rfl⟩
  have hBok : TkOk B := by rw [hB]; exact ⟨c3, c4⟩
  have hF : feedP t (numN t.last (Pk.dec s).1) (Pk.dec s).1 = tkN (putF t.next t.h ⟨numN t.last (Pk.dec s).1, (Pk.dec s).1⟩).2.2 (B, 0) := by rw [hB]; rfl
  rcases tkN_ok _ (B, 0) hBok hall with ⟨_, r2, r3, r4, r5⟩ | ⟨r1, _⟩
  · rw [← hF] at r2 r3 r4 r5
    rw [hB] at r3 r4 r5
    obtain ⟨A, hA⟩ : ∃ A, A = (feedP t (numN t.last (Pk.dec s).1) (Pk.dec s).1).1 := ⟨_, rfl⟩
    rw [← hA] at r2 r3 r4 r5 ⊢
    have r3' : A.last = max t.last (numN t.last (Pk.dec s).1) := r3
    have r4' : A.next = (putF t.next t.h ⟨numN t.last (Pk.dec s).1, (Pk.dec s).1⟩).1 := r4
    have r5' : A.h = (putF t.next t.h ⟨numN t.last (Pk.dec s).1, (Pk.dec s).1⟩).2.1 := r5
    have hAlast : ¬ A.last = 0 := by rw [r3']; have := Cn.isNB_iff.1 n5; omega
    have hchk : A.chk = 0 := by
      refine Tr.chk_zero.2 ⟨.inr (by rw [r3']; exact n5), by rw [r4', r5']; exact i1, r2.1, r2.2, ⟨fun e => absurd e hAlast, fun e => absurd (r4'.symm.trans e) i7⟩⟩
    refine ⟨hchk, ?_, hc⟩
    unfold feedA
    rw [if_pos hchk]
    unfold feedR
    rw [if_pos hd, r3', if_pos n3, n4]
    unfold feedP
    have hag : putF A.next A.h ⟨numN t.last (Pk.dec s).1, (Pk.dec s).1⟩ = (A.next, A.h, []) := put_again (by rw [r4']; exact i7) (by rw [r4', r5']; exact i6)
    rw [hag]
    have hmm : max A.last (numN t.last (Pk.dec s).1) = A.last := by rw [r3']; omega
    rw [hmm]
    rfl
  · rw [hF] at h; rw [h] at r1; cases r1
/-- what Drain leaves -/
theorem drain_right {t : Tr} (hc : t.chk = 0) : ((drainA t).2.2 = 0 ∧ (drainA t).1.h = [] ∧ (drainA t).1.chk = 0) ∨ (drainA t).2.2 = 2 := by
  obtain ⟨c1, c2, c3, c4, c5⟩ := Tr.chk_zero.1 hc
  obtain ⟨i1, i2, i3, i4, i5⟩ := flush_inv c2
  have e0 : drainA t = drainR t := by unfold drainA; rw [if_pos hc]
  rw [e0]
  have hall : ∀ y ∈ (relF 0 t.next t.h []).2.2, y.chk = 0 := fun y hy => c2.2.2.1 y (i3 y hy).1
  obtain ⟨B, hB⟩ : ∃ B, B = t.buf t.last (relF 0 t.next t.h []).1 (relF 0 t.next t.h []).2.1 := ⟨_, rfl⟩
  have hBok : TkOk B := by rw [hB]; exact ⟨c3, c4⟩
  have hF : drainR t = tkN (relF 0 t.next t.h []).2.2 (B, 0) := by rw [hB]; rfl
  rw [hF]
  rcases tkN_ok _ (B, 0) hBok hall with ⟨r1, r2, r3, r4, r5⟩ | ⟨r1, _⟩
  · left
    obtain ⟨A, hA⟩ : ∃ A, A = (tkN (relF 0 t.next t.h []).2.2 (B, 0)).1 := ⟨_, rfl⟩
    rw [← hA] at r2 r3 r4 r5 ⊢
    rw [hB] at r3 r4 r5
    have r3' : A.last = t.last := r3
    have r4' : A.next = (relF 0 t.next t.h []).1 := r4
    have r5' : A.h = (relF 0 t.next t.h []).2.1 := r5
    refine ⟨r1, by rw [r5']; exact i5, Tr.chk_zero.2 ⟨by rw [r3']; exact c1, by rw [r4', r5']; exact i1, r2.1, r2.2, ?_⟩⟩
    rw [r3', r4', c5]
    constructor
    · intro h0
      have hh : t.h = [] := by
        rcases c2.1 with ⟨_, h⟩ | h
        · exact h
        · omega
      rw [hh, h0]; rfl
    · intro h0
      rcases c2.1 with ⟨h, _⟩ | h
      · exact h
      · omega
  · exact .inr r1

theorem putF_at {next : Int} (h : List Sk) (x : Sk) (h0 : ¬ next = 0) : putF next h x = if x.n < next then (next, h, []) else if (h.any fun y => y.n == x.n) then (next, h, []) else relF 4 next (insF h x) [] := by
  unfold putF
  simp only [if_neg h0]
/-- two packets one behind the other leave the same, whichever comes first -/
theorem feed_order {t : Tr} {p q : Pk} (hc : t.chk = 0) (hl : ¬ t.last = 0) (hh : t.h = []) (hn : t.next = t.last + 1) (hm : t.last ≤ 999999998) (hp : p.chk = 0) (hq : q.chk = 0) (hps : p.seq = (t.last + 1) % 65536) (hqs : q.seq = (t.last + 2) % 65536) :
    (feedA t q.enc).2.2 = 0 ∧ (feedA t q.enc).2.1 = 0 ∧
    (((feedA t p.enc).2.2 = 0 ∧ (feedA (feedA t p.enc).1 q.enc).2.2 = 0 ∧ (feedA (feedA t q.enc).1 p.enc).2.2 = 0 ∧ (feedA t p.enc).2.1 + (feedA (feedA t p.enc).1 q.enc).2.1 = (feedA (feedA t q.enc).1 p.enc).2.1 ∧ (feedA (feedA t p.enc).1 q.enc).1 = (feedA (feedA t q.enc).1 p.enc).1) ∨ (feedA t p.enc).2.2 = 2 ∨ (feedA (feedA t p.enc).1 q.enc).2.2 = 2) := by
  obtain ⟨c1, c2, c3, c4, c5⟩ := Tr.chk_zero.1 hc
  have hlb : 65536 ≤ t.last ∧ t.last ≤ 1000000000 := Cn.isNB_iff.1 (c1.resolve_left hl)
  obtain ⟨p1, p2, _⟩ := Pk.chk_ok hp
  obtain ⟨q1, q2, _⟩ := Pk.chk_ok hq
  -- numbers
  have num : ∀ (m n : Int) (r : Pk), 65536 ≤ m → m ≤ 1000000000 → 65536 ≤ n → n ≤ 1000000000 → 0 ≤ r.seq → r.seq ≤ 65535 → n % 65536 = r.seq → m - 32767 ≤ n → n ≤ m + 32768 → numE m r = 0 ∧ numN m r = n := fun m n r a1 a2 a3 a4 a5 a6 a7 a8 a9 => by
    have hraw := Cn.raw_uniq m r.seq n a7 a8 a9
    have hok : Cn.okB m r.seq = true := Cn.okB_iff.2 ⟨⟨a1, a2⟩, a5, a6, by omega, by omega⟩
    unfold numE numN
    rw [if_neg (by omega), if_neg (by omega)]
    exact ⟨(Cn.uw_ok hok).1, by rw [(Cn.uw_ok hok).2]; exact hraw⟩
  have stp : ∀ (u : Tr) (r : Pk) (n : Int), u.chk = 0 → r.chk = 0 → numE u.last r = 0 → numN u.last r = n → feedA u r.enc = feedP u n r := fun u r n a1 a2 a3 a4 => by
    unfold feedA; rw [if_pos a1]; unfold feedR; rw [Pk.dec_enc r a2, if_pos rfl, if_pos a3, a4]
  obtain ⟨np1, np2⟩ := num t.last (t.last + 1) p (by omega) (by omega) (by omega) (by omega) p1 p2 (by omega) (by omega) (by omega)
  obtain ⟨nq1, nq2⟩ := num t.last (t.last + 2) q (by omega) (by omega) (by omega) (by omega) q1 q2 (by omega) (by omega) (by omega)
  have ep := stp t p _ hc hp np1 np2
  have eq := stp t q _ hc hq nq1 nq2
  obtain ⟨x, hx⟩ : ∃ x : Sk, x = ⟨t.last + 1, p⟩ := ⟨_, rfl⟩
  obtain ⟨y, hy⟩ : ∃ y : Sk, y = ⟨t.last + 2, q⟩ := ⟨_, rfl⟩
  have hxc : x.chk = 0 := by rw [hx]; exact Sk.chk_ok (Cn.isNB_true (by simp; omega) (by simp; omega)) hp (by simp; omega)
  have hyc : y.chk = 0 := by rw [hy]; exact Sk.chk_ok (Cn.isNB_true (by simp; omega) (by simp; omega)) hq (by simp; omega)
  have hxn : x.n = t.last + 1 := by rw [hx]
  have hyn : y.n = t.last + 2 := by rw [hy]
  -- what the buffer does
  have bp : putF t.next t.h x = (t.last + 2, [], [x]) := by
    rw [hh, hn, putF_at _ _ (by omega), if_neg (by omega)]
    simp only [List.any_nil, Bool.false_eq_true, if_false, insF_nil]
    simp [relF, hxn]; omega
  have bq : putF t.next t.h y = (t.last + 1, [y], []) := by
    rw [hh, hn, putF_at _ _ (by omega), if_neg (by omega)]
    simp only [List.any_nil, Bool.false_eq_true, if_false, insF_nil]
    simp [relF, hyn]
  have eq' : feedA t q.enc = (t.buf (t.last + 2) (t.last + 1) [y], 0, 0) := by
    rw [eq]
    unfold feedP
    rw [← hy, bq, show max t.last (t.last + 2) = t.last + 2 by omega]; rfl
  have hcC : (t.buf (t.last + 2) (t.last + 1) [y]).chk = 0 := by
    rw [show t.buf (t.last + 2) (t.last + 1) [y] = (feedA t q.enc).1 by rw [eq']]
    exact (feed_right (by rw [eq'])).1
  have eqp : feedA (t.buf (t.last + 2) (t.last + 1) [y]) p.enc = tkN [x, y] (t.buf (t.last + 2) (t.last + 3) [], 0) := by
    obtain ⟨m1, m2⟩ := num (t.last + 2) (t.last + 1) p (by omega) (by omega) (by omega) (by omega) p1 p2 (by omega) (by omega) (by omega)
    rw [stp _ p (t.last + 1) hcC hp m1 m2]
    unfold feedP
    have b2 : putF (t.last + 1) [y] x = (t.last + 3, [], [x, y]) := by
      rw [putF_at _ _ (by omega), if_neg (by omega), if_neg (by simp [hyn, hxn]), insF_cons, if_pos (by omega)]
      simp only [relF]
      rw [if_pos hxn, if_pos (by omega), show t.last + 1 + 1 + 1 = t.last + 3 by omega]; rfl
    rw [← hx]
    show tkN (putF (t.last + 1) [y] x).2.2 ((t.buf (t.last + 2) (t.last + 1) [y]).buf (max (t.last + 2) (t.last + 1)) (putF (t.last + 1) [y] x).1 (putF (t.last + 1) [y] x).2.1, 0) = _
    rw [b2, show max (t.last + 2) (t.last + 1) = t.last + 2 by omega]; rfl
  have ep' : feedA t p.enc = tkN [x] (t.buf (t.last + 1) (t.last + 2) [], 0) := by
    rw [ep]
    unfold feedP
    rw [← hx, bp, show max t.last (t.last + 1) = t.last + 1 by omega]
  rw [eq']
  refine ⟨rfl, rfl, ?_⟩
  rw [eqp]
  have hT : TkOk t := ⟨c3, c4⟩
  rcases tk1_ok hT hxc with ⟨e1, ok1⟩ | e1
  · have ep2 : feedA t p.enc = ((tk1 t x).1.buf (t.last + 1) (t.last + 2) [], (tk1 t x).2.1, 0) := by
      rw [ep']
      simp only [tkN, tk1_buf, e1, if_true, Nat.zero_add]
    rw [ep2]
    have hA := (feed_right (t := t) (s := p.enc) (by rw [ep2])).1
    rw [ep2] at hA
    obtain ⟨A, hAe⟩ : ∃ A, A = (tk1 t x).1.buf (t.last + 1) (t.last + 2) [] := ⟨_, rfl⟩
    have eAq : feedA A q.enc = tkN [y] ((tk1 t x).1.buf (t.last + 2) (t.last + 3) [], 0) := by
      obtain ⟨m1, m2⟩ := num (t.last + 1) (t.last + 2) q (by omega) (by omega) (by omega) (by omega) q1 q2 (by omega) (by omega) (by omega)
      rw [hAe]
      rw [stp _ q (t.last + 2) hA hq m1 m2]
      unfold feedP
      have b3 : putF (t.last + 2) [] y = (t.last + 3, [], [y]) := by
        rw [putF_at _ _ (by omega), if_neg (by omega)]
        simp only [List.any_nil, Bool.false_eq_true, if_false, insF_nil]
        simp [relF, hyn]; omega
      rw [← hy]
      show tkN (putF (t.last + 2) [] y).2.2 (((tk1 t x).1.buf (t.last + 1) (t.last + 2) []).buf (max (t.last + 1) (t.last + 2)) (putF (t.last + 2) [] y).1 (putF (t.last + 2) [] y).2.1, 0) = _
      rw [b3, show max (t.last + 1) (t.last + 2) = t.last + 2 by omega]; rfl
    rw [← hAe] at hA ⊢
    simp only
    rw [eAq]
    rcases tk1_ok ok1 hyc with ⟨e2, _⟩ | e2
    · left
      simp only [tkN, tk1_buf, e1, e2, if_true, Nat.zero_add]
      exact ⟨trivial, trivial, trivial, trivial, trivial⟩
    · right; right
      simp only [tkN, tk1_buf]
      rw [if_neg (by omega)]
      exact e2
  · right; left
    rw [ep']
    simp only [tkN, tk1_buf]
    rw [if_neg (by omega)]
    exact e1

end Go.Proofs.YtnpaejknoipicafGreat

namespace Go.Proofs.YtnpaejknoipicafGreat
open Go.RowKit

def Stay (w : World) (P : World → Prop) : Prop := ∀ w', Below w.heap.size w w' → P w'
theorem Stay.now {w : World} {P : World → Prop} (h : Stay w P) : P w := h w (Below.refl _ _)
theorem Stay.step {w w' : World} {P : World → Prop} (h : Stay w P) (hb : Below w.heap.size w w') : Stay w' P := fun w'' h2 => h w'' (hb.trans (h2.mono hb.size))
theorem Stay.alloc {w : World} {P : World → Prop} (h : Stay w P) (o : Obj) : Stay (w.alloc o) P := h.step ((Below.refl _ w).alloc (Nat.le_refl _) _)
theorem Stay.and {w : World} {P Q : World → Prop} (h : Stay w P) (k : Stay w Q) : Stay w (fun U => P U ∧ Q U) := fun w' hb => ⟨h w' hb, k w' hb⟩
theorem Stay.imp {w : World} {P Q : World → Prop} (h : Stay w P) (k : ∀ U, P U → Q U) : Stay w Q := fun w' hb => k w' (h w' hb)
theorem Blk.stay {w : World} {b : Nat} {C : Array Value} {t : TypeId} (h : Blk w b C t) : Stay w (fun U => Blk U b C t) := fun _ hb => h.below hb h.lt
theorem FrsIn.stay {S : Nat → Prop} {w : World} {v : Value} {l : List Fr} (h : FrsIn S w v l) : Stay w (fun U => FrsIn S U v l) := fun _ hb => h.below hb
theorem StrsIn.stay {S : Nat → Prop} {w : World} {v : Value} {l : List ByteArray} (h : StrsIn S w v l) : Stay w (fun U => StrsIn S U v l) := fun _ hb => h.below hb
theorem GrsIn.stay {S : Nat → Prop} {w : World} {v : Value} {L : List (List Fr)} (h : GrsIn S w v L) : Stay w (fun U => GrsIn S U v L) := fun _ hb => h.below hb
theorem below_stay {B : Nat} {a w : World} (h : Below B a w) (hB : B ≤ w.heap.size) : Stay w (fun U => Below B a U) := fun _ hb => h.trans (hb.mono hB)
theorem below_stay0 (w : World) : Stay w (fun U => Below w.heap.size w U) := below_stay (Below.refl _ _) (Nat.le_refl _)

theorem Stay.hid {w : World} {P : World → Prop} (h : Stay w P) : Hid (Stay w P) := h
theorem Stay.go {w w' : World} {P : World → Prop} (h : Hid (Stay w P)) (hb : Below w.heap.size w w') : Hid (Stay w' P) := Stay.step h hb
theorem Stay.allocE {w W : World} {P : World → Prop} {o : Obj} (h : Stay w P) (e : W = w.alloc o) : Hid (Stay W P) := by subst e; exact h.alloc _
theorem Blk.newE {w W : World} {C : Array Value} {t : TypeId} (e : W = w.alloc (.cells C t)) : Blk W w.heap.size C t := by subst e; exact Blk.new _ _ _
theorem FrsIn.allocE {S : Nat → Prop} {w W : World} {v : Value} {l : List Fr} {o : Obj} (h : FrsIn S w v l) (e : W = w.alloc o) : FrsIn S W v l := by subst e; exact h.alloc _
theorem GrsIn.allocE {S : Nat → Prop} {w W : World} {v : Value} {L : List (List Fr)} {o : Obj} (h : GrsIn S w v L) (e : W = w.alloc o) : GrsIn S W v L := by subst e; exact h.alloc _
theorem StrsIn.allocE {S : Nat → Prop} {w W : World} {v : Value} {l : List ByteArray} {o : Obj} (h : StrsIn S w v l) (e : W = w.alloc o) : StrsIn S W v l := by subst e; exact h.alloc _

end Go.Proofs.YtnpaejknoipicafGreat

namespace Go.Proofs.YtnpaejknoipicafGreat
open Go.RowKit

def SlsIn (S : Nat → Prop) (w : World) (v : Value) (l : List Sk) : Prop := Sls w v l ∧ l.length ≤ 9223372036854775807 ∧ ∀ g, v.ownBlock = some g → 0 < l.length → S g ∧ g < w.heap.size
theorem SlsIn.to {S S' : Nat → Prop} {w w' : World} {v : Value} {l : List Sk} (h : SlsIn S w v l) (hs : SameOn S w w') (hm : ∀ g, g < w.heap.size → S g → S' g) : SlsIn S' w' v l := by
  obtain ⟨⟨h1, h2⟩, h3, h4⟩ := h
  refine ⟨⟨h1, ?_⟩, h3, fun g hg h0 => ⟨hm g (h4 g hg h0).2 (h4 g hg h0).1, Nat.lt_of_lt_of_le (h4 g hg h0).2 hs.1⟩⟩
  rcases h2 with h2 | ⟨b, off, c, rfl, hlt, hc⟩
  · exact .inl h2
  · by_cases h0 : 0 < l.length
    · exact .inr ⟨b, off, c, rfl, Nat.lt_of_lt_of_le hlt hs.1, fun j u hj => (World.cell?_of_block (hs.2 b hlt (h4 b rfl h0).1)).trans (hc j u hj)⟩
    · refine .inl ⟨by omega, some ⟨b, off, none⟩, c, by congr 1; omega⟩
theorem SlsIn.below {S : Nat → Prop} {w w' : World} {v : Value} {l : List Sk} (h : SlsIn S w v l) (hb : Below w.heap.size w w') : SlsIn S w' v l := h.to (SameOn.of_below hb) fun _ _ h => h
theorem SlsIn.mono {S S' : Nat → Prop} {w : World} {v : Value} {l : List Sk} (h : SlsIn S w v l) (hm : ∀ g, g < w.heap.size → S g → S' g) : SlsIn S' w v l := h.to (SameOn.refl _ _) hm
theorem SlsIn.nil (S : Nat → Prop) (w : World) : SlsIn S w (.slice none 0 0) [] := ⟨Sls.nil w, Nat.zero_le _, fun g hg => by simp [Value.ownBlock] at hg⟩
theorem SlsIn.len {S : Nat → Prop} {w : World} {v : Value} {l : List Sk} (h : SlsIn S w v l) : ∃ a c, v = .slice a l.length c := h.1.len
theorem SlsIn.of {S : Nat → Prop} {w : World} {v : Value} {l : List Sk} (h : Sls w v l) (hl : l.length ≤ 9223372036854775807) (hS : ∀ g, v.ownBlock = some g → 0 < l.length → S g) : SlsIn S w v l := by
  refine ⟨h, hl, fun g hg h0 => ⟨hS g hg h0, ?_⟩⟩
  obtain ⟨_, h4 | ⟨b, off, c, rfl, hb, _⟩⟩ := h
  · omega
  · have : b = g := by simpa [Value.ownBlock] using hg
    subst this; exact hb

/-- what a track's rows show -/
def TrIn (S : Nat → Prop) (w : World) (hv bv gv ov : Value) (t : Tr) : Prop := SlsIn S w hv t.h ∧ SlsIn S w bv t.o ∧ GrsIn S w gv t.L ∧ FrsIn S w ov t.O
theorem TrIn.to {S S' : Nat → Prop} {w w' : World} {hv bv gv ov : Value} {t : Tr} (h : TrIn S w hv bv gv ov t) (hs : SameOn S w w') (hm : ∀ g, g < w.heap.size → S g → S' g) : TrIn S' w' hv bv gv ov t :=
  ⟨h.1.to hs hm, h.2.1.to hs hm, h.2.2.1.to hs hm, h.2.2.2.to hs hm⟩
theorem TrIn.below {S : Nat → Prop} {w w' : World} {hv bv gv ov : Value} {t : Tr} (h : TrIn S w hv bv gv ov t) (hb : Below w.heap.size w w') : TrIn S w' hv bv gv ov t := h.to (SameOn.of_below hb) fun _ _ h => h
theorem TrIn.mono {S S' : Nat → Prop} {w : World} {hv bv gv ov : Value} {t : Tr} (h : TrIn S w hv bv gv ov t) (hm : ∀ g, g < w.heap.size → S g → S' g) : TrIn S' w hv bv gv ov t := h.to (SameOn.refl _ _) hm
theorem TrIn.zero (S : Nat → Prop) (w : World) : TrIn S w (.slice none 0 0) (.slice none 0 0) (.slice none 0 0) (.slice none 0 0) Tr.zero := ⟨SlsIn.nil _ _, SlsIn.nil _ _, GrsIn.nil _ _, FrsIn.nil _ _⟩
theorem TrIn.stay {S : Nat → Prop} {w : World} {hv bv gv ov : Value} {t : Tr} (h : TrIn S w hv bv gv ov t) : Stay w (fun U => TrIn S U hv bv gv ov t) := fun _ hb => h.below hb
theorem TrIn.slices {S : Nat → Prop} {w : World} {hv bv gv ov : Value} {t : Tr} (h : TrIn S w hv bv gv ov t) : ∃ ha hc ba bc ga gc oa oc, hv = .slice ha t.h.length hc ∧ bv = .slice ba t.o.length bc ∧ gv = .slice ga t.L.length gc ∧ ov = .slice oa t.O.length oc := by
  obtain ⟨h1, h2, h3, h4⟩ := h
  obtain ⟨a1, c1, e1⟩ := h1.len
  obtain ⟨a2, c2, e2⟩ := h2.len
  obtain ⟨a3, c3, e3, _⟩ := h3.len
  obtain ⟨a4, c4, e4, _⟩ := h4.len
  exact ⟨a1, c1, a2, c2, a3, c3, a4, c4, e1, e2, e3, e4⟩

/-- a track's seven cells -/
abbrev Tr.cells (t : Tr) (hv bv gv ov : Value) : Array Value := #[.int .i64 t.last, .int .i64 t.next, hv, bv, .int .i64 t.first, gv, ov]
/-- the taker's box: a track, and how many groups were closed; its rows lie elsewhere, in blocks of S -/
def TkB (S : Nat → Prop) (M : Nat) (w : World) (t : Tr) (c : Int) : Prop := ∃ hv bv gv ov, Blk w M #[.int .i64 t.last, .int .i64 t.next, hv, bv, .int .i64 t.first, gv, ov, .int .i64 c] 167 ∧ TrIn (fun g => S g ∧ g ≠ M) w hv bv gv ov t
theorem TkB.below {S : Nat → Prop} {M : Nat} {w w' : World} {t : Tr} {c : Int} (h : TkB S M w t c) (hb : Below w.heap.size w w') : TkB S M w' t c := by
  obtain ⟨hv, bv, gv, ov, h1, h2⟩ := h
  exact ⟨hv, bv, gv, ov, h1.below hb h1.lt, h2.below hb⟩
theorem TkB.lt {S : Nat → Prop} {M : Nat} {w : World} {t : Tr} {c : Int} (h : TkB S M w t c) : M < w.heap.size := by
  obtain ⟨_, _, _, _, h1, _⟩ := h
  exact h1.lt
theorem Blk.eight {w : World} {b : Nat} {x0 x1 x2 x3 x4 x5 x6 x7 : Value} {t : TypeId} (h : Blk w b #[x0, x1, x2, x3, x4, x5, x6, x7] t) :
    w.cell? ⟨b, 0, none⟩ = some x0 ∧ w.cell? ⟨b, 1, none⟩ = some x1 ∧ w.cell? ⟨b, 2, none⟩ = some x2 ∧ w.cell? ⟨b, 3, none⟩ = some x3 ∧ w.cell? ⟨b, 4, none⟩ = some x4 ∧ w.cell? ⟨b, 5, none⟩ = some x5 ∧ w.cell? ⟨b, 6, none⟩ = some x6 ∧ w.cell? ⟨b, 7, none⟩ = some x7 :=
  ⟨h.cell rfl, h.cell rfl, h.cell rfl, h.cell rfl, h.cell rfl, h.cell rfl, h.cell rfl, h.cell rfl⟩
theorem Blk.sevenc {w : World} {b : Nat} {x0 x1 x2 x3 x4 x5 x6 : Value} {t : TypeId} (h : Blk w b #[x0, x1, x2, x3, x4, x5, x6] t) :
    w.cell? ⟨b, 0, none⟩ = some x0 ∧ w.cell? ⟨b, 1, none⟩ = some x1 ∧ w.cell? ⟨b, 2, none⟩ = some x2 ∧ w.cell? ⟨b, 3, none⟩ = some x3 ∧ w.cell? ⟨b, 4, none⟩ = some x4 ∧ w.cell? ⟨b, 5, none⟩ = some x5 ∧ w.cell? ⟨b, 6, none⟩ = some x6 :=
  ⟨h.cell rfl, h.cell rfl, h.cell rfl, h.cell rfl, h.cell rfl, h.cell rfl, h.cell rfl⟩

end Go.Proofs.YtnpaejknoipicafGreat

namespace Go.Proofs.YtnpaejknoipicafGreat
open Go.ChangeShapes Go.WideShapes Go.ChangeAt Go.RowKit

section
variable {H : Type} {enc : TypeId × Value → H} {W : World} {r : Reach} {b0 base : Nat} {spare : Nat → Bool} {held : Bool} {v : Value} {d : DataW H} {p : List MemPlace}

theorem Tryz.cellsTrk : Tryz.prog.cellsOf 61 = 7 := by kernel_rfl
theorem Tryz.cellsTkI : Tryz.prog.cellsOf 3 = 1 := by kernel_rfl
theorem Tryz.cellsTkS : Tryz.prog.cellsOf 55 = 1 := by kernel_rfl
theorem Tryz.cellsTkB : Tryz.prog.cellsOf 57 = 2 := by kernel_rfl
theorem Tryz.cellsTkD : Tryz.prog.cellsOf 59 = 1 := by kernel_rfl
theorem Tryz.cellsTkSt : Tryz.prog.cellsOf 27 = 3 := by kernel_rfl
theorem Tryz.cellsTkGs : Tryz.prog.cellsOf 22 = 1 := by kernel_rfl
theorem Tryz.cellsTkG : Tryz.prog.cellsOf 25 = 1 := by kernel_rfl
theorem list7t {α : Type} {l : List α} (h : l.length = 7) : ∃ a b c d e f g, l = [a, b, c, d, e, f, g] := by
  match l, h with
  | [a, b, c, d, e, f, g], _ => exact ⟨a, b, c, d, e, f, g, rfl⟩
theorem list4t {α : Type} {l : List α} (h : l.length = 4) : ∃ a b c d, l = [a, b, c, d] := by
  match l, h with
  | [a, b, c, d], _ => exact ⟨a, b, c, d, rfl⟩

theorem slsIn_of {u : Value} {l : List Sk} (h : Sls W u l) (hl : l.length ≤ maxLen) : SlsIn (fun _ => True) W u l := SlsIn.of h (by unfold maxLen at hl; omega) fun _ _ _ => trivial

set_option maxRecDepth 100000 in
theorem trod_bufC {fuel : Nat} {k0 k1 : Value} {x : DataW H × List MemPlace} (h : DataW.trod enc Tryz.prog W base spare held fuel 57 [k0, k1] = some x) :
    ∃ (a : Int) (l : List Sk), k0 = .int .i64 a ∧ (Lit.int .i64 a).wf = true ∧ SlsIn (fun _ => True) W k1 l ∧ (∀ s ∈ l, s.fits) ∧ ∀ a n c, k1 = .slice a n c → n ≤ c := by
  obtain ⟨xs, n, _, _, _, hxl, hg⟩ := DataW.trod_struct Tryz.underlying57 h
  obtain ⟨x0, x1, rfl⟩ := list2 (show xs.length = 2 from hxl)
  have h0 : DataW.trod enc Tryz.prog W base spare held n 3 (([k0, k1].drop 0).take (Tryz.prog.cellsOf 3)) = some x0 := hg 0 _ rfl
  have h1 : DataW.trod enc Tryz.prog W base spare held n 55 (([k0, k1].drop 1).take (Tryz.prog.cellsOf 55)) = some x1 := hg 1 _ rfl
  rw [Tryz.cellsTkI] at h0
  rw [Tryz.cellsTkS] at h1
  obtain ⟨a, ea, _, wa⟩ := DataW.trod_int Tryz.underlying3 h0
  obtain ⟨u, l, eu, hS, hfit, hlen, hcap, _⟩ := trod_slots h1
  simp at ea eu
  subst ea eu
  exact ⟨a, l, rfl, wa, slsIn_of hS hlen, hfit, hcap⟩

set_option maxRecDepth 100000 in
theorem trod_bldC {fuel : Nat} {k0 : Value} {x : DataW H × List MemPlace} (h : DataW.trod enc Tryz.prog W base spare held fuel 59 [k0] = some x) :
    ∃ (l : List Sk), SlsIn (fun _ => True) W k0 l ∧ ∀ s ∈ l, s.fits := by
  obtain ⟨xs, n, _, _, _, hxl, hg⟩ := DataW.trod_struct Tryz.underlying59 h
  obtain ⟨x0, rfl⟩ := list1 (show xs.length = 1 from hxl)
  have h1 : DataW.trod enc Tryz.prog W base spare held n 55 (([k0].drop 0).take (Tryz.prog.cellsOf 55)) = some x0 := hg 0 _ rfl
  rw [Tryz.cellsTkS] at h1
  obtain ⟨u, l, eu, hS, hfit, hlen, _⟩ := trod_slots h1
  simp at eu
  subst eu
  exact ⟨l, slsIn_of hS hlen, hfit⟩

set_option maxRecDepth 100000 in
theorem trod_storeC {fuel : Nat} {k0 k1 k2 : Value} {x : DataW H × List MemPlace} (h : DataW.trod enc Tryz.prog W base spare held fuel 27 [k0, k1, k2] = some x) :
    ∃ (a : Int) (L : List (List Fr)) (O : List Fr), k0 = .int .i64 a ∧ (Lit.int .i64 a).wf = true ∧ GrsIn (fun _ => True) W k1 L ∧ FrsIn (fun _ => True) W k2 O := by
  obtain ⟨xs, n, _, _, _, hxl, hg⟩ := DataW.trod_struct Tryz.underlying27 h
  obtain ⟨x0, x1, x2, rfl⟩ := list3 (show xs.length = 3 from hxl)
  have h0 : DataW.trod enc Tryz.prog W base spare held n 3 (([k0, k1, k2].drop 0).take (Tryz.prog.cellsOf 3)) = some x0 := hg 0 _ rfl
  have h1 : DataW.trod enc Tryz.prog W base spare held n 22 (([k0, k1, k2].drop 1).take (Tryz.prog.cellsOf 22)) = some x1 := hg 1 _ rfl
  have h2 : DataW.trod enc Tryz.prog W base spare held n 25 (([k0, k1, k2].drop 2).take (Tryz.prog.cellsOf 25)) = some x2 := hg 2 _ rfl
  rw [Tryz.cellsTkI] at h0
  rw [Tryz.cellsTkGs] at h1
  rw [Tryz.cellsTkG] at h2
  obtain ⟨a, ea, _, wa⟩ := DataW.trod_int Tryz.underlying3 h0
  obtain ⟨u1, L, eu1, hL⟩ := trod_grs h1
  obtain ⟨u2, O, eu2, hO⟩ := trod_grp h2
  simp at ea eu1 eu2
  subst ea eu1 eu2
  exact ⟨a, L, O, rfl, wa, hL, hO⟩

set_option maxRecDepth 100000 in
theorem op_track (hval : Value.okWide Tryz.prog W r b0 61 v) (h : DataW.Trod enc Tryz.prog W base spare held 61 v d p) :
    ∃ (t : Tr) (hv bv gv ov : Value), v = .agg #[.int .i64 t.last, .int .i64 t.next, hv, bv, .int .i64 t.first, gv, ov] ∧ TrIn (fun _ => True) W hv bv gv ov t ∧ (Lit.int .i64 t.last).wf = true ∧ (Lit.int .i64 t.next).wf = true ∧ (Lit.int .i64 t.first).wf = true ∧ (∀ s ∈ t.h, s.fits) ∧ (∀ s ∈ t.o, s.fits) ∧ ∀ a n c, hv = .slice a n c → n ≤ c := by
  obtain ⟨cs, rfl, _⟩ := okWide_struct Tryz.underlying61 hval
  obtain ⟨fuel, hf⟩ := h
  obtain ⟨xs, n, _, _, hl, hxl, hg⟩ := DataW.trod_struct Tryz.underlying61 hf
  rw [Tryz.cellsTrk] at hl
  obtain ⟨c0, c1, c2, c3, c4, c5, c6, hcs⟩ := list7t hl
  obtain ⟨x0, x1, x2, x3, rfl⟩ := list4t (show xs.length = 4 from hxl)
  rw [hcs] at hg
  have h0 : DataW.trod enc Tryz.prog W base spare held n 3 (([c0, c1, c2, c3, c4, c5, c6].drop 0).take (Tryz.prog.cellsOf 3)) = some x0 := hg 0 _ rfl
  have h1 : DataW.trod enc Tryz.prog W base spare held n 57 (([c0, c1, c2, c3, c4, c5, c6].drop 1).take (Tryz.prog.cellsOf 57)) = some x1 := hg 1 _ rfl
  have h2 : DataW.trod enc Tryz.prog W base spare held n 59 (([c0, c1, c2, c3, c4, c5, c6].drop 3).take (Tryz.prog.cellsOf 59)) = some x2 := hg 2 _ rfl
  have h3 : DataW.trod enc Tryz.prog W base spare held n 27 (([c0, c1, c2, c3, c4, c5, c6].drop 4).take (Tryz.prog.cellsOf 27)) = some x3 := hg 3 _ rfl
  rw [Tryz.cellsTkI] at h0
  rw [Tryz.cellsTkB] at h1
  rw [Tryz.cellsTkD] at h2
  rw [Tryz.cellsTkSt] at h3
  obtain ⟨a, ea, _, wa⟩ := DataW.trod_int Tryz.underlying3 h0
  obtain ⟨b, lh, rfl, wb, hh, fh, hcp⟩ := trod_bufC (k0 := c1) (k1 := c2) h1
  obtain ⟨lo, ho, fo⟩ := trod_bldC (k0 := c3) h2
  obtain ⟨f, L, O, rfl, wf, hL, hO⟩ := trod_storeC (k0 := c4) (k1 := c5) (k2 := c6) h3
  simp at ea
  subst ea
  refine ⟨⟨a, b, lh, lo, f, L, O⟩, c2, c3, c5, c6, ?_, ⟨hh, ho, hL, hO⟩, wa, wb, wf, fh, fo, hcp⟩
  have : cs = #[.int .i64 a, .int .i64 b, c2, c3, .int .i64 f, c5, c6] := by
    apply Array.ext'
    simpa [Value.cells] using hcs
  rw [this]
end
end Go.Proofs.YtnpaejknoipicafGreat

namespace Go.Proofs.YtnpaejknoipicafGreat
open Go.RowKit

set_option maxHeartbeats 8000000 in
set_option maxRecDepth 100000 in
theorem tkKeep_any (S : Nat → Prop) (M : Nat) (t : Tr) (c : Int) (f : Fr) (pv : Value) (w : World) (hT : TkB S M w t c) (hp : StrsIn (fun _ => True) w pv f.parts) (hS : ∀ g, w.heap.size ≤ g → S g) (hc0 : 0 ≤ c) (hc1 : c ≤ 1000000) :
    Calls Tryz.prog 169 #[.pointer (some ⟨M, 0, none⟩), .agg #[.int .i64 f.time, .bool f.key, pv]] w fun e w' => e = .returned (.int .i64 (addsE t.first t.L t.O f)) ∧ TkB S M w' ⟨t.last, t.next, t.h, t.o, addsF t.first t.L t.O f, addsL t.first t.L t.O f, addsO t.first t.L t.O f⟩ (c + (if addsB t.first t.L t.O f then (1 : Nat) else 0)) ∧ Kept [M] w w' := by
  obtain ⟨hv, bv, gv, ov, hM, hr⟩ := hT
  obtain ⟨ha, hc, ba, bc, ga, gc, oa, oc, eh, eb, eg, eo⟩ := hr.slices
  obtain ⟨pa, pc, ep⟩ := hp.1.len
  obtain ⟨last, hlast⟩ : ∃ x, x = t.last := ⟨_, rfl⟩
  obtain ⟨next, hnext⟩ : ∃ x, x = t.next := ⟨_, rfl⟩
  obtain ⟨first, hfirst⟩ : ∃ x, x = t.first := ⟨_, rfl⟩
  obtain ⟨hn, hhn⟩ : ∃ x, x = t.h.length := ⟨_, rfl⟩
  obtain ⟨bn, hbn⟩ : ∃ x, x = t.o.length := ⟨_, rfl⟩
  obtain ⟨ln, hln⟩ : ∃ x, x = t.L.length := ⟨_, rfl⟩
  obtain ⟨lo, hlo⟩ : ∃ x, x = t.O.length := ⟨_, rfl⟩
  obtain ⟨pn, hpn⟩ : ∃ x, x = f.parts.length := ⟨_, rfl⟩
  obtain ⟨ft, hft⟩ : ∃ x, x = f.time := ⟨_, rfl⟩
  obtain ⟨fk, hfk⟩ : ∃ x, x = f.key := ⟨_, rfl⟩
  obtain ⟨E1, hE1⟩ : ∃ E, E = addsE t.first t.L t.O f := ⟨_, rfl⟩
  obtain ⟨F1, hF1⟩ : ∃ E, E = addsF t.first t.L t.O f := ⟨_, rfl⟩
  obtain ⟨L1, hL1⟩ : ∃ E, E = addsL t.first t.L t.O f := ⟨_, rfl⟩
  obtain ⟨O1, hO1⟩ : ∃ E, E = addsO t.first t.L t.O f := ⟨_, rfl⟩
  obtain ⟨B1, hB1⟩ : ∃ E, E = addsB t.first t.L t.O f := ⟨_, rfl⟩
  obtain ⟨nA, hnA⟩ : ∃ n, n = L1.length := ⟨_, rfl⟩
  obtain ⟨nO, hnO⟩ : ∃ n, n = O1.length := ⟨_, rfl⟩
  have HADDw : Hid (∀ U : World, Below w.heap.size w U → Calls Tryz.prog 14 #[.agg #[.int .i64 first, gv, ov], .agg #[.int .i64 ft, .bool fk, pv]] U fun e w' => ∃ va vc qa qc, e = .returned (.tuple #[.agg #[.int .i64 F1, .slice va nA vc, .slice qa nO qc], .bool B1, .int .i64 E1]) ∧ Hid (GrsIn (fun g => U.heap.size ≤ g) w' (.slice va nA vc) L1) ∧ Hid (FrsIn (fun g => U.heap.size ≤ g) w' (.slice qa nO qc) O1) ∧ Below U.heap.size U w') := fun U hU => by
    rw [hft, hfk, hfirst]
    refine (storeAdd_new t.first gv ov pv t.L t.O f U ((hr.2.2.1.mono fun _ _ _ => trivial).below hU) ((hr.2.2.2.mono fun _ _ _ => trivial).below hU) (hp.below hU)).mono ?_
    rintro e w' ⟨gv', ov', rfl, h1, h2, h3⟩
    rw [← hL1] at h1
    rw [← hO1] at h2
    obtain ⟨va, vc, ev, _, _⟩ := h1.len
    obtain ⟨qa, qc, eq, _, _⟩ := h2.len
    rw [← hnA] at ev
    rw [← hnO] at eq
    subst ev eq
    rw [← hE1, ← hF1, ← hB1]
    exact ⟨va, vc, qa, qc, rfl, h1, h2, h3⟩
  rw [← hE1, ← hF1, ← hL1, ← hO1, ← hB1, ← hlast, ← hnext, ← hft, ← hfk]
  rw [← hlast, ← hnext, ← hfirst] at hM
  rw [← hhn] at eh
  rw [← hbn] at eb
  rw [← hln] at eg
  rw [← hlo] at eo
  rw [← hpn] at ep
  have HSU : Hid (∀ g, w.heap.size ≤ g → S g) := hS
  clear hlast hnext hfirst hhn hbn hln hlo hpn hft hfk hE1 hF1 hL1 hO1 hB1 hnA hnO hp hS
  subst eh eb eg eo ep
  have HMw : Hid (Blk w M #[.int .i64 last, .int .i64 next, .slice ha hn hc, .slice ba bn bc, .int .i64 first, .slice ga ln gc, .slice oa lo oc, .int .i64 c] 167) := hM
  have HRw : Hid (TrIn (fun g => S g ∧ g ≠ M) w (.slice ha hn hc) (.slice ba bn bc) (.slice ga ln gc) (.slice oa lo oc) t) := hr
  have hMw := hM.lt
  clear hM hr
  go_enter Tryz.func169, Tryz.ntmps169
  go_wp2_with fail
  obtain ⟨w0, hw0⟩ : ∃ w0, w0 = w.alloc (.cells #[.int .i64 ft, .bool fk, .slice pa pn pc] 30) := ⟨_, rfl⟩
  have HB0 : Hid (Below w.heap.size w w0) := by rw [hw0]; exact (Below.refl _ _).alloc (Nat.le_refl _) _
  have z0 : w0.heap.size = w.heap.size + 1 := by rw [hw0]; simp
  have HM0 : Hid (Blk w0 M #[.int .i64 last, .int .i64 next, .slice ha hn hc, .slice ba bn bc, .int .i64 first, .slice ga ln gc, .slice oa lo oc, .int .i64 c] 167) := HMw.out.below HB0.out hMw
  have HF0 : Hid (Blk w0 w.heap.size #[.int .i64 ft, .bool fk, .slice pa pn pc] 30) := Blk.newE hw0
  have HR0 : Hid (TrIn (fun g => S g ∧ g ≠ M) w0 (.slice ha hn hc) (.slice ba bn bc) (.slice ga ln gc) (.slice oa lo oc) t) := HRw.out.below HB0.out
  have HADD : Hid (∀ U : World, Below w0.heap.size w0 U → Calls Tryz.prog 14 #[.agg #[.int .i64 first, .slice ga ln gc, .slice oa lo oc], .agg #[.int .i64 ft, .bool fk, .slice pa pn pc]] U fun e w' => ∃ va vc qa qc, e = .returned (.tuple #[.agg #[.int .i64 F1, .slice va nA vc, .slice qa nO qc], .bool B1, .int .i64 E1]) ∧ Hid (GrsIn (fun g => U.heap.size ≤ g) w' (.slice va nA vc) L1) ∧ Hid (FrsIn (fun g => U.heap.size ≤ g) w' (.slice qa nO qc) O1) ∧ Below U.heap.size U w') := fun U hU => HADDw.out U (HB0.out.trans (hU.mono (by omega)))
  rw [← hw0]
  clear hw0 HMw HRw HADDw
  refine region_main (by kernel_rfl) (by kernel_rfl) [.quiet (.pointer (some ⟨M, 0, none⟩)), .quiet (.pointer (some ⟨M, 0, none⟩)), .quiet (.pointer (some ⟨M, 0, none⟩)), .quiet (.pointer (some ⟨M, 4, none⟩)), .quiet (.agg #[.int .i64 first, .slice ga ln gc, .slice oa lo oc]), .quiet (.agg #[.int .i64 ft, .bool fk, .slice pa pn pc]), .main, .fin (fun r => r), .fin (exT 0), .fin (exT 1), .fin (exT 2), .box 27 #[.int .i64 0, .slice none 0 0, .slice none 0 0], .put 11 (fun r => aggC (exT 0 r)), .fin (exT 1), .fin (exT 2)] 6 (by kernel_rfl)
    (fun S r w' => ∃ va vc qa qc, r = .tuple #[.agg #[.int .i64 F1, .slice va nA vc, .slice qa nO qc], .bool B1, .int .i64 E1] ∧ GrsIn (fun g => S g ∧ w0.heap.size ≤ g) w' (.slice va nA vc) L1 ∧ FrsIn (fun g => S g ∧ w0.heap.size ≤ g) w' (.slice qa nO qc) O1) ?loc ?step ?fin
  case loc =>
    rintro S r w1 w3 ⟨va, vc, qa, qc, rfl, h1, h2⟩ hs hsame
    exact ⟨va, vc, qa, qc, rfl, h1.to ⟨hs, fun g hg hS => hsame g hS.1 hg⟩ (fun _ _ h => h), h2.to ⟨hs, fun g hg hS => hsame g hS.1 hg⟩ (fun _ _ h => h)⟩
  case step =>
    intro i o ho a' w' r hb hfree hvals
    have f0 : a'.eval (.tmp 0) = .pointer (some ⟨M, 0, none⟩) := (hfree 0 (by kernel_rfl)).trans rfl
    have f3 : a'.eval (.tmp 3) = .pointer (some ⟨w.heap.size, 0, none⟩) := (hfree 3 (by kernel_rfl)).trans rfl
    obtain ⟨y0, y1, y2, y3, y4, y5, y6, y7⟩ := (HM0.out.below hb HM0.out.lt).eight
    obtain ⟨j0, j1, j2⟩ := (HF0.out.below hb HF0.out.lt).three
    match i, ho with
    | 0, ho =>
      simp at ho; subst ho
      show (execOp a'.eval _).run _ w' = .ok (.value _) w'
      generalize a'.eval = ρ at *
      simp [execOp, go_sem, f0]
    | 1, ho =>
      simp at ho; subst ho
      have e9 : a'.eval (.tmp 9) = .pointer (some ⟨M, 0, none⟩) := hvals 0 _ (by kernel_rfl) rfl
      show (execOp a'.eval _).run _ w' = .ok (.value _) w'
      generalize a'.eval = ρ at *
      simp [execOp, go_sem, e9]
    | 2, ho =>
      simp at ho; subst ho
      have e10 : a'.eval (.tmp 10) = .pointer (some ⟨M, 0, none⟩) := hvals 1 _ (by kernel_rfl) rfl
      show (execOp a'.eval _).run _ w' = .ok (.value _) w'
      generalize a'.eval = ρ at *
      simp [execOp, go_sem, e10]
    | 3, ho =>
      simp at ho; subst ho
      have e11 : a'.eval (.tmp 11) = .pointer (some ⟨M, 0, none⟩) := hvals 2 _ (by kernel_rfl) rfl
      show (execOp a'.eval _).run _ w' = .ok (.value _) w'
      generalize a'.eval = ρ at *
      simp [execOp, go_sem, e11]
    | 4, ho =>
      simp at ho; subst ho
      have e12 : a'.eval (.tmp 12) = .pointer (some ⟨M, 4, none⟩) := hvals 3 _ (by kernel_rfl) rfl
      show (execOp a'.eval _).run _ w' = .ok (.value _) w'
      generalize a'.eval = ρ at *
      simp [execOp, go_sem, e12, y4, y5, y6]
    | 5, ho =>
      simp at ho; subst ho
      show (execOp a'.eval _).run _ w' = .ok (.value _) w'
      generalize a'.eval = ρ at *
      simp [execOp, go_sem, f3, j0, j1, j2]
    | 6, ho =>
      simp at ho; subst ho
      have e13 : a'.eval (.tmp 13) = .agg #[.int .i64 first, .slice ga ln gc, .slice oa lo oc] := hvals 4 _ (by kernel_rfl) rfl
      have e14 : a'.eval (.tmp 14) = .agg #[.int .i64 ft, .bool fk, .slice pa pn pc] := hvals 5 _ (by kernel_rfl) rfl
      have ef : a'.eval (.func 14) = .func (.func 14) #[] #[] := rfl
      show ∃ f args, (execOp a'.eval _).run _ w' = .ok (.enter f args) w' ∧ _
      generalize a'.eval = ρ at *
      refine ⟨14, #[.agg #[.int .i64 first, .slice ga ln gc, .slice oa lo oc], .agg #[.int .i64 ft, .bool fk, .slice pa pn pc]], by simp [execOp, go_sem, e13, e14, ef], ?_⟩
      refine (HADD.out w' hb).mono ?_
      rintro e w'' ⟨va, vc, qa, qc, rfl, h1, h2, hb4⟩
      exact ⟨_, rfl, ⟨va, vc, qa, qc, rfl, h1.out.mono (fun g hl hg => ⟨⟨hl, .inr hg⟩, (by have := hb.size; omega)⟩), h2.out.mono (fun g hl hg => ⟨⟨hl, .inr hg⟩, (by have := hb.size; omega)⟩)⟩, hb4⟩
    | 7, ho =>
      simp at ho; subst ho
      have e15 : a'.eval (.tmp 15) = r := hvals 6 _ (by kernel_rfl) rfl
      show ∀ S, _ → (execOp a'.eval _).run _ w' = .ok (.value _) w'
      rintro S ⟨va, vc, qa, qc, rfl, _, _⟩
      try simp only [exT] at e15
      generalize a'.eval = ρ at *
      simp [execOp, go_sem, e15]
    | 8, ho =>
      simp at ho; subst ho
      have e8 : a'.eval (.tmp 8) = r := hvals 7 _ (by kernel_rfl) rfl
      show ∀ S, _ → (execOp a'.eval _).run _ w' = .ok (.value _) w'
      rintro S ⟨va, vc, qa, qc, rfl, _, _⟩
      try simp only [exT] at e8
      generalize a'.eval = ρ at *
      simp [execOp, go_sem, e8, exT]
    | 9, ho =>
      simp at ho; subst ho
      have e8 : a'.eval (.tmp 8) = r := hvals 7 _ (by kernel_rfl) rfl
      show ∀ S, _ → (execOp a'.eval _).run _ w' = .ok (.value _) w'
      rintro S ⟨va, vc, qa, qc, rfl, _, _⟩
      try simp only [exT] at e8
      generalize a'.eval = ρ at *
      simp [execOp, go_sem, e8, exT]
    | 10, ho =>
      simp at ho; subst ho
      have e8 : a'.eval (.tmp 8) = r := hvals 7 _ (by kernel_rfl) rfl
      show ∀ S, _ → (execOp a'.eval _).run _ w' = .ok (.value _) w'
      rintro S ⟨va, vc, qa, qc, rfl, _, _⟩
      try simp only [exT] at e8
      generalize a'.eval = ρ at *
      simp [execOp, go_sem, e8, exT]
    | 11, ho =>
      simp at ho; subst ho
      show (execOp a'.eval _).run _ w' = .ok (.value _) _
      generalize a'.eval = ρ at *
      simp [execOp, go_sem]
    | 12, ho =>
      simp at ho; subst ho
      have e16 : a'.eval (.tmp 16) = (exT 0) r := hvals 8 _ (by kernel_rfl) rfl
      show ∀ S, _ → ∀ t z g C, _ → _ → _ → _ → ∃ w'', (execOp a'.eval _).run _ w' = .ok .skip w'' ∧ _
      rintro S ⟨va, vc, qa, qc, rfl, _, _⟩ t z g C hz hC hs (eb : a'.eval (.tmp 5) = _)
      cases hz
      obtain ⟨u0, u1, u2, q0, q1, q2⟩ := cells3 hC hs
      have p0 := hC.free 0
      have p1 := hC.free 1
      have p2 := hC.free 2
      obtain ⟨m1, m2, m3⟩ := set3 hC hs (.int .i64 F1) (.slice va nA vc) (.slice qa nO qc)
      simp only [exT] at e16
      generalize a'.eval = ρ at *
      exact ⟨_, by simp [execOp, go_sem, e16, eb, q0, q1, q2, p0, p1, p2], m1, m2, rfl, m3, rfl, rfl, rfl⟩
    | 13, ho =>
      simp at ho; subst ho
      have e17 : a'.eval (.tmp 17) = (exT 1) r := hvals 9 _ (by kernel_rfl) rfl
      show ∀ S, _ → (execOp a'.eval _).run _ w' = .ok (.value _) w'
      rintro S ⟨va, vc, qa, qc, rfl, _, _⟩
      try simp only [exT] at e17
      generalize a'.eval = ρ at *
      simp [execOp, go_sem, e17, exT]
    | 14, ho =>
      simp at ho; subst ho
      have e18 : a'.eval (.tmp 18) = (exT 2) r := hvals 10 _ (by kernel_rfl) rfl
      show ∀ S, _ → (execOp a'.eval _).run _ w' = .ok (.value _) w'
      rintro S ⟨va, vc, qa, qc, rfl, _, _⟩
      try simp only [exT] at e18
      generalize a'.eval = ρ at *
      simp [execOp, go_sem, e18, exT]
    | i + 15, ho => simp at ho
  case fin =>
    rintro r gs Sr W hb ⟨va, vc, qa, qc, rfl, h1, h2⟩ hS hbox hap
    obtain ⟨p1, p2, C, p3, p4⟩ := hbox 11 _ _ (by decide) rfl
    have p5 := p4 12 _ (by decide) rfl
    subst p5
    have KP : Hid (Blk W (gs 11) #[.int .i64 F1, .slice va nA vc, .slice qa nO qc] 27) := p3
    simp only [putK, Kd.out, exT, Act.put, List.setIfInBounds_toArray, List.set_cons_succ, List.set_cons_zero, List.getElem?_toArray, List.getElem?_cons_zero, List.getElem?_cons_succ, Option.getD_some]
    obtain ⟨p, hp⟩ : ∃ p, p = gs 11 := ⟨_, rfl⟩
    rw [← hp] at KP p1
    rw [← hp]
    have HBW : Hid (Below w0.heap.size w0 W) := hb
    have H1 : Hid (GrsIn (fun g => w0.heap.size ≤ g) W (.slice va nA vc) L1) := h1.mono fun _ _ h => h.2
    have H2 : Hid (FrsIn (fun g => w0.heap.size ≤ g) W (.slice qa nO qc) O1) := h2.mono fun _ _ h => h.2
    clear hp h1 h2 hS hbox hap p2 p3 p4 hb
    have HMW : Hid (Blk W M #[.int .i64 last, .int .i64 next, .slice ha hn hc, .slice ba bn bc, .int .i64 first, .slice ga ln gc, .slice oa lo oc, .int .i64 c] 167) := HM0.out.below HBW.out HM0.out.lt
    have HRW : Hid (TrIn (fun g => S g ∧ g ≠ M) W (.slice ha hn hc) (.slice ba bn bc) (.slice ga ln gc) (.slice oa lo oc) t) := HR0.out.below HBW.out
    obtain ⟨x0, x1, x2⟩ := KP.out.three
    obtain ⟨y0, y1, y2, y3, y4, y5, y6, y7⟩ := HMW.out.eight
    have fM := HMW.out.free
    have lM := HMW.out.lt
    have hpM : ¬ p = M := by omega
    obtain ⟨V, hV⟩ : ∃ V, V = ((W.setCell ⟨M, 4, none⟩ (.int .i64 F1)).setCell ⟨M, 5, none⟩ (.slice va nA vc)).setCell ⟨M, 6, none⟩ (.slice qa nO qc) := ⟨_, rfl⟩
    have hVo : ∀ g, g ≠ M → V.heap[g]? = W.heap[g]? := fun g hg => by
      rw [hV, Below.heap_setCell _ _ _ _ (by exact hg), Below.heap_setCell _ _ _ _ (by exact hg), Below.heap_setCell _ _ _ _ (by exact hg)]
    have hVs : V.heap.size = W.heap.size := by rw [hV]; simp
    have HMV : Hid (Blk V M #[.int .i64 last, .int .i64 next, .slice ha hn hc, .slice ba bn bc, .int .i64 F1, .slice va nA vc, .slice qa nO qc, .int .i64 c] 167) := by
      have := ((HMW.out.set 4 (.int .i64 F1)).set 5 (.slice va nA vc)).set 6 (.slice qa nO qc)
      rw [hV]; simpa [Hid] using this
    have HKV : Hid (Kept [M] w V) := by
      rw [hV]
      have k := (Kept.refl [M] w).below (HB0.out.trans (HBW.out.mono HB0.out.size))
      exact ((k.setCell (p := ⟨M, 4, none⟩) (by simp) _).setCell (p := ⟨M, 5, none⟩) (by simp) _).setCell (p := ⟨M, 6, none⟩) (by simp) _
    have HRV : Hid (SlsIn (fun g => S g ∧ g ≠ M) V (.slice ha hn hc) t.h ∧ SlsIn (fun g => S g ∧ g ≠ M) V (.slice ba bn bc) t.o ∧ GrsIn (fun g => S g ∧ g ≠ M) V (.slice va nA vc) L1 ∧ FrsIn (fun g => S g ∧ g ≠ M) V (.slice qa nO qc) O1) := by
      have so : SameOn (fun g => g ≠ M) W V := ⟨by omega, fun g _ hg => hVo g hg⟩
      have hsz := HB0.out.size
      exact ⟨HRW.out.1.to (so.mono fun g h => h.2) (fun _ _ h => h), HRW.out.2.1.to (so.mono fun g h => h.2) (fun _ _ h => h), H1.out.to (so.mono fun g h => by omega) (fun g _ h => ⟨HSU.out g (by omega), by omega⟩), H2.out.to (so.mono fun g h => by omega) (fun g _ h => ⟨HSU.out g (by omega), by omega⟩)⟩
    clear hVo hVs H1 H2 HRW HMW
    cases B1
    case false =>
      go_wp2_with fail
      rw [← hV]
      go_wp2
      go_ret
      refine ⟨rfl, ⟨_, _, _, _, ?_, HRV.out⟩, HKV.out⟩
      have := HMV.out
      simpa using this
    case true =>
      obtain ⟨V2, hV2⟩ : ∃ X, X = V.setCell ⟨M, 7, none⟩ (.int .i64 (c + 1)) := ⟨_, rfl⟩
      have HMV2 : Hid (Blk V2 M #[.int .i64 last, .int .i64 next, .slice ha hn hc, .slice ba bn bc, .int .i64 F1, .slice va nA vc, .slice qa nO qc, .int .i64 (c + 1)] 167) := by
        have := HMV.out.set 7 (.int .i64 (c + 1))
        rw [hV2]; simpa [Hid] using this
      have HKV2 : Hid (Kept [M] w V2) := by rw [hV2]; exact HKV.out.setCell (p := ⟨M, 7, none⟩) (by simp) _
      have HRV2 : Hid (SlsIn (fun g => S g ∧ g ≠ M) V2 (.slice ha hn hc) t.h ∧ SlsIn (fun g => S g ∧ g ≠ M) V2 (.slice ba bn bc) t.o ∧ GrsIn (fun g => S g ∧ g ≠ M) V2 (.slice va nA vc) L1 ∧ FrsIn (fun g => S g ∧ g ≠ M) V2 (.slice qa nO qc) O1) := by
        have so : SameOn (fun g => S g ∧ g ≠ M) V V2 := ⟨by rw [hV2]; simp, fun g _ hg => by rw [hV2, Below.heap_setCell _ _ _ _ (by exact hg.2)]⟩
        exact ⟨HRV.out.1.to so (fun _ _ h => h), HRV.out.2.1.to so (fun _ _ h => h), HRV.out.2.2.1.to so (fun _ _ h => h), HRV.out.2.2.2.to so (fun _ _ h => h)⟩
      go_upto_region 4 with fail
      rw [← hV]
      clear hV x0 x1 x2 y0 y1 y2 y3 y4 y5 y6 y7 fM lM
      obtain ⟨y0, y1, y2, y3, y4, y5, y6, y7⟩ := HMV.out.eight
      have fM := HMV.out.free
      have lM := HMV.out.lt
      go_wp2_with fail
      rw [← hV2]
      go_wp2
      go_ret
      exact ⟨rfl, ⟨_, _, _, _, HMV2.out, HRV2.out⟩, HKV2.out⟩

end Go.Proofs.YtnpaejknoipicafGreat

namespace Go.Proofs.YtnpaejknoipicafGreat
open Go.RowKit Go.Sort

/-- does the slot at a place go on with what is open? -/
def qO (l : List Sk) (k : Nat) : Bool := if k = 0 then (l[k]?.getD Sk.zero).p.f && !(l[k]?.getD Sk.zero).p.e else !(l[k]?.getD Sk.zero).p.f && !(l[k]?.getD Sk.zero).p.e && folB (l[k - 1]?.getD Sk.zero) (l[k]?.getD Sk.zero)

theorem fit_ogo (l : List Sk) : ∀ (m : List Sk) (k : Nat), l.drop k = m → chkFit (qO l) k m = ogo (if k = 0 then none else some (l[k - 1]?.getD Sk.zero)) m
  | [], _, _ => by simp [chkFit, ogo]
  | x :: r, k, hd => by
    have hk : k < l.length := by
      by_cases h : k < l.length
      · exact h
      · rw [List.drop_eq_nil_of_le (by omega)] at hd; cases hd
    have hx : l[k]?.getD Sk.zero = x := by
      rw [List.drop_eq_getElem_cons hk] at hd
      injection hd with h1 h2
      rw [List.getElem?_eq_getElem hk, Option.getD_some, h1]
    have hr : l.drop (k + 1) = r := by
      rw [List.drop_eq_getElem_cons hk] at hd
      injection hd
    have ih := fit_ogo l r (k + 1) hr
    rw [if_neg (by omega), show k + 1 - 1 = k by omega, hx] at ih
    have hq : qO l k = !badO (if k = 0 then none else some (l[k - 1]?.getD Sk.zero)) x := by
      unfold qO badO
      rw [hx]
      by_cases h0 : k = 0
      · rw [if_pos h0, if_pos h0]; cases x.p.f <;> cases x.p.e <;> rfl
      · rw [if_neg h0, if_neg h0]
        simp only [nextB]
        cases x.p.f <;> cases x.p.e <;> simp
    simp only [chkFit, ogo]
    by_cases hc : x.chk = 0
    · rw [if_pos hc, if_pos hc, hq]
      cases hb : badO (if k = 0 then none else some (l[k - 1]?.getD Sk.zero)) x
      · simp only [Bool.not_false, if_true, Bool.false_eq_true, if_false]; exact ih
      · simp
    · rw [if_neg hc, if_neg hc]
theorem fit_open (l : List Sk) : chkFit (qO l) 0 l = ogo none l := fit_ogo l l 0 rfl

set_option maxHeartbeats 6000000 in
set_option maxRecDepth 100000 in
theorem isBegun_any (v : Value) (l : List Sk) (k : Nat) (w : World) (hv : Sls w v l) (hk : k < l.length) (hlen : l.length ≤ 9223372036854775807) (hn : ¬ k = 0 → 0 ≤ (l[k - 1]?.getD Sk.zero).n ∧ (l[k - 1]?.getD Sk.zero).n ≤ 1000000001) :
    Calls Tryz.prog 136 #[v, .int .i64 k] w fun e w' => e = .returned (.bool (qO l k)) ∧ Below w.heap.size w w' := by
  obtain ⟨ao, c, rfl, hc⟩ := hv.parts
  obtain ⟨n, hnn⟩ : ∃ n, n = l.length := ⟨_, rfl⟩
  rw [← hnn] at hc hk hlen ⊢
  obtain ⟨b, off, rfl, hb, hat⟩ := hc k hk
  obtain ⟨x, hx⟩ : ∃ x, x = l[k]?.getD Sk.zero := ⟨_, rfl⟩
  obtain ⟨r, hr⟩ : ∃ r, r = qO l k := ⟨_, rfl⟩
  rw [← hr]
  have hr' : r = if k = 0 then x.p.f && !x.p.e else !x.p.f && !x.p.e && folB (l[k - 1]?.getD Sk.zero) x := by rw [hr, hx]; rfl
  rw [← hx] at hat
  have hki : (k : Int) < (n : Int) := by omega
  obtain ⟨g0, g1, g2, g3, g4, g5, g6⟩ := hat
  clear hr hx hnn
  by_cases hk0 : k = 0
  · subst hk0
    rw [if_pos rfl] at hr'
    simp only [Nat.zero_mul, Nat.add_zero] at g0 g1 g2 g3 g4 g5 g6
    subst hr'
    clear hc hv hn
    have hn0 : (0 : Int) < (n : Int) := by omega
    cases hf : x.p.f <;> cases he : x.p.e <;> rw [hf] at g3 <;> rw [he] at g4
    all_goals
      go_enter Tryz.func136, Tryz.ntmps136
      go_wp2
      go_quiet (fail)
      go_wp2
      go_ret
      exact ⟨rfl, below_drewN ((Below.refl _ _).alloc (Nat.le_refl _) _) _⟩
  · obtain ⟨j, hj⟩ : ∃ j, j = k - 1 := ⟨_, rfl⟩
    rw [if_neg hk0, ← hj] at hr'
    have hyb := hn hk0
    rw [← hj] at hyb
    obtain ⟨b2, off2, e2, hb2, hat2⟩ := hc j (by omega)
    simp only [Option.some.injEq, Addr.mk.injEq, and_true] at e2
    obtain ⟨rfl, rfl⟩ := e2
    obtain ⟨y, hy⟩ : ∃ y, y = l[j]?.getD Sk.zero := ⟨_, rfl⟩
    rw [← hy] at hat2 hr' hyb
    obtain ⟨p0, p1, p2, p3, p4, p5, p6⟩ := hat2
    have hji : (j : Int) < (n : Int) := by omega
    have hj1 : (k : Int) - 1 = (j : Int) := by omega
    have hkb : ((k : Int) == 0) = false := by simp; omega
    clear hy hc hv hn hj hk0
    cases hf : x.p.f
    · cases he : x.p.e
      · obtain ⟨t, ht⟩ : ∃ t, t = folB y x := ⟨_, rfl⟩
        rw [hf, he, ← ht] at hr'
        simp only [Bool.not_false, Bool.true_and] at hr'
        subst hr'
        obtain ⟨W, hW⟩ : ∃ W, W = w.alloc (.cells #[.int .i64 x.p.seq, .int .i64 x.p.time, .bool x.p.f, .bool x.p.e, .bool x.p.k, .string x.p.t] 89) := ⟨_, rfl⟩
        have bW : Below w.heap.size w W := by rw [hW]; exact (Below.refl _ w).alloc (Nat.le_refl _) _
        have kW : Blk W w.heap.size #[.int .i64 x.p.seq, .int .i64 x.p.time, .bool x.p.f, .bool x.p.e, .bool x.p.k, .string x.p.t] 89 := by rw [hW]; exact Blk.new w _ _
        have cF : ∀ d os, Calls Tryz.prog 164 #[.agg #[.int .i64 y.n, .int .i64 y.p.seq, .int .i64 y.p.time, .bool y.p.f, .bool y.p.e, .bool y.p.k, .string y.p.t], .agg #[.int .i64 x.n, .int .i64 x.p.seq, .int .i64 x.p.time, .bool x.p.f, .bool x.p.e, .bool x.p.k, .string x.p.t]] (grow (redrawn W d) os) fun e w'' => e = .returned (.bool r) ∧ ∃ p : Regrown, w'' = grow (redrawn W p.d) p.os := fun d os =>
          Calls.regrown_of (by rw [ht]; exact follows_any y x (grow (redrawn W d) os) hyb)
        have BW : Hid (Below w.heap.size w W) := bW
        have cel : ∀ (i : Nat) (u : Value), w.cell? ⟨b, i, none⟩ = some u → W.cell? ⟨b, i, none⟩ = some u := fun i u h => (bW.cell (p := ⟨b, i, none⟩) hb).trans h
        have k2 := kW.cell (j := 2) (u := .bool x.p.f) rfl
        have k3 := kW.cell (j := 3) (u := .bool x.p.e) rfl
        rw [hf] at k2 g3 cF hW
        rw [he] at k3 g4 cF hW
        have q0 := cell_regrown (cel _ _ p0)
        have q1 := cell_regrown (cel _ _ p1)
        have q2 := cell_regrown (cel _ _ p2)
        have q3 := cell_regrown (cel _ _ p3)
        have q4 := cell_regrown (cel _ _ p4)
        have q5 := cell_regrown (cel _ _ p5)
        have q6 := cell_regrown (cel _ _ p6)
        have z0 := cell_regrown (cel _ _ g0)
        have z1 := cell_regrown (cel _ _ g1)
        have z2 := cell_regrown (cel _ _ g2)
        have z3 := cell_regrown (cel _ _ g3)
        have z4 := cell_regrown (cel _ _ g4)
        have z5 := cell_regrown (cel _ _ g5)
        have z6 := cell_regrown (cel _ _ g6)
        have m2 := cell_regrown k2
        have m3 := cell_regrown k3
        have hwr : IntKind.i64.wrap (j : Int) = (j : Int) := by rw [IntKind.wrap_i64]; omega
        clear p0 p1 p2 p3 p4 p5 p6 k2 k3 kW bW cel ht
        go_enter Tryz.func136, Tryz.ntmps136
        go_wp2
        rw [← hW]
        clear hW g0 g1 g2 g3 g4 g5 g6
        refine wp_region_quiet_below (by kernel_rfl) (by kernel_rfl) ?_
        repeat (quiet_step (exact cF _ _))
        refine wpQuiet_nil ?_
        intro _ hw'
        obtain ⟨⟨dq, osq⟩, hw''⟩ := hw'
        subst hw''
        have bR := below_regrown W dq osq
        have BR : Hid (Below w.heap.size w (grow (redrawn W dq) osq)) := BW.out.trans (bR.mono BW.out.size)
        clear bR
        go_wp2
        go_ret
        exact ⟨rfl, BR.out⟩
      · rw [hf, he] at hr'
        simp only [Bool.not_true, Bool.and_false, Bool.false_and] at hr'
        subst hr'
        rw [hf] at g3
        rw [he] at g4
        go_enter Tryz.func136, Tryz.ntmps136
        go_wp2
        go_quiet (fail)
        go_wp2
        go_ret
        exact ⟨rfl, below_drewN ((Below.refl _ _).alloc (Nat.le_refl _) _) _⟩
    · rw [hf] at hr'
      simp only [Bool.not_true, Bool.false_and] at hr'
      subst hr'
      rw [hf] at g3
      go_enter Tryz.func136, Tryz.ntmps136
      go_wp2
      go_quiet (fail)
      go_wp2
      go_ret
      exact ⟨rfl, below_drewN ((Below.refl _ _).alloc (Nat.le_refl _) _) _⟩

end Go.Proofs.YtnpaejknoipicafGreat

namespace Go.Proofs.YtnpaejknoipicafGreat
open Go.RowKit

theorem chkFit_all (q : Nat → Bool) : ∀ (l : List Sk) (i : Nat), chkFit q i l = 0 → ∀ x ∈ l, x.chk = 0
  | [], _, _, x, hx => absurd hx List.not_mem_nil
  | y :: r, i, h, x, hx => by
    simp only [chkFit] at h
    by_cases hy : y.chk = 0
    · rw [if_pos hy] at h
      cases hq : q i
      · rw [hq] at h; simp at h
      · rw [hq, if_pos rfl] at h
        rcases List.mem_cons.1 hx with rfl | hx
        · exact hy
        · exact chkFit_all q r (i + 1) h x hx
    · rw [if_neg hy] at h; exact absurd h hy

/-- a closure that tells q of a place where all ahead is right, and changes nothing that was there -/
def FitsR (g : Nat) (lb : Array Value) (q : Nat → Bool) (l : List Sk) (w : World) : Prop :=
  ∀ (W : World) (k : Nat), k < l.length → (∀ x ∈ l.take k, x.chk = 0) → Below w.heap.size w W → Calls Tryz.prog g (#[.int .i64 k] ++ lb) W fun e w' => e = .returned (.bool (q k)) ∧ Below W.heap.size W w'

set_option maxHeartbeats 1600000 in
theorem checkAllR_any (g : Nat) (lb : Array Value) (q : Nat → Bool) (eg : Enters Tryz.prog g) (v : Value) (l : List Sk) (w : World) (hv : Sls w v l) (hlen : l.length ≤ 9223372036854775807) (hq : FitsR g lb q l w) :
    Calls Tryz.prog 123 #[v, .func (.func g) #[] lb] w fun e w' => e = .returned (.int .i64 (chkFit q 0 l)) ∧ Below w.heap.size w w' := by
  obtain ⟨ao, c, rfl, hc⟩ := hv.parts
  have HC : Hid (∀ k, k < l.length → ∃ b off, ao = some ⟨b, off, none⟩ ∧ b < w.heap.size ∧ At7 w b (off + k * 7) (l[k]?.getD Sk.zero)) := hc
  have HQ : Hid (FitsR g lb q l w) := hq
  obtain ⟨n, hn⟩ : ∃ n, n = l.length := ⟨_, rfl⟩
  have HN : Hid (n = l.length) := hn
  have eg' : ∀ (args : Array Value) (w : World), (callFunc g args).run Tryz.prog w = .ok (.enter g args) w := eg
  rw [← hn] at hlen ⊢
  clear hc hv hn hq eg
  go_enter Tryz.func123, Tryz.ntmps123
  go_wp2
  go_loopw [10] (fun i wr => ∃ k : Nat, k ≤ n ∧ i = .int .i64 k ∧ Hid (chkFit q 0 (l.take k) = 0) ∧ Below w.heap.size w wr)
    (fun i _ => n - (intOf i).toNat)
  case atStart => exact ⟨0, Nat.zero_le _, rfl, (show chkFit q 0 (l.take 0) = 0 from rfl), Below.refl _ _⟩
  case round =>
    obtain ⟨k, hk, rfl, HK, hbel⟩ := hrel
    by_cases hlt : k < n
    · obtain ⟨b, off, rfl, hb, hat⟩ := HC.out k (by rw [← HN.out]; exact hlt)
      obtain ⟨c0, c1, c2, c3, c4, c5, c6⟩ := hat.below hbel hb
      obtain ⟨x, hx⟩ : ∃ x, x = l[k]?.getD Sk.zero := ⟨_, rfl⟩
      rw [← hx] at c0 c1 c2 c3 c4 c5 c6
      have HX : Hid (x = l[k]?.getD Sk.zero) := hx
      clear hx hat
      obtain ⟨ch, hch⟩ : ∃ ch, ch = x.chk := ⟨_, rfl⟩
      have HCH : Hid (ch = x.chk) := hch
      have hck : ∀ w : World, Calls Tryz.prog 91 #[x.val] w fun e w' => e = .returned (.int .i64 ch) ∧ Below w.heap.size w w' := fun w => by rw [hch]; exact slotCheck_any x w
      clear hch
      obtain ⟨qk, hqk⟩ : ∃ qk, qk = q k := ⟨_, rfl⟩
      have HQK : Hid (qk = q k) := hqk
      have hfit : ∀ W : World, Below w.heap.size w W → Calls Tryz.prog g (#[.int .i64 k] ++ lb) W fun e w' => e = .returned (.bool qk) ∧ Below W.heap.size W w' := fun W hW => by rw [hqk]; exact HQ.out W k (by rw [← HN.out]; exact hlt) (chkFit_all _ _ _ HK.out) hW
      have HF : Hid (∀ W : World, Below w.heap.size w W → Calls Tryz.prog g (#[.int .i64 k] ++ lb) W fun e w' => e = .returned (.bool qk) ∧ Below W.heap.size W w') := hfit
      clear hqk hfit
      obtain ⟨xn, seq, time, xf, xe, xk, xt⟩ := x
      simp only [Sk.val] at hck c0 c1 c2 c3 c4 c5 c6
      have HB : Hid (Below w.heap.size w wr) := hbel
      clear hbel
      by_cases h0 : ch = 0
      · subst h0
        cases qk
        · go_wp2_with (first
            | (go_at_call 91; refine (hck _).mono ?_; rintro e w1 ⟨rfl, hbw⟩; have HB1 : Hid (Below w.heap.size w w1) := HB.out.trans (((Below.refl _ _).alloc HB.out.size _).trans (hbw.mono (by have := HB.out.size; simp; omega))))
            | (go_at_fn g; refine (HF.out _ HB1.out).mono ?_; rintro e w2 ⟨rfl, hbw2⟩))
          go_ret
          exact ⟨by rw [chkFit_no2 (by rw [← HN.out]; exact hlt) HK.out (by rw [← HX.out]; exact HCH.out.symm) HQK.out.symm]; rfl, HB1.out.trans (hbw2.mono HB1.out.size)⟩
        · go_wp2_with (first
            | (go_at_call 91; refine (hck _).mono ?_; rintro e w1 ⟨rfl, hbw⟩; have HB1 : Hid (Below w.heap.size w w1) := HB.out.trans (((Below.refl _ _).alloc HB.out.size _).trans (hbw.mono (by have := HB.out.size; simp; omega))))
            | (go_at_fn g; refine (HF.out _ HB1.out).mono ?_; rintro e w2 ⟨rfl, hbw2⟩))
          go_roundw
          case rel => exact ⟨k + 1, by omega, by go_num, (show chkFit q 0 (l.take (k + 1)) = 0 from chkFit_ok (by rw [← HN.out]; exact hlt) HK.out (by rw [← HX.out]; exact HCH.out.symm) HQK.out.symm), HB1.out.trans (hbw2.mono HB1.out.size)⟩
          case measure => simp [intOf]; omega
      · go_wp2_with (go_at_call 91; refine (hck _).mono ?_; rintro e w' ⟨rfl, hbw⟩)
        go_ret
        exact ⟨by rw [chkFit_no1 (by rw [← HN.out]; exact hlt) HK.out (by rw [← HX.out, ← HCH.out]; exact h0), ← HX.out, ← HCH.out]; rfl, HB.out.trans (((Below.refl _ _).alloc HB.out.size _).trans (hbw.mono (by have := HB.out.size; simp; omega)))⟩
    · have hkl : k = n := by omega
      subst hkl
      go_wp2
      go_ret
      have hk0 := HK.out
      rw [HN.out, List.take_length] at hk0
      rw [hk0]
      exact ⟨rfl, hbel⟩

end Go.Proofs.YtnpaejknoipicafGreat

namespace Go.Proofs.YtnpaejknoipicafGreat
open Go.RowKit

set_option maxHeartbeats 400000 in
theorem begunLit_fits (v : Value) (l : List Sk) (B : Nat) (w : World) (hB : Blk w B #[v] 59) (hv : Sls w v l) (hlen : l.length ≤ 9223372036854775807) :
    FitsR 135 #[.pointer (some ⟨B, 0, none⟩)] (qO l) l w := fun W k hk hok hb => by
  have hBW := hB.below hb hB.lt
  have c0 := hBW.one
  have hcall := isBegun_any v l k W (hv.below hb) hk hlen (fun h0 => by
    have hk1 : k - 1 < l.length := by omega
    rw [List.getElem?_eq_getElem hk1, Option.getD_some]
    have := Sk.chk_zero (hok l[k - 1] (by
      rw [List.mem_iff_getElem]
      exact ⟨k - 1, by simp; omega, by simp⟩))
    omega)
  obtain ⟨q, hq⟩ : ∃ q, q = qO l k := ⟨_, rfl⟩
  rw [← hq] at hcall ⊢
  obtain ⟨a, c, rfl⟩ := hv.len
  clear hq hBW hB hv hok
  show Calls Tryz.prog 135 #[.int .i64 k, .pointer (some ⟨B, 0, none⟩)] W _
  go_enter Tryz.func135, Tryz.ntmps135
  go_wp2_with (go_at_call 136; refine hcall.mono ?_; rintro e w1 ⟨rfl, hbw⟩)
  go_ret
  exact ⟨rfl, hbw⟩

set_option maxHeartbeats 1000000 in
theorem checkBuilder_any (v : Value) (l : List Sk) (w : World) (hv : Sls w v l) (hlen : l.length ≤ 9223372036854775807) :
    Calls Tryz.prog 90 #[.agg #[v]] w fun e w' => e = .returned (.int .i64 (ochk l)) ∧ Below w.heap.size w w' := by
  obtain ⟨a, c, hva⟩ := hv.len
  obtain ⟨n, hn⟩ : ∃ n, n = l.length := ⟨_, rfl⟩
  rw [← hn] at hva
  have hr : ochk l = if 4 ≤ n then 2 else ogo none l := by rw [hn]; rfl
  rw [hr]
  have hln : n ≤ 9223372036854775807 := by omega
  have hcA : Calls Tryz.prog 123 #[v, .func (.func 135) #[] #[.pointer (some ⟨w.heap.size, 0, none⟩)]] (w.alloc (.cells #[v] 59)) fun e w' => e = .returned (.int .i64 (ogo none l)) ∧ Below (w.alloc (.cells #[v] 59)).heap.size (w.alloc (.cells #[v] 59)) w' := by
    rw [← fit_open]
    exact checkAllR_any 135 #[.pointer (some ⟨w.heap.size, 0, none⟩)] (qO l) (enters_of Tryz.func135 (by kernel_rfl) rfl) v l _ (hv.alloc _) hlen (begunLit_fits v l w.heap.size _ (Blk.new w _ _) (hv.alloc _) hlen)
  obtain ⟨r, hrr⟩ : ∃ r, r = ogo none l := ⟨_, rfl⟩
  rw [← hrr] at hcA ⊢
  have HA : Hid (Calls Tryz.prog 123 #[v, .func (.func 135) #[] #[.pointer (some ⟨w.heap.size, 0, none⟩)]] (w.alloc (.cells #[v] 59)) fun e w' => e = .returned (.int .i64 r) ∧ Below (w.alloc (.cells #[v] 59)).heap.size (w.alloc (.cells #[v] 59)) w') := hcA
  clear hr hrr hcA hv hn hlen
  subst hva
  by_cases h4 : 4 ≤ n
  · rw [if_pos h4]
    go_enter Tryz.func90, Tryz.ntmps90
    go_wp2
    go_ret
    exact ⟨rfl, by go_grown⟩
  · rw [if_neg h4]
    go_enter Tryz.func90, Tryz.ntmps90
    go_wp2_with fail
    refine HA.out.mono ?_
    rintro e w1 ⟨rfl, hb1⟩
    have B1 : Hid (Below w.heap.size w w1) := ((Below.refl _ w).alloc (Nat.le_refl _) _).trans (hb1.mono (by simp))
    clear hb1
    go_wp2
    go_ret
    exact ⟨rfl, B1.out⟩

/-- the errno of Add, and what comes of it -/
def addE (l : List Sk) (x : Sk) : Int := if ochk l = 0 then x.chk else ochk l
theorem frameAdd_bad (v : Value) (l : List Sk) (x : Sk) (w : World) (hv : Sls w v l) (hlen : l.length ≤ 9223372036854775807) (hE : ¬ addE l x = 0) :
    Calls Tryz.prog 46 #[.agg #[v], x.val] w fun e w' => e = .returned (.tuple #[.agg #[.slice none 0 0], .agg #[.int .i64 0, .bool false, .slice none 0 0], .bool false, .int .i64 (addE l x)]) ∧ Below w.heap.size w w' :=
  frameAdd_no (ochk l) v l x w hv (fun w' hs => checkBuilder_any v l w' hs hlen) (addE l x) rfl hE
theorem addE_zero {l : List Sk} {x : Sk} (h : addE l x = 0) : ochk l = 0 ∧ x.chk = 0 ∧ l.length ≤ 3 ∧ ∀ y ∈ l, y.chk = 0 := by
  unfold addE at h
  by_cases h0 : ochk l = 0
  · rw [if_pos h0] at h
    have h1 := h0
    unfold ochk at h1
    by_cases h4 : 4 ≤ l.length
    · rw [if_pos h4] at h1; omega
    · rw [if_neg h4] at h1
      exact ⟨h0, h, by omega, ogo_all l none h1⟩
  · rw [if_neg h0] at h; exact absurd h h0
theorem frameAdd_good (v : Value) (l : List Sk) (x : Sk) (w : World) (hv : Sls w v l) (hE : addE l x = 0) :
    Calls Tryz.prog 46 #[.agg #[v], x.val] w fun e w' => ∃ ov pv, e = .returned (.tuple #[.agg #[ov], .agg #[.int .i64 (addT l x), .bool (addK l x), pv], .bool (addW l x), .int .i64 0]) ∧
      (Sls w' ov (addO l x) ∧ Strs w' pv (addP l x) ∧ (∀ g, ov.ownBlock = some g → w.heap.size ≤ g ∧ g < w'.heap.size) ∧ ∀ g, pv.ownBlock = some g → w.heap.size ≤ g ∧ g < w'.heap.size) ∧ Below w.heap.size w w' := by
  obtain ⟨h0, hx, h3, hl⟩ := addE_zero hE
  exact frameAdd_ok v l x w hv (fun w' hs => by rw [← h0]; exact checkBuilder_any v l w' hs (by omega)) h3 hl hx

/-- what Add answers: nothing beside an errno -/
structure AddR where
  o : List Sk
  t : Int
  k : Bool
  p : List ByteArray
  b : Bool
def addR (l : List Sk) (x : Sk) : AddR := if addE l x = 0 then ⟨addO l x, addT l x, addK l x, addP l x, addW l x⟩ else ⟨[], 0, false, [], false⟩
theorem frameAdd_any (v : Value) (l : List Sk) (x : Sk) (w : World) (hv : Sls w v l) (hlen : l.length ≤ 9223372036854775807) :
    Calls Tryz.prog 46 #[.agg #[v], x.val] w fun e w' => ∃ ov pv, e = .returned (.tuple #[.agg #[ov], .agg #[.int .i64 (addR l x).t, .bool (addR l x).k, pv], .bool (addR l x).b, .int .i64 (addE l x)]) ∧
      (Sls w' ov (addR l x).o ∧ Strs w' pv (addR l x).p ∧ (∀ g, ov.ownBlock = some g → w.heap.size ≤ g ∧ g < w'.heap.size) ∧ ∀ g, pv.ownBlock = some g → w.heap.size ≤ g ∧ g < w'.heap.size) ∧ Below w.heap.size w w' := by
  by_cases hE : addE l x = 0
  · have hr : addR l x = ⟨addO l x, addT l x, addK l x, addP l x, addW l x⟩ := by unfold addR; rw [if_pos hE]
    rw [hr, hE]
    exact frameAdd_good v l x w hv hE
  · have hr : addR l x = ⟨[], 0, false, [], false⟩ := by unfold addR; rw [if_neg hE]
    rw [hr]
    refine (frameAdd_bad v l x w hv hlen hE).mono ?_
    rintro e w' ⟨rfl, hb⟩
    exact ⟨_, _, rfl, ⟨Sls.nil _, Strs.nil _, fun g hg => by simp [Value.ownBlock] at hg, fun g hg => by simp [Value.ownBlock] at hg⟩, hb⟩

end Go.Proofs.YtnpaejknoipicafGreat

namespace Go.Proofs.YtnpaejknoipicafGreat
open Go.RowKit

theorem Blk.sevenp {w : World} {b : Nat} {x : Sk} {t : TypeId} (h : Blk w b x.cells t) :
    w.cell? ⟨b, 0, none⟩ = some (.int .i64 x.n) ∧ w.cell? ⟨b, 1, none⟩ = some (.int .i64 x.p.seq) ∧ w.cell? ⟨b, 2, none⟩ = some (.int .i64 x.p.time) ∧ w.cell? ⟨b, 3, none⟩ = some (.bool x.p.f) ∧ w.cell? ⟨b, 4, none⟩ = some (.bool x.p.e) ∧ w.cell? ⟨b, 5, none⟩ = some (.bool x.p.k) ∧ w.cell? ⟨b, 6, none⟩ = some (.string x.p.t) :=
  ⟨h.cell rfl, h.cell rfl, h.cell rfl, h.cell rfl, h.cell rfl, h.cell rfl, h.cell rfl⟩

set_option maxHeartbeats 8000000 in
set_option maxRecDepth 100000 in
theorem tkAdd_any (S : Nat → Prop) (M : Nat) (t : Tr) (c : Int) (x : Sk) (w : World) (hT : TkB S M w t c) (hto : ochk t.o = 0) (hx : x.chk = 0) (hS : ∀ g, w.heap.size ≤ g → S g) (hc0 : 0 ≤ c) (hc1 : c ≤ 1000000) :
    Calls Tryz.prog 158 #[.pointer (some ⟨M, 0, none⟩), x.val] w fun e w' => e = .returned (.int .i64 (tk1 t x).2.2) ∧ TkB S M w' (tk1 t x).1 (c + (tk1 t x).2.1) ∧ Kept [M] w w' := by
  obtain ⟨hv, bv, gv, ov, hM, hr⟩ := hT
  obtain ⟨ha, hc, ba, bc, ga, gc, oa, oc, eh, eb, eg, eo⟩ := hr.slices
  obtain ⟨last, hlast⟩ : ∃ x, x = t.last := ⟨_, rfl⟩
  obtain ⟨next, hnext⟩ : ∃ x, x = t.next := ⟨_, rfl⟩
  obtain ⟨first, hfirst⟩ : ∃ x, x = t.first := ⟨_, rfl⟩
  obtain ⟨hn, hhn⟩ : ∃ x, x = t.h.length := ⟨_, rfl⟩
  obtain ⟨bn, hbn⟩ : ∃ x, x = t.o.length := ⟨_, rfl⟩
  obtain ⟨ln, hln⟩ : ∃ x, x = t.L.length := ⟨_, rfl⟩
  obtain ⟨lo, hlo⟩ : ∃ x, x = t.O.length := ⟨_, rfl⟩
  obtain ⟨B1, hB1⟩ : ∃ E, E = addO t.o x := ⟨_, rfl⟩
  obtain ⟨T1, hT1⟩ : ∃ E, E = addT t.o x := ⟨_, rfl⟩
  obtain ⟨K1, hK1⟩ : ∃ E, E = addK t.o x := ⟨_, rfl⟩
  obtain ⟨P1, hP1⟩ : ∃ E, E = addP t.o x := ⟨_, rfl⟩
  obtain ⟨W1, hW1⟩ : ∃ E, E = addW t.o x := ⟨_, rfl⟩
  obtain ⟨nB, hnB⟩ : ∃ n, n = B1.length := ⟨_, rfl⟩
  obtain ⟨nP, hnP⟩ : ∃ n, n = P1.length := ⟨_, rfl⟩
  have HWW : Hid (W1 = addW t.o x ∧ B1 = addO t.o x ∧ T1 = addT t.o x ∧ K1 = addK t.o x ∧ P1 = addP t.o x) := ⟨hW1, hB1, hT1, hK1, hP1⟩
  have HADDw : Hid (∀ U : World, Below w.heap.size w U → Calls Tryz.prog 46 #[.agg #[bv], .agg #[.int .i64 x.n, .int .i64 x.p.seq, .int .i64 x.p.time, .bool x.p.f, .bool x.p.e, .bool x.p.k, .string x.p.t]] U fun e w' => ∃ va vc qa qc, e = .returned (.tuple #[.agg #[.slice va nB vc], .agg #[.int .i64 T1, .bool K1, .slice qa nP qc], .bool W1, .int .i64 0]) ∧ Hid (SlsIn (fun g => U.heap.size ≤ g) w' (.slice va nB vc) B1) ∧ Hid (StrsIn (fun g => U.heap.size ≤ g) w' (.slice qa nP qc) P1) ∧ Below U.heap.size U w') := fun U hU => by
    obtain ⟨o1, o2, o3⟩ := ochk_len hto
    refine (frameAdd_any bv t.o x U (hr.2.1.below hU).1 (by omega)).mono ?_
    rintro e w' ⟨ov', pv', rfl, ⟨h1, h2, h3, h4⟩, h5⟩
    have e0 : addE t.o x = 0 := by unfold addE; rw [if_pos hto]; exact hx
    have e1 : addR t.o x = ⟨addO t.o x, addT t.o x, addK t.o x, addP t.o x, addW t.o x⟩ := by unfold addR; rw [if_pos e0]
    rw [e1] at h1 h2 ⊢
    simp only at h1 h2 ⊢
    rw [← hB1] at h1
    rw [← hP1] at h2
    obtain ⟨va, vc, ev⟩ := h1.len
    obtain ⟨qa, qc, eq⟩ := h2.len
    rw [← hnB] at ev
    rw [← hnP] at eq
    subst ev eq
    rw [e0, ← hT1, ← hK1, ← hW1]
    have l1 : B1.length ≤ 3 := by rw [hB1]; exact addO_len _ _ o1
    have l2 : P1.length ≤ 4 := by rw [hP1]; exact addP_len _ _ o1
    exact ⟨va, vc, qa, qc, rfl, SlsIn.of h1 (by omega) (fun g hg _ => (h3 g hg).1), ⟨h2, by omega, fun g hg _ => h4 g hg⟩, h5⟩
  rw [← hlast, ← hnext, ← hfirst] at hM
  rw [← hhn] at eh
  rw [← hbn] at eb
  rw [← hln] at eg
  rw [← hlo] at eo
  have HSU : Hid (∀ g, w.heap.size ≤ g → S g) := hS
  have HTT : Hid (last = t.last ∧ next = t.next ∧ first = t.first) := ⟨hlast, hnext, hfirst⟩
  clear hlast hnext hfirst hhn hbn hln hlo hB1 hT1 hK1 hP1 hW1 hnB hnP hS hx hto
  subst eh eb eg eo
  have HMw : Hid (Blk w M #[.int .i64 last, .int .i64 next, .slice ha hn hc, .slice ba bn bc, .int .i64 first, .slice ga ln gc, .slice oa lo oc, .int .i64 c] 167) := hM
  have HRw : Hid (TrIn (fun g => S g ∧ g ≠ M) w (.slice ha hn hc) (.slice ba bn bc) (.slice ga ln gc) (.slice oa lo oc) t) := hr
  have hMw := hM.lt
  clear hM hr
  simp only [Sk.val]
  go_enter Tryz.func158, Tryz.ntmps158
  go_wp2_with fail
  obtain ⟨w0, hw0⟩ : ∃ w0, w0 = w.alloc (.cells #[.int .i64 x.n, .int .i64 x.p.seq, .int .i64 x.p.time, .bool x.p.f, .bool x.p.e, .bool x.p.k, .string x.p.t] 91) := ⟨_, rfl⟩
  have HB0 : Hid (Below w.heap.size w w0) := by rw [hw0]; exact (Below.refl _ _).alloc (Nat.le_refl _) _
  have z0 : w0.heap.size = w.heap.size + 1 := by rw [hw0]; simp
  have HM0 : Hid (Blk w0 M #[.int .i64 last, .int .i64 next, .slice ha hn hc, .slice ba bn bc, .int .i64 first, .slice ga ln gc, .slice oa lo oc, .int .i64 c] 167) := HMw.out.below HB0.out hMw
  have HF0 : Hid (Blk w0 w.heap.size #[.int .i64 x.n, .int .i64 x.p.seq, .int .i64 x.p.time, .bool x.p.f, .bool x.p.e, .bool x.p.k, .string x.p.t] 91) := Blk.newE hw0
  have HR0 : Hid (TrIn (fun g => S g ∧ g ≠ M) w0 (.slice ha hn hc) (.slice ba bn bc) (.slice ga ln gc) (.slice oa lo oc) t) := HRw.out.below HB0.out
  have HADD : Hid (∀ U : World, Below w0.heap.size w0 U → Calls Tryz.prog 46 #[.agg #[.slice ba bn bc], .agg #[.int .i64 x.n, .int .i64 x.p.seq, .int .i64 x.p.time, .bool x.p.f, .bool x.p.e, .bool x.p.k, .string x.p.t]] U fun e w' => ∃ va vc qa qc, e = .returned (.tuple #[.agg #[.slice va nB vc], .agg #[.int .i64 T1, .bool K1, .slice qa nP qc], .bool W1, .int .i64 0]) ∧ Hid (SlsIn (fun g => U.heap.size ≤ g) w' (.slice va nB vc) B1) ∧ Hid (StrsIn (fun g => U.heap.size ≤ g) w' (.slice qa nP qc) P1) ∧ Below U.heap.size U w') := fun U hU => HADDw.out U (HB0.out.trans (hU.mono (by omega)))
  rw [← hw0]
  clear hw0 HMw HRw HADDw
  refine region_main (by kernel_rfl) (by kernel_rfl) [.quiet (.pointer (some ⟨M, 0, none⟩)), .quiet (.pointer (some ⟨M, 0, none⟩)), .quiet (.pointer (some ⟨M, 0, none⟩)), .quiet (.pointer (some ⟨M, 3, none⟩)), .quiet (.agg #[.slice ba bn bc]), .quiet (.agg #[.int .i64 x.n, .int .i64 x.p.seq, .int .i64 x.p.time, .bool x.p.f, .bool x.p.e, .bool x.p.k, .string x.p.t]), .main, .fin (fun r => r), .fin (exT 0), .fin (exT 1), .fin (exT 2), .fin (exT 3), .box 59 #[.slice none 0 0], .box 30 #[.int .i64 0, .bool false, .slice none 0 0], .put 12 (fun r => aggC (exT 0 r)), .put 13 (fun r => aggC (exT 1 r)), .fin (exT 2), .fin (exT 3)] 6 (by kernel_rfl)
    (fun S r w' => ∃ va vc qa qc, r = .tuple #[.agg #[.slice va nB vc], .agg #[.int .i64 T1, .bool K1, .slice qa nP qc], .bool W1, .int .i64 0] ∧ SlsIn (fun g => S g ∧ w0.heap.size ≤ g) w' (.slice va nB vc) B1 ∧ StrsIn (fun g => S g ∧ w0.heap.size ≤ g) w' (.slice qa nP qc) P1) ?loc ?step ?fin
  case loc =>
    rintro S r w1 w3 ⟨va, vc, qa, qc, rfl, h1, h2⟩ hs hsame
    exact ⟨va, vc, qa, qc, rfl, h1.to ⟨hs, fun g hg hS => hsame g hS.1 hg⟩ (fun _ _ h => h), h2.to ⟨hs, fun g hg hS => hsame g hS.1 hg⟩ (fun _ _ h => h)⟩
  case step =>
    intro i o ho a' w' r hb hfree hvals
    have f0 : a'.eval (.tmp 0) = .pointer (some ⟨M, 0, none⟩) := (hfree 0 (by kernel_rfl)).trans rfl
    have f3 : a'.eval (.tmp 3) = .pointer (some ⟨w.heap.size, 0, none⟩) := (hfree 3 (by kernel_rfl)).trans rfl
    obtain ⟨y0, y1, y2, y3, y4, y5, y6, y7⟩ := (HM0.out.below hb HM0.out.lt).eight
    obtain ⟨j0, j1, j2, j3, j4, j5, j6⟩ := (HF0.out.below hb HF0.out.lt).sevenc
    match i, ho with
    | 0, ho =>
      simp at ho; subst ho
      show (execOp a'.eval _).run _ w' = .ok (.value _) w'
      generalize a'.eval = ρ at *
      simp [execOp, go_sem, f0]
    | 1, ho =>
      simp at ho; subst ho
      have e10 : a'.eval (.tmp 10) = .pointer (some ⟨M, 0, none⟩) := hvals 0 _ (by kernel_rfl) rfl
      show (execOp a'.eval _).run _ w' = .ok (.value _) w'
      generalize a'.eval = ρ at *
      simp [execOp, go_sem, e10]
    | 2, ho =>
      simp at ho; subst ho
      have e11 : a'.eval (.tmp 11) = .pointer (some ⟨M, 0, none⟩) := hvals 1 _ (by kernel_rfl) rfl
      show (execOp a'.eval _).run _ w' = .ok (.value _) w'
      generalize a'.eval = ρ at *
      simp [execOp, go_sem, e11]
    | 3, ho =>
      simp at ho; subst ho
      have e12 : a'.eval (.tmp 12) = .pointer (some ⟨M, 0, none⟩) := hvals 2 _ (by kernel_rfl) rfl
      show (execOp a'.eval _).run _ w' = .ok (.value _) w'
      generalize a'.eval = ρ at *
      simp [execOp, go_sem, e12]
    | 4, ho =>
      simp at ho; subst ho
      have e13 : a'.eval (.tmp 13) = .pointer (some ⟨M, 3, none⟩) := hvals 3 _ (by kernel_rfl) rfl
      show (execOp a'.eval _).run _ w' = .ok (.value _) w'
      generalize a'.eval = ρ at *
      simp [execOp, go_sem, e13, y3]
    | 5, ho =>
      simp at ho; subst ho
      show (execOp a'.eval _).run _ w' = .ok (.value _) w'
      generalize a'.eval = ρ at *
      simp [execOp, go_sem, f3, j0, j1, j2, j3, j4, j5, j6]
    | 6, ho =>
      simp at ho; subst ho
      have e14 : a'.eval (.tmp 14) = .agg #[.slice ba bn bc] := hvals 4 _ (by kernel_rfl) rfl
      have e15 : a'.eval (.tmp 15) = .agg #[.int .i64 x.n, .int .i64 x.p.seq, .int .i64 x.p.time, .bool x.p.f, .bool x.p.e, .bool x.p.k, .string x.p.t] := hvals 5 _ (by kernel_rfl) rfl
      have ef : a'.eval (.func 46) = .func (.func 46) #[] #[] := rfl
      show ∃ f args, (execOp a'.eval _).run _ w' = .ok (.enter f args) w' ∧ _
      generalize a'.eval = ρ at *
      refine ⟨46, #[.agg #[.slice ba bn bc], .agg #[.int .i64 x.n, .int .i64 x.p.seq, .int .i64 x.p.time, .bool x.p.f, .bool x.p.e, .bool x.p.k, .string x.p.t]], by simp [execOp, go_sem, e14, e15, ef], ?_⟩
      refine (HADD.out w' hb).mono ?_
      rintro e w'' ⟨va, vc, qa, qc, rfl, h1, h2, hb4⟩
      exact ⟨_, rfl, ⟨va, vc, qa, qc, rfl, h1.out.mono (fun g hl hg => ⟨⟨hl, .inr hg⟩, (by have := hb.size; omega)⟩), h2.out.mono (fun g hl hg => ⟨⟨hl, .inr hg⟩, (by have := hb.size; omega)⟩)⟩, hb4⟩
    | 7, ho =>
      simp at ho; subst ho
      have e16 : a'.eval (.tmp 16) = r := hvals 6 _ (by kernel_rfl) rfl
      show ∀ S, _ → (execOp a'.eval _).run _ w' = .ok (.value _) w'
      rintro S ⟨va, vc, qa, qc, rfl, _, _⟩
      try simp only [exT] at e16
      generalize a'.eval = ρ at *
      simp [execOp, go_sem, e16]
    | 8, ho =>
      simp at ho; subst ho
      have e9 : a'.eval (.tmp 9) = r := hvals 7 _ (by kernel_rfl) rfl
      show ∀ S, _ → (execOp a'.eval _).run _ w' = .ok (.value _) w'
      rintro S ⟨va, vc, qa, qc, rfl, _, _⟩
      try simp only [exT] at e9
      generalize a'.eval = ρ at *
      simp [execOp, go_sem, e9, exT]
    | 9, ho =>
      simp at ho; subst ho
      have e9 : a'.eval (.tmp 9) = r := hvals 7 _ (by kernel_rfl) rfl
      show ∀ S, _ → (execOp a'.eval _).run _ w' = .ok (.value _) w'
      rintro S ⟨va, vc, qa, qc, rfl, _, _⟩
      try simp only [exT] at e9
      generalize a'.eval = ρ at *
      simp [execOp, go_sem, e9, exT]
    | 10, ho =>
      simp at ho; subst ho
      have e9 : a'.eval (.tmp 9) = r := hvals 7 _ (by kernel_rfl) rfl
      show ∀ S, _ → (execOp a'.eval _).run _ w' = .ok (.value _) w'
      rintro S ⟨va, vc, qa, qc, rfl, _, _⟩
      try simp only [exT] at e9
      generalize a'.eval = ρ at *
      simp [execOp, go_sem, e9, exT]
    | 11, ho =>
      simp at ho; subst ho
      have e9 : a'.eval (.tmp 9) = r := hvals 7 _ (by kernel_rfl) rfl
      show ∀ S, _ → (execOp a'.eval _).run _ w' = .ok (.value _) w'
      rintro S ⟨va, vc, qa, qc, rfl, _, _⟩
      try simp only [exT] at e9
      generalize a'.eval = ρ at *
      simp [execOp, go_sem, e9, exT]
    | 12, ho =>
      simp at ho; subst ho
      show (execOp a'.eval _).run _ w' = .ok (.value _) _
      generalize a'.eval = ρ at *
      simp [execOp, go_sem]
    | 13, ho =>
      simp at ho; subst ho
      show (execOp a'.eval _).run _ w' = .ok (.value _) _
      generalize a'.eval = ρ at *
      simp [execOp, go_sem]
    | 14, ho =>
      simp at ho; subst ho
      have e17 : a'.eval (.tmp 17) = (exT 0) r := hvals 8 _ (by kernel_rfl) rfl
      show ∀ S, _ → ∀ t z g C, _ → _ → _ → _ → ∃ w'', (execOp a'.eval _).run _ w' = .ok .skip w'' ∧ _
      rintro S ⟨va, vc, qa, qc, rfl, _, _⟩ t z g C hz hC hs (eb : a'.eval (.tmp 5) = _)
      cases hz
      obtain ⟨u0, q0⟩ := cells1 hC hs
      have p0 := hC.free 0
      obtain ⟨m1, m2, m3⟩ := set1 hC hs (.slice va nB vc)
      simp only [exT] at e17
      generalize a'.eval = ρ at *
      exact ⟨_, by simp [execOp, go_sem, e17, eb, q0, p0], m1, m2, rfl, m3, rfl, rfl, rfl⟩
    | 15, ho =>
      simp at ho; subst ho
      have e18 : a'.eval (.tmp 18) = (exT 1) r := hvals 9 _ (by kernel_rfl) rfl
      show ∀ S, _ → ∀ t z g C, _ → _ → _ → _ → ∃ w'', (execOp a'.eval _).run _ w' = .ok .skip w'' ∧ _
      rintro S ⟨va, vc, qa, qc, rfl, _, _⟩ t z g C hz hC hs (eb : a'.eval (.tmp 6) = _)
      cases hz
      obtain ⟨u0, u1, u2, q0, q1, q2⟩ := cells3 hC hs
      have p0 := hC.free 0
      have p1 := hC.free 1
      have p2 := hC.free 2
      obtain ⟨m1, m2, m3⟩ := set3 hC hs (.int .i64 T1) (.bool K1) (.slice qa nP qc)
      simp only [exT] at e18
      generalize a'.eval = ρ at *
      exact ⟨_, by simp [execOp, go_sem, e18, eb, q0, q1, q2, p0, p1, p2], m1, m2, rfl, m3, rfl, rfl, rfl⟩
    | 16, ho =>
      simp at ho; subst ho
      have e19 : a'.eval (.tmp 19) = (exT 2) r := hvals 10 _ (by kernel_rfl) rfl
      show ∀ S, _ → (execOp a'.eval _).run _ w' = .ok (.value _) w'
      rintro S ⟨va, vc, qa, qc, rfl, _, _⟩
      try simp only [exT] at e19
      generalize a'.eval = ρ at *
      simp [execOp, go_sem, e19, exT]
    | 17, ho =>
      simp at ho; subst ho
      have e20 : a'.eval (.tmp 20) = (exT 3) r := hvals 11 _ (by kernel_rfl) rfl
      show ∀ S, _ → (execOp a'.eval _).run _ w' = .ok (.value _) w'
      rintro S ⟨va, vc, qa, qc, rfl, _, _⟩
      try simp only [exT] at e20
      generalize a'.eval = ρ at *
      simp [execOp, go_sem, e20, exT]
    | i + 18, ho => simp at ho
  case fin =>
    rintro r gs Sr W hb ⟨va, vc, qa, qc, rfl, h1, h2⟩ hS hbox hap
    obtain ⟨p1, p2, C, p3, p4⟩ := hbox 12 _ _ (by decide) rfl
    have p5 := p4 14 _ (by decide) rfl
    subst p5
    obtain ⟨o1, o2, C', o3, o4⟩ := hbox 13 _ _ (by decide) rfl
    have o5 := o4 15 _ (by decide) rfl
    subst o5
    have KP : Hid (Blk W (gs 12) #[.slice va nB vc] 59) := p3
    have KO : Hid (Blk W (gs 13) #[.int .i64 T1, .bool K1, .slice qa nP qc] 30) := o3
    simp only [putK, Kd.out, exT, Act.put, List.setIfInBounds_toArray, List.set_cons_succ, List.set_cons_zero, List.getElem?_toArray, List.getElem?_cons_zero, List.getElem?_cons_succ, Option.getD_some]
    obtain ⟨p, hp⟩ : ∃ p, p = gs 12 := ⟨_, rfl⟩
    obtain ⟨o, ho⟩ : ∃ p, p = gs 13 := ⟨_, rfl⟩
    rw [← hp] at KP p1
    rw [← ho] at KO o1
    rw [← hp, ← ho]
    have HBW : Hid (Below w0.heap.size w0 W) := hb
    have H1 : Hid (SlsIn (fun g => w0.heap.size ≤ g) W (.slice va nB vc) B1) := h1.mono fun _ _ h => h.2
    have H2 : Hid (StrsIn (fun g => w0.heap.size ≤ g) W (.slice qa nP qc) P1) := h2.mono fun _ _ h => h.2
    clear hp ho h1 h2 hS hbox hap p2 p3 p4 o2 o3 o4 hb
    have HMW : Hid (Blk W M #[.int .i64 last, .int .i64 next, .slice ha hn hc, .slice ba bn bc, .int .i64 first, .slice ga ln gc, .slice oa lo oc, .int .i64 c] 167) := HM0.out.below HBW.out HM0.out.lt
    have HRW : Hid (TrIn (fun g => S g ∧ g ≠ M) W (.slice ha hn hc) (.slice ba bn bc) (.slice ga ln gc) (.slice oa lo oc) t) := HR0.out.below HBW.out
    have x0 := KP.out.one
    obtain ⟨y0, y1, y2, y3, y4, y5, y6, y7⟩ := HMW.out.eight
    have fM := HMW.out.free
    have lM := HMW.out.lt
    have hpM : ¬ p = M := by omega
    have hoM : ¬ o = M := by omega
    obtain ⟨V, hV⟩ : ∃ V, V = W.setCell ⟨M, 3, none⟩ (.slice va nB vc) := ⟨_, rfl⟩
    have hVo : ∀ g, g ≠ M → V.heap[g]? = W.heap[g]? := fun g hg => by
      rw [hV, Below.heap_setCell _ _ _ _ (by exact hg)]
    have hVs : V.heap.size = W.heap.size := by rw [hV]; simp
    have HMV : Hid (Blk V M #[.int .i64 last, .int .i64 next, .slice ha hn hc, .slice va nB vc, .int .i64 first, .slice ga ln gc, .slice oa lo oc, .int .i64 c] 167) := by
      have := HMW.out.set 3 (.slice va nB vc)
      rw [hV]; simpa [Hid] using this
    have HKV : Hid (Kept [M] w V) := by
      rw [hV]
      have k := (Kept.refl [M] w).below (HB0.out.trans (HBW.out.mono HB0.out.size))
      exact k.setCell (p := ⟨M, 3, none⟩) (by simp) _
    have KOV : Hid (Blk V o #[.int .i64 T1, .bool K1, .slice qa nP qc] 30) := (hVo o hoM).trans KO.out
    have HTV : Hid (TkB S M V ⟨t.last, t.next, t.h, B1, t.first, t.L, t.O⟩ c) := by
      have so : SameOn (fun g => g ≠ M) W V := ⟨by omega, fun g _ hg => hVo g hg⟩
      have hsz := HB0.out.size
      refine ⟨_, _, _, _, by rw [HTT.out.1, HTT.out.2.1, HTT.out.2.2] at HMV; exact HMV.out, HRW.out.1.to (so.mono fun g h => h.2) (fun _ _ h => h), H1.out.to (so.mono fun g h => by omega) (fun g _ h => ⟨HSU.out g (by omega), by omega⟩), HRW.out.2.2.1.to (so.mono fun g h => h.2) (fun _ _ h => h), HRW.out.2.2.2.to (so.mono fun g h => h.2) (fun _ _ h => h)⟩
    have HPV : Hid (StrsIn (fun _ => True) V (.slice qa nP qc) P1) := by
      have so : SameOn (fun g => g ≠ M) W V := ⟨by omega, fun g _ hg => hVo g hg⟩
      exact H2.out.to (so.mono fun g h => by omega) (fun _ _ _ => trivial)
    have hsV : w.heap.size ≤ V.heap.size := HKV.out.size
    clear hVo hVs H1 H2 HRW HMW
    cases W1
    case false =>
      have h1 : tk1 t x = (⟨t.last, t.next, t.h, B1, t.first, t.L, t.O⟩, 0, 0) := by
        have hw := HWW.out
        unfold tk1; rw [← hw.1, ← hw.2.1]; rfl
      have HH1 : Hid (tk1 t x = (⟨t.last, t.next, t.h, B1, t.first, t.L, t.O⟩, 0, 0)) := h1
      clear h1
      go_wp2_with fail
      rw [← hV]
      go_wp2
      go_ret
      rw [HH1.out]
      exact ⟨rfl, by simpa using HTV.out, HKV.out⟩
    case true =>
      have h1 : tk1 t x = (⟨t.last, t.next, t.h, B1, addsF t.first t.L t.O ⟨T1, K1, P1⟩, addsL t.first t.L t.O ⟨T1, K1, P1⟩, addsO t.first t.L t.O ⟨T1, K1, P1⟩⟩, if addsB t.first t.L t.O ⟨T1, K1, P1⟩ then 1 else 0, addsE t.first t.L t.O ⟨T1, K1, P1⟩) := by
        have hw := HWW.out
        unfold tk1; rw [← hw.1, ← hw.2.1]; unfold addF; rw [← hw.2.2.1, ← hw.2.2.2.1, ← hw.2.2.2.2]; rfl
      have HH1 : Hid (tk1 t x = (⟨t.last, t.next, t.h, B1, addsF t.first t.L t.O ⟨T1, K1, P1⟩, addsL t.first t.L t.O ⟨T1, K1, P1⟩, addsO t.first t.L t.O ⟨T1, K1, P1⟩⟩, if addsB t.first t.L t.O ⟨T1, K1, P1⟩ then 1 else 0, addsE t.first t.L t.O ⟨T1, K1, P1⟩)) := h1
      have HKEEP : Hid (Calls Tryz.prog 169 #[.pointer (some ⟨M, 0, none⟩), .agg #[.int .i64 T1, .bool K1, .slice qa nP qc]] V fun e w' => e = .returned (.int .i64 (addsE t.first t.L t.O ⟨T1, K1, P1⟩)) ∧ TkB S M w' ⟨t.last, t.next, t.h, B1, addsF t.first t.L t.O ⟨T1, K1, P1⟩, addsL t.first t.L t.O ⟨T1, K1, P1⟩, addsO t.first t.L t.O ⟨T1, K1, P1⟩⟩ (c + (if addsB t.first t.L t.O ⟨T1, K1, P1⟩ then (1 : Nat) else 0)) ∧ Kept [M] V w') :=
        tkKeep_any S M _ c ⟨T1, K1, P1⟩ _ V HTV.out HPV.out (fun g hg => HSU.out g (by omega)) hc0 hc1
      obtain ⟨E9, hE9⟩ : ∃ e, e = addsE t.first t.L t.O ⟨T1, K1, P1⟩ := ⟨_, rfl⟩
      obtain ⟨C9, hC9⟩ : ∃ e : Int, e = c + (if addsB t.first t.L t.O ⟨T1, K1, P1⟩ then (1 : Nat) else 0) := ⟨_, rfl⟩
      obtain ⟨T9, hT9⟩ : ∃ e : Tr, e = ⟨t.last, t.next, t.h, B1, addsF t.first t.L t.O ⟨T1, K1, P1⟩, addsL t.first t.L t.O ⟨T1, K1, P1⟩, addsO t.first t.L t.O ⟨T1, K1, P1⟩⟩ := ⟨_, rfl⟩
      have HC9 : Hid (C9 = c + (if addsB t.first t.L t.O ⟨T1, K1, P1⟩ then (1 : Nat) else 0)) := hC9
      rw [← hE9, ← hC9, ← hT9] at HKEEP
      rw [← hE9, ← hT9] at HH1
      clear h1 hE9 hC9 hT9 HTV HPV
      go_upto_region 4 with fail
      rw [← hV]
      clear hV x0 y0 y1 y2 y3 y4 y5 y6 y7 fM lM
      obtain ⟨f0, f1, f2⟩ := KOV.out.three
      go_wp2_with fail
      refine HKEEP.out.mono ?_
      rintro e w9 ⟨rfl, t9, k9⟩
      have T9' : Hid (TkB S M w9 T9 C9) := t9
      have K9 : Hid (Kept [M] w w9) := HKV.out.trans k9
      clear t9 k9 f0 f1 f2
      go_wp2
      go_ret
      rw [HH1.out]
      refine ⟨rfl, ?_, K9.out⟩
      have := T9'.out
      rw [HC9.out] at this
      simpa using this

end Go.Proofs.YtnpaejknoipicafGreat

namespace Go.Proofs.YtnpaejknoipicafGreat
open Go.RowKit

def StayK (S : List Nat) (w : World) (P : World → Prop) : Prop := ∀ w', Kept S w w' → P w'
theorem StayK.now {S : List Nat} {w : World} {P : World → Prop} (h : StayK S w P) : P w := h w (Kept.refl _ _)
theorem StayK.step {S : List Nat} {w w' : World} {P : World → Prop} (h : StayK S w P) (hk : Kept S w w') : StayK S w' P := fun w'' h2 => h w'' (hk.trans h2)
theorem StayK.go {S : List Nat} {w w' : World} {P : World → Prop} (h : Hid (StayK S w P)) (hk : Below w.heap.size w w') : Hid (StayK S w' P) := StayK.step h ((Kept.refl _ _).below hk)
theorem StayK.goK {S : List Nat} {w w' : World} {P : World → Prop} (h : Hid (StayK S w P)) (hk : Kept S w w') : Hid (StayK S w' P) := StayK.step h hk
theorem StayK.allocE {S : List Nat} {w W : World} {P : World → Prop} {o : Obj} (h : Hid (StayK S w P)) (e : W = w.alloc o) : Hid (StayK S W P) := by subst e; exact StayK.step h ((Kept.refl _ _).alloc _)
theorem StayK.and {S : List Nat} {w : World} {P Q : World → Prop} (h : StayK S w P) (k : StayK S w Q) : StayK S w (fun U => P U ∧ Q U) := fun w' hb => ⟨h w' hb, k w' hb⟩
theorem Stay.toK {w W : World} {P : World → Prop} {o : Obj} (h : Stay w P) (e : W = w.alloc o) : StayK [w.heap.size] W P := by
  subst e
  intro w' hk
  refine h w' (((Below.refl _ w).alloc (Nat.le_refl _) o).trans ?_)
  exact hk.toBelow (by simp) (fun k hk => by simp at hk; omega)
theorem Kept.sameOn {S : List Nat} {X : Nat → Prop} {w w' : World} (h : Kept S w w') (hx : ∀ g, X g → g ∉ S) : SameOn X w w' := ⟨h.size, fun g hg hX => h.block g hg (hx g hX)⟩
theorem Blk.stayK {S : List Nat} {w : World} {b : Nat} {C : Array Value} {t : TypeId} (h : Blk w b C t) (hS : b ∉ S) : StayK S w (fun U => Blk U b C t) := fun _ hk => h.kept hk hS
theorem FrsIn.stayK {S : List Nat} {X : Nat → Prop} {w : World} {v : Value} {l : List Fr} (h : FrsIn X w v l) (hx : ∀ g, X g → g ∉ S) : StayK S w (fun U => FrsIn X U v l) := fun _ hk => h.to (hk.sameOn hx) fun _ _ h => h
theorem StrsIn.stayK {S : List Nat} {X : Nat → Prop} {w : World} {v : Value} {l : List ByteArray} (h : StrsIn X w v l) (hx : ∀ g, X g → g ∉ S) : StayK S w (fun U => StrsIn X U v l) := fun _ hk => h.to (hk.sameOn hx) fun _ _ h => h
theorem GrsIn.stayK {S : List Nat} {X : Nat → Prop} {w : World} {v : Value} {l : List (List Fr)} (h : GrsIn X w v l) (hx : ∀ g, X g → g ∉ S) : StayK S w (fun U => GrsIn X U v l) := fun _ hk => h.to (hk.sameOn hx) fun _ _ h => h
theorem below_stayK {S : List Nat} {B : Nat} {a w : World} (h : Below B a w) (hB : B ≤ w.heap.size) (hS : ∀ k ∈ S, B ≤ k) : StayK S w (fun U => Below B a U) := fun _ hk => h.trans (hk.toBelow hB hS)

/-- three cells are put in three others' place -/
theorem Blk.put3 {w : World} {b : Nat} {x0 x1 x2 : Value} {t : TypeId} (h : Blk w b #[x0, x1, x2] t) (y0 y1 y2 : Value) : Blk (((w.setCell ⟨b, 0, none⟩ y0).setCell ⟨b, 1, none⟩ y1).setCell ⟨b, 2, none⟩ y2) b #[y0, y1, y2] t := ((h.set 0 y0).set 1 y1).set 2 y2
theorem Kept.put3 {S : List Nat} {a w : World} {b : Nat} (h : Kept S a w) (hb : b ∈ S) (y0 y1 y2 : Value) : Kept S a (((w.setCell ⟨b, 0, none⟩ y0).setCell ⟨b, 1, none⟩ y1).setCell ⟨b, 2, none⟩ y2) := ((h.setCell (p := ⟨b, 0, none⟩) hb y0).setCell (p := ⟨b, 1, none⟩) hb y1).setCell (p := ⟨b, 2, none⟩) hb y2

end Go.Proofs.YtnpaejknoipicafGreat

namespace Go.Proofs.YtnpaejknoipicafGreat
open Go.RowKit

theorem SlsIn.kept {S : Nat → Prop} {K : List Nat} {w w' : World} {v : Value} {l : List Sk} (h : SlsIn S w v l) (hk : Kept K w w') (hS : ∀ g, S g → g ∉ K) : SlsIn S w' v l := h.to ⟨hk.size, fun g hg hs => hk.block g hg (hS g hs)⟩ (fun _ _ h => h)
theorem SlsIn.at {S : Nat → Prop} {w : World} {ao : Option Addr} {n c k : Nat} {l : List Sk} (h : SlsIn S w (.slice ao n c) l) (hk : k < l.length) : ∃ b off, ao = some ⟨b, off, none⟩ ∧ b < w.heap.size ∧ At7 w b (off + k * 7) (l[k]?.getD Sk.zero) := by
  obtain ⟨ao', c', e, hc⟩ := h.1.parts
  injection e with e1 _ _
  subst e1
  exact hc k hk
theorem tkN_drop {l : List Sk} {k : Nat} (hk : k < l.length) (s : Tr × Nat) : tkN (l.drop k) s = if (tk1 s.1 (l[k]?.getD Sk.zero)).2.2 = 0 then tkN (l.drop (k + 1)) ((tk1 s.1 (l[k]?.getD Sk.zero)).1, s.2 + (tk1 s.1 (l[k]?.getD Sk.zero)).2.1) else (Tr.zero, 0, (tk1 s.1 (l[k]?.getD Sk.zero)).2.2) := by
  rw [List.drop_eq_getElem_cons hk, List.getElem?_eq_getElem hk, Option.getD_some]
  rfl
theorem tk1_le (t : Tr) (x : Sk) : (tk1 t x).2.1 ≤ 1 := by
  unfold tk1
  cases addW t.o x
  · exact Nat.zero_le _
  · simp only [if_true]
    split <;> omega

set_option maxHeartbeats 8000000 in
set_option maxRecDepth 100000 in
theorem tkPass_any (S : Nat → Prop) (M : Nat) (t : Tr) (c : Nat) (next' : Int) (hv' v : Value) (h' l : List Sk) (w : World) (hT : TkB S M w t c) (hok : TkOk t) (hh : SlsIn (fun g => S g ∧ g ≠ M) w hv' h') (hv : SlsIn (fun g => g ≠ M) w v l) (hl : ∀ x ∈ l, x.chk = 0) (hlen : l.length ≤ 100) (hS : ∀ g, w.heap.size ≤ g → S g) (hc : c ≤ 1000) :
    Calls Tryz.prog 112 #[.pointer (some ⟨M, 0, none⟩), .agg #[.int .i64 next', hv'], v, .int .i64 0] w fun e w' => e = .returned (.int .i64 (tkN l (t.buf t.last next' h', c)).2.2) ∧ ((tkN l (t.buf t.last next' h', c)).2.2 = 0 → TkB S M w' (tkN l (t.buf t.last next' h', c)).1 ((tkN l (t.buf t.last next' h', c)).2.1 : Nat)) ∧ Kept [M] w w' := by
  obtain ⟨hv0, bv, gv, ov, hM, hr⟩ := hT
  obtain ⟨ha, hcc, ba, bc, ga, gc, oa, oc, eh, eb, eg, eo⟩ := hr.slices
  obtain ⟨na, nc, en⟩ := hh.len
  obtain ⟨va, vc, ev⟩ := hv.len
  obtain ⟨n, hn⟩ : ∃ x, x = l.length := ⟨_, rfl⟩
  obtain ⟨nh, hnh⟩ : ∃ x, x = h'.length := ⟨_, rfl⟩
  obtain ⟨last, hlast⟩ : ∃ x, x = t.last := ⟨_, rfl⟩
  obtain ⟨next, hnext⟩ : ∃ x, x = t.next := ⟨_, rfl⟩
  obtain ⟨first, hfirst⟩ : ∃ x, x = t.first := ⟨_, rfl⟩
  obtain ⟨hn0, hhn⟩ : ∃ x, x = t.h.length := ⟨_, rfl⟩
  obtain ⟨bn, hbn⟩ : ∃ x, x = t.o.length := ⟨_, rfl⟩
  obtain ⟨ln, hln⟩ : ∃ x, x = t.L.length := ⟨_, rfl⟩
  obtain ⟨lo, hlo⟩ : ∃ x, x = t.O.length := ⟨_, rfl⟩
  obtain ⟨R, hR⟩ : ∃ x, x = tkN l (t.buf t.last next' h', c) := ⟨_, rfl⟩
  rw [← hn] at ev hlen
  rw [← hnh] at en
  rw [← hlast, ← hnext, ← hfirst] at hM
  rw [← hhn] at eh
  rw [← hbn] at eb
  rw [← hln] at eg
  rw [← hlo] at eo
  have HN : Hid (n = l.length) := hn
  have HSU : Hid (∀ g, w.heap.size ≤ g → S g) := hS
  have HTT : Hid (last = t.last ∧ next = t.next ∧ first = t.first) := ⟨hlast, hnext, hfirst⟩
  have HRR : Hid (R = tkN (l.drop 0) (t.buf t.last next' h', c)) := by rw [List.drop_zero]; exact hR
  have HCH : Hid (∀ x ∈ l, x.chk = 0) := hl
  have HOK : Hid (TkOk t) := hok
  rw [← hR]
  clear hn hnh hlast hnext hfirst hhn hbn hln hlo hR hS hl hok
  subst eh eb eg eo en ev
  have HMw : Hid (Blk w M #[.int .i64 last, .int .i64 next, .slice ha hn0 hcc, .slice ba bn bc, .int .i64 first, .slice ga ln gc, .slice oa lo oc, .int .i64 c] 167) := hM
  have HRw : Hid (TrIn (fun g => S g ∧ g ≠ M) w (.slice ha hn0 hcc) (.slice ba bn bc) (.slice ga ln gc) (.slice oa lo oc) t) := hr
  have HHw : Hid (SlsIn (fun g => S g ∧ g ≠ M) w (.slice na nh nc) h') := hh
  have HVw : Hid (SlsIn (fun g => g ≠ M) w (.slice va n vc) l) := hv
  have hMw := hM.lt
  clear hM hr hh hv
  go_enter Tryz.func112, Tryz.ntmps112
  obtain ⟨y0, y1, y2, y3, y4, y5, y6, y7⟩ := HMw.out.eight
  have fM := HMw.out.free
  obtain ⟨V, hV⟩ : ∃ V, V = ((w.setCell ⟨M, 1, none⟩ (.int .i64 next')).setCell ⟨M, 2, none⟩ (.slice na nh nc)).alloc (.cells #[.int .i64 next', .slice na nh nc] 57) := ⟨_, rfl⟩
  have HKV : Hid (Kept [M] w V) := by
    rw [hV]; exact (((Kept.refl [M] w).setCell (p := ⟨M, 1, none⟩) (by simp) _).setCell (p := ⟨M, 2, none⟩) (by simp) _).alloc _
  have HTV : Hid (TkB S M V (t.buf t.last next' h') c) := by
    have hm := ((HMw.out.set 1 (.int .i64 next')).set 2 (.slice na nh nc)).alloc (.cells #[.int .i64 next', .slice na nh nc] 57)
    rw [← hV, HTT.out.1, HTT.out.2.2] at hm
    have so : SameOn (fun g => S g ∧ g ≠ M) w V := ⟨HKV.out.size, fun g hg h => HKV.out.block g hg (by simp; exact h.2)⟩
    exact ⟨_, _, _, _, by simpa [Tr.buf] using hm, HHw.out.to so (fun _ _ h => h), HRw.out.2.1.to so (fun _ _ h => h), HRw.out.2.2.1.to so (fun _ _ h => h), HRw.out.2.2.2.to so (fun _ _ h => h)⟩
  have HVV : Hid (SlsIn (fun g => g ≠ M) V (.slice va n vc) l) := HVw.out.kept HKV.out (fun g h => by simpa using h)
  have hsV : w.heap.size ≤ V.heap.size := HKV.out.size
  clear HMw HRw HHw HVw HTT
  go_wp2_with fail
  rw [← hV]
  clear hV y0 y1 y2 y3 y4 y5 y6 y7 fM hMw
  go_loopw [19] (fun i wr => ∃ (k : Nat) (tk : Tr) (ck : Nat), k ≤ n ∧ i = .int .i64 k ∧ Hid (TkB S M wr tk ck) ∧ Hid (TkOk tk) ∧ Hid (R = tkN (l.drop k) (tk, ck)) ∧ ck ≤ c + k ∧ Hid (Kept [M] V wr))
    (fun i _ => n - (intOf i).toNat)
  case atStart => exact ⟨0, _, c, Nat.zero_le _, rfl, HTV.out, HOK.out, HRR.out, by omega, Kept.refl _ _⟩
  case round =>
    obtain ⟨k, tk, ck, hk, rfl, HT, HO, HR, hck, HK⟩ := hrel
    clear HTV HRR HOK
    by_cases hlt : k < n
    · have hlti : (k : Int) < (n : Int) := by omega
      have hkl : k < l.length := by rw [← HN.out]; exact hlt
      have HVr : Hid (SlsIn (fun g => g ≠ M) wr (.slice va n vc) l) := HVV.out.kept HK.out (fun g h => by simpa using h)
      obtain ⟨b, off, e1, hb, d0, d1, d2, d3, d4, d5, d6⟩ := HVr.out.at hkl
      obtain ⟨x, hx⟩ : ∃ x, x = l[k]?.getD Sk.zero := ⟨_, rfl⟩
      rw [← hx] at d0 d1 d2 d3 d4 d5 d6
      have hxc : x.chk = 0 := by
        rw [hx, List.getElem?_eq_getElem hkl, Option.getD_some]; exact HCH.out _ (List.getElem_mem _)
      have hs9 : w.heap.size ≤ wr.heap.size := Nat.le_trans hsV HK.out.size
      obtain ⟨E, hE⟩ : ∃ e, e = (tk1 tk x).2.2 := ⟨_, rfl⟩
      have HRX : Hid (R = if E = 0 then tkN (l.drop (k + 1)) ((tk1 tk x).1, ck + (tk1 tk x).2.1) else (Tr.zero, 0, E)) := by
        show R = _
        rw [HR.out, tkN_drop hkl, ← hx, ← hE]
      have HADD : Hid (∀ W : World, Below wr.heap.size wr W → Calls Tryz.prog 158 #[.pointer (some ⟨M, 0, none⟩), .agg #[.int .i64 x.n, .int .i64 x.p.seq, .int .i64 x.p.time, .bool x.p.f, .bool x.p.e, .bool x.p.k, .string x.p.t]] W fun e w' => e = .returned (.int .i64 E) ∧ Hid (TkB S M w' (tk1 tk x).1 (ck + (tk1 tk x).2.1 : Nat)) ∧ Hid (Kept [M] V w')) := fun W hW => by
        have hsz := hW.size
        refine (tkAdd_any S M tk ck x W (HT.out.below hW) HO.out.1 hxc (fun g hg => HSU.out g (by omega)) (by omega) (by omega)).mono ?_
        rintro e w' ⟨rfl, h2, h3⟩
        rw [hE]
        exact ⟨rfl, by simpa [Hid] using h2, (HK.out.below hW).trans h3⟩
      have HO2 : Hid (E = 0 → TkOk (tk1 tk x).1) := fun h => by
        rcases tk1_ok HO.out hxc with ⟨_, h'⟩ | h'
        · exact h'
        · rw [← hE, h] at h'; cases h'
      have hle := tk1_le tk x
      subst e1
      clear hx hE HR HT HO hxc
      go_upto_region 5 with fail
      obtain ⟨W1, hW1⟩ : ∃ X, X = wr.alloc (.cells #[.int .i64 x.n, .int .i64 x.p.seq, .int .i64 x.p.time, .bool x.p.f, .bool x.p.e, .bool x.p.k, .string x.p.t] 91) := ⟨_, rfl⟩
      have HB1 : Hid (Below wr.heap.size wr W1) := by rw [hW1]; exact (Below.refl _ _).alloc (Nat.le_refl _) _
      have KX : Hid (Blk W1 wr.heap.size #[.int .i64 x.n, .int .i64 x.p.seq, .int .i64 x.p.time, .bool x.p.f, .bool x.p.e, .bool x.p.k, .string x.p.t] 91) := Blk.newE hW1
      rw [← hW1]
      clear hW1 d0 d1 d2 d3 d4 d5 d6 hb HVr
      obtain ⟨d0, d1, d2, d3, d4, d5, d6⟩ := KX.out.sevenc
      go_wp2_with fail
      refine (HADD.out W1 HB1.out).mono ?_
      rintro e w2 ⟨rfl, HT2, HK2⟩
      clear d0 d1 d2 d3 d4 d5 d6 KX HB1 HADD
      by_cases hE0 : E = 0
      · have HRX' : Hid (R = tkN (l.drop (k + 1)) ((tk1 tk x).1, ck + (tk1 tk x).2.1)) := by show R = _; rw [HRX.out, if_pos hE0]
        have HO3 : Hid (TkOk (tk1 tk x).1) := HO2.out hE0
        clear HRX HO2
        subst hE0
        go_wp2_with fail
        go_roundw
        case rel => exact ⟨k + 1, _, _, by omega, by go_num, HT2.out, HO3.out, HRX'.out, by omega, HK2.out⟩
        case measure => simp [intOf]; omega
      · have HRX' : Hid (R = (Tr.zero, 0, E)) := by show R = _; rw [HRX.out, if_neg hE0]
        clear HRX HO2
        go_wp2
        go_ret
        rw [HRX'.out]
        exact ⟨rfl, fun h => absurd h hE0, HKV.out.trans HK2.out⟩
    · have hkn : k = n := by omega
      subst hkn
      have HRX' : Hid (R = (tk, ck, 0)) := by
        show R = _
        rw [HR.out, HN.out, List.drop_length]; rfl
      clear HR
      go_wp2
      go_ret
      rw [HRX'.out]
      exact ⟨rfl, fun _ => HT.out, HKV.out.trans HK.out⟩

end Go.Proofs.YtnpaejknoipicafGreat

namespace Go.Proofs.YtnpaejknoipicafGreat
open Go.RowKit

/-- the law's own slot -/
def lsk (n time : Int) (f e k : Bool) : Sk := ⟨n, ⟨n % 65536, time, f, e, k, ⟨#[116]⟩⟩⟩

set_option maxHeartbeats 400000 in
theorem lslot_any (n time : Int) (f e k : Bool) (w : World) (hn1 : 0 ≤ n) (hn2 : n ≤ 1000000000) :
    Calls Tryz.prog 47 #[.int .i64 n, .int .i64 time, .bool f, .bool e, .bool k] w fun r w' => r = .returned (lsk n time f e k).val ∧ Below w.heap.size w w' := by
  simp only [lsk, Sk.val]
  go_enter Tryz.func47, Tryz.ntmps47
  go_wp2
  exact bodyPost_ret (v := .agg #[.int .i64 n, .int .i64 (n % 65536), .int .i64 time, .bool f, .bool e, .bool k, .string ⟨#[116]⟩]) (by simp [results, Tryz.results47, go_sem]) rfl ⟨rfl, by go_grown⟩

end Go.Proofs.YtnpaejknoipicafGreat

namespace Go.Proofs.YtnpaejknoipicafGreat
open Go.RowKit

/-- Put, whatever it is handed -/
theorem bufPut_any (next : Int) (v : Value) (l : List Sk) (x : Sk) (w : World) (hv : Sls w v l) (hlen : l.length ≤ 9223372036854775807) :
    Calls Tryz.prog 113 #[.agg #[.int .i64 next, v], x.val] w fun e w' => ∃ hv' ov', e = .returned (.tuple #[.agg #[.int .i64 (putR next l x).1, hv'], ov', .int .i64 (putE next l x)]) ∧
      Fresh w.heap.size w' hv' (putR next l x).2.1 ∧ Fresh w.heap.size w' ov' (putR next l x).2.2 ∧ Below w.heap.size w w' := by
  by_cases hE : putE next l x = 0
  · have hp : pchk next l = 0 := by
      unfold putE at hE
      by_cases h : pchk next l = 0
      · exact h
      · rw [if_neg h] at hE; exact absurd hE h
    have hx : x.chk = 0 := by unfold putE at hE; rw [if_pos hp] at hE; exact hE
    have hr : putR next l x = putF next l x := by unfold putR; rw [if_pos hE]
    rw [hE, hr]
    exact bufPut_ok next v l x w hv ((pchk_right next l).1 hp) hx
  · have hr : putR next l x = (0, [], []) := by unfold putR; rw [if_neg hE]
    rw [hr]
    refine (bufPut_no next v l x w hv hlen hE).mono ?_
    rintro e w' ⟨rfl, hb⟩
    exact ⟨_, _, rfl, Fresh.nil _ _, Fresh.nil _ _, hb⟩
theorem bufFlush_any (next : Int) (v : Value) (l : List Sk) (w : World) (hv : Sls w v l) (hlen : l.length ≤ 9223372036854775807) :
    Calls Tryz.prog 114 #[.agg #[.int .i64 next, v]] w fun e w' => ∃ hv' ov', e = .returned (.tuple #[.agg #[.int .i64 (flushR next l).1, hv'], ov', .int .i64 (pchk next l)]) ∧
      Fresh w.heap.size w' hv' (flushR next l).2.1 ∧ Fresh w.heap.size w' ov' (flushR next l).2.2 ∧ Below w.heap.size w w' := by
  by_cases hE : pchk next l = 0
  · have hr : flushR next l = relF 0 next l [] := by unfold flushR; rw [if_pos hE]
    rw [hE, hr]
    exact bufFlush_ok next v l w hv ((pchk_right next l).1 hE)
  · have hr : flushR next l = (0, [], []) := by unfold flushR; rw [if_neg hE]
    rw [hr]
    refine (bufFlush_no next v l w hv hlen hE).mono ?_
    rintro e w' ⟨rfl, hb⟩
    exact ⟨_, _, rfl, Fresh.nil _ _, Fresh.nil _ _, hb⟩

abbrev bx (n : Int) : Sk := lsk n 1 true true true
theorem bx0 : (bx 70000).chk = 0 := by decide
theorem bx1 : (bx 70001).chk = 0 := by decide
theorem bx2 : (bx 70002).chk = 0 := by decide
theorem right0 : Right 0 [] := ⟨.inl ⟨rfl, rfl⟩, by decide, by simp, rfl⟩
theorem right1 : Right 70001 [] := ⟨.inr (by decide), by decide, by simp, rfl⟩
theorem right2 : Right 70001 [bx 70002] := ⟨.inr (by decide), by decide, by simp [bx2], rfl⟩
theorem put0 : putF 0 [] (bx 70000) = (70001, [], [bx 70000]) := by rfl
theorem put1 : putF 70001 [] (bx 70002) = (70001, [bx 70002], []) := by rfl
theorem put2 : putF 70001 [bx 70002] (bx 70001) = (70003, [], [bx 70001, bx 70002]) := by rfl
theorem flush2 : relF 0 70001 [bx 70002] [] = (70003, [], [bx 70002]) := by rfl

end Go.Proofs.YtnpaejknoipicafGreat

namespace Go.Proofs.YtnpaejknoipicafGreat
open Go.RowKit

/-- an operation of such a region -/
inductive Cm where
  | quiet (v : Value) (lim : Nat)
  | step (s : Nat)
  | fin (t : Nat) (f : Value → Value)
  | box
def cmAt (ks : List Cm) (i : Nat) : Cm := (ks[i]?).getD (.quiet undef 0)
def Cm.out (r : Nat → Value) (b : Nat → Option Nat) (i : Nat) : Cm → Value
  | .quiet v _ => v
  | .step s => r s
  | .fin t f => f (r t)
  | .box => match b i with
    | some g => .pointer (some ⟨g, 0, none⟩)
    | none => undef
def Cm.isBox : Cm → Bool
  | .box => true
  | _ => false
def putM (r : Nat → Value) (b : Nat → Option Nat) : Nat → List Cm → List Oper → Act → Act
  | k, d :: ks, o :: l, a => putM r b (k + 1) ks l (a.put o.dst (d.out r b k))
  | _, _, _, a => a
def updO (b : Nat → Option Nat) (i : Nat) (g : Nat) : Nat → Option Nat := fun j => if j = i then some g else b j
/-- the steps' places; what waits for what -/
def boxesOk (ks : List Cm) (l : List Oper) (st : List Nat) (n : Nat) : Bool :=
  decide (ks.length = l.length) && (l.all fun o => match o.dst with | some k => decide (k < n) | none => true) &&
  ((List.range st.length).all fun s => match st[s]? with
    | some i => decide (i < l.length) && (match cmAt ks i with | .step t => t == s | _ => false) && (s == 0 || (match st[s - 1]? with | some j => waits l i j | none => false))
    | none => false) &&
  ((List.range l.length).all fun i => match cmAt ks i with
    | .quiet _ lim => decide (st.length ≤ lim) || (match st[lim]? with | some j => waits l j i | none => false)
    | .step t => st[t]? == some i
    | .fin t _ => (List.range l.length).any fun j => waits l i j && (match cmAt ks j with | .step t' => t' == t | .fin t' _ => t' == t | _ => false)
    | .box => true)

section
variable {P : Program} {Q : Exit → Act → World → Prop}

structure RBx (ks : List Cm) (l : List Oper) (n m : Nat) (I : Nat → (Nat → Value) → (Nat → Option Nat) → World → Prop) (ls : Nat → Bool) (vs : Nat → Value) (s : Nat) (r : Nat → Value) (b : Nat → Option Nat) (w' : World) : Prop where
  lt : ∀ i, ls i = true → i < n
  steps : ∀ i t, i < n → cmAt ks i = .step t → (ls i = true ↔ t < s)
  fins : ∀ i t f, ls i = true → cmAt ks i = .fin t f → t < s
  box : ∀ i, i < n → cmAt ks i = .box → (ls i = true ↔ (b i).isSome = true)
  vals : ∀ i, ls i = true → vs i = (cmAt ks i).out r b i
  inv : I s r b w'
  le : s ≤ m
  closed : ∀ i j, ls j = true → waits l j i = true → ls i = true

theorem putM_all (L : Array Bool) (vs : Nat → Value) (r : Nat → Value) (b : Nat → Option Nat) : ∀ (l : List Oper) (k : Nat) (ks : List Cm) (a : Act), ks.length = l.length → (∀ i, i < l.length → L.getD (k + i) false = true) → (∀ i, i < l.length → vs (k + i) = (cmAt ks i).out r b (k + i)) → putL L vs k l a = putM r b k ks l a
  | [], _, [], _, _, _, _ => rfl
  | o :: l, k, d :: ks, a, hl, hL, hv => by
    simp only [putL, putM]
    rw [if_pos (by simpa using hL 0 (by simp)), show vs k = d.out r b k by simpa [cmAt] using hv 0 (by simp)]
    refine putM_all L vs r b l (k + 1) ks _ (by simpa using hl) (fun i hi => ?_) (fun i hi => ?_)
    · have := hL (i + 1) (by simpa using hi)
      rw [show k + (i + 1) = k + 1 + i by omega] at this; exact this
    · have := hv (i + 1) (by simpa using hi)
      rw [show k + (i + 1) = k + 1 + i by omega] at this
      simpa [cmAt] using this

theorem region_boxes {id : Nat} {a : Act} {w : World} {l : List Oper} (hm : P.follows .mixedOrders = true) (hB : regOk l = true) (ks : List Cm) (st : List Nat) (hK : boxesOk ks l st a.tmps.size = true)
    (I : Nat → (Nat → Value) → (Nat → Option Nat) → World → Prop) (h0 : I 0 (fun _ => undef) (fun _ => none) { w with drawn := w.drawn + 1 })
    (hstep : ∀ i o, l[i]? = some o → ∀ (a' : Act) (w' : World) (s : Nat) (r : Nat → Value) (b : Nat → Option Nat), I s r b w' → (∀ s, (l.all fun o => o.dst != some s) = true → a'.eval (.tmp s) = a.eval (.tmp s)) → (∀ j oj k, waits l i j = true → l[j]? = some oj → oj.dst = some k → a'.eval (.tmp k) = (cmAt ks j).out r b j) → (∀ j, waits l i j = true → cmAt ks j = .box → (b j).isSome = true) →
      match cmAt ks i with
      | .quiet v lim => s ≤ lim → (execOp a'.eval o).run P w' = .ok (.value v) w'
      | .step t => s = t → o.wp P a' w' (fun a'' w'' => ∃ v, a'' = a'.put o.dst v ∧ I (t + 1) (updR r t v) b w'') Q
      | .fin t f => t < s → (execOp a'.eval o).run P w' = .ok (.value (f (r t))) w'
      | .box => b i = none → ∃ ob, (execOp a'.eval o).run P w' = .ok (.value (.pointer (some ⟨w'.heap.size, 0, none⟩))) (w'.alloc ob) ∧ I s r (updO b i w'.heap.size) (w'.alloc ob))
    (hend : ∀ (r : Nat → Value) (b : Nat → Option Nat) (w' : World), I st.length r b w' → (∀ i, i < l.length → cmAt ks i = .box → ∃ g, b i = some g) → Q .normal (putM r b 0 ks l a) w') :
    (Code.region id l.toArray true).wp P Q a w := by
  simp only [boxesOk, Bool.and_eq_true, decide_eq_true_eq] at hK
  obtain ⟨⟨⟨hlen, hdst⟩, hst⟩, hall⟩ := hK
  have hap : dstsApart l = true := by simp only [regOk, Bool.and_eq_true] at hB; exact hB.1.1
  have hal : ∀ i, i < l.length → _ := fun i hi => List.all_eq_true.1 hall i (List.mem_range.2 hi)
  have hsl : ∀ s, s < st.length → _ := fun s hs => List.all_eq_true.1 hst s (List.mem_range.2 hs)
  have hstp : ∀ s, s < st.length → ∃ i, st[s]? = some i ∧ i < l.length ∧ cmAt ks i = .step s ∧ (0 < s → ∃ j, st[s - 1]? = some j ∧ waits l i j = true) := fun s hs => by
    have h := hsl s hs
    have e : st[s]? = some st[s] := List.getElem?_eq_getElem hs
    rw [e] at h
    simp only [Bool.and_eq_true, decide_eq_true_eq, Bool.or_eq_true, beq_iff_eq] at h
    refine ⟨st[s], e, h.1.1, ?_, fun h0 => ?_⟩
    · have h2 := h.1.2
      cases hk : cmAt ks st[s] with
      | quiet v lim => rw [hk] at h2; cases h2
      | fin t f => rw [hk] at h2; cases h2
      | box => rw [hk] at h2; cases h2
      | step t => rw [hk] at h2; simp at h2; rw [h2]
    · have h3 := h.2
      rcases h3 with h3 | h3
      · omega
      · have e2 : st[s - 1]? = some st[s - 1] := List.getElem?_eq_getElem (by omega)
        rw [e2] at h3
        exact ⟨_, e2, h3⟩
  have hst2 : ∀ i t, i < l.length → cmAt ks i = .step t → st[t]? = some i := fun i t hi hk => by
    have h := hal i hi
    rw [hk] at h
    simpa using h
  refine wp_region_inv hm hB (fun L vs w' => ∃ s r b, RBx ks l l.length st.length I (fun j => L.getD j false) vs s r b w') ?_ ?_ ?_
  · have hno : ∀ j, ¬ (Array.replicate l.length false).getD j false = true := fun j => by
      simp [Array.getD_eq_getD_getElem?, Array.getElem?_replicate]; split <;> simp
    exact ⟨0, fun _ => undef, fun _ => none, fun i h => absurd h (hno i), fun i t _ _ => ⟨fun h => absurd h (hno i), fun h => absurd h (Nat.not_lt_zero _)⟩, fun i _ _ h => absurd h (hno i), fun i _ _ => ⟨fun h => absurd h (hno i), fun h => by cases h⟩, fun i h => absurd h (hno i), h0, Nat.zero_le _, fun _ j h => absurd h (hno j)⟩
  · rintro L vs w' ⟨s, r, b, F⟩ i o ho hL hr
    have hi : i < l.length := (List.getElem?_eq_some_iff.1 ho).1
    have ni : L.getD i false = false := by simpa using listed_no hL
    have hset := setfun hL
    have hwt : ∀ j, waits l i j = true → L.getD j false = true := fun j hw => waits_spec hw ho hr
    have hfree : ∀ s, (l.all fun o => o.dst != some s) = true → (putL L vs 0 l a).eval (.tmp s) = a.eval (.tmp s) := fun s hs => putL_other l 0 a (fun p hp t ht e => by
      injection e with e
      subst e
      have := List.all_eq_true.1 hs p hp
      rw [ht] at this
      simp at this)
    have hvals : ∀ j oj k, waits l i j = true → l[j]? = some oj → oj.dst = some k → (putL L vs 0 l a).eval (.tmp k) = (cmAt ks j).out r b j := fun j oj k hw hoj hk => by
      have h1 := hwt j hw
      have hk2 := List.all_eq_true.1 hdst oj (List.mem_of_getElem? hoj)
      rw [hk] at hk2
      rw [putL_at h1 l 0 a oj hap (Nat.zero_le _) (by simpa using hoj) hk (by simpa using hk2)]
      exact F.vals j h1
    have hs := hstep i o ho (putL L vs 0 l a) w' s r b F.inv hfree hvals (fun j hw hj => (F.box j (F.lt j (hwt j hw)) hj).1 (hwt j hw))
    rw [hset]
    obtain ⟨ls, hls⟩ : ∃ ls : Nat → Bool, ls = fun j => L.getD j false := ⟨_, rfl⟩
    have hlsj : ∀ j, L.getD j false = ls j := fun j => by rw [hls]
    simp only [hlsj] at F ni hwt ⊢
    have hlt' : ∀ j, (decide (j = i) || ls j) = true → j < l.length := fun j hj => by
      simp only [Bool.or_eq_true, decide_eq_true_eq] at hj
      rcases hj with rfl | hj
      · exact hi
      · exact F.lt j hj
    have hcl : ∀ p j, (decide (j = i) || ls j) = true → waits l j p = true → (decide (p = i) || ls p) = true := fun p j hj hw => by
      simp only [Bool.or_eq_true, decide_eq_true_eq] at hj ⊢
      rcases hj with rfl | hj
      · exact .inr (hwt p hw)
      · exact .inr (F.closed p j hj hw)
    have hbxs : ∀ k, cmAt ks i = k → k.isBox = false → ∀ j, j < l.length → cmAt ks j = .box → ((decide (j = i) || ls j) = true ↔ (b j).isSome = true) := fun k h1 h2 j hj hjk => by
      have e : j ≠ i := fun e => by subst e; rw [h1] at hjk; subst hjk; cases h2
      simpa [e] using F.box j hj hjk
    have plain : ∀ (k : Cm) (v : Value), cmAt ks i = k → k.isBox = false → (∀ t, k ≠ .step t) → (∀ t f, k = .fin t f → t < s) → k.out r b i = v → ∃ s r b, RBx ks l l.length st.length I (fun j => decide (j = i) || ls j) (upd vs i v) s r b w' := fun k v hk h1 h2 h3 h4 => by
      refine ⟨s, r, b, hlt', ?_, ?_, hbxs k hk h1, ?_, F.inv, F.le, hcl⟩
      · intro j t hj hjk
        have e : j ≠ i := fun e => by subst e; rw [hk] at hjk; exact h2 t hjk
        simpa [e] using F.steps j t hj hjk
      · intro j t f hj hjk
        by_cases e : j = i
        · subst e; rw [hk] at hjk; exact h3 t f hjk
        · exact F.fins j t f (by simpa [e] using hj) hjk
      · intro j hj
        by_cases e : j = i
        · subst e; rw [upd_at, hk, h4]
        · rw [upd_ne e]; exact F.vals j (by simpa [e] using hj)
    cases hk : cmAt ks i with
    | fin t f =>
      rw [hk] at hs
      have hts : t < s := by
        have h := hal i hi
        rw [hk] at h
        obtain ⟨j, hjm, hj⟩ := List.any_eq_true.1 h
        simp only [Bool.and_eq_true] at hj
        have hjl := hwt j hj.1
        have h2 := hj.2
        cases hkj : cmAt ks j with
        | quiet v lim => rw [hkj] at h2; cases h2
        | box => rw [hkj] at h2; cases h2
        | step t' => rw [hkj] at h2; simp at h2; subst h2; exact (F.steps j t' (F.lt j hjl) hkj).1 hjl
        | fin t' f' => rw [hkj] at h2; simp at h2; subst h2; exact F.fins j t' f' hjl hkj
      exact oper_wp_ok (hs hts) ⟨_, rfl, plain (.fin t f) _ hk rfl (fun _ e => by cases e) (fun t' f' e => by injection e with e1; omega) rfl⟩
    | box =>
      rw [hk] at hs
      have hb0 : b i = none := by
        cases hbi : b i with
        | none => rfl
        | some g => have := (F.box i hi hk).2 (by rw [hbi]; rfl); rw [this] at ni; cases ni
      obtain ⟨ob, h1, h2⟩ := hs hb0
      refine oper_wp_ok h1 ⟨_, rfl, s, r, updO b i w'.heap.size, hlt', ?_, ?_, ?_, ?_, h2, F.le, hcl⟩
      · intro j t hj hjk
        have e : j ≠ i := fun e => by subst e; rw [hk] at hjk; cases hjk
        simpa [e] using F.steps j t hj hjk
      · intro j t f hj hjk
        have e : j ≠ i := fun e => by subst e; rw [hk] at hjk; cases hjk
        exact F.fins j t f (by simpa [e] using hj) hjk
      · intro j hj hjk
        by_cases e : j = i
        · subst e; simp [updO]
        · simpa [e, updO] using F.box j hj hjk
      · intro j hj
        by_cases e : j = i
        · subst e; rw [upd_at, hk]; simp [Cm.out, updO]
        · have hlj : ls j = true := by simpa [e] using hj
          rw [upd_ne e, F.vals j hlj]
          cases hkj : cmAt ks j with
          | quiet v' lim' => rfl
          | step t' => rfl
          | fin t' f' => rfl
          | box => simp [Cm.out, updO, e]
    | quiet v lim =>
      rw [hk] at hs
      have hle : s ≤ lim := by
        have h := hal i hi
        rw [hk] at h
        simp only [Bool.or_eq_true, decide_eq_true_eq] at h
        rcases h with h | h
        · exact Nat.le_trans F.le h
        · by_cases hlt : s ≤ lim
          · exact hlt
          · exfalso
            have hll : lim < st.length := by have := F.le; omega
            obtain ⟨j, e1, e2, e3, _⟩ := hstp lim hll
            rw [e1] at h
            have hlj := (F.steps j lim e2 e3).2 (by omega)
            rw [F.closed i j hlj h] at ni
            cases ni
      exact oper_wp_ok (hs hle) ⟨v, rfl, plain (.quiet v lim) v hk rfl (fun _ e => by cases e) (fun _ _ e => by cases e) rfl⟩
    | step t =>
      rw [hk] at hs
      have hti := hst2 i t hi hk
      have htl : t < st.length := (List.getElem?_eq_some_iff.1 hti).1
      have hst' : s = t := by
        have h1 : ¬ t < s := fun h => by rw [(F.steps i t hi hk).2 h] at ni; cases ni
        by_cases h0 : t = 0
        · omega
        · obtain ⟨i', e1, e2, e3, e4⟩ := hstp t htl
          rw [hti] at e1
          injection e1 with e1
          subst e1
          obtain ⟨j, q1, q2⟩ := e4 (by omega)
          obtain ⟨j', r1, r2, r3, _⟩ := hstp (t - 1) (by omega)
          rw [q1] at r1
          injection r1 with r1
          subst r1
          have := (F.steps j (t - 1) r2 r3).1 (hwt j q2)
          omega
      subst hst'
      refine Oper.wp_mono ?_ (hs rfl)
      rintro a'' w'' ⟨v, h1, h2⟩
      refine ⟨v, h1, s + 1, updR r s v, b, hlt', ?_, ?_, hbxs _ hk rfl, ?_, h2, htl, hcl⟩
      · intro j t' hj hjk
        by_cases e : j = i
        · subst e
          rw [hk] at hjk
          injection hjk with hjk
          subst hjk
          simp
        · have h3 := F.steps j t' hj hjk
          have hne : t' ≠ s := fun e' => by
            subst e'
            have := hst2 j t' hj hjk
            rw [hti] at this
            injection this with this
            exact e this.symm
          simp only [e, decide_false, Bool.false_or]
          rw [h3]; omega
      · intro j t' f hj hjk
        have e : j ≠ i := fun e => by subst e; rw [hk] at hjk; cases hjk
        have := F.fins j t' f (by simpa [e] using hj) hjk
        omega
      · intro j hj
        by_cases e : j = i
        · subst e; rw [upd_at, hk]; exact (updR_at r s v).symm
        · have hlj : ls j = true := by simpa [e] using hj
          rw [upd_ne e, F.vals j hlj]
          cases hkj : cmAt ks j with
          | quiet v' lim' => rfl
          | box => rfl
          | fin t' f' =>
            have := F.fins j t' f' hlj hkj
            exact congrArg f' (updR_ne (by omega)).symm
          | step t' =>
            have := (F.steps j t' (F.lt j hlj) hkj).1 hlj
            exact (updR_ne (by omega)).symm
  · rintro L vs w' ⟨s, r, b, F⟩ hlst
    have hs : s = st.length := by
      by_cases h : s < st.length
      · obtain ⟨i, e1, e2, e3, _⟩ := hstp s h
        have := (F.steps i s e2 e3).1 (hlst i e2)
        omega
      · have := F.le; omega
    subst hs
    rw [putM_all L vs r b l 0 ks a hlen (fun i hi => by rw [Nat.zero_add]; exact hlst i hi) (fun i hi => by rw [Nat.zero_add]; exact F.vals i (hlst i hi))]
    exact hend r b w' F.inv (fun i hi hk => Option.isSome_iff_exists.1 ((F.box i hi hk).1 (hlst i hi)))
end
end Go.Proofs.YtnpaejknoipicafGreat

namespace Go.Proofs.YtnpaejknoipicafGreat
open Go.RowKit Go.Sort

set_option maxHeartbeats 8000000 in
set_option maxRecDepth 100000 in
theorem numberOf_any (S : Nat → Prop) (M : Nat) (t : Tr) (c : Int) (p : Pk) (w : World) (hT : TkB S M w t c) (hp : p.chk = 0) :
    Calls Tryz.prog 111 #[.pointer (some ⟨M, 0, none⟩), p.val] w fun e w' => e = .returned (.tuple #[.int .i64 (numN t.last p), .int .i64 (numE t.last p)]) ∧ Below w.heap.size w w' := by
  obtain ⟨hv, bv, gv, ov, hM, hr⟩ := hT
  obtain ⟨p1, p2, _⟩ := Pk.chk_ok hp
  have y0 : w.cell? ⟨M, 0, none⟩ = some (.int .i64 t.last) := hM.cell rfl
  have hMw := hM.lt
  obtain ⟨last, hlast⟩ : ∃ x, x = t.last := ⟨_, rfl⟩
  rw [← hlast] at y0 ⊢
  clear hlast hM hr hp
  obtain ⟨W, hW⟩ : ∃ W, W = w.alloc (.cells #[.int .i64 p.seq, .int .i64 p.time, .bool p.f, .bool p.e, .bool p.k, .string p.t] 89) := ⟨_, rfl⟩
  have HB : Hid (Below w.heap.size w W) := by rw [hW]; exact (Below.refl _ _).alloc (Nat.le_refl _) _
  simp only [Pk.val]
  go_enter Tryz.func111, Tryz.ntmps111
  by_cases h0 : last = 0
  · have e1 : Hid (numN last p = p.seq + 65536 ∧ numE last p = 0) := by unfold numN numE; rw [if_pos h0, if_pos h0]; exact ⟨rfl, rfl⟩
    subst h0
    go_wp2
    rw [← hW]
    go_ret2
    rw [e1.out.1, e1.out.2]
    exact ⟨rfl, HB.out⟩
  · have e1 : Hid (numN last p = Cn.uwN last p.seq ∧ numE last p = Cn.uwE last p.seq) := by unfold numN numE; rw [if_neg h0, if_neg h0]; exact ⟨rfl, rfl⟩
    have h0b : (last == 0) = false := by simpa using h0
    go_wp2_with fail
    go_quiet ((go_at_call 157; refine Calls.quiet_of_same ((unwrap_any _ _ _).mono fun e w9 h => ⟨h.1, h.2.symm⟩)))
    rw [← hW]
    go_wp2
    go_ret2
    rw [e1.out.1, e1.out.2]
    exact ⟨rfl, below_drewN HB.out _⟩

theorem Fresh.slsIn {base : Nat} {S : Nat → Prop} {w : World} {v : Value} {l : List Sk} (h : Fresh base w v l) (hl : l.length ≤ 9223372036854775807) (hS : ∀ g, base ≤ g → S g) : SlsIn S w v l := ⟨h.1, hl, fun g hg _ => ⟨hS g (h.2 g hg).1, (h.2 g hg).2⟩⟩
theorem rel_len (most : Nat) {h : List Sk} {next : Int} (o : List Sk) (hu : upB (next - 1) h = true) : (relF most next h o).2.1.length ≤ h.length ∧ (relF most next h o).2.2.length ≤ o.length + h.length := by
  obtain ⟨p, i1, i2, _⟩ := rel_inv most h next o hu
  have : h.length = p.length + (relF most next h o).2.1.length := by rw [← List.length_append, ← i1]
  rw [i2, List.length_append]; omega

theorem rel_olen (most : Nat) : ∀ (h : List Sk) (next : Int) (o : List Sk), (relF most next h o).2.2.length ≤ h.length + o.length
  | [], next, o => by simp [relF]
  | x :: r, next, o => by
    simp only [relF]
    split
    · have := rel_olen most r (next + 1) (o ++ [x]); simp at this ⊢; omega
    · split
      · simp
      · have := rel_olen most r (x.n + 1) (o ++ [x]); simp at this ⊢; omega
theorem put_olen {next : Int} {l : List Sk} {x : Sk} (hR : Right next l) : (putF next l x).2.2.length ≤ 100 := by
  have h4 := hR.2.1
  have key : ∀ (n' : Int), (relF 4 n' (insF l x) []).2.2.length ≤ (insF l x).length + 0 := fun n' => rel_olen 4 (insF l x) n' []
  have hi : (insF l x).length = l.length + 1 := by
    unfold insF putAt
    rw [List.length_append, List.length_cons, List.length_take, List.length_drop]; omega
  unfold putF
  repeat' split
  all_goals first | (simp; done) | (refine Nat.le_trans (key _) ?_; omega)

set_option maxHeartbeats 8000000 in
set_option maxRecDepth 100000 in
theorem tkDrain_any (S : Nat → Prop) (M : Nat) (t : Tr) (w : World) (hT : TkB S M w t (0 : Nat)) (hR : Right t.next t.h) (hok : TkOk t) (hS : ∀ g, w.heap.size ≤ g → S g) :
    Calls Tryz.prog 69 #[.pointer (some ⟨M, 0, none⟩)] w fun e w' => e = .returned (.int .i64 (drainR t).2.2) ∧ ((drainR t).2.2 = 0 → TkB S M w' (drainR t).1 ((drainR t).2.1 : Nat)) ∧ Kept [M] w w' := by
  have hMw := hT.lt
  obtain ⟨hv, bv, gv, ov, hM, hr⟩ := hT
  obtain ⟨ha, hc, ba, bc, ga, gc, oa, oc, eh, eb, eg, eo⟩ := hr.slices
  have hup : upB (t.next - 1) t.h = true := upB_mono hR.2.2.2 (by omega)
  obtain ⟨l1, l2⟩ := rel_len 0 [] hup
  have h4 := hR.2.1
  obtain ⟨_, _, i3, _, _⟩ := flush_inv hR
  obtain ⟨N1, hN1⟩ : ∃ x, x = (relF 0 t.next t.h []).1 := ⟨_, rfl⟩
  obtain ⟨h1, hh1⟩ : ∃ x, x = (relF 0 t.next t.h []).2.1 := ⟨_, rfl⟩
  obtain ⟨o1, ho1⟩ : ∃ x, x = (relF 0 t.next t.h []).2.2 := ⟨_, rfl⟩
  obtain ⟨R, hRR⟩ : ∃ x, x = drainR t := ⟨_, rfl⟩
  have hR2 : R = tkN o1 (t.buf t.last N1 h1, 0) := by rw [hRR, ho1, hN1, hh1]; rfl
  rw [← ho1] at i3 l2
  rw [← hh1] at l1
  obtain ⟨next, hnext⟩ : ∃ x, x = t.next := ⟨_, rfl⟩
  obtain ⟨hn, hhn⟩ : ∃ x, x = t.h.length := ⟨_, rfl⟩
  rw [← hhn] at eh
  have HFL : Hid (Calls Tryz.prog 114 #[.agg #[.int .i64 next, hv]] w fun e w' => ∃ pa pn pc qa qn qc, e = .returned (.tuple #[.agg #[.int .i64 N1, .slice pa pn pc], .slice qa qn qc, .int .i64 0]) ∧ Hid (SlsIn (fun g => S g ∧ g ≠ M) w' (.slice pa pn pc) h1) ∧ Hid (SlsIn (fun g => g ≠ M) w' (.slice qa qn qc) o1) ∧ Below w.heap.size w w') := by
    rw [hnext]
    refine (bufFlush_any t.next hv t.h w hr.1.1 (by omega)).mono ?_
    rintro e w' ⟨hv', ov', rfl, f1, f2, f3⟩
    have hp0 : pchk t.next t.h = 0 := (bchk_right _ _).2 hR
    have e1 : flushR t.next t.h = relF 0 t.next t.h [] := by unfold flushR; rw [if_pos hp0]
    rw [e1] at f1 f2 ⊢
    rw [← hh1] at f1
    rw [← ho1] at f2
    obtain ⟨pa, pc, e2⟩ := f1.1.len
    obtain ⟨qa, qc, e3⟩ := f2.1.len
    subst e2 e3
    rw [hp0, ← hN1]
    simp only [List.length_nil] at l2
    exact ⟨pa, _, pc, qa, _, qc, rfl, f1.slsIn (by omega) (fun g hg => ⟨hS g hg, by omega⟩), f2.slsIn (by omega) (fun g hg => by omega), f3⟩
  have HPASS : Hid (∀ (W : World) (pv qv : Value), Below w.heap.size w W → SlsIn (fun g => S g ∧ g ≠ M) W pv h1 → SlsIn (fun g => g ≠ M) W qv o1 → Calls Tryz.prog 112 #[.pointer (some ⟨M, 0, none⟩), .agg #[.int .i64 N1, pv], qv, .int .i64 0] W fun e w' => e = .returned (.int .i64 R.2.2) ∧ (R.2.2 = 0 → TkB S M w' R.1 (R.2.1 : Nat)) ∧ Kept [M] w w') := fun W pv qv hW q1 q2 => by
    have hsz := hW.size
    simp only [List.length_nil] at l2
    refine (tkPass_any S M t 0 N1 pv qv h1 o1 W (TkB.below ⟨hv, bv, gv, ov, hM, hr⟩ hW) hok q1 q2 (fun x hx => hR.2.2.1 x (i3 x hx).1) (by omega) (fun g hg => hS g (by omega)) (by omega)).mono ?_
    rintro e w' ⟨rfl, a1, a2⟩
    rw [← hR2] at a1 ⊢
    exact ⟨rfl, a1, ((Kept.refl [M] w).below hW).trans a2⟩
  obtain ⟨y0, y1, y2, y3, y4, y5, y6, y7⟩ := hM.eight
  rw [← hnext] at y1
  rw [← hRR]
  clear hup l1 l2 h4 i3 hN1 hh1 ho1 hRR hR2 hnext hhn hM hr hR hok hS y0 y3 y4 y5 y6 y7
  subst eh
  go_enter Tryz.func69, Tryz.ntmps69
  go_wp2_with fail
  refine HFL.out.mono ?_
  rintro e w1 ⟨pa, pn, pc, qa, qn, qc, rfl, q1, q2, b1⟩
  have HP := HPASS.out w1 _ _ b1 q1.out q2.out
  have HP' : Hid (Calls Tryz.prog 112 #[.pointer (some ⟨M, 0, none⟩), .agg #[.int .i64 N1, .slice pa pn pc], .slice qa qn qc, .int .i64 0] w1 fun e w' => e = .returned (.int .i64 R.2.2) ∧ Hid (R.2.2 = 0 → TkB S M w' R.1 (R.2.1 : Nat)) ∧ Hid (Kept [M] w w')) := HP
  clear HP HPASS HFL q1 q2 b1
  go_wp2_with fail
  refine HP'.out.mono ?_
  rintro e w2 ⟨rfl, a1, a2⟩
  go_wp2
  go_ret
  exact ⟨rfl, a1.out, a2.out⟩

theorem Blk.sixc {w : World} {b : Nat} {x0 x1 x2 x3 x4 x5 : Value} {t : TypeId} (h : Blk w b #[x0, x1, x2, x3, x4, x5] t) :
    w.cell? ⟨b, 0, none⟩ = some x0 ∧ w.cell? ⟨b, 1, none⟩ = some x1 ∧ w.cell? ⟨b, 2, none⟩ = some x2 ∧ w.cell? ⟨b, 3, none⟩ = some x3 ∧ w.cell? ⟨b, 4, none⟩ = some x4 ∧ w.cell? ⟨b, 5, none⟩ = some x5 :=
  ⟨h.cell rfl, h.cell rfl, h.cell rfl, h.cell rfl, h.cell rfl, h.cell rfl⟩

set_option maxHeartbeats 16000000 in
set_option maxRecDepth 100000 in
theorem tkFeed_any (S : Nat → Prop) (M : Nat) (t : Tr) (s : List UInt8) (w : World) (hT : TkB S M w t (0 : Nat)) (hcl : t.last = 0 ∨ Cn.isNB t.last = true) (hR : Right t.next t.h) (hok : TkOk t) (hS : ∀ g, w.heap.size ≤ g → S g) :
    Calls Tryz.prog 67 #[.pointer (some ⟨M, 0, none⟩), .string (ba s)] w fun e w' => e = .returned (.int .i64 (feedR t s).2.2) ∧ ((feedR t s).2.2 = 0 → TkB S M w' (feedR t s).1 ((feedR t s).2.1 : Nat)) ∧ Kept [M] w w' := by
  have hMw := hT.lt
  have HT : Hid (TkB S M w t (0 : Nat)) := hT
  obtain ⟨hv, bv, gv, ov, hM, hr⟩ := hT
  obtain ⟨ha, hc, ba', bc, ga, gc, oa, oc, eh, eb, eg, eo⟩ := hr.slices
  obtain ⟨p, hp⟩ : ∃ x, x = (Pk.dec s).1 := ⟨_, rfl⟩
  obtain ⟨D, hD⟩ : ∃ x, x = (Pk.dec s).2 := ⟨_, rfl⟩
  obtain ⟨n, hn⟩ : ∃ x, x = numN t.last p := ⟨_, rfl⟩
  obtain ⟨NE, hNE⟩ : ∃ x, x = numE t.last p := ⟨_, rfl⟩
  obtain ⟨last, hlast⟩ : ∃ x, x = t.last := ⟨_, rfl⟩
  obtain ⟨next, hnext⟩ : ∃ x, x = t.next := ⟨_, rfl⟩
  obtain ⟨first, hfirst⟩ : ∃ x, x = t.first := ⟨_, rfl⟩
  obtain ⟨R, hRR⟩ : ∃ x, x = feedP t n p := ⟨_, rfl⟩
  obtain ⟨F, hF⟩ : ∃ x, x = feedR t s := ⟨_, rfl⟩
  have HF1 : Hid (¬ D = 0 → F = (Tr.zero, 0, D)) := fun h => by rw [hF]; unfold feedR; rw [← hD, if_neg h]
  have HF2 : Hid (D = 0 → ¬ NE = 0 → F = (Tr.zero, 0, NE)) := fun h h2 => by rw [hF]; unfold feedR; rw [← hD, if_pos h, ← hp, ← hNE, if_neg h2]
  have HF3 : Hid (D = 0 → NE = 0 → F = R) := fun h h2 => by rw [hF]; unfold feedR; rw [← hD, if_pos h, ← hp, ← hNE, if_pos h2, ← hn, ← hRR]
  have HPC : Hid (D = 0 → p.chk = 0) := fun h => by
    rcases Pk.dec_or s with ⟨_, h2⟩ | ⟨_, h2, _⟩
    · rw [← hD, h] at h2; cases h2
    · rw [hp]; exact h2
  have HDEC : Hid (Calls Tryz.prog 110 #[.string (ba s)] w fun e w' => e = .returned (.tuple #[.agg #[.int .i64 p.seq, .int .i64 p.time, .bool p.f, .bool p.e, .bool p.k, .string p.t], .int .i64 D]) ∧ Below w.heap.size w w') := by
    rw [hp, hD]; exact decode_any s w
  have HNO : Hid (D = 0 → ∀ W : World, Below w.heap.size w W → Calls Tryz.prog 111 #[.pointer (some ⟨M, 0, none⟩), .agg #[.int .i64 p.seq, .int .i64 p.time, .bool p.f, .bool p.e, .bool p.k, .string p.t]] W fun e w' => e = .returned (.tuple #[.int .i64 n, .int .i64 NE]) ∧ Below W.heap.size W w') := fun h W hW => by
    rw [hn, hNE]; exact numberOf_any S M t _ p W (HT.out.below hW) (HPC.out h)
  -- what comes of Put and pass, the number known
  have HGO : Hid (D = 0 → NE = 0 → ∃ N1 h1 o1, R = tkN o1 (t.buf (max t.last n) N1 h1, 0) ∧ (∀ W : World, w.heap.size ≤ W.heap.size → M < w.heap.size → SlsIn (fun g => S g ∧ g ≠ M) W hv t.h → Calls Tryz.prog 113 #[.agg #[.int .i64 next, hv], .agg #[.int .i64 n, .int .i64 p.seq, .int .i64 p.time, .bool p.f, .bool p.e, .bool p.k, .string p.t]] W fun e w' => ∃ pa pn pc qa qn qc, e = .returned (.tuple #[.agg #[.int .i64 N1, .slice pa pn pc], .slice qa qn qc, .int .i64 0]) ∧ Hid (SlsIn (fun g => S g ∧ g ≠ M) w' (.slice pa pn pc) h1) ∧ Hid (SlsIn (fun g => g ≠ M) w' (.slice qa qn qc) o1) ∧ Below W.heap.size W w') ∧ (∀ (W : World) (pv qv : Value), w.heap.size ≤ W.heap.size → TkB S M W (t.buf (max t.last n) t.next t.h) (0 : Nat) → SlsIn (fun g => S g ∧ g ≠ M) W pv h1 → SlsIn (fun g => g ≠ M) W qv o1 → Calls Tryz.prog 112 #[.pointer (some ⟨M, 0, none⟩), .agg #[.int .i64 N1, pv], qv, .int .i64 0] W fun e w' => e = .returned (.int .i64 R.2.2) ∧ Hid (R.2.2 = 0 → TkB S M w' R.1 (R.2.1 : Nat)) ∧ Hid (Kept [M] W w'))) := fun h0 h2 => by
    have hpc := HPC.out h0
    have hx : (Sk.mk n p).chk = 0 := by rw [hn]; exact num_slot hpc hcl (by rw [← hNE]; exact h2)
    obtain ⟨i1, i2, i3, i4, i5, i6, i7⟩ := put_inv hR hx
    obtain ⟨N1, hN1⟩ : ∃ x, x = (putF t.next t.h ⟨n, p⟩).1 := ⟨_, rfl⟩
    obtain ⟨h1, hh1⟩ : ∃ x, x = (putF t.next t.h ⟨n, p⟩).2.1 := ⟨_, rfl⟩
    obtain ⟨o1, ho1⟩ : ∃ x, x = (putF t.next t.h ⟨n, p⟩).2.2 := ⟨_, rfl⟩
    have hR2 : R = tkN o1 (t.buf (max t.last n) N1 h1, 0) := by rw [hRR, ho1, hN1, hh1]; rfl
    have hlo : o1.length ≤ 100 := by rw [ho1]; exact put_olen hR
    have hlh : h1.length ≤ 4 := by rw [hh1]; exact i1.2.1
    have hoc : ∀ y ∈ o1, y.chk = 0 := fun y hy => by
      rw [ho1] at hy
      rcases (i3 y hy).1 with e | e
      · rw [e]; exact hx
      · exact hR.2.2.1 y e
    refine ⟨N1, h1, o1, hR2, fun W hsz hMl hsl => ?_, fun W pv qv hsz htk q1 q2 => ?_⟩
    · rw [hnext]
      refine (bufPut_any t.next hv t.h ⟨n, p⟩ W hsl.1 hsl.2.1).mono ?_
      rintro e w' ⟨hv', ov', rfl, f1, f2, f3⟩
      have hp0 : pchk t.next t.h = 0 := (bchk_right _ _).2 hR
      have e0 : putE t.next t.h ⟨n, p⟩ = 0 := by unfold putE; rw [if_pos hp0]; exact hx
      have e1 : putR t.next t.h ⟨n, p⟩ = putF t.next t.h ⟨n, p⟩ := by unfold putR; rw [if_pos e0]
      rw [e1] at f1 f2 ⊢
      rw [← hh1] at f1
      rw [← ho1] at f2
      obtain ⟨pa, pc, e2⟩ := f1.1.len
      obtain ⟨qa, qc, e3⟩ := f2.1.len
      subst e2 e3
      rw [e0, ← hN1]
      exact ⟨pa, _, pc, qa, _, qc, rfl, f1.slsIn (by omega) (fun g hg => ⟨hS g (by omega), by omega⟩), f2.slsIn (by omega) (fun g hg => by omega), f3⟩
    · refine (tkPass_any S M (t.buf (max t.last n) t.next t.h) 0 N1 pv qv h1 o1 W htk hok q1 q2 hoc hlo (fun g hg => hS g (by omega)) (by omega)).mono ?_
      rintro e w' ⟨rfl, a1, a2⟩
      have e9 : (t.buf (max t.last n) t.next t.h).buf (t.buf (max t.last n) t.next t.h).last N1 h1 = t.buf (max t.last n) N1 h1 := rfl
      rw [e9, ← hR2] at a1 ⊢
      exact ⟨rfl, a1, a2⟩
  have HSUS : Hid (∀ g, w.heap.size ≤ g → S g) := hS
  have HR0 : Hid (TrIn (fun g => S g ∧ g ≠ M) w hv bv gv ov t) := hr
  obtain ⟨hn', hhn⟩ : ∃ x, x = t.h.length := ⟨_, rfl⟩
  obtain ⟨bn, hbn⟩ : ∃ x, x = t.o.length := ⟨_, rfl⟩
  obtain ⟨ln, hln⟩ : ∃ x, x = t.L.length := ⟨_, rfl⟩
  obtain ⟨lo, hlo⟩ : ∃ x, x = t.O.length := ⟨_, rfl⟩
  rw [← hhn] at eh
  rw [← hbn] at eb
  rw [← hln] at eg
  rw [← hlo] at eo
  have HTT : Hid (last = t.last ∧ next = t.next ∧ first = t.first) := ⟨hlast, hnext, hfirst⟩
  have HMX : Hid (max t.last n = max last n) := by show _ = _; rw [hlast]
  rw [← hlast, ← hnext, ← hfirst] at hM
  have HM : Hid (Blk w M #[.int .i64 last, .int .i64 next, hv, bv, .int .i64 first, gv, ov, .int .i64 (0 : Nat)] 167) := hM
  rw [← hF]
  clear hhn hbn hln hlo hlast hnext hfirst hM hr hR hok hS hcl hp hD hn hNE hRR hF
  subst eh eb eg eo
  go_enter Tryz.func67, Tryz.ntmps67
  go_wp2_with fail
  refine HDEC.out.mono ?_
  rintro e w1 ⟨rfl, b1⟩
  obtain ⟨W1, hW1⟩ : ∃ X, X = w1.alloc (.cells #[.int .i64 p.seq, .int .i64 p.time, .bool p.f, .bool p.e, .bool p.k, .string p.t] 89) := ⟨_, rfl⟩
  have HB1 : Hid (Below w.heap.size w W1) := by rw [hW1]; exact b1.alloc b1.size _
  have HP1 : Hid (Blk W1 w1.heap.size #[.int .i64 p.seq, .int .i64 p.time, .bool p.f, .bool p.e, .bool p.k, .string p.t] 89) := Blk.newE hW1
  have hs1 : w.heap.size ≤ w1.heap.size := b1.size
  clear HDEC b1
  by_cases hD0 : D = 0
  case neg =>
    have HFX : Hid (F = (Tr.zero, 0, D)) := HF1.out hD0
    go_wp2
    rw [← hW1]
    go_ret
    rw [HFX.out]
    exact ⟨rfl, fun h => absurd h hD0, (Kept.refl [M] w).below HB1.out⟩
  have HNO' : Hid (∀ W : World, Below w.heap.size w W → Calls Tryz.prog 111 #[.pointer (some ⟨M, 0, none⟩), .agg #[.int .i64 p.seq, .int .i64 p.time, .bool p.f, .bool p.e, .bool p.k, .string p.t]] W fun e w' => e = .returned (.tuple #[.int .i64 n, .int .i64 NE]) ∧ Below W.heap.size W w') := HNO.out hD0
  have HG2 := HGO.out hD0
  have HG3 : Hid (NE = 0 → _) := HG2
  have HF2' : Hid (¬ NE = 0 → F = (Tr.zero, 0, NE)) := HF2.out hD0
  have HF3' : Hid (NE = 0 → F = R) := HF3.out hD0
  obtain ⟨j0, j1, j2, j3, j4, j5⟩ := HP1.out.sixc
  clear HG2 HGO HNO HF1 HF2 HF3
  subst hD0
  go_upto_region 4 with fail
  rw [← hW1]
  clear hW1
  go_wp2_with fail
  refine (HNO'.out W1 HB1.out).mono ?_
  rintro e w2 ⟨rfl, b2⟩
  have HB2 : Hid (Below w.heap.size w w2) := HB1.out.trans (b2.mono HB1.out.size)
  have HP2 : Hid (Blk w2 w1.heap.size #[.int .i64 p.seq, .int .i64 p.time, .bool p.f, .bool p.e, .bool p.k, .string p.t] 89) := HP1.out.below b2 HP1.out.lt
  clear b2 HB1 HP1 j0 j1 j2 j3 j4 j5 HNO'
  by_cases hN0 : NE = 0
  case neg =>
    have HFX : Hid (F = (Tr.zero, 0, NE)) := HF2'.out hN0
    go_wp2
    go_ret
    rw [HFX.out]
    exact ⟨rfl, fun h => absurd h hN0, (Kept.refl [M] w).below HB2.out⟩
  obtain ⟨N1, h1, o1, hR2, hput, hpass⟩ := HG3.out hN0
  have HRF : Hid (F = R) := HF3'.out hN0
  have HM2 := HM.out.below HB2.out hMw
  obtain ⟨y0, y1, y2, y3, y4, y5, y6, y7⟩ := HM2.eight
  have fM := HM2.free
  have lM := HM2.lt
  have hB5 : w1.heap.size ≠ M := by omega
  obtain ⟨W, hW⟩ : ∃ X, X = w2.setCell ⟨M, 0, none⟩ (.int .i64 (max last n)) := ⟨_, rfl⟩
  have HKW : Hid (Kept [M] w W) := by rw [hW]; exact ((Kept.refl [M] w).below HB2.out).setCell (p := ⟨M, 0, none⟩) (by simp) _
  have HPW : Hid (Blk W w1.heap.size #[.int .i64 p.seq, .int .i64 p.time, .bool p.f, .bool p.e, .bool p.k, .string p.t] 89) := by rw [hW]; exact HP2.out.other (a := ⟨M, 0, none⟩) hB5 _
  have HMW : Hid (Blk W M #[.int .i64 (max last n), .int .i64 next, .slice ha hn' hc, .slice ba' bn bc, .int .i64 first, .slice ga ln gc, .slice oa lo oc, .int .i64 (0 : Nat)] 167) := by
    have := HM2.set 0 (.int .i64 (max last n))
    rw [hW]; simpa [Hid] using this
  have HRW : Hid (TrIn (fun g => S g ∧ g ≠ M) W (.slice ha hn' hc) (.slice ba' bn bc) (.slice ga ln gc) (.slice oa lo oc) t) := by
    have h2 := HR0.out.below HB2.out
    exact h2.to ⟨by rw [hW]; simp, fun g _ h => by rw [hW, Below.heap_setCell _ _ _ _ (by exact h.2)]⟩ (fun _ _ h => h)
  have HTW : Hid (TkB S M W (t.buf (max t.last n) t.next t.h) (0 : Nat)) := by
    refine ⟨_, _, _, _, ?_, HRW.out⟩
    have := HMW.out
    rw [HTT.out.2.1, HTT.out.2.2, ← HMX.out] at this
    exact this
  have hsW : w.heap.size ≤ W.heap.size := HKW.out.size
  have HPUT : Hid (∀ w', Below W.heap.size W w' → Calls Tryz.prog 113 #[.agg #[.int .i64 next, .slice ha hn' hc], .agg #[.int .i64 n, .int .i64 p.seq, .int .i64 p.time, .bool p.f, .bool p.e, .bool p.k, .string p.t]] w' fun e w'' => ∃ pa pn pc qa qn qc, e = .returned (.tuple #[.agg #[.int .i64 N1, .slice pa pn pc], .slice qa qn qc, .int .i64 0]) ∧ Hid (SlsIn (fun g => S g ∧ g ≠ M) w'' (.slice pa pn pc) h1) ∧ Hid (SlsIn (fun g => g ≠ M) w'' (.slice qa qn qc) o1) ∧ Below w'.heap.size w' w'') := fun w' hb => hput w' (Nat.le_trans hsW hb.size) hMw (HRW.out.1.below hb)
  have HPASS : Hid (∀ (w' : World) (pv qv : Value), Below W.heap.size W w' → SlsIn (fun g => S g ∧ g ≠ M) w' pv h1 → SlsIn (fun g => g ≠ M) w' qv o1 → Calls Tryz.prog 112 #[.pointer (some ⟨M, 0, none⟩), .agg #[.int .i64 N1, pv], qv, .int .i64 0] w' fun e w'' => e = .returned (.int .i64 R.2.2) ∧ Hid (R.2.2 = 0 → TkB S M w'' R.1 (R.2.1 : Nat)) ∧ Hid (Kept [M] W w'')) := fun w' pv qv hb q1 q2 => by
    refine (hpass w' pv qv (Nat.le_trans hsW hb.size) (HTW.out.below hb) q1 q2).mono ?_
    rintro e w'' ⟨rfl, a1, a2⟩
    exact ⟨rfl, a1, ((Kept.refl [M] W).below hb).trans a2.out⟩
  clear hput hpass hR2 HG3 HF2' HF3' HM2 HRW HTW HR0 HP2 HB2 HM HT HTT HMX HSUS HPC
  subst hN0
  obtain ⟨B, hBe⟩ : ∃ x, x = w1.heap.size := ⟨_, rfl⟩
  rw [← hBe] at HPW
  go_upto_region 8 with fail
  have hmx : (if last < n then n else last) = max last n := by split <;> omega
  rw [hmx, ← hW, ← hBe]
  have hBM : B ≠ M := by omega
  clear hmx hW hBe y0 y1 y2 y3 y4 y5 y6 y7 fM lM hB5
  refine region_boxes (by kernel_rfl) (by kernel_rfl) [.quiet (.pointer (some ⟨M, 0, none⟩)) 3, .quiet (.pointer (some ⟨M, 0, none⟩)) 3, .quiet (.pointer (some ⟨M, 0, none⟩)) 3, .quiet (.pointer (some ⟨M, 0, none⟩)) 3, .quiet (.pointer (some ⟨M, 1, none⟩)) 3, .quiet (.agg #[.int .i64 next, .slice ha hn' hc]) 0, .quiet (.int .i64 n) 3, .quiet (.agg #[.int .i64 p.seq, .int .i64 p.time, .bool p.f, .bool p.e, .bool p.k, .string p.t]) 3, .quiet (.agg #[.int .i64 n, .int .i64 p.seq, .int .i64 p.time, .bool p.f, .bool p.e, .bool p.k, .string p.t]) 3, .step 0, .fin 0 (exT 0), .fin 0 (exT 1), .fin 0 (exT 2), .step 1, .step 2] [9, 13, 14] (by kernel_rfl)
    (fun s r _ w' => (0 < s → ∃ pa pn pc qa qn qc, r 0 = .tuple #[.agg #[.int .i64 N1, .slice pa pn pc], .slice qa qn qc, .int .i64 0]) ∧ (match s with
      | 0 => Below W.heap.size W w'
      | 1 => Below W.heap.size W w' ∧ ∃ pa pn pc qa qn qc, r 0 = .tuple #[.agg #[.int .i64 N1, .slice pa pn pc], .slice qa qn qc, .int .i64 0] ∧ SlsIn (fun g => S g ∧ g ≠ M) w' (.slice pa pn pc) h1 ∧ SlsIn (fun g => g ≠ M) w' (.slice qa qn qc) o1
      | 2 => Kept [M] W w' ∧ r 1 = .int .i64 R.2.2 ∧ (R.2.2 = 0 → TkB S M w' R.1 (R.2.1 : Nat))
      | _ => Kept [M] W w' ∧ r 2 = .int .i64 R.2.2 ∧ (R.2.2 = 0 → TkB S M w' R.1 (R.2.1 : Nat))
      )) ⟨fun h => absurd h (Nat.lt_irrefl _), (Below.refl _ W).drew⟩ ?step ?fin
  case step =>
    intro i o ho a' w' s r b ⟨hr0, hI⟩ hfree hvals hbx
    have f0 : a'.eval (.tmp 0) = .pointer (some ⟨M, 0, none⟩) := (hfree 0 (by kernel_rfl)).trans rfl
    have f7 : a'.eval (.tmp 7) = .int .i64 n := (hfree 7 (by kernel_rfl)).trans rfl
    have f5 : a'.eval (.tmp 5) = .pointer (some ⟨B, 0, none⟩) := (hfree 5 (by kernel_rfl)).trans rfl
    match i, ho with
    | 0, ho =>
      simp at ho; subst ho
      show s ≤ 3 → (execOp a'.eval _).run _ w' = .ok (.value _) w'
      intro hs
      generalize a'.eval = ρ at *
      simp [execOp, go_sem, f0]
    | 1, ho =>
      simp at ho; subst ho
      show s ≤ 3 → (execOp a'.eval _).run _ w' = .ok (.value _) w'
      intro hs
      generalize a'.eval = ρ at *
      simp [execOp, go_sem, f0]
    | 2, ho =>
      simp at ho; subst ho
      show s ≤ 3 → (execOp a'.eval _).run _ w' = .ok (.value _) w'
      intro hs
      have e37 : a'.eval (.tmp 37) = .pointer (some ⟨M, 0, none⟩) := hvals 1 _ _ (by kernel_rfl) rfl rfl
      generalize a'.eval = ρ at *
      simp [execOp, go_sem, e37]
    | 3, ho =>
      simp at ho; subst ho
      show s ≤ 3 → (execOp a'.eval _).run _ w' = .ok (.value _) w'
      intro hs
      have e38 : a'.eval (.tmp 38) = .pointer (some ⟨M, 0, none⟩) := hvals 2 _ _ (by kernel_rfl) rfl rfl
      generalize a'.eval = ρ at *
      simp [execOp, go_sem, e38]
    | 4, ho =>
      simp at ho; subst ho
      show s ≤ 3 → (execOp a'.eval _).run _ w' = .ok (.value _) w'
      intro hs
      have e39 : a'.eval (.tmp 39) = .pointer (some ⟨M, 0, none⟩) := hvals 3 _ _ (by kernel_rfl) rfl rfl
      generalize a'.eval = ρ at *
      simp [execOp, go_sem, e39]
    | 5, ho =>
      simp at ho; subst ho
      show s ≤ 0 → (execOp a'.eval _).run _ w' = .ok (.value _) w'
      intro hs
      have e40 : a'.eval (.tmp 40) = .pointer (some ⟨M, 1, none⟩) := hvals 4 _ _ (by kernel_rfl) rfl rfl
      obtain rfl : s = 0 := by omega
      have hB : Below W.heap.size W w' := hI
      obtain ⟨y0, y1, y2, y3, y4, y5, y6, y7⟩ := (HMW.out.below hB HMW.out.lt).eight
      generalize a'.eval = ρ at *
      simp [execOp, go_sem, e40, y1, y2]
    | 6, ho =>
      simp at ho; subst ho
      show s ≤ 3 → (execOp a'.eval _).run _ w' = .ok (.value _) w'
      intro hs
      generalize a'.eval = ρ at *
      simp [execOp, go_sem, f7]
    | 7, ho =>
      simp at ho; subst ho
      show s ≤ 3 → (execOp a'.eval _).run _ w' = .ok (.value _) w'
      intro hs
      have hPB : Blk w' B #[.int .i64 p.seq, .int .i64 p.time, .bool p.f, .bool p.e, .bool p.k, .string p.t] 89 := by
        match s, hI with
        | 0, hI => exact HPW.out.below hI HPW.out.lt
        | 1, hI => exact HPW.out.below hI.1 HPW.out.lt
        | 2, hI => exact HPW.out.kept hI.1 (by simpa using hBM)
        | n + 3, hI => exact HPW.out.kept hI.1 (by simpa using hBM)
      obtain ⟨j0, j1, j2, j3, j4, j5⟩ := hPB.sixc
      generalize a'.eval = ρ at *
      simp [execOp, go_sem, f5, j0, j1, j2, j3, j4, j5]
    | 8, ho =>
      simp at ho; subst ho
      show s ≤ 3 → (execOp a'.eval _).run _ w' = .ok (.value _) w'
      intro hs
      have e42 : a'.eval (.tmp 42) = .int .i64 n := hvals 6 _ _ (by kernel_rfl) rfl rfl
      have e43 : a'.eval (.tmp 43) = .agg #[.int .i64 p.seq, .int .i64 p.time, .bool p.f, .bool p.e, .bool p.k, .string p.t] := hvals 7 _ _ (by kernel_rfl) rfl rfl
      generalize a'.eval = ρ at *
      simp [execOp, go_sem, e42, e43]
    | 9, ho =>
      simp at ho; subst ho
      have e41 : a'.eval (.tmp 41) = .agg #[.int .i64 next, .slice ha hn' hc] := hvals 5 _ _ (by kernel_rfl) rfl rfl
      have e44 : a'.eval (.tmp 44) = .agg #[.int .i64 n, .int .i64 p.seq, .int .i64 p.time, .bool p.f, .bool p.e, .bool p.k, .string p.t] := hvals 8 _ _ (by kernel_rfl) rfl rfl
      show s = 0 → _
      intro hs
      subst hs
      have hB : Below W.heap.size W w' := hI
      have ef : a'.eval (.func 113) = .func (.func 113) #[] #[] := rfl
      refine oper_wp_call (f := 113) (args := #[.agg #[.int .i64 next, .slice ha hn' hc], .agg #[.int .i64 n, .int .i64 p.seq, .int .i64 p.time, .bool p.f, .bool p.e, .bool p.k, .string p.t]]) ?_ ((HPUT.out w' hB).mono ?_)
      · generalize a'.eval = ρ at *
        simp [execOp, go_sem, e41, e44, ef]
      · rintro e w'' ⟨pa, pn, pc, qa, qn, qc, rfl, q1, q2, b1⟩
        exact ⟨_, rfl, _, rfl, fun _ => ⟨pa, pn, pc, qa, qn, qc, updR_at _ _ _⟩, hB.trans (b1.mono hB.size), pa, pn, pc, qa, qn, qc, updR_at _ _ _, q1.out, q2.out⟩
    | 10, ho =>
      simp at ho; subst ho
      have e45 : a'.eval (.tmp 45) = r 0 := hvals 9 _ _ (by kernel_rfl) rfl rfl
      show 0 < s → (execOp a'.eval _).run _ w' = .ok (.value _) w'
      intro hs
      obtain ⟨pa, pn, pc, qa, qn, qc, er⟩ : ∃ pa pn pc qa qn qc, r 0 = .tuple #[.agg #[.int .i64 N1, .slice pa pn pc], .slice qa qn qc, .int .i64 0] := hr0 hs
      rw [er] at e45 ⊢
      simp only [exT] at e45 ⊢
      generalize a'.eval = ρ at *
      simp [execOp, go_sem, e45]
    | 11, ho =>
      simp at ho; subst ho
      have e45 : a'.eval (.tmp 45) = r 0 := hvals 9 _ _ (by kernel_rfl) rfl rfl
      show 0 < s → (execOp a'.eval _).run _ w' = .ok (.value _) w'
      intro hs
      obtain ⟨pa, pn, pc, qa, qn, qc, er⟩ : ∃ pa pn pc qa qn qc, r 0 = .tuple #[.agg #[.int .i64 N1, .slice pa pn pc], .slice qa qn qc, .int .i64 0] := hr0 hs
      rw [er] at e45 ⊢
      simp only [exT] at e45 ⊢
      generalize a'.eval = ρ at *
      simp [execOp, go_sem, e45]
    | 12, ho =>
      simp at ho; subst ho
      have e45 : a'.eval (.tmp 45) = r 0 := hvals 9 _ _ (by kernel_rfl) rfl rfl
      show 0 < s → (execOp a'.eval _).run _ w' = .ok (.value _) w'
      intro hs
      obtain ⟨pa, pn, pc, qa, qn, qc, er⟩ : ∃ pa pn pc qa qn qc, r 0 = .tuple #[.agg #[.int .i64 N1, .slice pa pn pc], .slice qa qn qc, .int .i64 0] := hr0 hs
      rw [er] at e45 ⊢
      simp only [exT] at e45 ⊢
      generalize a'.eval = ρ at *
      simp [execOp, go_sem, e45]
    | 13, ho =>
      simp at ho; subst ho
      show s = 1 → _
      intro hs
      subst hs
      obtain ⟨hB, pa, pn, pc, qa, qn, qc, er, q1, q2⟩ := hI
      have e36 : a'.eval (.tmp 36) = .pointer (some ⟨M, 0, none⟩) := hvals 0 _ _ (by kernel_rfl) rfl rfl
      have e46 : a'.eval (.tmp 46) = .agg #[.int .i64 N1, .slice pa pn pc] := (hvals 10 _ _ (by kernel_rfl) rfl rfl).trans (by show exT 0 (r 0) = _; rw [er]; rfl)
      have e47 : a'.eval (.tmp 47) = .slice qa qn qc := (hvals 11 _ _ (by kernel_rfl) rfl rfl).trans (by show exT 1 (r 0) = _; rw [er]; rfl)
      have e48 : a'.eval (.tmp 48) = .int .i64 0 := (hvals 12 _ _ (by kernel_rfl) rfl rfl).trans (by show exT 2 (r 0) = _; rw [er]; rfl)
      have ef : a'.eval (.func 112) = .func (.func 112) #[] #[] := rfl
      refine oper_wp_call (f := 112) (args := #[.pointer (some ⟨M, 0, none⟩), .agg #[.int .i64 N1, .slice pa pn pc], .slice qa qn qc, .int .i64 0]) ?_ ((HPASS.out w' _ _ hB q1 q2).mono ?_)
      · generalize a'.eval = ρ at *
        simp [execOp, go_sem, e36, e46, e47, e48, ef]
      · rintro e w'' ⟨rfl, a1, a2⟩
        exact ⟨_, rfl, _, rfl, fun _ => ⟨pa, pn, pc, qa, qn, qc, by rw [updR_ne (by omega)]; exact er⟩, a2.out, updR_at _ _ _, a1.out⟩
    | 14, ho =>
      simp at ho; subst ho
      show s = 2 → _
      intro hs
      subst hs
      obtain ⟨k1, er, k2⟩ := hI
      have e49 : a'.eval (.tmp 49) = .int .i64 R.2.2 := (hvals 13 _ _ (by kernel_rfl) rfl rfl).trans er
      obtain ⟨pa, pn, pc, qa, qn, qc, er0⟩ := hr0 (by omega)
      refine oper_wp_ok (v := .int .i64 R.2.2) (w' := w') ?_ ⟨_, rfl, fun _ => ⟨pa, pn, pc, qa, qn, qc, by rw [updR_ne (by omega)]; exact er0⟩, k1, updR_at _ _ _, k2⟩
      generalize a'.eval = ρ at *
      simp [execOp, go_sem, e49]
    | i + 15, ho => simp at ho
  case fin =>
    rintro r b w7 ⟨hr0, k1, er, k2⟩ _
    obtain ⟨pa, pn, pc, qa, qn, qc, er0⟩ := hr0 (by decide)
    simp only [putM, Cm.out, er, er0, exT, Act.put, List.setIfInBounds_toArray, List.set_cons_succ, List.set_cons_zero]
    have K1 : Hid (Kept [M] W w7) := k1
    have K2 : Hid (R.2.2 = 0 → TkB S M w7 R.1 (R.2.1 : Nat)) := k2
    clear k1 k2 er er0 hr0
    go_wp2
    go_ret
    rw [HRF.out]
    exact ⟨rfl, K2.out, HKW.out.trans K1.out⟩

end Go.Proofs.YtnpaejknoipicafGreat

namespace Go.Proofs.YtnpaejknoipicafGreat
open Go.RowKit

set_option maxHeartbeats 4000000 in
set_option maxRecDepth 100000 in
/-- of a group that may be empty, too -/
theorem cloneGroupO_any (S : Nat → Prop) (v : Value) (l : List Fr) (w : World) (hv : FrsIn S w v l) (h6 : l.length ≤ 6) (hck : ∀ k, k < l.length → (frAt l k).chk = 0) :
    Calls Tryz.prog 57 #[.agg #[v]] w fun e w' => ∃ a c, e = .returned (.agg #[.slice a l.length c]) ∧ FrsIn (fun g => w.heap.size ≤ g) w' (.slice a l.length c) l ∧ Below w.heap.size w w' := by
  obtain ⟨va, vc, ev, _, _⟩ := hv.len
  obtain ⟨n, hn⟩ : ∃ n, n = l.length := ⟨_, rfl⟩
  have HN : Hid (n = l.length) := hn
  have HV : Hid (FrsIn S w v l) := hv
  have HC : Hid (∀ U, Below w.heap.size w U → Calls Tryz.prog 102 #[v, .func (.func 103) #[] #[]] U fun e w' => ∃ a c, e = .returned (.slice a n c) ∧ Hid (FrsIn (fun g => U.heap.size ≤ g) w' (.slice a n c) l) ∧ Below U.heap.size U w') := fun U hU => by
    refine (cloneFrs_any S v l U (HV.out.below hU) h6 hck).mono ?_
    rintro e w' ⟨u, rfl, ho, hb⟩
    have hf : FrsIn (fun g => U.heap.size ≤ g) w' u l := ho.frsIn (fun g _ h => h.1) (fun g hg => (ho.lt g hg).1)
    obtain ⟨a, c, e, _, _⟩ := hf.len
    rw [← hn] at e
    subst e
    exact ⟨a, c, rfl, hf, hb⟩
  rw [← hn] at ev ⊢
  clear hv hck hn h6
  subst ev
  go_enter Tryz.func57, Tryz.ntmps57
  go_wp2_with fail
  have B1 : Hid (Below w.heap.size w ((w.alloc (.cells #[.slice va n vc] 25)).alloc (.cells #[.slice none 0 0] 25))) := ((Below.refl _ _).alloc (Nat.le_refl _) _).alloc (by simp) _
  have K1 : Hid (Blk ((w.alloc (.cells #[.slice va n vc] 25)).alloc (.cells #[.slice none 0 0] 25)) (w.heap.size + 1) #[.slice none 0 0] 25) := by
    have := Blk.new (w.alloc (.cells #[.slice va n vc] 25)) #[.slice none 0 0] 25
    simpa [Hid] using this
  refine (HC.out _ B1.out).mono ?_
  rintro e w2 ⟨a2, c2, rfl, HF, hb2⟩
  have B2 : Hid (Below w.heap.size w w2) := B1.out.trans (hb2.mono B1.out.size)
  have K2 := K1.out.below hb2 K1.out.lt
  have r0 := K2.one
  have r1 := K2.free 0
  have c9 : (w2.setCell ⟨w.heap.size + 1, 0, none⟩ (.slice a2 n c2)).cell? ⟨w.heap.size + 1, 0, none⟩ = some (.slice a2 n c2) := (K2.set 0 _).cell rfl
  have F9 : Hid (FrsIn (fun g => w.heap.size ≤ g) (w2.setCell ⟨w.heap.size + 1, 0, none⟩ (.slice a2 n c2)) (.slice a2 n c2) l) := HF.out.to (SameOn.setCell (fun g hg => by simp at hg ⊢; omega) _) (fun g _ hg => by simp at hg; omega)
  clear hb2 K1 B1 K2 HF
  go_wp2
  exact bodyPost_ret (v := .agg #[.slice a2 n c2]) (by simp [results, Tryz.results57, go_sem, c9]) rfl ⟨a2, c2, rfl, F9.out, B2.out.setCell (by simp) _⟩

/-- between the steps: the box with the cells C, the result's box, the rows that are copied -/
def ClT (w U : World) (C : Array Value) (hv bv gv ov : Value) (t : Tr) : Prop :=
  Below w.heap.size w U ∧ Blk U w.heap.size C 61 ∧
  Blk U (w.heap.size + 1) #[.int .i64 0, .int .i64 0, .slice none 0 0, .slice none 0 0, .int .i64 0, .slice none 0 0, .slice none 0 0] 61 ∧
  w.heap.size + 2 ≤ U.heap.size ∧ TrIn (fun g => g < w.heap.size) U hv bv gv ov t
theorem ClT.go {w U U' : World} {C : Array Value} {hv bv gv ov : Value} {t : Tr} (h : ClT w U C hv bv gv ov t) (hb : Below U.heap.size U U') : ClT w U' C hv bv gv ov t := by
  obtain ⟨h1, h2, h3, h4, h5⟩ := h
  exact ⟨h1.trans (hb.mono h1.size), h2.below hb h2.lt, h3.below hb h3.lt, Nat.le_trans h4 hb.size, h5.below hb⟩
theorem ClT.set {w U : World} {C : Array Value} {hv bv gv ov : Value} {t : Tr} (h : ClT w U C hv bv gv ov t) (i : Nat) (v : Value) : ClT w (U.setCell ⟨w.heap.size, i, none⟩ v) (C.setIfInBounds i v) hv bv gv ov t := by
  obtain ⟨h1, h2, h3, h4, h5⟩ := h
  exact ⟨h1.setCell (by simp) _, h2.set i v, h3.other (a := ⟨w.heap.size, i, none⟩) (by simp) v, by simpa using h4, h5.to (SameOn.setCell (fun g hg => by simp at hg ⊢; omega) _) (fun g _ hg => hg)⟩
theorem sls_set {w U : World} {v : Value} {l : List Sk} (h : SlsIn (fun g => w.heap.size + 2 ≤ g) U v l) (i : Nat) (u : Value) : SlsIn (fun g => w.heap.size + 2 ≤ g) (U.setCell ⟨w.heap.size, i, none⟩ u) v l :=
  h.to (SameOn.setCell (fun g hg => by simp at hg ⊢; omega) _) (fun g _ hg => hg)
theorem grs_set {w U : World} {v : Value} {l : List (List Fr)} (h : GrsIn (fun g => w.heap.size + 2 ≤ g) U v l) (i : Nat) (u : Value) : GrsIn (fun g => w.heap.size + 2 ≤ g) (U.setCell ⟨w.heap.size, i, none⟩ u) v l :=
  h.to (SameOn.setCell (fun g hg => by simp at hg ⊢; omega) _) (fun g _ hg => hg)
theorem frs_set {w U : World} {v : Value} {l : List Fr} (h : FrsIn (fun g => w.heap.size + 2 ≤ g) U v l) (i : Nat) (u : Value) : FrsIn (fun g => w.heap.size + 2 ≤ g) (U.setCell ⟨w.heap.size, i, none⟩ u) v l :=
  h.to (SameOn.setCell (fun g hg => by simp at hg ⊢; omega) _) (fun g _ hg => hg)
/-- what the result's box holds, written cell by cell -/
theorem seven_out {w : World} {A : Nat} {t : TypeId} (h : Blk w A #[.int .i64 0, .int .i64 0, .slice none 0 0, .slice none 0 0, .int .i64 0, .slice none 0 0, .slice none 0 0] t) (x0 x1 x2 x3 x4 x5 x6 : Value) :
    Blk (((((((w.setCell ⟨A, 0, none⟩ x0).setCell ⟨A, 1, none⟩ x1).setCell ⟨A, 2, none⟩ x2).setCell ⟨A, 3, none⟩ x3).setCell ⟨A, 4, none⟩ x4).setCell ⟨A, 5, none⟩ x5).setCell ⟨A, 6, none⟩ x6) A #[x0, x1, x2, x3, x4, x5, x6] t :=
  ((((((h.set 0 x0).set 1 x1).set 2 x2).set 3 x3).set 4 x4).set 5 x5).set 6 x6

set_option maxHeartbeats 8000000 in
set_option maxRecDepth 100000 in
theorem cloneTrack_any (S : Nat → Prop) (t : Tr) (hv bv gv ov : Value) (w : World) (hr : TrIn S w hv bv gv ov t) (hck : t.chk = 0) :
    Calls Tryz.prog 109 #[.agg #[.int .i64 t.last, .int .i64 t.next, hv, bv, .int .i64 t.first, gv, ov]] w fun e w' => ∃ hv' bv' gv' ov', e = .returned (.agg #[.int .i64 t.last, .int .i64 t.next, hv', bv', .int .i64 t.first, gv', ov']) ∧ TrIn (fun g => w.heap.size ≤ g) w' hv' bv' gv' ov' t ∧ Below w.heap.size w w' := by
  obtain ⟨_, hR, hO, hS, _⟩ := Tr.chk_zero.1 hck
  obtain ⟨_, hl4, hch, _⟩ := hR
  obtain ⟨ho3, _, hco⟩ := ochk_len hO
  obtain ⟨_, _, hL5, hLg, _, hOg⟩ := stchk_zero.1 hS
  have h6 : t.O.length ≤ 6 ∧ ∀ k, k < t.O.length → (frAt t.O k).chk = 0 := by
    rcases hOg with h | h
    · rw [h]; exact ⟨by simp, fun k hk => absurd hk (by simp)⟩
    · obtain ⟨_, h1, h2⟩ := gchk_zero.1 h
      exact ⟨h1, fun k hk => (h2 k hk).1⟩
  obtain ⟨ha, hc, ba', bc, ga, gc, oa, oc, eh, eb, eg, eo⟩ := hr.slices
  have hr' : TrIn (fun g => g < w.heap.size) w hv bv gv ov t := hr.mono fun g hg _ => hg
  obtain ⟨nh, hnh⟩ : ∃ n, n = t.h.length := ⟨_, rfl⟩
  obtain ⟨no, hno⟩ : ∃ n, n = t.o.length := ⟨_, rfl⟩
  obtain ⟨ng, hng⟩ : ∃ n, n = t.L.length := ⟨_, rfl⟩
  obtain ⟨nO, hnO⟩ : ∃ n, n = t.O.length := ⟨_, rfl⟩
  have H1 : Hid (∀ U C, ClT w U C hv bv gv ov t → Calls Tryz.prog 92 #[hv] U fun e w' => ∃ a c, e = .returned (.slice a nh c) ∧ Hid (SlsIn (fun g => w.heap.size + 2 ≤ g) w' (.slice a nh c) t.h) ∧ Below U.heap.size U w') := fun U C hU => by
    refine (copyAll_any hv t.h U hU.2.2.2.2.1.1 (by omega) (fun x hx => Sk.chk_short (hch x hx))).mono ?_
    rintro e w' ⟨u, rfl, ho, hb⟩
    have hf : SlsIn (fun g => w.heap.size + 2 ≤ g) w' u t.h := SlsIn.of (Sls.of_owns ho) (by omega) (fun g hg _ => Nat.le_trans hU.2.2.2.1 (owns_blk ho hg).1)
    obtain ⟨a, c, e⟩ := hf.len
    rw [← hnh] at e
    subst e
    exact ⟨a, c, rfl, hf, hb⟩
  have H2 : Hid (∀ U C, ClT w U C hv bv gv ov t → Calls Tryz.prog 92 #[bv] U fun e w' => ∃ a c, e = .returned (.slice a no c) ∧ Hid (SlsIn (fun g => w.heap.size + 2 ≤ g) w' (.slice a no c) t.o) ∧ Below U.heap.size U w') := fun U C hU => by
    refine (copyAll_any bv t.o U hU.2.2.2.2.2.1.1 (by omega) (fun x hx => Sk.chk_short (hco x hx))).mono ?_
    rintro e w' ⟨u, rfl, ho, hb⟩
    have hf : SlsIn (fun g => w.heap.size + 2 ≤ g) w' u t.o := SlsIn.of (Sls.of_owns ho) (by omega) (fun g hg _ => Nat.le_trans hU.2.2.2.1 (owns_blk ho hg).1)
    obtain ⟨a, c, e⟩ := hf.len
    rw [← hno] at e
    subst e
    exact ⟨a, c, rfl, hf, hb⟩
  have H3 : Hid (∀ U C, ClT w U C hv bv gv ov t → Calls Tryz.prog 99 #[gv] U fun e w' => ∃ a c, e = .returned (.slice a ng c) ∧ Hid (GrsIn (fun g => w.heap.size + 2 ≤ g) w' (.slice a ng c) t.L) ∧ Below U.heap.size U w') := fun U C hU => by
    refine (cloneGroups_any _ gv t.L U hU.2.2.2.2.2.2.1 (by omega) hLg).mono ?_
    rintro e w' ⟨u, rfl, ho, hb⟩
    have hf : GrsIn (fun g => w.heap.size + 2 ≤ g) w' u t.L := ho.grsIn (fun g _ h => Nat.le_trans hU.2.2.2.1 h.1) (fun g hg => Nat.le_trans hU.2.2.2.1 (ho.lt g hg).1)
    obtain ⟨a, c, e, _, _⟩ := hf.len
    rw [← hng] at e
    subst e
    exact ⟨a, c, rfl, hf, hb⟩
  have H4 : Hid (∀ U C, ClT w U C hv bv gv ov t → Calls Tryz.prog 57 #[.agg #[ov]] U fun e w' => ∃ a c, e = .returned (.agg #[.slice a nO c]) ∧ Hid (FrsIn (fun g => w.heap.size + 2 ≤ g) w' (.slice a nO c) t.O) ∧ Below U.heap.size U w') := fun U C hU => by
    refine (cloneGroupO_any _ ov t.O U hU.2.2.2.2.2.2.2 h6.1 h6.2).mono ?_
    rintro e w' ⟨a, c, rfl, hf, hb⟩
    rw [← hnO] at hf ⊢
    exact ⟨a, c, rfl, hf.mono fun g _ h => Nat.le_trans hU.2.2.2.1 h, hb⟩
  rw [← hnh] at eh
  rw [← hno] at eb
  rw [← hng] at eg
  rw [← hnO] at eo
  obtain ⟨last, hla⟩ : ∃ x, x = t.last := ⟨_, rfl⟩
  obtain ⟨next, hne⟩ : ∃ x, x = t.next := ⟨_, rfl⟩
  obtain ⟨first, hfi⟩ : ∃ x, x = t.first := ⟨_, rfl⟩
  rw [← hla, ← hne, ← hfi]
  have HI : Hid (ClT w ((w.alloc (.cells #[.int .i64 last, .int .i64 next, hv, bv, .int .i64 first, gv, ov] 61)).alloc (.cells #[.int .i64 0, .int .i64 0, .slice none 0 0, .slice none 0 0, .int .i64 0, .slice none 0 0, .slice none 0 0] 61)) #[.int .i64 last, .int .i64 next, hv, bv, .int .i64 first, gv, ov] hv bv gv ov t) := by
    have b1 : Below w.heap.size w (w.alloc (.cells #[.int .i64 last, .int .i64 next, hv, bv, .int .i64 first, gv, ov] 61)) := (Below.refl _ _).alloc (Nat.le_refl _) _
    have k1 := Blk.new w #[.int .i64 last, .int .i64 next, hv, bv, .int .i64 first, gv, ov] 61
    have k2 := Blk.new (w.alloc (.cells #[.int .i64 last, .int .i64 next, hv, bv, .int .i64 first, gv, ov] 61)) #[.int .i64 0, .int .i64 0, .slice none 0 0, .slice none 0 0, .int .i64 0, .slice none 0 0, .slice none 0 0] 61
    have b2 : Below w.heap.size w ((w.alloc (.cells #[.int .i64 last, .int .i64 next, hv, bv, .int .i64 first, gv, ov] 61)).alloc (.cells #[.int .i64 0, .int .i64 0, .slice none 0 0, .slice none 0 0, .int .i64 0, .slice none 0 0, .slice none 0 0] 61)) := b1.alloc (by simp) _
    exact ⟨b2, k1.below ((Below.refl _ _).alloc (Nat.le_refl _) _) k1.lt, by simpa using k2, by simp, hr'.below b2⟩
  clear hla hne hfi hr hr' hck hO hS hl4 hch ho3 hco hL5 hLg hOg h6 hnh hno hng hnO
  subst eh eb eg eo
  go_enter Tryz.func109, Tryz.ntmps109
  obtain ⟨W, hW⟩ : ∃ W, W = (w.alloc (.cells #[.int .i64 last, .int .i64 next, .slice ha nh hc, .slice ba' no bc, .int .i64 first, .slice ga ng gc, .slice oa nO oc] 61)).alloc (.cells #[.int .i64 0, .int .i64 0, .slice none 0 0, .slice none 0 0, .int .i64 0, .slice none 0 0, .slice none 0 0] 61) := ⟨_, rfl⟩
  rw [← hW] at HI
  go_wp2_with fail
  rw [← hW]
  clear hW
  refine (H1.out W _ HI.out).mono ?_
  rintro e w1 ⟨a1, c1, rfl, D1, b1⟩
  have HI1 := HI.out.go b1
  clear b1 HI H1
  have f := HI1.2.1.free 2
  obtain ⟨y0, y1, y2, y3, y4, y5, y6⟩ := HI1.2.1.sevenc
  have J1 : Hid (ClT w (w1.setCell ⟨w.heap.size, 2, none⟩ (.slice a1 nh c1)) #[.int .i64 last, .int .i64 next, .slice a1 nh c1, .slice ba' no bc, .int .i64 first, .slice ga ng gc, .slice oa nO oc] (.slice ha nh hc) (.slice ba' no bc) (.slice ga ng gc) (.slice oa nO oc) t) := HI1.set 2 (.slice a1 nh c1)
  have D1' : Hid (SlsIn (fun g => w.heap.size + 2 ≤ g) (w1.setCell ⟨w.heap.size, 2, none⟩ (.slice a1 nh c1)) (.slice a1 nh c1) t.h) := sls_set D1.out 2 _
  clear D1 HI1
  go_wp2_with fail
  refine (H2.out _ _ J1.out).mono ?_
  rintro e w2 ⟨a2, c2, rfl, D2, b1⟩
  clear f y0 y1 y2 y3 y4 y5 y6
  have HI2 := J1.out.go b1
  have D1 : Hid (SlsIn (fun g => w.heap.size + 2 ≤ g) w2 (.slice a1 nh c1) t.h) := D1'.out.below b1
  clear b1 J1 D1' H2
  have f := HI2.2.1.free 3
  obtain ⟨y0, y1, y2, y3, y4, y5, y6⟩ := HI2.2.1.sevenc
  have J2 : Hid (ClT w (w2.setCell ⟨w.heap.size, 3, none⟩ (.slice a2 no c2)) #[.int .i64 last, .int .i64 next, .slice a1 nh c1, .slice a2 no c2, .int .i64 first, .slice ga ng gc, .slice oa nO oc] (.slice ha nh hc) (.slice ba' no bc) (.slice ga ng gc) (.slice oa nO oc) t) := HI2.set 3 (.slice a2 no c2)
  have D1' : Hid (SlsIn (fun g => w.heap.size + 2 ≤ g) (w2.setCell ⟨w.heap.size, 3, none⟩ (.slice a2 no c2)) (.slice a1 nh c1) t.h) := sls_set D1.out 3 _
  have D2' : Hid (SlsIn (fun g => w.heap.size + 2 ≤ g) (w2.setCell ⟨w.heap.size, 3, none⟩ (.slice a2 no c2)) (.slice a2 no c2) t.o) := sls_set D2.out 3 _
  clear D1 D2 HI2
  go_wp2_with fail
  refine (H3.out _ _ J2.out).mono ?_
  rintro e w3 ⟨a3, c3, rfl, D3, b1⟩
  clear f y0 y1 y2 y3 y4 y5 y6
  have HI3 := J2.out.go b1
  have D1 : Hid (SlsIn (fun g => w.heap.size + 2 ≤ g) w3 (.slice a1 nh c1) t.h) := D1'.out.below b1
  have D2 : Hid (SlsIn (fun g => w.heap.size + 2 ≤ g) w3 (.slice a2 no c2) t.o) := D2'.out.below b1
  clear b1 J2 D1' D2' H3
  have f := HI3.2.1.free 5
  obtain ⟨y0, y1, y2, y3, y4, y5, y6⟩ := HI3.2.1.sevenc
  have J3 : Hid (ClT w (w3.setCell ⟨w.heap.size, 5, none⟩ (.slice a3 ng c3)) #[.int .i64 last, .int .i64 next, .slice a1 nh c1, .slice a2 no c2, .int .i64 first, .slice a3 ng c3, .slice oa nO oc] (.slice ha nh hc) (.slice ba' no bc) (.slice ga ng gc) (.slice oa nO oc) t) := HI3.set 5 (.slice a3 ng c3)
  have D1' : Hid (SlsIn (fun g => w.heap.size + 2 ≤ g) (w3.setCell ⟨w.heap.size, 5, none⟩ (.slice a3 ng c3)) (.slice a1 nh c1) t.h) := sls_set D1.out 5 _
  have D2' : Hid (SlsIn (fun g => w.heap.size + 2 ≤ g) (w3.setCell ⟨w.heap.size, 5, none⟩ (.slice a3 ng c3)) (.slice a2 no c2) t.o) := sls_set D2.out 5 _
  have D3' : Hid (GrsIn (fun g => w.heap.size + 2 ≤ g) (w3.setCell ⟨w.heap.size, 5, none⟩ (.slice a3 ng c3)) (.slice a3 ng c3) t.L) := grs_set D3.out 5 _
  clear D1 D2 D3 HI3
  go_wp2_with fail
  refine (H4.out _ _ J3.out).mono ?_
  rintro e w4 ⟨a4, c4, rfl, D4, b1⟩
  clear f y0 y1 y2 y3 y4 y5 y6
  have HI4 := J3.out.go b1
  have D1 : Hid (SlsIn (fun g => w.heap.size + 2 ≤ g) w4 (.slice a1 nh c1) t.h) := D1'.out.below b1
  have D2 : Hid (SlsIn (fun g => w.heap.size + 2 ≤ g) w4 (.slice a2 no c2) t.o) := D2'.out.below b1
  have D3 : Hid (GrsIn (fun g => w.heap.size + 2 ≤ g) w4 (.slice a3 ng c3) t.L) := D3'.out.below b1
  clear b1 J3 D1' D2' D3' H4
  have f := HI4.2.1.free 6
  obtain ⟨y0, y1, y2, y3, y4, y5, y6⟩ := HI4.2.1.sevenc
  obtain ⟨W, hW⟩ : ∃ W, W = w4.setCell ⟨w.heap.size, 6, none⟩ (.slice a4 nO c4) := ⟨_, rfl⟩
  have J4 : Hid (ClT w W #[.int .i64 last, .int .i64 next, .slice a1 nh c1, .slice a2 no c2, .int .i64 first, .slice a3 ng c3, .slice a4 nO c4] (.slice ha nh hc) (.slice ba' no bc) (.slice ga ng gc) (.slice oa nO oc) t) := by rw [hW]; exact HI4.set 6 (.slice a4 nO c4)
  have DD : Hid (TrIn (fun g => w.heap.size + 2 ≤ g) W (.slice a1 nh c1) (.slice a2 no c2) (.slice a3 ng c3) (.slice a4 nO c4) t) := by rw [hW]; exact ⟨sls_set D1.out 6 _, sls_set D2.out 6 _, grs_set D3.out 6 _, frs_set D4.out 6 _⟩
  obtain ⟨z0, z1, z2, z3, z4, z5, z6⟩ := HI4.2.2.1.sevenc
  have g0 := HI4.2.2.1.free 0
  have g1 := HI4.2.2.1.free 1
  have g2 := HI4.2.2.1.free 2
  have g3 := HI4.2.2.1.free 3
  have g4 := HI4.2.2.1.free 4
  have g5 := HI4.2.2.1.free 5
  have g6 := HI4.2.2.1.free 6
  clear D1 D2 D3 D4 HI4
  go_wp2_with fail
  clear f y0 y1 y2 y3 y4 y5 y6 z0 z1 z2 z3 z4 z5 z6 g0 g1 g2 g3 g4 g5 g6
  rw [← hW]
  clear hW
  have KZ := seven_out J4.out.2.2.1 (.int .i64 last) (.int .i64 next) (.slice a1 nh c1) (.slice a2 no c2) (.int .i64 first) (.slice a3 ng c3) (.slice a4 nO c4)
  have hsame : SameOn (fun g => w.heap.size + 2 ≤ g) W (((((((W.setCell ⟨w.heap.size + 1, 0, none⟩ (.int .i64 last)).setCell ⟨w.heap.size + 1, 1, none⟩ (.int .i64 next)).setCell ⟨w.heap.size + 1, 2, none⟩ (.slice a1 nh c1)).setCell ⟨w.heap.size + 1, 3, none⟩ (.slice a2 no c2)).setCell ⟨w.heap.size + 1, 4, none⟩ (.int .i64 first)).setCell ⟨w.heap.size + 1, 5, none⟩ (.slice a3 ng c3)).setCell ⟨w.heap.size + 1, 6, none⟩ (.slice a4 nO c4)) := by
    refine ⟨by simp, fun g _ hg => ?_⟩
    have hne : g ≠ w.heap.size + 1 := by omega
    iterate 6 refine (Below.heap_setCell _ _ _ _ (by exact hne)).trans ?_
    exact Below.heap_setCell _ _ _ _ (by exact hne)
  have RES := DD.out.to (S' := fun g => w.heap.size ≤ g) hsame (fun g _ hg => by omega)
  have BZ : Below w.heap.size w (((((((W.setCell ⟨w.heap.size + 1, 0, none⟩ (.int .i64 last)).setCell ⟨w.heap.size + 1, 1, none⟩ (.int .i64 next)).setCell ⟨w.heap.size + 1, 2, none⟩ (.slice a1 nh c1)).setCell ⟨w.heap.size + 1, 3, none⟩ (.slice a2 no c2)).setCell ⟨w.heap.size + 1, 4, none⟩ (.int .i64 first)).setCell ⟨w.heap.size + 1, 5, none⟩ (.slice a3 ng c3)).setCell ⟨w.heap.size + 1, 6, none⟩ (.slice a4 nO c4)) :=
    ((((((J4.out.1.setCell (by simp) _).setCell (by simp) _).setCell (by simp) _).setCell (by simp) _).setCell (by simp) _).setCell (by simp) _).setCell (by simp) _
  obtain ⟨Z, hZ⟩ : ∃ Z, Z = (((((((W.setCell ⟨w.heap.size + 1, 0, none⟩ (.int .i64 last)).setCell ⟨w.heap.size + 1, 1, none⟩ (.int .i64 next)).setCell ⟨w.heap.size + 1, 2, none⟩ (.slice a1 nh c1)).setCell ⟨w.heap.size + 1, 3, none⟩ (.slice a2 no c2)).setCell ⟨w.heap.size + 1, 4, none⟩ (.int .i64 first)).setCell ⟨w.heap.size + 1, 5, none⟩ (.slice a3 ng c3)).setCell ⟨w.heap.size + 1, 6, none⟩ (.slice a4 nO c4)) := ⟨_, rfl⟩
  rw [← hZ] at KZ RES BZ ⊢
  clear hZ hsame J4 DD
  obtain ⟨q0, q1, q2, q3, q4, q5, q6⟩ := KZ.sevenc
  exact bodyPost_ret (v := .agg #[.int .i64 last, .int .i64 next, .slice a1 nh c1, .slice a2 no c2, .int .i64 first, .slice a3 ng c3, .slice a4 nO c4]) (by simp [results, Tryz.results109, go_sem, q0, q1, q2, q3, q4, q5, q6]) rfl ⟨_, _, _, _, rfl, RES, BZ⟩

end Go.Proofs.YtnpaejknoipicafGreat

namespace Go.Proofs.YtnpaejknoipicafGreat
open Go.RowKit

set_option maxHeartbeats 4000000 in
set_option maxRecDepth 100000 in
theorem trkBuilder_any (v : Value) (l : List Sk) (w : World) (hv : Sls w v l) (hlen : l.length ≤ 9223372036854775807) :
    Calls Tryz.prog 82 #[.agg #[v]] w fun e w' => e = .returned (.int .i64 (ochk l)) ∧ Below w.heap.size w w' := by
  obtain ⟨a, c, ev⟩ := hv.len
  obtain ⟨n, hn⟩ : ∃ n, n = l.length := ⟨_, rfl⟩
  rw [← hn] at ev
  obtain ⟨E, hE⟩ : ∃ E, E = ochk l := ⟨_, rfl⟩
  have hx : (Sk.mk 65536 Pk.zero).chk = 0 := by decide
  have HADD : Hid (∀ W : World, Below w.heap.size w W → Calls Tryz.prog 46 #[.agg #[v], .agg #[.int .i64 65536, .int .i64 0, .int .i64 0, .bool false, .bool false, .bool false, .string ⟨#[]⟩]] W fun e w' => ∃ oa on oc pa pn pc T K B, e = .returned (.tuple #[.agg #[.slice oa on oc], .agg #[.int .i64 T, .bool K, .slice pa pn pc], .bool B, .int .i64 E]) ∧ Below W.heap.size W w') := fun W hW => by
    refine (frameAdd_any v l ⟨65536, Pk.zero⟩ W (hv.below hW) hlen).mono ?_
    rintro e w' ⟨ov, pv, rfl, ⟨h1, h2, _⟩, h5⟩
    have e0 : addE l ⟨65536, Pk.zero⟩ = E := by
      unfold addE; rw [hE]
      by_cases h : ochk l = 0
      · rw [if_pos h, hx, h]
      · rw [if_neg h]
    obtain ⟨oa, oc, e1⟩ := h1.len
    obtain ⟨pa, pc, e2⟩ := h2.len
    subst e1 e2
    rw [e0]
    exact ⟨oa, _, oc, pa, _, pc, _, _, _, rfl, h5⟩
  rw [← hE]
  clear hE hx hn hv
  subst ev
  obtain ⟨W, hW⟩ : ∃ W, W = w.alloc (.cells #[.slice a n c] 59) := ⟨_, rfl⟩
  have HB : Hid (Below w.heap.size w W) := by rw [hW]; exact (Below.refl _ _).alloc (Nat.le_refl _) _
  go_enter Tryz.func82, Tryz.ntmps82
  go_wp2_with fail
  rw [← hW]
  clear hW
  refine (HADD.out W HB.out).mono ?_
  rintro e w1 ⟨oa, on, oc, pa, pn, pc, T, K, B, rfl, b1⟩
  have B1 : Hid (Below w.heap.size w w1) := HB.out.trans (b1.mono HB.out.size)
  obtain ⟨W2, hW2⟩ : ∃ W, W = (w1.alloc (.cells #[.slice oa on oc] 59)).alloc (.cells #[.int .i64 T, .bool K, .slice pa pn pc] 30) := ⟨_, rfl⟩
  have B2 : Hid (Below w.heap.size w W2) := by
    rw [hW2]; exact (B1.out.alloc B1.out.size _).alloc (by have := B1.out.size; simp; omega) _
  clear b1 B1
  go_wp2
  rw [← hW2]
  go_ret
  exact ⟨rfl, B2.out⟩

set_option maxHeartbeats 8000000 in
set_option maxRecDepth 100000 in
theorem trkCheck_any (S : Nat → Prop) (t : Tr) (hv bv gv ov : Value) (w : World) (hr : TrIn S w hv bv gv ov t) :
    Calls Tryz.prog 29 #[.agg #[.int .i64 t.last, .int .i64 t.next, hv, bv, .int .i64 t.first, gv, ov]] w fun e w' => e = .returned (.int .i64 t.chk) ∧ Below w.heap.size w w' := by
  obtain ⟨ha, hc, ba', bc, ga, gc, oa, oc, eh, eb, eg, eo⟩ := hr.slices
  obtain ⟨last, hlast⟩ : ∃ x, x = t.last := ⟨_, rfl⟩
  obtain ⟨next, hnext⟩ : ∃ x, x = t.next := ⟨_, rfl⟩
  obtain ⟨first, hfirst⟩ : ∃ x, x = t.first := ⟨_, rfl⟩
  obtain ⟨hn, hhn⟩ : ∃ x, x = t.h.length := ⟨_, rfl⟩
  obtain ⟨bn, hbn⟩ : ∃ x, x = t.o.length := ⟨_, rfl⟩
  obtain ⟨ln, hln⟩ : ∃ x, x = t.L.length := ⟨_, rfl⟩
  obtain ⟨lo, hlo⟩ : ∃ x, x = t.O.length := ⟨_, rfl⟩
  rw [← hhn] at eh
  rw [← hbn] at eb
  rw [← hln] at eg
  rw [← hlo] at eo
  obtain ⟨NB, hNB⟩ : ∃ b, b = Cn.isNB last := ⟨_, rfl⟩
  obtain ⟨EW, hEW⟩ : ∃ e : Int, e = if NB then 0 else 3 := ⟨_, rfl⟩
  have HEW : Hid (EW = if NB then 0 else 3) := hEW
  obtain ⟨BE, hBE⟩ : ∃ b, b = bchk next t.h := ⟨_, rfl⟩
  obtain ⟨OE, hOE⟩ : ∃ b, b = ochk t.o := ⟨_, rfl⟩
  obtain ⟨SE, hSE⟩ : ∃ b, b = stchk first t.L t.O := ⟨_, rfl⟩
  obtain ⟨C, hC⟩ : ∃ b, b = t.chk := ⟨_, rfl⟩
  have HC : Hid (C = if ¬ last = 0 ∧ NB = false then 3 else if BE = 0 then (if OE = 0 then (if SE = 0 then (if (last == 0) = (next == 0) then 0 else 4) else SE) else OE) else BE) := by
    show C = _
    rw [hC, hNB, hBE, hOE, hSE, hlast, hnext, hfirst]; rfl
  have HWR : Hid (∀ W : World, Calls Tryz.prog 80 #[.int .i64 last] W fun e w' => ∃ x, e = .returned (.tuple #[.int .i64 x, .int .i64 EW]) ∧ W = w') := fun W => by
    refine (wrap_any last W).mono ?_
    rintro e w' ⟨rfl, rfl⟩
    exact ⟨Cn.wrN last, by rw [hEW, hNB]; rfl, rfl⟩
  have HBC : Hid (∀ W : World, Below w.heap.size w W → Calls Tryz.prog 81 #[.agg #[.int .i64 next, hv]] W fun e w' => e = .returned (.int .i64 BE) ∧ Below W.heap.size W w') := fun W hW => by
    rw [hBE]; exact bufCheck_any next hv t.h W (hr.1.below hW).1 hr.1.2.1
  have HOC : Hid (∀ W : World, Below w.heap.size w W → Calls Tryz.prog 82 #[.agg #[bv]] W fun e w' => e = .returned (.int .i64 OE) ∧ Below W.heap.size W w') := fun W hW => by
    rw [hOE]; exact trkBuilder_any bv t.o W (hr.2.1.below hW).1 hr.2.1.2.1
  have HSC : Hid (∀ W : World, Below w.heap.size w W → Calls Tryz.prog 34 #[.agg #[.int .i64 first, gv, ov]] W fun e w' => e = .returned (.int .i64 SE) ∧ Below W.heap.size W w') := fun W hW => by
    rw [hSE]; exact storeCheck_any S first gv ov t.L t.O W (hr.2.2.1.below hW) (hr.2.2.2.below hW)
  rw [← hlast, ← hnext, ← hfirst, ← hC]
  clear hlast hnext hfirst hhn hbn hln hlo hNB hBE hOE hSE hC hr hEW
  subst eh eb eg eo
  obtain ⟨W0, hW0⟩ : ∃ W, W = w.alloc (.cells #[.int .i64 last, .int .i64 next, .slice ha hn hc, .slice ba' bn bc, .int .i64 first, .slice ga ln gc, .slice oa lo oc] 61) := ⟨_, rfl⟩
  have HS0 : Hid (Stay W0 (fun U => Blk U w.heap.size #[.int .i64 last, .int .i64 next, .slice ha hn hc, .slice ba' bn bc, .int .i64 first, .slice ga ln gc, .slice oa lo oc] 61 ∧ Below w.heap.size w U)) := by
    have hb : Below w.heap.size w W0 := by rw [hW0]; exact (Below.refl _ _).alloc (Nat.le_refl _) _
    exact (Blk.newE hW0).stay.and (below_stay hb hb.size)
  obtain ⟨y0, y1, y2, y3, y4, y5, y6⟩ := HS0.out.now.1.sevenc
  go_enter Tryz.func29, Tryz.ntmps29
  go_wp2_with fail
  rw [← hW0]
  clear hW0
  refine (HWR.out W0).mono ?_
  rintro e w1 ⟨x, rfl, rfl⟩
  have BW : Hid (Below w.heap.size w W0) := HS0.out.now.2
  by_cases h1 : ¬ last = 0 ∧ NB = false
  · have hc3 : Hid (C = 3) := by show C = _; rw [HC.out, if_pos h1]
    obtain ⟨h1a, h1b⟩ := h1
    have he3 : EW = 3 := by rw [HEW.out, h1b]; rfl
    subst he3
    clear HS0
    go_wp2
    go_ret
    rw [hc3.out]
    exact ⟨rfl, BW.out⟩
  have HC2 : Hid (C = if BE = 0 then (if OE = 0 then (if SE = 0 then (if (last == 0) = (next == 0) then 0 else 4) else SE) else OE) else BE) := by show C = _; rw [HC.out, if_neg h1]
  have hcond : (EW = 0) ∨ (EW = 3 ∧ last = 0) := by
    cases hb : NB
    · right
      refine ⟨by rw [HEW.out, hb]; rfl, ?_⟩
      by_cases h : last = 0
      · exact h
      · exact absurd ⟨h, hb⟩ h1
    · left; rw [HEW.out, hb]; rfl
  clear HC h1 HEW
  go_upto_region 2 with fail
  go_cut [20] (fun s20 wc => s20 = .bool false ∧ wc = W0)
  case first =>
    rcases hcond with h | ⟨h, h'⟩
    · subst h
      go_wp2_with fail
      go_meet
      case rel => exact ⟨rfl, rfl⟩
    · subst h h'
      go_wp2_with fail
      go_meet
      case rel => exact ⟨rfl, rfl⟩
  case rest =>
    obtain ⟨rfl, rfl⟩ := hcut
    clear hcond HWR
    go_wp2_with fail
    refine (HBC.out _ BW.out).mono ?_
    rintro e w1 ⟨rfl, b1⟩
    have HS1 := Stay.go HS0 b1
    clear b1 HS0 BW y0 y1 y2 y3 y4 y5 y6
    have BW : Hid (Below w.heap.size w w1) := HS1.out.now.2
    by_cases h1 : BE = 0
    case neg =>
      have hc3 : Hid (C = BE) := by show C = _; rw [HC2.out, if_neg h1]
      clear HS1
      go_wp2
      go_ret
      rw [hc3.out]
      exact ⟨rfl, BW.out⟩
    have HC3 : Hid (C = if OE = 0 then (if SE = 0 then (if (last == 0) = (next == 0) then 0 else 4) else SE) else OE) := by show C = _; rw [HC2.out, if_pos h1]
    subst h1
    clear HC2
    obtain ⟨y0, y1, y2, y3, y4, y5, y6⟩ := HS1.out.now.1.sevenc
    go_wp2_with fail
    refine (HOC.out _ BW.out).mono ?_
    rintro e w2 ⟨rfl, b1⟩
    have HS2 := Stay.go HS1 b1
    clear b1 HS1 BW y0 y1 y2 y3 y4 y5 y6
    have BW : Hid (Below w.heap.size w w2) := HS2.out.now.2
    by_cases h1 : OE = 0
    case neg =>
      have hc3 : Hid (C = OE) := by show C = _; rw [HC3.out, if_neg h1]
      clear HS2
      go_wp2
      go_ret
      rw [hc3.out]
      exact ⟨rfl, BW.out⟩
    have HC4 : Hid (C = if SE = 0 then (if (last == 0) = (next == 0) then 0 else 4) else SE) := by show C = _; rw [HC3.out, if_pos h1]
    subst h1
    clear HC3
    obtain ⟨y0, y1, y2, y3, y4, y5, y6⟩ := HS2.out.now.1.sevenc
    go_wp2_with fail
    refine (HSC.out _ BW.out).mono ?_
    rintro e w3 ⟨rfl, b1⟩
    have HS3 := Stay.go HS2 b1
    clear b1 HS2 BW y0 y1 y2 y3 y4 y5 y6
    have BW : Hid (Below w.heap.size w w3) := HS3.out.now.2
    by_cases h1 : SE = 0
    case neg =>
      have hc3 : Hid (C = SE) := by show C = _; rw [HC4.out, if_neg h1]
      clear HS3
      go_wp2
      go_ret
      rw [hc3.out]
      exact ⟨rfl, BW.out⟩
    have HC5 : Hid (C = if (last == 0) = (next == 0) then 0 else 4) := by show C = _; rw [HC4.out, if_pos h1]
    subst h1
    clear HC4
    obtain ⟨y0, y1, y2, y3, y4, y5, y6⟩ := HS3.out.now.1.sevenc
    clear HS3
    cases hl : (last == 0) <;> cases hx : (next == 0)
    · have hc3 : Hid (C = 0) := by show C = _; rw [HC5.out, hl, hx]; rfl
      go_wp2
      go_ret
      rw [hc3.out]
      exact ⟨rfl, BW.out⟩
    · have hc3 : Hid (C = 4) := by show C = _; rw [HC5.out, hl, hx]; rfl
      go_wp2
      go_ret
      rw [hc3.out]
      exact ⟨rfl, BW.out⟩
    · have hc3 : Hid (C = 4) := by show C = _; rw [HC5.out, hl, hx]; rfl
      go_wp2
      go_ret
      rw [hc3.out]
      exact ⟨rfl, BW.out⟩
    · have hc3 : Hid (C = 0) := by show C = _; rw [HC5.out, hl, hx]; rfl
      go_wp2
      go_ret
      rw [hc3.out]
      exact ⟨rfl, BW.out⟩

end Go.Proofs.YtnpaejknoipicafGreat

namespace Go.Proofs.YtnpaejknoipicafGreat
open Go.RowKit

section
variable {P : Program} {Q : Exit → Act → World → Prop}

/-- an operation that is done, or whose guard is not met -/
def StepG (P : Program) (ops : Array Oper) (o : Oper) (a : Act) (w : World) (K : Act → World → Prop) (Q : Exit → Act → World → Prop) : Prop :=
  (Region.wanted o (yielded ops a.tmps) = true ∧ o.wp P a w K Q) ∨ (Region.wanted o (yielded ops a.tmps) = false ∧ K (a.put o.dst undef) w)
theorem StepG.mono {ops : Array Oper} {o : Oper} {a : Act} {w : World} {K K' : Act → World → Prop} (h : ∀ a w, K a w → K' a w) (hh : StepG P ops o a w K Q) : StepG P ops o a w K' Q := by
  rcases hh with ⟨h1, h2⟩ | ⟨h1, h2⟩
  · exact .inl ⟨h1, Oper.wp_mono h h2⟩
  · exact .inr ⟨h1, h _ _ h2⟩
def regOkG (l : List Oper) : Bool := dstsApart l && (l.zipIdx.all fun p => p.1.after.all fun e => decide (e.on < p.2) || !(Region.binds .any e))
/-- a slot that none of the listed ones writes -/
theorem putL_other2 {L : Array Bool} {vs : Nat → Value} {x : Operand} : ∀ (l : List Oper) (k : Nat) (a : Act), (∀ j p, l[j]? = some p → L.getD (k + j) false = true → ∀ t, p.dst = some t → x ≠ .tmp t) → (putL L vs k l a).eval x = a.eval x
  | [], _, _, _ => rfl
  | o :: r, k, a, h => by
    simp only [putL]
    rw [putL_other2 r (k + 1) _ (fun j p hp hl => h (j + 1) p (by simpa using hp) (by rw [show k + (j + 1) = k + 1 + j by omega]; exact hl))]
    split
    · rename_i hk
      exact Act.eval_put (fun t ht => h 0 o (by simp) (by simpa using hk) t ht)
    · rfl
theorem tmps_of {a : Act} {k : Nat} {b : Bool} (he : a.eval (.tmp k) = .bool b) : a.tmps[k]? = some (.bool b) := by
  simp only [Act.eval, Array.getD_eq_getD_getElem?] at he
  cases hk : a.tmps[k]? with
  | none => rw [hk] at he; simp [undef] at he
  | some v => rw [hk] at he; simpa using he
/-- what a guard looks at -/
theorem yielded_of {ops : Array Oper} {a : Act} {j k : Nat} {oj : Oper} {b : Bool} (h : ops[j]? = some oj) (hd : oj.dst = some k) (he : a.eval (.tmp k) = .bool b) : yielded ops a.tmps j = some b := by
  unfold yielded
  rw [h, Option.bind_some, hd, Option.bind_some]
  have : a.tmps[k]? = some (.bool b) := by
    simp only [Act.eval, Array.getD_eq_getD_getElem?] at he
    cases hk : a.tmps[k]? with
    | none => rw [hk] at he; simp [undef] at he
    | some v => rw [hk] at he; simpa using he
  rw [this]

theorem wpAny_invG {md : Region.Mode} {ops : Array Oper} (I : Array Bool → Act → World → Prop)
    (hstep : ∀ L a w, L.size = ops.size → I L a w → ∀ (i : Nat) (o : Oper), ops[i]? = some o → L[i]? = some false → (∀ e ∈ o.after, Region.binds md e = true → L.getD e.on false = true) → StepG P ops o a w (fun a' w' => I (L.setIfInBounds i true) a' w') Q)
    (hend : ∀ L a w, L.size = ops.size → I L a w → Region.ready md ops L = [] → Q .normal a w) :
    ∀ (fuel : Nat) (L : Array Bool) (a : Act) (w : World), L.size = ops.size → left L ≤ fuel → I L a w → wpAny P md ops Q fuel L a w
  | 0, L, a, w, hs, hf, hI => by
    have hr : Region.ready md ops L = [] := by
      rw [List.eq_nil_iff_forall_not_mem]
      intro j hj
      have h := getD_false (mem_ready.1 hj).1
      have := left_set h
      omega
    exact ⟨hr, hend L a w hs hI hr⟩
  | fuel + 1, L, a, w, hs, hf, hI => by
    refine ⟨hend L a w hs hI, fun i hi => ?_⟩
    obtain ⟨h1, o, h2, h3⟩ := mem_ready.1 hi
    have h4 := getD_false h1
    unfold wpOp
    rcases hstep L a w hs hI i o h2 h4 h3 with ⟨hw, h⟩ | ⟨hw, h⟩
    · simp only [h2, hw, if_true]
      exact .inl (Oper.wp_mono (fun a' w' h => wpAny_invG I hstep hend fuel _ a' w' (by simpa using hs) (by have := left_set h4; omega) h) h)
    · simp only [h2, hw, Bool.false_eq_true, if_false]
      exact wpAny_invG I hstep hend fuel _ _ _ (by simpa using hs) (by have := left_set h4; omega) h

theorem wp_region_invG {id : Nat} {a : Act} {w : World} {l : List Oper} (hm : P.follows .mixedOrders = true) (hB : regOkG l = true) (F : Array Bool → (Nat → Value) → World → Prop)
    (h0 : F (Array.replicate l.length false) (fun _ => undef) { w with drawn := w.drawn + 1 })
    (hstep : ∀ L vs w', F L vs w' → ∀ (i : Nat) (o : Oper), l[i]? = some o → L[i]? = some false → (∀ e ∈ o.after, Region.binds .any e = true → L.getD e.on false = true) →
      StepG P l.toArray o (putL L vs 0 l a) w' (fun a' w'' => ∃ v, a' = (putL L vs 0 l a).put o.dst v ∧ F (L.setIfInBounds i true) (upd vs i v) w'') Q)
    (hend : ∀ L vs w', F L vs w' → (∀ i, i < l.length → L.getD i false = true) → Q .normal (putL L vs 0 l a) w') : (Code.region id l.toArray true).wp P Q a w := by
  simp only [regOkG, Bool.and_eq_true] at hB
  obtain ⟨hd, hA⟩ := hB
  refine wp_region_any hm ?_
  refine wpAny_invG (md := .any) (fun L a' w' => ∃ vs, a' = putL L vs 0 l a ∧ F L vs w') ?_ ?_ _ _ _ _ (by simp) ?_ ?_
  · rintro L a' w' hs ⟨vs, rfl, hF⟩ i o ho hL hrdy
    refine StepG.mono (fun a'' w'' ⟨v, h1, h2⟩ => ?_) (hstep L vs w' hF i o (by simpa using ho) hL hrdy)
    exact ⟨upd vs i v, by rw [h1, putL_set hL l 0 a o hd (Nat.zero_le _) (by simpa using ho)], h2⟩
  · rintro L a' w' hs ⟨vs, rfl, hF⟩ hr
    refine hend L vs w' hF (fun i hi => ?_)
    have := ready_nil hs (fun i o ho e he hb => ?_) hr i (by simpa using hi)
    · simp [Array.getD_eq_getD_getElem?, this]
    · have h1 : (o, i) ∈ l.zipIdx := by
        rw [List.mem_zipIdx_iff_getElem?]; simpa using ho
      have h2 := List.all_eq_true.1 hA _ h1
      rw [Array.all_eq_true_iff_forall_mem] at h2
      simpa [hb] using h2 e he
  · simp only [left]; exact Nat.le_trans List.countP_le_length (by simp)
  · refine ⟨fun _ => undef, ?_, by simpa using h0⟩
    have : ∀ (m : List Oper) (k : Nat) (a : Act), a = putL (Array.replicate l.toArray.size false) (fun _ => undef) k m a := by
      intro m
      induction m with
      | nil => intro k a; rfl
      | cons o r ih =>
        intro k a
        simp only [putL]
        rw [if_neg (by simp [Array.getD_eq_getD_getElem?, Array.getElem?_replicate]; split <;> simp)]
        exact ih (k + 1) a
    exact this l 0 a


theorem region_chainG {id : Nat} {a : Act} {w : World} {l : List Oper} (hm : P.follows .mixedOrders = true) (hB : regOkG l = true) (ks : List Ck) (st : List Nat) (hK : chainOk ks l st a.tmps.size = true)
    (I : Nat → (Nat → Value) → World → Prop) (h0 : I 0 (fun _ => undef) { w with drawn := w.drawn + 1 })
    (hstep : ∀ i o, l[i]? = some o → ∀ (a' : Act) (w' : World) (s : Nat) (r : Nat → Value), I s r w' → (∀ s, (l.zipIdx.all fun p => p.1.dst != some s || waits l p.2 i) = true → a'.eval (.tmp s) = a.eval (.tmp s)) → (∀ j oj k, waits l i j = true → l[j]? = some oj → oj.dst = some k → a'.eval (.tmp k) = (ckAt ks j).out r) →
      match ckAt ks i with
      | .quiet v lim => s ≤ lim → (Region.wanted o (yielded l.toArray a'.tmps) = true ∧ (execOp a'.eval o).run P w' = .ok (.value v) w') ∨ (Region.wanted o (yielded l.toArray a'.tmps) = false ∧ v = undef)
      | .step t => s = t → o.guard = none ∧ o.wp P a' w' (fun a'' w'' => ∃ v, a'' = a'.put o.dst v ∧ I (t + 1) (updR r t v) w'') Q)
    (hend : ∀ (r : Nat → Value) (w' : World), I st.length r w' → Q .normal (putC r ks l a) w') :
    (Code.region id l.toArray true).wp P Q a w := by
  simp only [chainOk, Bool.and_eq_true, decide_eq_true_eq] at hK
  obtain ⟨⟨⟨hlen, hdst⟩, hst⟩, hall⟩ := hK
  have hap : dstsApart l = true := by simp only [regOkG, Bool.and_eq_true] at hB; exact hB.1
  have hal : ∀ i, i < l.length → _ := fun i hi => List.all_eq_true.1 hall i (List.mem_range.2 hi)
  have hsl : ∀ s, s < st.length → _ := fun s hs => List.all_eq_true.1 hst s (List.mem_range.2 hs)
  have hstp : ∀ s, s < st.length → ∃ i, st[s]? = some i ∧ i < l.length ∧ ckAt ks i = .step s ∧ (0 < s → ∃ j, st[s - 1]? = some j ∧ waits l i j = true) := fun s hs => by
    have h := hsl s hs
    have e : st[s]? = some st[s] := List.getElem?_eq_getElem hs
    rw [e] at h
    simp only [Bool.and_eq_true, decide_eq_true_eq, Bool.or_eq_true, beq_iff_eq] at h
    refine ⟨st[s], e, h.1.1, ?_, fun h0 => ?_⟩
    · have h2 := h.1.2
      cases hk : ckAt ks st[s] with
      | quiet v lim => rw [hk] at h2; cases h2
      | step t => rw [hk] at h2; simp at h2; rw [h2]
    · have h3 := h.2
      rcases h3 with h3 | h3
      · omega
      · have e2 : st[s - 1]? = some st[s - 1] := List.getElem?_eq_getElem (by omega)
        rw [e2] at h3
        exact ⟨_, e2, h3⟩
  have hst2 : ∀ i t, i < l.length → ckAt ks i = .step t → st[t]? = some i := fun i t hi hk => by
    have h := hal i hi
    rw [hk] at h
    simpa using h
  refine wp_region_invG hm hB (fun L vs w' => ∃ s r, RC ks l l.length st.length I (fun j => L.getD j false) vs s r w') ?_ ?_ ?_
  · have hno : ∀ j, ¬ (Array.replicate l.length false).getD j false = true := fun j => by
      simp [Array.getD_eq_getD_getElem?, Array.getElem?_replicate]; split <;> simp
    exact ⟨0, fun _ => undef, fun i h => absurd h (hno i), fun i t _ _ => ⟨fun h => absurd h (hno i), fun h => absurd h (Nat.not_lt_zero _)⟩, fun i h => absurd h (hno i), h0, Nat.zero_le _, fun _ j h => absurd h (hno j)⟩
  · rintro L vs w' ⟨s, r, F⟩ i o ho hL hr
    have hi : i < l.length := (List.getElem?_eq_some_iff.1 ho).1
    have ni : L.getD i false = false := by simpa using listed_no hL
    have hset := setfun hL
    have hwt : ∀ j, waits l i j = true → L.getD j false = true := fun j hw => waits_spec hw ho hr
    have hfree : ∀ s, (l.zipIdx.all fun p => p.1.dst != some s || waits l p.2 i) = true → (putL L vs 0 l a).eval (.tmp s) = a.eval (.tmp s) := fun s hs => putL_other2 l 0 a (fun j p hp hj t ht e => by
      injection e with e
      subst e
      rw [Nat.zero_add] at hj
      have h1 : (p, j) ∈ l.zipIdx := by rw [List.mem_zipIdx_iff_getElem?]; exact hp
      have := List.all_eq_true.1 hs _ h1
      simp only [ht, bne_self_eq_false, Bool.false_or] at this
      have h2 := F.closed i j hj this
      rw [h2] at ni
      cases ni)
    have hvals : ∀ j oj k, waits l i j = true → l[j]? = some oj → oj.dst = some k → (putL L vs 0 l a).eval (.tmp k) = (ckAt ks j).out r := fun j oj k hw hoj hk => by
      have h1 := hwt j hw
      have hk2 := List.all_eq_true.1 hdst oj (List.mem_of_getElem? hoj)
      rw [hk] at hk2
      rw [putL_at h1 l 0 a oj hap (Nat.zero_le _) (by simpa using hoj) hk (by simpa using hk2)]
      exact F.vals j h1
    have hs := hstep i o ho (putL L vs 0 l a) w' s r F.inv hfree hvals
    rw [hset]
    obtain ⟨ls, hls⟩ : ∃ ls : Nat → Bool, ls = fun j => L.getD j false := ⟨_, rfl⟩
    have hlsj : ∀ j, L.getD j false = ls j := fun j => by rw [hls]
    simp only [hlsj] at F ni hwt ⊢
    have hlt' : ∀ j, (decide (j = i) || ls j) = true → j < l.length := fun j hj => by
      simp only [Bool.or_eq_true, decide_eq_true_eq] at hj
      rcases hj with rfl | hj
      · exact hi
      · exact F.lt j hj
    have hcl : ∀ p j, (decide (j = i) || ls j) = true → waits l j p = true → (decide (p = i) || ls p) = true := fun p j hj hw => by
      simp only [Bool.or_eq_true, decide_eq_true_eq] at hj ⊢
      rcases hj with rfl | hj
      · exact .inr (hwt p hw)
      · exact .inr (F.closed p j hj hw)
    cases hk : ckAt ks i with
    | quiet v lim =>
      rw [hk] at hs
      have hle : s ≤ lim := by
        have h := hal i hi
        rw [hk] at h
        simp only [Bool.or_eq_true, decide_eq_true_eq] at h
        rcases h with h | h
        · exact Nat.le_trans F.le h
        · by_cases hlt : s ≤ lim
          · exact hlt
          · exfalso
            have hll : lim < st.length := by have := F.le; omega
            obtain ⟨j, e1, e2, e3, _⟩ := hstp lim hll
            rw [e1] at h
            have hlj := (F.steps j lim e2 e3).2 (by omega)
            rw [F.closed i j hlj h] at ni
            cases ni
      have hfin : ∃ v', (putL L vs 0 l a).put o.dst v = (putL L vs 0 l a).put o.dst v' ∧ ∃ s r, RC ks l l.length st.length I (fun j => decide (j = i) || ls j) (upd vs i v') s r w' := by
        refine ⟨v, rfl, s, r, hlt', ?_, ?_, F.inv, F.le, hcl⟩
        · intro j t hj hjk
          have e : j ≠ i := fun e => by subst e; rw [hk] at hjk; cases hjk
          simpa [e] using F.steps j t hj hjk
        · intro j hj
          by_cases e : j = i
          · subst e; rw [upd_at, hk]; rfl
          · rw [upd_ne e]; exact F.vals j (by simpa [e] using hj)
      rcases hs hle with ⟨hw, h⟩ | ⟨hw, hv⟩
      · exact .inl ⟨hw, oper_wp_ok h hfin⟩
      · exact .inr ⟨hw, by rw [← hv]; exact hfin⟩
    | step t =>
      rw [hk] at hs
      have hti := hst2 i t hi hk
      have htl : t < st.length := (List.getElem?_eq_some_iff.1 hti).1
      have hst' : s = t := by
        have h1 : ¬ t < s := fun h => by rw [(F.steps i t hi hk).2 h] at ni; cases ni
        by_cases h0 : t = 0
        · omega
        · obtain ⟨i', e1, e2, e3, e4⟩ := hstp t htl
          rw [hti] at e1
          injection e1 with e1
          subst e1
          obtain ⟨j, q1, q2⟩ := e4 (by omega)
          obtain ⟨j', r1, r2, r3, _⟩ := hstp (t - 1) (by omega)
          rw [q1] at r1
          injection r1 with r1
          subst r1
          have := (F.steps j (t - 1) r2 r3).1 (hwt j q2)
          omega
      subst hst'
      refine .inl ⟨by simp [Region.wanted, (hs rfl).1], Oper.wp_mono ?_ (hs rfl).2⟩
      rintro a'' w'' ⟨v, h1, h2⟩
      refine ⟨v, h1, s + 1, updR r s v, hlt', ?_, ?_, h2, htl, hcl⟩
      · intro j t' hj hjk
        by_cases e : j = i
        · subst e
          rw [hk] at hjk
          injection hjk with hjk
          subst hjk
          simp
        · have h3 := F.steps j t' hj hjk
          have hne : t' ≠ s := fun e' => by
            subst e'
            have := hst2 j t' hj hjk
            rw [hti] at this
            injection this with this
            exact e this.symm
          simp only [e, decide_false, Bool.false_or]
          rw [h3]; omega
      · intro j hj
        by_cases e : j = i
        · subst e; rw [upd_at, hk]; exact (updR_at r s v).symm
        · have hlj : ls j = true := by simpa [e] using hj
          rw [upd_ne e, F.vals j hlj]
          cases hkj : ckAt ks j with
          | quiet v' lim' => rfl
          | step t' =>
            have := (F.steps j t' (F.lt j hlj) hkj).1 hlj
            exact (updR_ne (by omega)).symm
  · rintro L vs w' ⟨s, r, F⟩ hlst
    have hs : s = st.length := by
      by_cases h : s < st.length
      · obtain ⟨i, e1, e2, e3, _⟩ := hstp s h
        have := (F.steps i s e2 e3).1 (hlst i e2)
        omega
      · have := F.le; omega
    subst hs
    rw [putC_all L vs r l 0 ks a hlen (fun i hi => by rw [Nat.zero_add]; exact hlst i hi) (fun i hi => by rw [Nat.zero_add]; exact F.vals i (hlst i hi))]
    exact hend r w' F.inv
end

end Go.Proofs.YtnpaejknoipicafGreat

namespace Go.Proofs.YtnpaejknoipicafGreat
open Go.RowKit

set_option maxHeartbeats 4000000 in
set_option maxRecDepth 100000 in
theorem feedFn_any (S : Nat → Prop) (M sb : Nat) (t : Tr) (s : List UInt8) (w : World) (hsb : Blk w sb #[.string (ba s)] 9) (hT : TkB S M w t (0 : Nat)) (hk : t.chk = 0) (hS : ∀ g, w.heap.size ≤ g → S g) :
    Calls Tryz.prog 66 #[.pointer (some ⟨M, 0, none⟩), .pointer (some ⟨sb, 0, none⟩)] w fun e w' => e = .returned (.int .i64 (feedR t s).2.2) ∧ ((feedR t s).2.2 = 0 → TkB S M w' (feedR t s).1 ((feedR t s).2.1 : Nat)) ∧ Kept [M] w w' := by
  obtain ⟨h1, h2, h3, h4, _⟩ := Tr.chk_zero.1 hk
  obtain ⟨R, hR⟩ : ∃ R, R = feedR t s := ⟨_, rfl⟩
  have HF : Hid (Calls Tryz.prog 67 #[.pointer (some ⟨M, 0, none⟩), .string (ba s)] w fun e w' => e = .returned (.int .i64 R.2.2) ∧ Hid (R.2.2 = 0 → TkB S M w' R.1 (R.2.1 : Nat)) ∧ Hid (Kept [M] w w')) := by rw [hR]; exact tkFeed_any S M t s w hT h1 h2 ⟨h3, h4⟩ hS
  rw [← hR]
  have c0 := hsb.one
  clear h1 h2 h3 h4 hk hR hT hS hsb
  go_enter Tryz.func66, Tryz.ntmps66
  go_wp2_with fail
  refine HF.out.mono ?_
  rintro e w1 ⟨rfl, a1, a2⟩
  go_wp2
  go_ret
  exact ⟨rfl, a1.out, a2.out⟩

set_option maxHeartbeats 4000000 in
set_option maxRecDepth 100000 in
theorem drainFn_any (S : Nat → Prop) (M : Nat) (t : Tr) (w : World) (hT : TkB S M w t (0 : Nat)) (hk : t.chk = 0) (hS : ∀ g, w.heap.size ≤ g → S g) :
    Calls Tryz.prog 68 #[.pointer (some ⟨M, 0, none⟩)] w fun e w' => e = .returned (.int .i64 (drainR t).2.2) ∧ ((drainR t).2.2 = 0 → TkB S M w' (drainR t).1 ((drainR t).2.1 : Nat)) ∧ Kept [M] w w' := by
  obtain ⟨h1, h2, h3, h4, _⟩ := Tr.chk_zero.1 hk
  obtain ⟨R, hR⟩ : ∃ R, R = drainR t := ⟨_, rfl⟩
  have HF : Hid (Calls Tryz.prog 69 #[.pointer (some ⟨M, 0, none⟩)] w fun e w' => e = .returned (.int .i64 R.2.2) ∧ Hid (R.2.2 = 0 → TkB S M w' R.1 (R.2.1 : Nat)) ∧ Hid (Kept [M] w w')) := by rw [hR]; exact tkDrain_any S M t w hT h2 ⟨h3, h4⟩ hS
  rw [← hR]
  clear h1 h2 h3 h4 hk hR hT hS
  go_enter Tryz.func68, Tryz.ntmps68
  go_wp2_with fail
  refine HF.out.mono ?_
  rintro e w1 ⟨rfl, a1, a2⟩
  go_wp2
  go_ret
  exact ⟨rfl, a1.out, a2.out⟩

/-- the result's box, written with a track of zeros -/
theorem zero_out {w : World} {A : Nat} {t : TypeId} (h : Blk w A #[.int .i64 0, .int .i64 0, .slice none 0 0, .slice none 0 0, .int .i64 0, .slice none 0 0, .slice none 0 0] t) :
    Blk (((((((w.setCell ⟨A, 0, none⟩ (.int .i64 0)).setCell ⟨A, 1, none⟩ (.int .i64 0)).setCell ⟨A, 2, none⟩ (.slice none 0 0)).setCell ⟨A, 3, none⟩ (.slice none 0 0)).setCell ⟨A, 4, none⟩ (.int .i64 0)).setCell ⟨A, 5, none⟩ (.slice none 0 0)).setCell ⟨A, 6, none⟩ (.slice none 0 0)) A #[.int .i64 0, .int .i64 0, .slice none 0 0, .slice none 0 0, .int .i64 0, .slice none 0 0, .slice none 0 0] t := seven_out h _ _ _ _ _ _ _
theorem seven_below {B A : Nat} {w V : World} (h : Below B w V) (hA : B ≤ A) (x0 x1 x2 x3 x4 x5 x6 : Value) : Below B w (((((((V.setCell ⟨A, 0, none⟩ x0).setCell ⟨A, 1, none⟩ x1).setCell ⟨A, 2, none⟩ x2).setCell ⟨A, 3, none⟩ x3).setCell ⟨A, 4, none⟩ x4).setCell ⟨A, 5, none⟩ x5).setCell ⟨A, 6, none⟩ x6) :=
  ((((((h.setCell (by exact hA) _).setCell (by exact hA) _).setCell (by exact hA) _).setCell (by exact hA) _).setCell (by exact hA) _).setCell (by exact hA) _).setCell (by exact hA) _
theorem seven_same {S : Nat → Prop} {A : Nat} {V : World} (hA : ¬ S A) (x0 x1 x2 x3 x4 x5 x6 : Value) : SameOn S V (((((((V.setCell ⟨A, 0, none⟩ x0).setCell ⟨A, 1, none⟩ x1).setCell ⟨A, 2, none⟩ x2).setCell ⟨A, 3, none⟩ x3).setCell ⟨A, 4, none⟩ x4).setCell ⟨A, 5, none⟩ x5).setCell ⟨A, 6, none⟩ x6) := by
  refine ⟨by simp, fun g _ hg => ?_⟩
  have hne : g ≠ A := fun e => hA (e ▸ hg)
  iterate 6 refine (Below.heap_setCell _ _ _ _ (by exact hne)).trans ?_
  exact Below.heap_setCell _ _ _ _ (by exact hne)

set_option maxHeartbeats 16000000 in
set_option maxRecDepth 100000 in
theorem trkChangeF_any (t : Tr) (s : List UInt8) (sb : Nat) (hv bv gv ov : Value) (w : World) (hr : TrIn (fun g => g < w.heap.size) w hv bv gv ov t) (hsb : Blk w sb #[.string (ba s)] 9) :
    Calls Tryz.prog 65 #[.agg #[.int .i64 t.last, .int .i64 t.next, hv, bv, .int .i64 t.first, gv, ov], .func (.func 66) #[] #[.pointer (some ⟨sb, 0, none⟩)]] w fun e w' => ∃ hv' bv' gv' ov', e = .returned (.tuple #[.agg #[.int .i64 (feedA t s).1.last, .int .i64 (feedA t s).1.next, hv', bv', .int .i64 (feedA t s).1.first, gv', ov'], .int .i64 (feedA t s).2.1, .int .i64 (feedA t s).2.2]) ∧ TrIn (fun g => w.heap.size ≤ g) w' hv' bv' gv' ov' (feedA t s).1 ∧ Below w.heap.size w w' := by
  obtain ⟨ha, hc, ba', bc, ga, gc, oa, oc, eh, eb, eg, eo⟩ := hr.slices
  obtain ⟨RT, RC, RE, hRR⟩ : ∃ RT RC RE, (RT, RC, RE) = feedR t s := ⟨_, _, _, rfl⟩
  obtain ⟨A, hA⟩ : ∃ A, A = feedA t s := ⟨_, rfl⟩
  obtain ⟨CK, hCK⟩ : ∃ c, c = t.chk := ⟨_, rfl⟩
  have HA : Hid (A = if CK = 0 then (RT, RC, RE) else (Tr.zero, 0, CK)) := by show A = _; rw [hA, hCK, hRR]; rfl
  have HHOW : Hid (CK = 0 → ∀ W M, Below w.heap.size w W → w.heap.size + 2 ≤ W.heap.size → TkB (fun g => w.heap.size + 2 ≤ g) M W t (0 : Nat) → Calls Tryz.prog 66 #[.pointer (some ⟨M, 0, none⟩), .pointer (some ⟨sb, 0, none⟩)] W fun e w' => e = .returned (.int .i64 RE) ∧ Hid (RE = 0 → TkB (fun g => w.heap.size + 2 ≤ g) M w' RT (RC : Nat)) ∧ Hid (Kept [M] W w')) := fun h W M hW hM hT => by
    refine (feedFn_any _ M sb t s W (hsb.below hW hsb.lt) hT (hCK ▸ h) (fun g hg => Nat.le_trans hM hg)).mono ?_
    rintro e w' ⟨rfl, a1, a2⟩
    rw [← hRR] at a1 ⊢
    exact ⟨rfl, a1, a2⟩
  have hbad : Hid (¬ RE = 0 → CK = 0 → RT = Tr.zero ∧ RC = 0) := fun h1 h2 => by
    have q := feedA_bad (t := t) (s := s)
    rw [← hA, HA.out, if_pos h2] at q
    exact q h1
  rw [← hA]
  clear hA
  have HCHK : Hid (∀ U C, ClT w U C hv bv gv ov t → Calls Tryz.prog 29 #[.agg #[.int .i64 t.last, .int .i64 t.next, hv, bv, .int .i64 t.first, gv, ov]] U fun e w' => e = .returned (.int .i64 CK) ∧ Below U.heap.size U w') := fun U C hU => by
    rw [hCK]; exact trkCheck_any _ t hv bv gv ov U hU.2.2.2.2
  have HCL : Hid (CK = 0 → ∀ U C, ClT w U C hv bv gv ov t → Calls Tryz.prog 109 #[.agg #[.int .i64 t.last, .int .i64 t.next, hv, bv, .int .i64 t.first, gv, ov]] U fun e w' => ∃ a1 n1 c1 a2 n2 c2 a3 n3 c3 a4 n4 c4, e = .returned (.agg #[.int .i64 t.last, .int .i64 t.next, .slice a1 n1 c1, .slice a2 n2 c2, .int .i64 t.first, .slice a3 n3 c3, .slice a4 n4 c4]) ∧ Hid (TrIn (fun g => w.heap.size + 2 ≤ g) w' (.slice a1 n1 c1) (.slice a2 n2 c2) (.slice a3 n3 c3) (.slice a4 n4 c4) t) ∧ Below U.heap.size U w') := fun h U C hU => by
    refine (cloneTrack_any _ t hv bv gv ov U hU.2.2.2.2 (hCK ▸ h)).mono ?_
    rintro e w' ⟨x1, x2, x3, x4, rfl, q, b⟩
    obtain ⟨a1, c1, a2, c2, a3, c3, a4, c4, e1, e2, e3, e4⟩ := q.slices
    subst e1 e2 e3 e4
    exact ⟨_, _, _, _, _, _, _, _, _, _, _, _, rfl, q.mono fun g _ hg => Nat.le_trans hU.2.2.2.1 hg, b⟩
  obtain ⟨nh, hnh⟩ : ∃ n, n = t.h.length := ⟨_, rfl⟩
  obtain ⟨no, hno⟩ : ∃ n, n = t.o.length := ⟨_, rfl⟩
  obtain ⟨ng, hng⟩ : ∃ n, n = t.L.length := ⟨_, rfl⟩
  obtain ⟨nO, hnO⟩ : ∃ n, n = t.O.length := ⟨_, rfl⟩
  rw [← hnh] at eh
  rw [← hno] at eb
  rw [← hng] at eg
  rw [← hnO] at eo
  obtain ⟨last, hla⟩ : ∃ x, x = t.last := ⟨_, rfl⟩
  obtain ⟨next, hne⟩ : ∃ x, x = t.next := ⟨_, rfl⟩
  obtain ⟨first, hfi⟩ : ∃ x, x = t.first := ⟨_, rfl⟩
  have HTK : Hid (∀ W M a1 n1 c1 a2 n2 c2 a3 n3 c3 a4 n4 c4, Blk W M #[.int .i64 last, .int .i64 next, .slice a1 n1 c1, .slice a2 n2 c2, .int .i64 first, .slice a3 n3 c3, .slice a4 n4 c4, .int .i64 0] 167 → TrIn (fun g => w.heap.size + 2 ≤ g ∧ g ≠ M) W (.slice a1 n1 c1) (.slice a2 n2 c2) (.slice a3 n3 c3) (.slice a4 n4 c4) t → TkB (fun g => w.heap.size + 2 ≤ g) M W t (0 : Nat)) := fun W M a1 n1 c1 a2 n2 c2 a3 n3 c3 a4 n4 c4 h1 h3 => by
    rw [hla, hne, hfi] at h1
    exact ⟨_, _, _, _, h1, h3⟩
  rw [← hla, ← hne, ← hfi] at HCHK HCL ⊢
  have HI : Hid (ClT w ((w.alloc (.cells #[.int .i64 last, .int .i64 next, hv, bv, .int .i64 first, gv, ov] 61)).alloc (.cells #[.int .i64 0, .int .i64 0, .slice none 0 0, .slice none 0 0, .int .i64 0, .slice none 0 0, .slice none 0 0] 61)) #[.int .i64 last, .int .i64 next, hv, bv, .int .i64 first, gv, ov] hv bv gv ov t) := by
    have b1 : Below w.heap.size w (w.alloc (.cells #[.int .i64 last, .int .i64 next, hv, bv, .int .i64 first, gv, ov] 61)) := (Below.refl _ _).alloc (Nat.le_refl _) _
    have k1 := Blk.new w #[.int .i64 last, .int .i64 next, hv, bv, .int .i64 first, gv, ov] 61
    have k2 := Blk.new (w.alloc (.cells #[.int .i64 last, .int .i64 next, hv, bv, .int .i64 first, gv, ov] 61)) #[.int .i64 0, .int .i64 0, .slice none 0 0, .slice none 0 0, .int .i64 0, .slice none 0 0, .slice none 0 0] 61
    have b2 : Below w.heap.size w ((w.alloc (.cells #[.int .i64 last, .int .i64 next, hv, bv, .int .i64 first, gv, ov] 61)).alloc (.cells #[.int .i64 0, .int .i64 0, .slice none 0 0, .slice none 0 0, .int .i64 0, .slice none 0 0, .slice none 0 0] 61)) := b1.alloc (by simp) _
    exact ⟨b2, k1.below ((Below.refl _ _).alloc (Nat.le_refl _) _) k1.lt, by simpa using k2, by simp, hr.below b2⟩
  clear hla hne hfi hr hnh hno hng hnO hsb hRR hCK
  subst eh eb eg eo
  go_enter Tryz.func65, Tryz.ntmps65
  obtain ⟨W, hW⟩ : ∃ W, W = (w.alloc (.cells #[.int .i64 last, .int .i64 next, .slice ha nh hc, .slice ba' no bc, .int .i64 first, .slice ga ng gc, .slice oa nO oc] 61)).alloc (.cells #[.int .i64 0, .int .i64 0, .slice none 0 0, .slice none 0 0, .int .i64 0, .slice none 0 0, .slice none 0 0] 61) := ⟨_, rfl⟩
  rw [← hW] at HI
  go_wp2_with fail
  rw [← hW]
  clear hW
  refine (HCHK.out W _ HI.out).mono ?_
  rintro e w1 ⟨rfl, b1⟩
  have HI1 : Hid (ClT w w1 #[.int .i64 last, .int .i64 next, .slice ha nh hc, .slice ba' no bc, .int .i64 first, .slice ga ng gc, .slice oa nO oc] (.slice ha nh hc) (.slice ba' no bc) (.slice ga ng gc) (.slice oa nO oc) t) := HI.out.go b1
  clear b1 HI HCHK W
  obtain ⟨y0, y1, y2, y3, y4, y5, y6⟩ := HI1.out.2.1.sevenc
  by_cases h1 : CK = 0
  case neg =>
    have KB : Hid (Blk w1 (w.heap.size + 1) #[.int .i64 0, .int .i64 0, .slice none 0 0, .slice none 0 0, .int .i64 0, .slice none 0 0, .slice none 0 0] 61) := HI1.out.2.2.1
    have BW : Hid (Below w.heap.size w w1) := HI1.out.1
    have HAe : Hid (A = (Tr.zero, 0, CK)) := by show A = _; rw [HA.out, if_neg h1]
    obtain ⟨z0, z1, z2, z3, z4, z5, z6⟩ := KB.out.sevenc
    have g0 := KB.out.free 0
    have g1 := KB.out.free 1
    have g2 := KB.out.free 2
    have g3 := KB.out.free 3
    have g4 := KB.out.free 4
    have g5 := KB.out.free 5
    have g6 := KB.out.free 6
    clear HHOW hbad HCL HTK HA HI1 y0 y1 y2 y3 y4 y5 y6
    go_wp2_with fail
    clear z0 z1 z2 z3 z4 z5 z6 g0 g1 g2 g3 g4 g5 g6
    have KZ := zero_out KB.out
    have BZ := seven_below BW.out (Nat.le_succ w.heap.size) (.int .i64 0) (.int .i64 0) (.slice none 0 0) (.slice none 0 0) (.int .i64 0) (.slice none 0 0) (.slice none 0 0)
    clear KB BW
    obtain ⟨Z, hZ⟩ : ∃ Z, Z = (((((((w1.setCell ⟨w.heap.size + 1, 0, none⟩ (.int .i64 0)).setCell ⟨w.heap.size + 1, 1, none⟩ (.int .i64 0)).setCell ⟨w.heap.size + 1, 2, none⟩ (.slice none 0 0)).setCell ⟨w.heap.size + 1, 3, none⟩ (.slice none 0 0)).setCell ⟨w.heap.size + 1, 4, none⟩ (.int .i64 0)).setCell ⟨w.heap.size + 1, 5, none⟩ (.slice none 0 0)).setCell ⟨w.heap.size + 1, 6, none⟩ (.slice none 0 0)) := ⟨_, rfl⟩
    rw [← hZ] at KZ BZ ⊢
    clear hZ
    obtain ⟨q0, q1, q2, q3, q4, q5, q6⟩ := KZ.sevenc
    exact bodyPost_ret (v := .tuple #[.agg #[.int .i64 0, .int .i64 0, .slice none 0 0, .slice none 0 0, .int .i64 0, .slice none 0 0, .slice none 0 0], .int .i64 0, .int .i64 CK]) (by simp [results, Tryz.results65, go_sem, q0, q1, q2, q3, q4, q5, q6]) rfl ⟨_, _, _, _, by rw [HAe.out]; rfl, by rw [HAe.out]; exact TrIn.zero _ _, BZ⟩
  subst h1
  have HA2 : Hid (A = (RT, RC, RE)) := by show A = _; rw [HA.out, if_pos rfl]
  clear HA
  go_wp2_with fail
  refine (HCL.out (by first | rfl | trivial) w1 _ HI1.out).mono ?_
  rintro e w2 ⟨a1, n1, c1, a2, n2, c2, a3, n3, c3, a4, n4, c4, rfl, HR2, b1⟩
  have HI2 : Hid (ClT w w2 #[.int .i64 last, .int .i64 next, .slice ha nh hc, .slice ba' no bc, .int .i64 first, .slice ga ng gc, .slice oa nO oc] (.slice ha nh hc) (.slice ba' no bc) (.slice ga ng gc) (.slice oa nO oc) t) := HI1.out.go b1
  clear b1 HI1 HCL y0 y1 y2 y3 y4 y5 y6
  obtain ⟨W3, hW3⟩ : ∃ W, W = w2.alloc (.cells #[.int .i64 last, .int .i64 next, .slice a1 n1 c1, .slice a2 n2 c2, .int .i64 first, .slice a3 n3 c3, .slice a4 n4 c4, .int .i64 0] 167) := ⟨_, rfl⟩
  have hsz2 : w.heap.size + 2 ≤ w2.heap.size := HI2.out.2.2.2.1
  have HTK3 : Hid (TkB (fun g => w.heap.size + 2 ≤ g) w2.heap.size W3 t (0 : Nat)) := HTK.out W3 w2.heap.size a1 n1 c1 a2 n2 c2 a3 n3 c3 a4 n4 c4 (Blk.newE hW3) (by rw [hW3]; exact HR2.out.to (SameOn.alloc _) (fun g hg h => ⟨by omega, by omega⟩))
  have KB3 : Hid (Blk W3 (w.heap.size + 1) #[.int .i64 0, .int .i64 0, .slice none 0 0, .slice none 0 0, .int .i64 0, .slice none 0 0, .slice none 0 0] 61) := by rw [hW3]; exact HI2.out.2.2.1.below ((Below.refl _ _).alloc (Nat.le_refl _) _) HI2.out.2.2.1.lt
  have BW3 : Hid (Below w.heap.size w W3) := by rw [hW3]; exact HI2.out.1.alloc HI2.out.1.size _
  have hsz3 : w.heap.size + 2 ≤ W3.heap.size := by rw [hW3]; simp; omega
  clear HTK HR2 HI2
  go_wp2_with fail
  rw [← hW3]
  clear hW3
  refine (HHOW.out (by first | rfl | trivial) W3 w2.heap.size BW3.out hsz3 HTK3.out).mono ?_
  rintro e w4 ⟨rfl, HT4, HK4⟩
  have KB : Hid (Blk w4 (w.heap.size + 1) #[.int .i64 0, .int .i64 0, .slice none 0 0, .slice none 0 0, .int .i64 0, .slice none 0 0, .slice none 0 0] 61) := KB3.out.kept HK4.out (by simp; omega)
  have BW : Hid (Below w.heap.size w w4) := BW3.out.trans (HK4.out.toBelow BW3.out.size (fun k hk => by simp at hk; omega))
  clear HHOW HTK3 KB3 BW3 HK4
  by_cases h1 : RE = 0
  case neg =>
    obtain ⟨q1, q2⟩ := hbad.out h1 (by first | rfl | trivial)
    have HAe : Hid (A = (Tr.zero, 0, RE)) := by show A = _; rw [HA2.out, q1, q2]
    clear q1 q2 HA2 hbad HT4
    obtain ⟨z0, z1, z2, z3, z4, z5, z6⟩ := KB.out.sevenc
    have g0 := KB.out.free 0
    have g1 := KB.out.free 1
    have g2 := KB.out.free 2
    have g3 := KB.out.free 3
    have g4 := KB.out.free 4
    have g5 := KB.out.free 5
    have g6 := KB.out.free 6
    go_wp2_with fail
    clear z0 z1 z2 z3 z4 z5 z6 g0 g1 g2 g3 g4 g5 g6
    have KZ := zero_out KB.out
    have BZ := seven_below BW.out (Nat.le_succ w.heap.size) (.int .i64 0) (.int .i64 0) (.slice none 0 0) (.slice none 0 0) (.int .i64 0) (.slice none 0 0) (.slice none 0 0)
    clear KB BW
    obtain ⟨Z, hZ⟩ : ∃ Z, Z = (((((((w4.setCell ⟨w.heap.size + 1, 0, none⟩ (.int .i64 0)).setCell ⟨w.heap.size + 1, 1, none⟩ (.int .i64 0)).setCell ⟨w.heap.size + 1, 2, none⟩ (.slice none 0 0)).setCell ⟨w.heap.size + 1, 3, none⟩ (.slice none 0 0)).setCell ⟨w.heap.size + 1, 4, none⟩ (.int .i64 0)).setCell ⟨w.heap.size + 1, 5, none⟩ (.slice none 0 0)).setCell ⟨w.heap.size + 1, 6, none⟩ (.slice none 0 0)) := ⟨_, rfl⟩
    rw [← hZ] at KZ BZ ⊢
    clear hZ
    obtain ⟨q0, q1, q2, q3, q4, q5, q6⟩ := KZ.sevenc
    exact bodyPost_ret (v := .tuple #[.agg #[.int .i64 0, .int .i64 0, .slice none 0 0, .slice none 0 0, .int .i64 0, .slice none 0 0, .slice none 0 0], .int .i64 0, .int .i64 RE]) (by simp [results, Tryz.results65, go_sem, q0, q1, q2, q3, q4, q5, q6]) rfl ⟨_, _, _, _, by rw [HAe.out]; rfl, by rw [HAe.out]; exact TrIn.zero _ _, BZ⟩
  clear hbad
  obtain ⟨v1, v2, v3, v4, K8, TR⟩ := HT4.out h1
  subst h1
  clear HT4
  obtain ⟨b1, d1, b2, d2, b3, d3, b4, d4, e1, e2, e3, e4⟩ := TR.slices
  obtain ⟨m1, hm1⟩ : ∃ n, n = RT.h.length := ⟨_, rfl⟩
  obtain ⟨m2, hm2⟩ : ∃ n, n = RT.o.length := ⟨_, rfl⟩
  obtain ⟨m3, hm3⟩ : ∃ n, n = RT.L.length := ⟨_, rfl⟩
  obtain ⟨m4, hm4⟩ : ∃ n, n = RT.O.length := ⟨_, rfl⟩
  rw [← hm1] at e1
  rw [← hm2] at e2
  rw [← hm3] at e3
  rw [← hm4] at e4
  subst e1 e2 e3 e4
  obtain ⟨la2, hl2⟩ : ∃ x, x = RT.last := ⟨_, rfl⟩
  obtain ⟨ne2, hn2⟩ : ∃ x, x = RT.next := ⟨_, rfl⟩
  obtain ⟨fi2, hf2⟩ : ∃ x, x = RT.first := ⟨_, rfl⟩
  obtain ⟨rc, hrc⟩ : ∃ x, x = (RC : Int) := ⟨_, rfl⟩
  rw [← hl2, ← hn2, ← hf2, ← hrc] at K8
  obtain ⟨V, hV⟩ : ∃ V, V = { w4 with drawn := w4.drawn + 1 } := ⟨_, rfl⟩
  obtain ⟨Z, hZ⟩ : ∃ Z, Z = (((((((V.setCell ⟨w.heap.size + 1, 0, none⟩ (.int .i64 la2)).setCell ⟨w.heap.size + 1, 1, none⟩ (.int .i64 ne2)).setCell ⟨w.heap.size + 1, 2, none⟩ (.slice b1 m1 d1)).setCell ⟨w.heap.size + 1, 3, none⟩ (.slice b2 m2 d2)).setCell ⟨w.heap.size + 1, 4, none⟩ (.int .i64 fi2)).setCell ⟨w.heap.size + 1, 5, none⟩ (.slice b3 m3 d3)).setCell ⟨w.heap.size + 1, 6, none⟩ (.slice b4 m4 d4)) := ⟨_, rfl⟩
  have hne : w2.heap.size ≠ w.heap.size + 1 := by omega
  have KMV : Hid (Blk V w2.heap.size #[.int .i64 la2, .int .i64 ne2, .slice b1 m1 d1, .slice b2 m2 d2, .int .i64 fi2, .slice b3 m3 d3, .slice b4 m4 d4, .int .i64 rc] 167) := by rw [hV]; exact K8.drew
  have KBV : Hid (Blk V (w.heap.size + 1) #[.int .i64 0, .int .i64 0, .slice none 0 0, .slice none 0 0, .int .i64 0, .slice none 0 0, .slice none 0 0] 61) := by rw [hV]; exact KB.out.drew
  have hsame : SameOn (fun g => g ≠ w.heap.size + 1) V Z := by rw [hZ]; exact seven_same (by simp) _ _ _ _ _ _ _
  have KMZ : Hid (Blk Z w2.heap.size #[.int .i64 la2, .int .i64 ne2, .slice b1 m1 d1, .slice b2 m2 d2, .int .i64 fi2, .slice b3 m3 d3, .slice b4 m4 d4, .int .i64 rc] 167) := (hsame.2 _ KMV.out.lt hne).trans KMV.out
  have KBZ : Hid (Blk Z (w.heap.size + 1) #[.int .i64 la2, .int .i64 ne2, .slice b1 m1 d1, .slice b2 m2 d2, .int .i64 fi2, .slice b3 m3 d3, .slice b4 m4 d4] 61) := by rw [hZ]; exact seven_out KBV.out _ _ _ _ _ _ _
  have HBZ : Hid (Below w.heap.size w Z) := by rw [hZ]; exact seven_below (by rw [hV]; exact BW.out.drew) (Nat.le_succ _) _ _ _ _ _ _ _
  have HEQ : Hid (Ending.returned (Value.tuple #[.agg #[.int .i64 la2, .int .i64 ne2, .slice b1 m1 d1, .slice b2 m2 d2, .int .i64 fi2, .slice b3 m3 d3, .slice b4 m4 d4], .int .i64 rc, .int .i64 0]) = Ending.returned (Value.tuple #[.agg #[.int .i64 A.1.last, .int .i64 A.1.next, .slice b1 m1 d1, .slice b2 m2 d2, .int .i64 A.1.first, .slice b3 m3 d3, .slice b4 m4 d4], .int .i64 A.2.1, .int .i64 A.2.2])) := by rw [hl2, hn2, hf2, hrc]; show _ = _; rw [HA2.out]
  have HTR : Hid (TrIn (fun g => w.heap.size ≤ g) Z (.slice b1 m1 d1) (.slice b2 m2 d2) (.slice b3 m3 d3) (.slice b4 m4 d4) A.1) := by
    show TrIn _ _ _ _ _ _ _
    rw [HA2.out]
    have q : TrIn (fun g => w.heap.size + 2 ≤ g ∧ g ≠ w2.heap.size) V (.slice b1 m1 d1) (.slice b2 m2 d2) (.slice b3 m3 d3) (.slice b4 m4 d4) RT := by rw [hV]; exact TR.to ⟨Nat.le_refl _, fun g _ _ => rfl⟩ (fun g _ h => h)
    exact q.to (hsame.mono fun g hg => by have := hg.1; omega) (fun g _ hg => by have := hg.1; omega)
  clear HA2 hl2 hn2 hf2 hrc hm1 hm2 hm3 hm4 K8 TR hsame
  go_wp2_with fail
  refine region_chainG (by kernel_rfl) (by kernel_rfl) [.quiet (.pointer (some ⟨w2.heap.size, 0, none⟩)) 3, .quiet (.agg #[.int .i64 la2, .int .i64 ne2, .slice b1 m1 d1, .slice b2 m2 d2, .int .i64 fi2, .slice b3 m3 d3, .slice b4 m4 d4]) 3, .quiet (.pointer (some ⟨w2.heap.size, 7, none⟩)) 3, .quiet (.int .i64 rc) 3, .step 0, .step 1, .step 2] [4, 5, 6] (by kernel_rfl)
    (fun s r w' => match s with
      | 0 => w' = V
      | 1 => w' = Z
      | 2 => w' = Z ∧ r 1 = .int .i64 rc
      | _ => w' = Z ∧ r 1 = .int .i64 rc ∧ r 2 = .int .i64 0
      ) hV.symm ?step ?fin
  case step =>
    intro i o ho a' w' s r hI hfree hvals
    have kx : Blk w' w2.heap.size #[.int .i64 la2, .int .i64 ne2, .slice b1 m1 d1, .slice b2 m2 d2, .int .i64 fi2, .slice b3 m3 d3, .slice b4 m4 d4, .int .i64 rc] 167 := by
      match s, hI with
      | 0, hI => rw [show w' = V from hI]; exact KMV.out
      | 1, hI => rw [show w' = Z from hI]; exact KMZ.out
      | 2, hI => rw [hI.1]; exact KMZ.out
      | n + 3, hI => rw [hI.1]; exact KMZ.out
    obtain ⟨a0, a1, a2, a3, a4, a5, a6, a7⟩ := kx.eight
    match i, ho with
    | 0, ho =>
      simp at ho; subst ho
      have e8 : a'.eval (.tmp 8) = .pointer (some ⟨w2.heap.size, 0, none⟩) := (hfree 8 (by kernel_rfl)).trans rfl
      show s ≤ 3 → _
      intro hs
      refine .inl ⟨rfl, ?_⟩
      generalize a'.eval = ρ at *
      simp [execOp, go_sem, e8]
    | 1, ho =>
      simp at ho; subst ho
      have e25 : a'.eval (.tmp 25) = .pointer (some ⟨w2.heap.size, 0, none⟩) := hvals 0 _ _ (by kernel_rfl) rfl rfl
      show s ≤ 3 → _
      intro hs
      refine .inl ⟨rfl, ?_⟩
      generalize a'.eval = ρ at *
      simp [execOp, go_sem, e25, a0, a1, a2, a3, a4, a5, a6]
    | 2, ho =>
      simp at ho; subst ho
      have e8 : a'.eval (.tmp 8) = .pointer (some ⟨w2.heap.size, 0, none⟩) := (hfree 8 (by kernel_rfl)).trans rfl
      show s ≤ 3 → _
      intro hs
      refine .inl ⟨rfl, ?_⟩
      generalize a'.eval = ρ at *
      simp [execOp, go_sem, e8]
    | 3, ho =>
      simp at ho; subst ho
      have e27 : a'.eval (.tmp 27) = .pointer (some ⟨w2.heap.size, 7, none⟩) := hvals 2 _ _ (by kernel_rfl) rfl rfl
      show s ≤ 3 → _
      intro hs
      refine .inl ⟨rfl, ?_⟩
      generalize a'.eval = ρ at *
      simp [execOp, go_sem, e27, a7]
    | 4, ho =>
      simp at ho; subst ho
      have e4 : a'.eval (.tmp 4) = .pointer (some ⟨w.heap.size + 1, 0, none⟩) := (hfree 4 (by kernel_rfl)).trans rfl
      have e26 : a'.eval (.tmp 26) = .agg #[.int .i64 la2, .int .i64 ne2, .slice b1 m1 d1, .slice b2 m2 d2, .int .i64 fi2, .slice b3 m3 d3, .slice b4 m4 d4] := hvals 1 _ _ (by kernel_rfl) rfl rfl
      show s = 0 → _ ∧ Oper.wp _ _ _ _ _ _
      intro hs
      subst hs
      refine ⟨rfl, ?_⟩
      have hw : w' = V := hI
      obtain ⟨t0, t1, t2, t3, t4, t5, t6⟩ := KBV.out.sevenc
      have fr := KBV.out.free
      refine oper_wp_skip (w' := Z) ?_ ⟨_, rfl, rfl⟩
      generalize a'.eval = ρ at *
      rw [hw, hZ]
      simp [execOp, go_sem, e4, e26, t0, t1, t2, t3, t4, t5, t6, fr]
    | 5, ho =>
      simp at ho; subst ho
      have e28 : a'.eval (.tmp 28) = .int .i64 rc := hvals 3 _ _ (by kernel_rfl) rfl rfl
      show s = 1 → _ ∧ Oper.wp _ _ _ _ _ _
      intro hs
      subst hs
      refine ⟨rfl, ?_⟩
      refine oper_wp_ok (v := .int .i64 rc) (w' := w') ?_ ⟨_, rfl, hI, updR_at _ _ _⟩
      generalize a'.eval = ρ at *
      simp [execOp, go_sem, e28]
    | 6, ho =>
      simp at ho; subst ho
      have ec0 : a'.eval (.const (.int .i64 0)) = .int .i64 0 := rfl
      show s = 2 → _ ∧ Oper.wp _ _ _ _ _ _
      intro hs
      subst hs
      refine ⟨rfl, ?_⟩
      obtain ⟨c0, c1⟩ := hI
      refine oper_wp_ok (v := .int .i64 0) (w' := w') ?_ ⟨_, rfl, c0, by rw [updR_ne (by omega)]; exact c1, updR_at _ _ _⟩
      generalize a'.eval = ρ at *
      simp [execOp, go_sem, ec0]
  case fin =>
    rintro r V2 ⟨d0, d1, d2⟩
    simp only [putC, Ck.out, d1, d2, Act.put, List.setIfInBounds_toArray, List.set_cons_succ, List.set_cons_zero]
    rw [d0]
    obtain ⟨u0, u1, u2, u3, u4, u5, u6⟩ := KBZ.out.sevenc
    clear d0 d1 d2 r V2 KMV KMZ KBV KBZ hV hZ V
    go_wp2_with fail
    exact bodyPost_ret (v := .tuple #[.agg #[.int .i64 la2, .int .i64 ne2, .slice b1 m1 d1, .slice b2 m2 d2, .int .i64 fi2, .slice b3 m3 d3, .slice b4 m4 d4], .int .i64 rc, .int .i64 0]) (by simp [results, Tryz.results65, go_sem, u0, u1, u2, u3, u4, u5, u6]) rfl ⟨_, _, _, _, HEQ.out, HTR.out, HBZ.out⟩

end Go.Proofs.YtnpaejknoipicafGreat

namespace Go.Proofs.YtnpaejknoipicafGreat
open Go.RowKit

set_option maxHeartbeats 16000000 in
set_option maxRecDepth 100000 in
theorem trkChangeD_any (t : Tr) (hv bv gv ov : Value) (w : World) (hr : TrIn (fun g => g < w.heap.size) w hv bv gv ov t) :
    Calls Tryz.prog 65 #[.agg #[.int .i64 t.last, .int .i64 t.next, hv, bv, .int .i64 t.first, gv, ov], .func (.func 68) #[] #[]] w fun e w' => ∃ hv' bv' gv' ov', e = .returned (.tuple #[.agg #[.int .i64 (drainA t).1.last, .int .i64 (drainA t).1.next, hv', bv', .int .i64 (drainA t).1.first, gv', ov'], .int .i64 (drainA t).2.1, .int .i64 (drainA t).2.2]) ∧ TrIn (fun g => w.heap.size ≤ g) w' hv' bv' gv' ov' (drainA t).1 ∧ Below w.heap.size w w' := by
  obtain ⟨ha, hc, ba', bc, ga, gc, oa, oc, eh, eb, eg, eo⟩ := hr.slices
  obtain ⟨RT, RC, RE, hRR⟩ : ∃ RT RC RE, (RT, RC, RE) = drainR t := ⟨_, _, _, rfl⟩
  obtain ⟨A, hA⟩ : ∃ A, A = drainA t := ⟨_, rfl⟩
  obtain ⟨CK, hCK⟩ : ∃ c, c = t.chk := ⟨_, rfl⟩
  have HA : Hid (A = if CK = 0 then (RT, RC, RE) else (Tr.zero, 0, CK)) := by show A = _; rw [hA, hCK, hRR]; rfl
  have HHOW : Hid (CK = 0 → ∀ W M, Below w.heap.size w W → w.heap.size + 2 ≤ W.heap.size → TkB (fun g => w.heap.size + 2 ≤ g) M W t (0 : Nat) → Calls Tryz.prog 68 #[.pointer (some ⟨M, 0, none⟩)] W fun e w' => e = .returned (.int .i64 RE) ∧ Hid (RE = 0 → TkB (fun g => w.heap.size + 2 ≤ g) M w' RT (RC : Nat)) ∧ Hid (Kept [M] W w')) := fun h W M hW hM hT => by
    refine (drainFn_any _ M t W hT (hCK ▸ h) (fun g hg => Nat.le_trans hM hg)).mono ?_
    rintro e w' ⟨rfl, a1, a2⟩
    rw [← hRR] at a1 ⊢
    exact ⟨rfl, a1, a2⟩
  have hbad : Hid (¬ RE = 0 → CK = 0 → RT = Tr.zero ∧ RC = 0) := fun h1 h2 => by
    have q := drainA_bad (t := t)
    rw [← hA, HA.out, if_pos h2] at q
    exact q h1
  rw [← hA]
  clear hA
  have HCHK : Hid (∀ U C, ClT w U C hv bv gv ov t → Calls Tryz.prog 29 #[.agg #[.int .i64 t.last, .int .i64 t.next, hv, bv, .int .i64 t.first, gv, ov]] U fun e w' => e = .returned (.int .i64 CK) ∧ Below U.heap.size U w') := fun U C hU => by
    rw [hCK]; exact trkCheck_any _ t hv bv gv ov U hU.2.2.2.2
  have HCL : Hid (CK = 0 → ∀ U C, ClT w U C hv bv gv ov t → Calls Tryz.prog 109 #[.agg #[.int .i64 t.last, .int .i64 t.next, hv, bv, .int .i64 t.first, gv, ov]] U fun e w' => ∃ a1 n1 c1 a2 n2 c2 a3 n3 c3 a4 n4 c4, e = .returned (.agg #[.int .i64 t.last, .int .i64 t.next, .slice a1 n1 c1, .slice a2 n2 c2, .int .i64 t.first, .slice a3 n3 c3, .slice a4 n4 c4]) ∧ Hid (TrIn (fun g => w.heap.size + 2 ≤ g) w' (.slice a1 n1 c1) (.slice a2 n2 c2) (.slice a3 n3 c3) (.slice a4 n4 c4) t) ∧ Below U.heap.size U w') := fun h U C hU => by
    refine (cloneTrack_any _ t hv bv gv ov U hU.2.2.2.2 (hCK ▸ h)).mono ?_
    rintro e w' ⟨x1, x2, x3, x4, rfl, q, b⟩
    obtain ⟨a1, c1, a2, c2, a3, c3, a4, c4, e1, e2, e3, e4⟩ := q.slices
    subst e1 e2 e3 e4
    exact ⟨_, _, _, _, _, _, _, _, _, _, _, _, rfl, q.mono fun g _ hg => Nat.le_trans hU.2.2.2.1 hg, b⟩
  obtain ⟨nh, hnh⟩ : ∃ n, n = t.h.length := ⟨_, rfl⟩
  obtain ⟨no, hno⟩ : ∃ n, n = t.o.length := ⟨_, rfl⟩
  obtain ⟨ng, hng⟩ : ∃ n, n = t.L.length := ⟨_, rfl⟩
  obtain ⟨nO, hnO⟩ : ∃ n, n = t.O.length := ⟨_, rfl⟩
  rw [← hnh] at eh
  rw [← hno] at eb
  rw [← hng] at eg
  rw [← hnO] at eo
  obtain ⟨last, hla⟩ : ∃ x, x = t.last := ⟨_, rfl⟩
  obtain ⟨next, hne⟩ : ∃ x, x = t.next := ⟨_, rfl⟩
  obtain ⟨first, hfi⟩ : ∃ x, x = t.first := ⟨_, rfl⟩
  have HTK : Hid (∀ W M a1 n1 c1 a2 n2 c2 a3 n3 c3 a4 n4 c4, Blk W M #[.int .i64 last, .int .i64 next, .slice a1 n1 c1, .slice a2 n2 c2, .int .i64 first, .slice a3 n3 c3, .slice a4 n4 c4, .int .i64 0] 167 → TrIn (fun g => w.heap.size + 2 ≤ g ∧ g ≠ M) W (.slice a1 n1 c1) (.slice a2 n2 c2) (.slice a3 n3 c3) (.slice a4 n4 c4) t → TkB (fun g => w.heap.size + 2 ≤ g) M W t (0 : Nat)) := fun W M a1 n1 c1 a2 n2 c2 a3 n3 c3 a4 n4 c4 h1 h3 => by
    rw [hla, hne, hfi] at h1
    exact ⟨_, _, _, _, h1, h3⟩
  rw [← hla, ← hne, ← hfi] at HCHK HCL ⊢
  have HI : Hid (ClT w ((w.alloc (.cells #[.int .i64 last, .int .i64 next, hv, bv, .int .i64 first, gv, ov] 61)).alloc (.cells #[.int .i64 0, .int .i64 0, .slice none 0 0, .slice none 0 0, .int .i64 0, .slice none 0 0, .slice none 0 0] 61)) #[.int .i64 last, .int .i64 next, hv, bv, .int .i64 first, gv, ov] hv bv gv ov t) := by
    have b1 : Below w.heap.size w (w.alloc (.cells #[.int .i64 last, .int .i64 next, hv, bv, .int .i64 first, gv, ov] 61)) := (Below.refl _ _).alloc (Nat.le_refl _) _
    have k1 := Blk.new w #[.int .i64 last, .int .i64 next, hv, bv, .int .i64 first, gv, ov] 61
    have k2 := Blk.new (w.alloc (.cells #[.int .i64 last, .int .i64 next, hv, bv, .int .i64 first, gv, ov] 61)) #[.int .i64 0, .int .i64 0, .slice none 0 0, .slice none 0 0, .int .i64 0, .slice none 0 0, .slice none 0 0] 61
    have b2 : Below w.heap.size w ((w.alloc (.cells #[.int .i64 last, .int .i64 next, hv, bv, .int .i64 first, gv, ov] 61)).alloc (.cells #[.int .i64 0, .int .i64 0, .slice none 0 0, .slice none 0 0, .int .i64 0, .slice none 0 0, .slice none 0 0] 61)) := b1.alloc (by simp) _
    exact ⟨b2, k1.below ((Below.refl _ _).alloc (Nat.le_refl _) _) k1.lt, by simpa using k2, by simp, hr.below b2⟩
  clear hla hne hfi hr hnh hno hng hnO hRR hCK
  subst eh eb eg eo
  go_enter Tryz.func65, Tryz.ntmps65
  obtain ⟨W, hW⟩ : ∃ W, W = (w.alloc (.cells #[.int .i64 last, .int .i64 next, .slice ha nh hc, .slice ba' no bc, .int .i64 first, .slice ga ng gc, .slice oa nO oc] 61)).alloc (.cells #[.int .i64 0, .int .i64 0, .slice none 0 0, .slice none 0 0, .int .i64 0, .slice none 0 0, .slice none 0 0] 61) := ⟨_, rfl⟩
  rw [← hW] at HI
  go_wp2_with fail
  rw [← hW]
  clear hW
  refine (HCHK.out W _ HI.out).mono ?_
  rintro e w1 ⟨rfl, b1⟩
  have HI1 : Hid (ClT w w1 #[.int .i64 last, .int .i64 next, .slice ha nh hc, .slice ba' no bc, .int .i64 first, .slice ga ng gc, .slice oa nO oc] (.slice ha nh hc) (.slice ba' no bc) (.slice ga ng gc) (.slice oa nO oc) t) := HI.out.go b1
  clear b1 HI HCHK W
  obtain ⟨y0, y1, y2, y3, y4, y5, y6⟩ := HI1.out.2.1.sevenc
  by_cases h1 : CK = 0
  case neg =>
    have KB : Hid (Blk w1 (w.heap.size + 1) #[.int .i64 0, .int .i64 0, .slice none 0 0, .slice none 0 0, .int .i64 0, .slice none 0 0, .slice none 0 0] 61) := HI1.out.2.2.1
    have BW : Hid (Below w.heap.size w w1) := HI1.out.1
    have HAe : Hid (A = (Tr.zero, 0, CK)) := by show A = _; rw [HA.out, if_neg h1]
    obtain ⟨z0, z1, z2, z3, z4, z5, z6⟩ := KB.out.sevenc
    have g0 := KB.out.free 0
    have g1 := KB.out.free 1
    have g2 := KB.out.free 2
    have g3 := KB.out.free 3
    have g4 := KB.out.free 4
    have g5 := KB.out.free 5
    have g6 := KB.out.free 6
    clear HHOW hbad HCL HTK HA HI1 y0 y1 y2 y3 y4 y5 y6
    go_wp2_with fail
    clear z0 z1 z2 z3 z4 z5 z6 g0 g1 g2 g3 g4 g5 g6
    have KZ := zero_out KB.out
    have BZ := seven_below BW.out (Nat.le_succ w.heap.size) (.int .i64 0) (.int .i64 0) (.slice none 0 0) (.slice none 0 0) (.int .i64 0) (.slice none 0 0) (.slice none 0 0)
    clear KB BW
    obtain ⟨Z, hZ⟩ : ∃ Z, Z = (((((((w1.setCell ⟨w.heap.size + 1, 0, none⟩ (.int .i64 0)).setCell ⟨w.heap.size + 1, 1, none⟩ (.int .i64 0)).setCell ⟨w.heap.size + 1, 2, none⟩ (.slice none 0 0)).setCell ⟨w.heap.size + 1, 3, none⟩ (.slice none 0 0)).setCell ⟨w.heap.size + 1, 4, none⟩ (.int .i64 0)).setCell ⟨w.heap.size + 1, 5, none⟩ (.slice none 0 0)).setCell ⟨w.heap.size + 1, 6, none⟩ (.slice none 0 0)) := ⟨_, rfl⟩
    rw [← hZ] at KZ BZ ⊢
    clear hZ
    obtain ⟨q0, q1, q2, q3, q4, q5, q6⟩ := KZ.sevenc
    exact bodyPost_ret (v := .tuple #[.agg #[.int .i64 0, .int .i64 0, .slice none 0 0, .slice none 0 0, .int .i64 0, .slice none 0 0, .slice none 0 0], .int .i64 0, .int .i64 CK]) (by simp [results, Tryz.results65, go_sem, q0, q1, q2, q3, q4, q5, q6]) rfl ⟨_, _, _, _, by rw [HAe.out]; rfl, by rw [HAe.out]; exact TrIn.zero _ _, BZ⟩
  subst h1
  have HA2 : Hid (A = (RT, RC, RE)) := by show A = _; rw [HA.out, if_pos rfl]
  clear HA
  go_wp2_with fail
  refine (HCL.out (by first | rfl | trivial) w1 _ HI1.out).mono ?_
  rintro e w2 ⟨a1, n1, c1, a2, n2, c2, a3, n3, c3, a4, n4, c4, rfl, HR2, b1⟩
  have HI2 : Hid (ClT w w2 #[.int .i64 last, .int .i64 next, .slice ha nh hc, .slice ba' no bc, .int .i64 first, .slice ga ng gc, .slice oa nO oc] (.slice ha nh hc) (.slice ba' no bc) (.slice ga ng gc) (.slice oa nO oc) t) := HI1.out.go b1
  clear b1 HI1 HCL y0 y1 y2 y3 y4 y5 y6
  obtain ⟨W3, hW3⟩ : ∃ W, W = w2.alloc (.cells #[.int .i64 last, .int .i64 next, .slice a1 n1 c1, .slice a2 n2 c2, .int .i64 first, .slice a3 n3 c3, .slice a4 n4 c4, .int .i64 0] 167) := ⟨_, rfl⟩
  have hsz2 : w.heap.size + 2 ≤ w2.heap.size := HI2.out.2.2.2.1
  have HTK3 : Hid (TkB (fun g => w.heap.size + 2 ≤ g) w2.heap.size W3 t (0 : Nat)) := HTK.out W3 w2.heap.size a1 n1 c1 a2 n2 c2 a3 n3 c3 a4 n4 c4 (Blk.newE hW3) (by rw [hW3]; exact HR2.out.to (SameOn.alloc _) (fun g hg h => ⟨by omega, by omega⟩))
  have KB3 : Hid (Blk W3 (w.heap.size + 1) #[.int .i64 0, .int .i64 0, .slice none 0 0, .slice none 0 0, .int .i64 0, .slice none 0 0, .slice none 0 0] 61) := by rw [hW3]; exact HI2.out.2.2.1.below ((Below.refl _ _).alloc (Nat.le_refl _) _) HI2.out.2.2.1.lt
  have BW3 : Hid (Below w.heap.size w W3) := by rw [hW3]; exact HI2.out.1.alloc HI2.out.1.size _
  have hsz3 : w.heap.size + 2 ≤ W3.heap.size := by rw [hW3]; simp; omega
  clear HTK HR2 HI2
  go_wp2_with fail
  rw [← hW3]
  clear hW3
  refine (HHOW.out (by first | rfl | trivial) W3 w2.heap.size BW3.out hsz3 HTK3.out).mono ?_
  rintro e w4 ⟨rfl, HT4, HK4⟩
  have KB : Hid (Blk w4 (w.heap.size + 1) #[.int .i64 0, .int .i64 0, .slice none 0 0, .slice none 0 0, .int .i64 0, .slice none 0 0, .slice none 0 0] 61) := KB3.out.kept HK4.out (by simp; omega)
  have BW : Hid (Below w.heap.size w w4) := BW3.out.trans (HK4.out.toBelow BW3.out.size (fun k hk => by simp at hk; omega))
  clear HHOW HTK3 KB3 BW3 HK4
  by_cases h1 : RE = 0
  case neg =>
    obtain ⟨q1, q2⟩ := hbad.out h1 (by first | rfl | trivial)
    have HAe : Hid (A = (Tr.zero, 0, RE)) := by show A = _; rw [HA2.out, q1, q2]
    clear q1 q2 HA2 hbad HT4
    obtain ⟨z0, z1, z2, z3, z4, z5, z6⟩ := KB.out.sevenc
    have g0 := KB.out.free 0
    have g1 := KB.out.free 1
    have g2 := KB.out.free 2
    have g3 := KB.out.free 3
    have g4 := KB.out.free 4
    have g5 := KB.out.free 5
    have g6 := KB.out.free 6
    go_wp2_with fail
    clear z0 z1 z2 z3 z4 z5 z6 g0 g1 g2 g3 g4 g5 g6
    have KZ := zero_out KB.out
    have BZ := seven_below BW.out (Nat.le_succ w.heap.size) (.int .i64 0) (.int .i64 0) (.slice none 0 0) (.slice none 0 0) (.int .i64 0) (.slice none 0 0) (.slice none 0 0)
    clear KB BW
    obtain ⟨Z, hZ⟩ : ∃ Z, Z = (((((((w4.setCell ⟨w.heap.size + 1, 0, none⟩ (.int .i64 0)).setCell ⟨w.heap.size + 1, 1, none⟩ (.int .i64 0)).setCell ⟨w.heap.size + 1, 2, none⟩ (.slice none 0 0)).setCell ⟨w.heap.size + 1, 3, none⟩ (.slice none 0 0)).setCell ⟨w.heap.size + 1, 4, none⟩ (.int .i64 0)).setCell ⟨w.heap.size + 1, 5, none⟩ (.slice none 0 0)).setCell ⟨w.heap.size + 1, 6, none⟩ (.slice none 0 0)) := ⟨_, rfl⟩
    rw [← hZ] at KZ BZ ⊢
    clear hZ
    obtain ⟨q0, q1, q2, q3, q4, q5, q6⟩ := KZ.sevenc
    exact bodyPost_ret (v := .tuple #[.agg #[.int .i64 0, .int .i64 0, .slice none 0 0, .slice none 0 0, .int .i64 0, .slice none 0 0, .slice none 0 0], .int .i64 0, .int .i64 RE]) (by simp [results, Tryz.results65, go_sem, q0, q1, q2, q3, q4, q5, q6]) rfl ⟨_, _, _, _, by rw [HAe.out]; rfl, by rw [HAe.out]; exact TrIn.zero _ _, BZ⟩
  clear hbad
  obtain ⟨v1, v2, v3, v4, K8, TR⟩ := HT4.out h1
  subst h1
  clear HT4
  obtain ⟨b1, d1, b2, d2, b3, d3, b4, d4, e1, e2, e3, e4⟩ := TR.slices
  obtain ⟨m1, hm1⟩ : ∃ n, n = RT.h.length := ⟨_, rfl⟩
  obtain ⟨m2, hm2⟩ : ∃ n, n = RT.o.length := ⟨_, rfl⟩
  obtain ⟨m3, hm3⟩ : ∃ n, n = RT.L.length := ⟨_, rfl⟩
  obtain ⟨m4, hm4⟩ : ∃ n, n = RT.O.length := ⟨_, rfl⟩
  rw [← hm1] at e1
  rw [← hm2] at e2
  rw [← hm3] at e3
  rw [← hm4] at e4
  subst e1 e2 e3 e4
  obtain ⟨la2, hl2⟩ : ∃ x, x = RT.last := ⟨_, rfl⟩
  obtain ⟨ne2, hn2⟩ : ∃ x, x = RT.next := ⟨_, rfl⟩
  obtain ⟨fi2, hf2⟩ : ∃ x, x = RT.first := ⟨_, rfl⟩
  obtain ⟨rc, hrc⟩ : ∃ x, x = (RC : Int) := ⟨_, rfl⟩
  rw [← hl2, ← hn2, ← hf2, ← hrc] at K8
  obtain ⟨V, hV⟩ : ∃ V, V = { w4 with drawn := w4.drawn + 1 } := ⟨_, rfl⟩
  obtain ⟨Z, hZ⟩ : ∃ Z, Z = (((((((V.setCell ⟨w.heap.size + 1, 0, none⟩ (.int .i64 la2)).setCell ⟨w.heap.size + 1, 1, none⟩ (.int .i64 ne2)).setCell ⟨w.heap.size + 1, 2, none⟩ (.slice b1 m1 d1)).setCell ⟨w.heap.size + 1, 3, none⟩ (.slice b2 m2 d2)).setCell ⟨w.heap.size + 1, 4, none⟩ (.int .i64 fi2)).setCell ⟨w.heap.size + 1, 5, none⟩ (.slice b3 m3 d3)).setCell ⟨w.heap.size + 1, 6, none⟩ (.slice b4 m4 d4)) := ⟨_, rfl⟩
  have hne : w2.heap.size ≠ w.heap.size + 1 := by omega
  have KMV : Hid (Blk V w2.heap.size #[.int .i64 la2, .int .i64 ne2, .slice b1 m1 d1, .slice b2 m2 d2, .int .i64 fi2, .slice b3 m3 d3, .slice b4 m4 d4, .int .i64 rc] 167) := by rw [hV]; exact K8.drew
  have KBV : Hid (Blk V (w.heap.size + 1) #[.int .i64 0, .int .i64 0, .slice none 0 0, .slice none 0 0, .int .i64 0, .slice none 0 0, .slice none 0 0] 61) := by rw [hV]; exact KB.out.drew
  have hsame : SameOn (fun g => g ≠ w.heap.size + 1) V Z := by rw [hZ]; exact seven_same (by simp) _ _ _ _ _ _ _
  have KMZ : Hid (Blk Z w2.heap.size #[.int .i64 la2, .int .i64 ne2, .slice b1 m1 d1, .slice b2 m2 d2, .int .i64 fi2, .slice b3 m3 d3, .slice b4 m4 d4, .int .i64 rc] 167) := (hsame.2 _ KMV.out.lt hne).trans KMV.out
  have KBZ : Hid (Blk Z (w.heap.size + 1) #[.int .i64 la2, .int .i64 ne2, .slice b1 m1 d1, .slice b2 m2 d2, .int .i64 fi2, .slice b3 m3 d3, .slice b4 m4 d4] 61) := by rw [hZ]; exact seven_out KBV.out _ _ _ _ _ _ _
  have HBZ : Hid (Below w.heap.size w Z) := by rw [hZ]; exact seven_below (by rw [hV]; exact BW.out.drew) (Nat.le_succ _) _ _ _ _ _ _ _
  have HEQ : Hid (Ending.returned (Value.tuple #[.agg #[.int .i64 la2, .int .i64 ne2, .slice b1 m1 d1, .slice b2 m2 d2, .int .i64 fi2, .slice b3 m3 d3, .slice b4 m4 d4], .int .i64 rc, .int .i64 0]) = Ending.returned (Value.tuple #[.agg #[.int .i64 A.1.last, .int .i64 A.1.next, .slice b1 m1 d1, .slice b2 m2 d2, .int .i64 A.1.first, .slice b3 m3 d3, .slice b4 m4 d4], .int .i64 A.2.1, .int .i64 A.2.2])) := by rw [hl2, hn2, hf2, hrc]; show _ = _; rw [HA2.out]
  have HTR : Hid (TrIn (fun g => w.heap.size ≤ g) Z (.slice b1 m1 d1) (.slice b2 m2 d2) (.slice b3 m3 d3) (.slice b4 m4 d4) A.1) := by
    show TrIn _ _ _ _ _ _ _
    rw [HA2.out]
    have q : TrIn (fun g => w.heap.size + 2 ≤ g ∧ g ≠ w2.heap.size) V (.slice b1 m1 d1) (.slice b2 m2 d2) (.slice b3 m3 d3) (.slice b4 m4 d4) RT := by rw [hV]; exact TR.to ⟨Nat.le_refl _, fun g _ _ => rfl⟩ (fun g _ h => h)
    exact q.to (hsame.mono fun g hg => by have := hg.1; omega) (fun g _ hg => by have := hg.1; omega)
  clear HA2 hl2 hn2 hf2 hrc hm1 hm2 hm3 hm4 K8 TR hsame
  go_wp2_with fail
  refine region_chainG (by kernel_rfl) (by kernel_rfl) [.quiet (.pointer (some ⟨w2.heap.size, 0, none⟩)) 3, .quiet (.agg #[.int .i64 la2, .int .i64 ne2, .slice b1 m1 d1, .slice b2 m2 d2, .int .i64 fi2, .slice b3 m3 d3, .slice b4 m4 d4]) 3, .quiet (.pointer (some ⟨w2.heap.size, 7, none⟩)) 3, .quiet (.int .i64 rc) 3, .step 0, .step 1, .step 2] [4, 5, 6] (by kernel_rfl)
    (fun s r w' => match s with
      | 0 => w' = V
      | 1 => w' = Z
      | 2 => w' = Z ∧ r 1 = .int .i64 rc
      | _ => w' = Z ∧ r 1 = .int .i64 rc ∧ r 2 = .int .i64 0
      ) hV.symm ?step ?fin
  case step =>
    intro i o ho a' w' s r hI hfree hvals
    have kx : Blk w' w2.heap.size #[.int .i64 la2, .int .i64 ne2, .slice b1 m1 d1, .slice b2 m2 d2, .int .i64 fi2, .slice b3 m3 d3, .slice b4 m4 d4, .int .i64 rc] 167 := by
      match s, hI with
      | 0, hI => rw [show w' = V from hI]; exact KMV.out
      | 1, hI => rw [show w' = Z from hI]; exact KMZ.out
      | 2, hI => rw [hI.1]; exact KMZ.out
      | n + 3, hI => rw [hI.1]; exact KMZ.out
    obtain ⟨a0, a1, a2, a3, a4, a5, a6, a7⟩ := kx.eight
    match i, ho with
    | 0, ho =>
      simp at ho; subst ho
      have e8 : a'.eval (.tmp 8) = .pointer (some ⟨w2.heap.size, 0, none⟩) := (hfree 8 (by kernel_rfl)).trans rfl
      show s ≤ 3 → _
      intro hs
      refine .inl ⟨rfl, ?_⟩
      generalize a'.eval = ρ at *
      simp [execOp, go_sem, e8]
    | 1, ho =>
      simp at ho; subst ho
      have e25 : a'.eval (.tmp 25) = .pointer (some ⟨w2.heap.size, 0, none⟩) := hvals 0 _ _ (by kernel_rfl) rfl rfl
      show s ≤ 3 → _
      intro hs
      refine .inl ⟨rfl, ?_⟩
      generalize a'.eval = ρ at *
      simp [execOp, go_sem, e25, a0, a1, a2, a3, a4, a5, a6]
    | 2, ho =>
      simp at ho; subst ho
      have e8 : a'.eval (.tmp 8) = .pointer (some ⟨w2.heap.size, 0, none⟩) := (hfree 8 (by kernel_rfl)).trans rfl
      show s ≤ 3 → _
      intro hs
      refine .inl ⟨rfl, ?_⟩
      generalize a'.eval = ρ at *
      simp [execOp, go_sem, e8]
    | 3, ho =>
      simp at ho; subst ho
      have e27 : a'.eval (.tmp 27) = .pointer (some ⟨w2.heap.size, 7, none⟩) := hvals 2 _ _ (by kernel_rfl) rfl rfl
      show s ≤ 3 → _
      intro hs
      refine .inl ⟨rfl, ?_⟩
      generalize a'.eval = ρ at *
      simp [execOp, go_sem, e27, a7]
    | 4, ho =>
      simp at ho; subst ho
      have e4 : a'.eval (.tmp 4) = .pointer (some ⟨w.heap.size + 1, 0, none⟩) := (hfree 4 (by kernel_rfl)).trans rfl
      have e26 : a'.eval (.tmp 26) = .agg #[.int .i64 la2, .int .i64 ne2, .slice b1 m1 d1, .slice b2 m2 d2, .int .i64 fi2, .slice b3 m3 d3, .slice b4 m4 d4] := hvals 1 _ _ (by kernel_rfl) rfl rfl
      show s = 0 → _ ∧ Oper.wp _ _ _ _ _ _
      intro hs
      subst hs
      refine ⟨rfl, ?_⟩
      have hw : w' = V := hI
      obtain ⟨t0, t1, t2, t3, t4, t5, t6⟩ := KBV.out.sevenc
      have fr := KBV.out.free
      refine oper_wp_skip (w' := Z) ?_ ⟨_, rfl, rfl⟩
      generalize a'.eval = ρ at *
      rw [hw, hZ]
      simp [execOp, go_sem, e4, e26, t0, t1, t2, t3, t4, t5, t6, fr]
    | 5, ho =>
      simp at ho; subst ho
      have e28 : a'.eval (.tmp 28) = .int .i64 rc := hvals 3 _ _ (by kernel_rfl) rfl rfl
      show s = 1 → _ ∧ Oper.wp _ _ _ _ _ _
      intro hs
      subst hs
      refine ⟨rfl, ?_⟩
      refine oper_wp_ok (v := .int .i64 rc) (w' := w') ?_ ⟨_, rfl, hI, updR_at _ _ _⟩
      generalize a'.eval = ρ at *
      simp [execOp, go_sem, e28]
    | 6, ho =>
      simp at ho; subst ho
      have ec0 : a'.eval (.const (.int .i64 0)) = .int .i64 0 := rfl
      show s = 2 → _ ∧ Oper.wp _ _ _ _ _ _
      intro hs
      subst hs
      refine ⟨rfl, ?_⟩
      obtain ⟨c0, c1⟩ := hI
      refine oper_wp_ok (v := .int .i64 0) (w' := w') ?_ ⟨_, rfl, c0, by rw [updR_ne (by omega)]; exact c1, updR_at _ _ _⟩
      generalize a'.eval = ρ at *
      simp [execOp, go_sem, ec0]
  case fin =>
    rintro r V2 ⟨d0, d1, d2⟩
    simp only [putC, Ck.out, d1, d2, Act.put, List.setIfInBounds_toArray, List.set_cons_succ, List.set_cons_zero]
    rw [d0]
    obtain ⟨u0, u1, u2, u3, u4, u5, u6⟩ := KBZ.out.sevenc
    clear d0 d1 d2 r V2 KMV KMZ KBV KBZ hV hZ V
    go_wp2_with fail
    exact bodyPost_ret (v := .tuple #[.agg #[.int .i64 la2, .int .i64 ne2, .slice b1 m1 d1, .slice b2 m2 d2, .int .i64 fi2, .slice b3 m3 d3, .slice b4 m4 d4], .int .i64 rc, .int .i64 0]) (by simp [results, Tryz.results65, go_sem, u0, u1, u2, u3, u4, u5, u6]) rfl ⟨_, _, _, _, HEQ.out, HTR.out, HBZ.out⟩

end Go.Proofs.YtnpaejknoipicafGreat

namespace Go.Proofs.YtnpaejknoipicafGreat
open Go.RowKit

set_option maxHeartbeats 8000000 in
set_option maxRecDepth 100000 in
theorem trkFeed_any (S : Nat → Prop) (t : Tr) (s : List UInt8) (hv bv gv ov : Value) (w : World) (hr : TrIn S w hv bv gv ov t) :
    Calls Tryz.prog 23 #[.agg #[.int .i64 t.last, .int .i64 t.next, hv, bv, .int .i64 t.first, gv, ov], .string (ba s)] w fun e w' => ∃ hv' bv' gv' ov', e = .returned (.tuple #[.agg #[.int .i64 (feedA t s).1.last, .int .i64 (feedA t s).1.next, hv', bv', .int .i64 (feedA t s).1.first, gv', ov'], .int .i64 (feedA t s).2.1, .int .i64 (feedA t s).2.2]) ∧ TrIn (fun g => w.heap.size ≤ g) w' hv' bv' gv' ov' (feedA t s).1 ∧ Below w.heap.size w w' := by
  obtain ⟨ha, hc, ba', bc, ga, gc, oa, oc, eh, eb, eg, eo⟩ := hr.slices
  obtain ⟨A, hA⟩ : ∃ A, A = feedA t s := ⟨_, rfl⟩
  obtain ⟨N, hN⟩ : ∃ n, n = w.heap.size + 1 + 1 + 1 := ⟨_, rfl⟩
  have HC : Hid (∀ U, Below w.heap.size w U → N ≤ U.heap.size → Blk U (w.heap.size + 1) #[.string (ba s)] 9 → Calls Tryz.prog 65 #[.agg #[.int .i64 t.last, .int .i64 t.next, hv, bv, .int .i64 t.first, gv, ov], .func (.func 66) #[] #[.pointer (some ⟨w.heap.size + 1, 0, none⟩)]] U fun e w' => ∃ la2 ne2 b1 m1 d1 b2 m2 d2 fi2 b3 m3 d3 b4 m4 d4 rc re, e = .returned (.tuple #[.agg #[.int .i64 la2, .int .i64 ne2, .slice b1 m1 d1, .slice b2 m2 d2, .int .i64 fi2, .slice b3 m3 d3, .slice b4 m4 d4], .int .i64 rc, .int .i64 re]) ∧ Hid (la2 = A.1.last ∧ ne2 = A.1.next ∧ fi2 = A.1.first ∧ rc = (A.2.1 : Int) ∧ re = A.2.2 ∧ TrIn (fun g => N ≤ g) w' (.slice b1 m1 d1) (.slice b2 m2 d2) (.slice b3 m3 d3) (.slice b4 m4 d4) A.1) ∧ Below U.heap.size U w') := fun U hU hn hs => by
    refine (trkChangeF_any t s _ hv bv gv ov U ((hr.below hU).to (S' := fun g => g < U.heap.size) (SameOn.refl _ _) (fun g hg _ => hg)) hs).mono ?_
    rintro e w' ⟨x1, x2, x3, x4, rfl, q, b⟩
    rw [← hA] at q ⊢
    obtain ⟨a1, c1, a2, c2, a3, c3, a4, c4, e1, e2, e3, e4⟩ := q.slices
    subst e1 e2 e3 e4
    exact ⟨_, _, _, _, _, _, _, _, _, _, _, _, _, _, _, _, _, rfl, ⟨rfl, rfl, rfl, rfl, rfl, q.mono fun g _ hg => Nat.le_trans hn hg⟩, b⟩
  rw [← hA]
  obtain ⟨nh, hnh⟩ : ∃ n, n = t.h.length := ⟨_, rfl⟩
  obtain ⟨no, hno⟩ : ∃ n, n = t.o.length := ⟨_, rfl⟩
  obtain ⟨ng, hng⟩ : ∃ n, n = t.L.length := ⟨_, rfl⟩
  obtain ⟨nO, hnO⟩ : ∃ n, n = t.O.length := ⟨_, rfl⟩
  rw [← hnh] at eh
  rw [← hno] at eb
  rw [← hng] at eg
  rw [← hnO] at eo
  obtain ⟨last, hla⟩ : ∃ x, x = t.last := ⟨_, rfl⟩
  obtain ⟨next, hne⟩ : ∃ x, x = t.next := ⟨_, rfl⟩
  obtain ⟨first, hfi⟩ : ∃ x, x = t.first := ⟨_, rfl⟩
  rw [← hla, ← hne, ← hfi] at HC ⊢
  clear hla hne hfi hr hnh hno hng hnO hA
  subst eh eb eg eo
  obtain ⟨W, hW⟩ : ∃ W, W = ((w.alloc (.cells #[.int .i64 last, .int .i64 next, .slice ha nh hc, .slice ba' no bc, .int .i64 first, .slice ga ng gc, .slice oa nO oc] 61)).alloc (.cells #[.string (ba s)] 9)).alloc (.cells #[.int .i64 0, .int .i64 0, .slice none 0 0, .slice none 0 0, .int .i64 0, .slice none 0 0, .slice none 0 0] 61) := ⟨_, rfl⟩
  have BW : Hid (Below w.heap.size w W) := by
    rw [hW]; exact (((Below.refl _ _).alloc (Nat.le_refl _) _).alloc (by simp) _).alloc (by simp; omega) _
  have KB : Hid (Blk W (w.heap.size + 1 + 1) #[.int .i64 0, .int .i64 0, .slice none 0 0, .slice none 0 0, .int .i64 0, .slice none 0 0, .slice none 0 0] 61) := by
    have := Blk.new ((w.alloc (.cells #[.int .i64 last, .int .i64 next, .slice ha nh hc, .slice ba' no bc, .int .i64 first, .slice ga ng gc, .slice oa nO oc] 61)).alloc (.cells #[.string (ba s)] 9)) #[.int .i64 0, .int .i64 0, .slice none 0 0, .slice none 0 0, .int .i64 0, .slice none 0 0, .slice none 0 0] 61
    rw [hW]; simpa [Hid] using this
  have KS : Hid (Blk W (w.heap.size + 1) #[.string (ba s)] 9) := by
    have k := Blk.new (w.alloc (.cells #[.int .i64 last, .int .i64 next, .slice ha nh hc, .slice ba' no bc, .int .i64 first, .slice ga ng gc, .slice oa nO oc] 61)) #[.string (ba s)] 9
    have k2 := k.below ((Below.refl _ _).alloc (Nat.le_refl _) (.cells #[.int .i64 0, .int .i64 0, .slice none 0 0, .slice none 0 0, .int .i64 0, .slice none 0 0, .slice none 0 0] 61)) k.lt
    rw [hW]; simpa [Hid] using k2
  have hsz : N ≤ W.heap.size := by rw [hW, hN]; simp
  go_enter Tryz.func23, Tryz.ntmps23
  go_wp2_with fail
  rw [← hW]
  clear hW
  refine (HC.out W BW.out hsz KS.out).mono ?_
  rintro e w1 ⟨la2, ne2, b1, m1, d1, b2, m2, d2, fi2, b3, m3, d3, b4, m4, d4, rc, re, rfl, HR, hb⟩
  have KB1 : Hid (Blk w1 (w.heap.size + 1 + 1) #[.int .i64 0, .int .i64 0, .slice none 0 0, .slice none 0 0, .int .i64 0, .slice none 0 0, .slice none 0 0] 61) := KB.out.below hb KB.out.lt
  have BW1 : Hid (Below w.heap.size w w1) := BW.out.trans (hb.mono BW.out.size)
  clear hb KB BW HC hsz KS
  obtain ⟨z0, z1, z2, z3, z4, z5, z6⟩ := KB1.out.sevenc
  have g0 := KB1.out.free 0
  have g1 := KB1.out.free 1
  have g2 := KB1.out.free 2
  have g3 := KB1.out.free 3
  have g4 := KB1.out.free 4
  have g5 := KB1.out.free 5
  have g6 := KB1.out.free 6
  go_wp2_with fail
  clear z0 z1 z2 z3 z4 z5 z6 g0 g1 g2 g3 g4 g5 g6
  obtain ⟨Z, hZ⟩ : ∃ Z, Z = (((((((w1.setCell ⟨w.heap.size + 1 + 1, 0, none⟩ (.int .i64 la2)).setCell ⟨w.heap.size + 1 + 1, 1, none⟩ (.int .i64 ne2)).setCell ⟨w.heap.size + 1 + 1, 2, none⟩ (.slice b1 m1 d1)).setCell ⟨w.heap.size + 1 + 1, 3, none⟩ (.slice b2 m2 d2)).setCell ⟨w.heap.size + 1 + 1, 4, none⟩ (.int .i64 fi2)).setCell ⟨w.heap.size + 1 + 1, 5, none⟩ (.slice b3 m3 d3)).setCell ⟨w.heap.size + 1 + 1, 6, none⟩ (.slice b4 m4 d4)) := ⟨_, rfl⟩
  have KZ : Hid (Blk Z (w.heap.size + 1 + 1) #[.int .i64 la2, .int .i64 ne2, .slice b1 m1 d1, .slice b2 m2 d2, .int .i64 fi2, .slice b3 m3 d3, .slice b4 m4 d4] 61) := by rw [hZ]; exact seven_out KB1.out _ _ _ _ _ _ _
  have BZ : Hid (Below w.heap.size w Z) := by rw [hZ]; exact seven_below BW1.out (by omega) _ _ _ _ _ _ _
  obtain ⟨h1, h2, h3, h4, h5, hT⟩ := HR.out
  have hTZ : TrIn (fun g => w.heap.size ≤ g) Z (.slice b1 m1 d1) (.slice b2 m2 d2) (.slice b3 m3 d3) (.slice b4 m4 d4) A.1 := by
    rw [hZ]; exact hT.to (seven_same (by omega) _ _ _ _ _ _ _) (fun g _ hg => by omega)
  rw [← hZ]
  clear hZ KB1 BW1 HR hT hN
  obtain ⟨q0, q1, q2, q3, q4, q5, q6⟩ := KZ.out.sevenc
  rw [← h1, ← h2, ← h3, ← h4, ← h5]
  clear h1 h2 h3 h4 h5
  exact bodyPost_ret (v := .tuple #[.agg #[.int .i64 la2, .int .i64 ne2, .slice b1 m1 d1, .slice b2 m2 d2, .int .i64 fi2, .slice b3 m3 d3, .slice b4 m4 d4], .int .i64 rc, .int .i64 re]) (by simp [results, Tryz.results23, go_sem, q0, q1, q2, q3, q4, q5, q6]) rfl ⟨_, _, _, _, rfl, hTZ, BZ.out⟩

set_option maxHeartbeats 8000000 in
set_option maxRecDepth 100000 in
theorem trkDrain_any (S : Nat → Prop) (t : Tr) (hv bv gv ov : Value) (w : World) (hr : TrIn S w hv bv gv ov t) :
    Calls Tryz.prog 24 #[.agg #[.int .i64 t.last, .int .i64 t.next, hv, bv, .int .i64 t.first, gv, ov]] w fun e w' => ∃ hv' bv' gv' ov', e = .returned (.tuple #[.agg #[.int .i64 (drainA t).1.last, .int .i64 (drainA t).1.next, hv', bv', .int .i64 (drainA t).1.first, gv', ov'], .int .i64 (drainA t).2.1, .int .i64 (drainA t).2.2]) ∧ TrIn (fun g => w.heap.size ≤ g) w' hv' bv' gv' ov' (drainA t).1 ∧ Below w.heap.size w w' := by
  obtain ⟨ha, hc, ba', bc, ga, gc, oa, oc, eh, eb, eg, eo⟩ := hr.slices
  obtain ⟨A, hA⟩ : ∃ A, A = drainA t := ⟨_, rfl⟩
  obtain ⟨N, hN⟩ : ∃ n, n = w.heap.size + 1 + 1 := ⟨_, rfl⟩
  have HC : Hid (∀ U, Below w.heap.size w U → N ≤ U.heap.size → Calls Tryz.prog 65 #[.agg #[.int .i64 t.last, .int .i64 t.next, hv, bv, .int .i64 t.first, gv, ov], .func (.func 68) #[] #[]] U fun e w' => ∃ la2 ne2 b1 m1 d1 b2 m2 d2 fi2 b3 m3 d3 b4 m4 d4 rc re, e = .returned (.tuple #[.agg #[.int .i64 la2, .int .i64 ne2, .slice b1 m1 d1, .slice b2 m2 d2, .int .i64 fi2, .slice b3 m3 d3, .slice b4 m4 d4], .int .i64 rc, .int .i64 re]) ∧ Hid (la2 = A.1.last ∧ ne2 = A.1.next ∧ fi2 = A.1.first ∧ rc = (A.2.1 : Int) ∧ re = A.2.2 ∧ TrIn (fun g => N ≤ g) w' (.slice b1 m1 d1) (.slice b2 m2 d2) (.slice b3 m3 d3) (.slice b4 m4 d4) A.1) ∧ Below U.heap.size U w') := fun U hU hn => by
    refine (trkChangeD_any t hv bv gv ov U ((hr.below hU).to (S' := fun g => g < U.heap.size) (SameOn.refl _ _) (fun g hg _ => hg))).mono ?_
    rintro e w' ⟨x1, x2, x3, x4, rfl, q, b⟩
    rw [← hA] at q ⊢
    obtain ⟨a1, c1, a2, c2, a3, c3, a4, c4, e1, e2, e3, e4⟩ := q.slices
    subst e1 e2 e3 e4
    exact ⟨_, _, _, _, _, _, _, _, _, _, _, _, _, _, _, _, _, rfl, ⟨rfl, rfl, rfl, rfl, rfl, q.mono fun g _ hg => Nat.le_trans hn hg⟩, b⟩
  rw [← hA]
  obtain ⟨nh, hnh⟩ : ∃ n, n = t.h.length := ⟨_, rfl⟩
  obtain ⟨no, hno⟩ : ∃ n, n = t.o.length := ⟨_, rfl⟩
  obtain ⟨ng, hng⟩ : ∃ n, n = t.L.length := ⟨_, rfl⟩
  obtain ⟨nO, hnO⟩ : ∃ n, n = t.O.length := ⟨_, rfl⟩
  rw [← hnh] at eh
  rw [← hno] at eb
  rw [← hng] at eg
  rw [← hnO] at eo
  obtain ⟨last, hla⟩ : ∃ x, x = t.last := ⟨_, rfl⟩
  obtain ⟨next, hne⟩ : ∃ x, x = t.next := ⟨_, rfl⟩
  obtain ⟨first, hfi⟩ : ∃ x, x = t.first := ⟨_, rfl⟩
  rw [← hla, ← hne, ← hfi] at HC ⊢
  clear hla hne hfi hr hnh hno hng hnO hA
  subst eh eb eg eo
  obtain ⟨W, hW⟩ : ∃ W, W = (w.alloc (.cells #[.int .i64 last, .int .i64 next, .slice ha nh hc, .slice ba' no bc, .int .i64 first, .slice ga ng gc, .slice oa nO oc] 61)).alloc (.cells #[.int .i64 0, .int .i64 0, .slice none 0 0, .slice none 0 0, .int .i64 0, .slice none 0 0, .slice none 0 0] 61) := ⟨_, rfl⟩
  have BW : Hid (Below w.heap.size w W) := by
    rw [hW]; exact ((Below.refl _ _).alloc (Nat.le_refl _) _).alloc (by simp) _
  have KB : Hid (Blk W (w.heap.size + 1) #[.int .i64 0, .int .i64 0, .slice none 0 0, .slice none 0 0, .int .i64 0, .slice none 0 0, .slice none 0 0] 61) := by
    have := Blk.new (w.alloc (.cells #[.int .i64 last, .int .i64 next, .slice ha nh hc, .slice ba' no bc, .int .i64 first, .slice ga ng gc, .slice oa nO oc] 61)) #[.int .i64 0, .int .i64 0, .slice none 0 0, .slice none 0 0, .int .i64 0, .slice none 0 0, .slice none 0 0] 61
    rw [hW]; simpa [Hid] using this
  have hsz : N ≤ W.heap.size := by rw [hW, hN]; simp
  go_enter Tryz.func24, Tryz.ntmps24
  go_wp2_with fail
  rw [← hW]
  clear hW
  refine (HC.out W BW.out hsz).mono ?_
  rintro e w1 ⟨la2, ne2, b1, m1, d1, b2, m2, d2, fi2, b3, m3, d3, b4, m4, d4, rc, re, rfl, HR, hb⟩
  have KB1 : Hid (Blk w1 (w.heap.size + 1) #[.int .i64 0, .int .i64 0, .slice none 0 0, .slice none 0 0, .int .i64 0, .slice none 0 0, .slice none 0 0] 61) := KB.out.below hb KB.out.lt
  have BW1 : Hid (Below w.heap.size w w1) := BW.out.trans (hb.mono BW.out.size)
  clear hb KB BW HC hsz
  obtain ⟨z0, z1, z2, z3, z4, z5, z6⟩ := KB1.out.sevenc
  have g0 := KB1.out.free 0
  have g1 := KB1.out.free 1
  have g2 := KB1.out.free 2
  have g3 := KB1.out.free 3
  have g4 := KB1.out.free 4
  have g5 := KB1.out.free 5
  have g6 := KB1.out.free 6
  go_wp2_with fail
  clear z0 z1 z2 z3 z4 z5 z6 g0 g1 g2 g3 g4 g5 g6
  obtain ⟨Z, hZ⟩ : ∃ Z, Z = (((((((w1.setCell ⟨w.heap.size + 1, 0, none⟩ (.int .i64 la2)).setCell ⟨w.heap.size + 1, 1, none⟩ (.int .i64 ne2)).setCell ⟨w.heap.size + 1, 2, none⟩ (.slice b1 m1 d1)).setCell ⟨w.heap.size + 1, 3, none⟩ (.slice b2 m2 d2)).setCell ⟨w.heap.size + 1, 4, none⟩ (.int .i64 fi2)).setCell ⟨w.heap.size + 1, 5, none⟩ (.slice b3 m3 d3)).setCell ⟨w.heap.size + 1, 6, none⟩ (.slice b4 m4 d4)) := ⟨_, rfl⟩
  have KZ : Hid (Blk Z (w.heap.size + 1) #[.int .i64 la2, .int .i64 ne2, .slice b1 m1 d1, .slice b2 m2 d2, .int .i64 fi2, .slice b3 m3 d3, .slice b4 m4 d4] 61) := by rw [hZ]; exact seven_out KB1.out _ _ _ _ _ _ _
  have BZ : Hid (Below w.heap.size w Z) := by rw [hZ]; exact seven_below BW1.out (by omega) _ _ _ _ _ _ _
  obtain ⟨h1, h2, h3, h4, h5, hT⟩ := HR.out
  have hTZ : TrIn (fun g => w.heap.size ≤ g) Z (.slice b1 m1 d1) (.slice b2 m2 d2) (.slice b3 m3 d3) (.slice b4 m4 d4) A.1 := by
    rw [hZ]; exact hT.to (seven_same (by omega) _ _ _ _ _ _ _) (fun g _ hg => by omega)
  rw [← hZ]
  clear hZ KB1 BW1 HR hT hN
  obtain ⟨q0, q1, q2, q3, q4, q5, q6⟩ := KZ.out.sevenc
  rw [← h1, ← h2, ← h3, ← h4, ← h5]
  clear h1 h2 h3 h4 h5
  exact bodyPost_ret (v := .tuple #[.agg #[.int .i64 la2, .int .i64 ne2, .slice b1 m1 d1, .slice b2 m2 d2, .int .i64 fi2, .slice b3 m3 d3, .slice b4 m4 d4], .int .i64 rc, .int .i64 re]) (by simp [results, Tryz.results24, go_sem, q0, q1, q2, q3, q4, q5, q6]) rfl ⟨_, _, _, _, rfl, hTZ, BZ.out⟩

end Go.Proofs.YtnpaejknoipicafGreat

namespace Go.Proofs.YtnpaejknoipicafGreat
open Go.RowKit Go.Sort

theorem wholeP_any (seq time : Int) (t : ByteArray) (w : World) :
    Calls Tryz.prog 79 #[.int .i64 seq, .int .i64 time, .string t] w fun e w' =>
      e = .returned (.agg #[.int .i64 seq, .int .i64 time, .bool true, .bool true, .bool true, .string t]) ∧ w' = w.alloc (.cells #[.int .i64 seq, .int .i64 time, .bool true, .bool true, .bool true, .string t] 89) := by
  go_enter Tryz.func79, Tryz.ntmps79
  go_wp2
  exact bodyPost_ret (v := .agg #[.int .i64 seq, .int .i64 time, .bool true, .bool true, .bool true, .string t]) (by simp [results, Tryz.results79, go_sem]) rfl ⟨rfl, rfl⟩

def p0 : Pk := ⟨258, 5, true, true, true, ⟨#[97, 98]⟩⟩
theorem p0_chk : p0.chk = 0 := by decide
theorem p0_enc : p0.enc = [135, 1, 2, 0, 0, 0, 5, 2, 97, 98] := by decide
theorem p0_dec : Pk.dec [135, 1, 2, 0, 0, 0, 5, 2, 97, 98] = (p0, 0) := by rfl
theorem p0_no : Pk.dec [135, 1, 2, 0, 0, 0, 5, 2, 97, 98, 122] = (Pk.zero, 1) := by rfl

end Go.Proofs.YtnpaejknoipicafGreat

namespace Go.Proofs.YtnpaejknoipicafGreat
open Go.RowKit Go.Sort

theorem ba_get (l : List UInt8) (j : Nat) (h : j < (ba l).size) : ((ba l)[j]'h).toNat = at8 l j := by
  have hl : j < l.length := by rw [ba_size] at h; exact h
  have e : (ba l)[j]'h = l[j] := by simp [ba]; rfl
  rw [e, at8, List.getElem?_eq_getElem hl]
  rfl
theorem num_step (l : List UInt8) (i k : Nat) (h : i + k < l.length) : num ((l.drop i).take (k + 1)) = num ((l.drop i).take k) * 256 + at8 l (i + k) := by
  rw [u8_snoc (l.drop i) k (by simp; omega), num_snoc, List.getElem?_drop]
  rfl

set_option maxHeartbeats 1000000 in
theorem numberAt_any (l : List UInt8) (i n : Nat) (ii ni : Int) (w : World) (hii : ii = (i : Int)) (hni : ni = (n : Int)) (hl : i + n ≤ l.length) (hn : n ≤ 4) (hi : i ≤ 1000) :
    Calls Tryz.prog 117 #[.string (ba l), .int .i64 ii, .int .i64 ni] w fun e w' => e = .returned (.int .i64 (num ((l.drop i).take n))) ∧ w = w' := by
  subst hii hni
  go_enter Tryz.func117, Tryz.ntmps117
  go_wp2
  go_loop [7, 8] (fun v j => ∃ k : Nat, k ≤ n ∧ j = .int .i64 ((i : Int) + k) ∧ v = .int .i64 (num ((l.drop i).take k))) (fun _ j => i + n - (intOf j).toNat)
  case atStart => exact ⟨0, Nat.zero_le _, by simp, rfl⟩
  case round =>
    obtain ⟨k, hk, rfl, rfl⟩ := hrel
    have hnb := num_bd ((l.drop i).take k)
    have hnb1 := hnb.1
    have hb2 : num ((l.drop i).take k) < 256 ^ 3 ∨ k = 4 := by
      have h3 := hnb.2
      by_cases h4 : k = 4
      · exact .inr h4
      · left
        rw [List.length_take] at h3
        have := pow_le3 (min k (l.drop i).length) (by omega)
        omega
    clear hnb
    by_cases hlt : k < n
    · have hsz : i + k < (ba l).size := by rw [ba_size]; omega
      have hlt1 : (i : Int) + (k : Int) < (i : Int) + (n : Int) := by omega
      have hb3 : num ((l.drop i).take k) < 16777216 := by omega
      have hg := ba_get l (i + k) hsz
      have hst := num_step l i k (by omega)
      have hxb := at8_lt l (i + k)
      have HV : Hid (∀ x : Nat, x = at8 l (i + k) → wrap64 (256 * num ((l.drop i).take k) + wrap64 (x : Int)) = num ((l.drop i).take (k + 1))) := by
        intro x hx
        rw [hst, hx]
        unfold wrap64
        omega
      have HG : Hid (((ba l)[i + k]'hsz).toNat = at8 l (i + k)) := hg
      clear hg hst hxb
      go_wp2
      exact ⟨⟨k + 1, by omega, by go_num, by rw [HV.out _ HG.out]⟩, by simp [intOf]; omega⟩
    · have hkn : k = n := by omega
      subst hkn
      have hlt1 : ¬ (i : Int) + (k : Int) < (i : Int) + (k : Int) := by omega
      go_wp2
      go_ret
      exact ⟨rfl, rfl⟩

/-- the bytes of a number as the document's recursion has them -/
def beR : Nat → Int → List UInt8
  | 0, _ => []
  | k + 1, n => beR k (n / 256) ++ [byteU n 0]
theorem beR_len (k : Nat) : ∀ n, (beR k n).length = k := by
  induction k with
  | zero => intro n; rfl
  | succ k ih => intro n; simp [beR, ih]
theorem byteU_div (n : Int) (i : Nat) : byteU (n / 256) i = byteU n (i + 1) := by
  apply u8_ext
  rw [byteU_toNat, byteU_toNat, show (8 * (i + 1)) = 8 + 8 * i by omega, Int.pow_add, ← Int.ediv_ediv_of_nonneg (by decide)]
  rfl
theorem beR1 (n : Int) : beR 1 n = be n 1 := rfl
theorem beR2 (n : Int) : beR 2 n = be n 2 := by
  show [byteU (n / 256) 0, byteU n 0] = [byteU n 1, byteU n 0]
  rw [byteU_div]
theorem beR4 (n : Int) : beR 4 n = be n 4 := by
  show [byteU (n / 256 / 256 / 256) 0, byteU (n / 256 / 256) 0, byteU (n / 256) 0, byteU n 0] = [byteU n 3, byteU n 2, byteU n 1, byteU n 0]
  rw [byteU_div, byteU_div, byteU_div, byteU_div, byteU_div, byteU_div]

theorem ba_append (a b : List UInt8) : ba a ++ ba b = ba (a ++ b) := by
  apply ByteArray.ext; simp [ba]
theorem one_back (n : Int) (W : World) (b : Nat) (h : W.cell? ⟨b, 0, none⟩ = some (.int .u8 (n % 256))) :
    (convert 186 9 (.slice (some ⟨b, 0, none⟩) 1 1)).run Tryz.prog W = .ok (.string (ba [byteU n 0])) W := by
  refine run_convert_bytes_back W 186 9 5 ⟨b, 0, none⟩ 1 [byteU n 0] Tryz.underlying186 Tryz.underlying5 Tryz.underlying9 (fun j hj => ?_)
  have hj0 : j = 0 := by simpa using hj
  subst hj0
  rw [Addr.add_lit]
  show W.cell? ⟨b, 0, none⟩ = some (.int .u8 (((byteU n 0).toNat : Nat) : Int))
  rw [b0]
  exact h

set_option maxHeartbeats 2000000 in
theorem numberBytes_any (k : Nat) : ∀ (n ki : Int) (w : World), ki = (k : Int) → 0 ≤ n → n ≤ 4294967295 → k ≤ 8 →
    Calls Tryz.prog 162 #[.int .i64 n, .int .i64 ki] w fun e w' => e = .returned (.string (ba (beR k n))) ∧ Below w.heap.size w w' := by
  induction k with
  | zero =>
    intro n ki w hki hn _ _
    subst hki
    go_enter Tryz.func162, Tryz.ntmps162
    go_wp2
    go_ret
    exact ⟨rfl, Below.refl _ _⟩
  | succ k ih =>
    intro n ki w hki hn hn2 hk8
    have hk0 : (ki == 0) = false := by rw [hki]; simp; omega
    have hkb : 0 ≤ ki ∧ ki ≤ 8 := by omega
    have IH := @id (Hid (∀ w : World, Calls Tryz.prog 162 #[.int .i64 (n / 256), .int .i64 (ki - 1)] w fun e w' => e = .returned (.string (ba (beR k (n / 256)))) ∧ Below w.heap.size w w')) (fun w => ih (n / 256) (ki - 1) w (by omega) (by omega) (by omega) (by omega))
    obtain ⟨r, hr⟩ : ∃ r, r = beR k (n / 256) := ⟨_, rfl⟩
    rw [← hr] at IH
    have hrl : (ba r).size ≤ 8 := by rw [hr, ba_size, beR_len]; omega
    have HR : Hid (r = beR k (n / 256)) := hr
    clear hr hki ih
    obtain ⟨hk1, hk2⟩ := hkb
    go_enter Tryz.func162, Tryz.ntmps162
    go_wp2_with fail
    have hw1 : IntKind.i64.wrap (n.tdiv 256) = n / 256 := by rw [Int.tdiv_eq_ediv_of_nonneg hn, IntKind.wrap_i64]; omega
    have hw2 : IntKind.i64.wrap (ki - 1) = ki - 1 := by rw [IntKind.wrap_i64]; omega
    have hw3 : n.tmod 256 = n % 256 := Int.tmod_eq_emod_of_nonneg hn
    have hw4 : IntKind.u8.wrap (n % 256) = n % 256 := by rw [IntKind.wrap_u8]; omega
    have hsm : ¬ 9223372036854775807 < (ba r).size + (ba [byteU n 0]).size := by rw [ba_size [byteU n 0]]; simp; omega
    have hcv := one_back n
    go_region_with (go_at_call 162; refine (IH.out _).mono ?_; rintro e w1 ⟨rfl, hb1⟩; have hcw := hb1.cell (p := ⟨w.heap.size, 0, none⟩))
    all_goals
      go_wp2
      go_ret
      refine ⟨?_, ?_⟩
      · show Ending.returned (.string (ba r ++ ba [byteU n 0])) = _
        rw [ba_append, HR.out]
        rfl
      · first
          | exact (((Below.refl _ w).drew).trans hb1).alloc (((Below.refl _ w).drew).trans hb1).size _
          | exact (((Below.refl _ w).alloc (Nat.le_refl _) _).drew).trans (hb1.mono (by simp))

end Go.Proofs.YtnpaejknoipicafGreat

namespace Go.Proofs.YtnpaejknoipicafGreat
open Go.RowKit Go.Sort

set_option maxHeartbeats 8000000 in
theorem packetBytes_any (p : Pk) (w : World) (h : p.chk = 0) :
    Calls Tryz.prog 121 #[p.val] w fun e w' => e = .returned (.string (ba p.enc)) ∧ Below w.heap.size w w' := by
  obtain ⟨h1, h2, h3, h4, h5, _⟩ := Pk.chk_ok h
  obtain ⟨hf1, hf2⟩ := Pk.flags_le p.f p.e p.k
  obtain ⟨fl, hfl⟩ : ∃ fl, fl = 128 + Pk.flags p.f p.e p.k := ⟨_, rfl⟩
  obtain ⟨x1, hx1⟩ : ∃ x, x = ba (be fl 1) := ⟨_, rfl⟩
  obtain ⟨x2, hx2⟩ : ∃ x, x = ba (be p.seq 2) := ⟨_, rfl⟩
  obtain ⟨x3, hx3⟩ : ∃ x, x = ba (be p.time 4) := ⟨_, rfl⟩
  obtain ⟨x4, hx4⟩ : ∃ x, x = ba (be p.t.size 1) := ⟨_, rfl⟩
  have s1 : x1.size = 1 := by rw [hx1, ba_size]; rfl
  have s2 : x2.size = 2 := by rw [hx2, ba_size]; rfl
  have s3 : x3.size = 4 := by rw [hx3, ba_size]; rfl
  have s4 : x4.size = 1 := by rw [hx4, ba_size]; rfl
  have hfin : x1 ++ x2 ++ x3 ++ x4 ++ p.t = ba p.enc := by
    rw [hx1, hx2, hx3, hx4, ← ba_of p.t, ba_append, ba_append, ba_append, ba_append, ba_of, hfl]
    rfl
  have c1 : ∀ W : World, Calls Tryz.prog 162 #[.int .i64 fl, .int .i64 1] W fun e w' => e = .returned (.string x1) ∧ Below W.heap.size W w' := fun W => by
    rw [hx1, ← beR1]; exact numberBytes_any 1 fl 1 W rfl (by omega) (by omega) (by decide)
  have c2 : ∀ W : World, Calls Tryz.prog 162 #[.int .i64 p.seq, .int .i64 2] W fun e w' => e = .returned (.string x2) ∧ Below W.heap.size W w' := fun W => by
    rw [hx2, ← beR2]; exact numberBytes_any 2 p.seq 2 W rfl (by omega) (by omega) (by decide)
  have c3 : ∀ W : World, Calls Tryz.prog 162 #[.int .i64 p.time, .int .i64 4] W fun e w' => e = .returned (.string x3) ∧ Below W.heap.size W w' := fun W => by
    rw [hx3, ← beR4]; exact numberBytes_any 4 p.time 4 W rfl (by omega) (by omega) (by decide)
  have c4 : ∀ W : World, Calls Tryz.prog 162 #[.int .i64 (p.t.size : Int), .int .i64 1] W fun e w' => e = .returned (.string x4) ∧ Below W.heap.size W w' := fun W => by
    rw [hx4, ← beR1]; exact numberBytes_any 1 p.t.size 1 W rfl (by omega) (by omega) (by decide)
  rw [← hfin]
  obtain ⟨seq, time, f, e, k, t⟩ := p
  simp only [Pk.val] at *
  obtain ⟨W, hW⟩ : ∃ W, W = w.alloc (.cells #[.int .i64 seq, .int .i64 time, .bool f, .bool e, .bool k, .string t] 89) := ⟨_, rfl⟩
  have bW : Blk W w.heap.size #[.int .i64 seq, .int .i64 time, .bool f, .bool e, .bool k, .string t] 89 := by rw [hW]; exact Blk.new _ _ _
  have hbW : Below w.heap.size w W := by rw [hW]; exact (Below.refl _ _).alloc (Nat.le_refl _) _
  obtain ⟨d0, d1, _, _, _, d5, _⟩ := bW.six
  have k0 := cell_regrown d0
  have k1 := cell_regrown d1
  have k5 := cell_regrown d5
  have C1 := @id (Hid (∀ d os, Calls Tryz.prog 162 #[.int .i64 fl, .int .i64 1] (grow (redrawn W d) os) fun e w'' => e = .returned (.string x1) ∧ ∃ p : Regrown, w'' = grow (redrawn W p.d) p.os)) (fun d os => Calls.regrown_of (c1 _))
  have C2 := @id (Hid (∀ d os, Calls Tryz.prog 162 #[.int .i64 seq, .int .i64 2] (grow (redrawn W d) os) fun e w'' => e = .returned (.string x2) ∧ ∃ p : Regrown, w'' = grow (redrawn W p.d) p.os)) (fun d os => Calls.regrown_of (c2 _))
  have C3 := @id (Hid (∀ d os, Calls Tryz.prog 162 #[.int .i64 time, .int .i64 4] (grow (redrawn W d) os) fun e w'' => e = .returned (.string x3) ∧ ∃ p : Regrown, w'' = grow (redrawn W p.d) p.os)) (fun d os => Calls.regrown_of (c3 _))
  have C4 := @id (Hid (∀ d os, Calls Tryz.prog 162 #[.int .i64 (t.size : Int), .int .i64 1] (grow (redrawn W d) os) fun e w'' => e = .returned (.string x4) ∧ ∃ p : Regrown, w'' = grow (redrawn W p.d) p.os)) (fun d os => Calls.regrown_of (c4 _))
  have n1 : ¬ 9223372036854775807 < x1.size + x2.size := by omega
  have n2 : ¬ 9223372036854775807 < x1.size + x2.size + x3.size := by omega
  have n3 : ¬ 9223372036854775807 < x1.size + x2.size + x3.size + x4.size := by omega
  have n4 : ¬ 9223372036854775807 < x1.size + x2.size + x3.size + x4.size + t.size := by omega
  clear c1 c2 c3 c4 d0 d1 d5 bW hx1 hx2 hx3 hx4 s1 s2 s3 s4 hfin h h1 h2 h3 h4 h5 hf1 hf2
  have HW : Hid _ := hW
  subst hfl
  clear hW
  cases f <;> cases e <;> cases k
  all_goals
    simp only [Pk.flags, Bool.false_eq_true, if_true, if_false, Int.reduceAdd] at C1
    go_enter Tryz.func121, Tryz.ntmps121
    go_wp2_with fail
    rw [← HW.out]
    refine wp_region_quiet_below (by kernel_rfl) (by kernel_rfl) ?_
    repeat (quiet_step (first | (go_at_call_of 162 (Value.int IntKind.i64 2); exact C2.out _ _) | (go_at_call_of 162 (Value.int IntKind.i64 4); exact C3.out _ _) | (go_at_call_of 162 (Value.int IntKind.i64 (t.size : Int)); exact C4.out _ _) | exact C1.out _ _))
    refine wpQuiet_nil ?_
    intro _ hw'
    obtain ⟨⟨dq, osq⟩, hw''⟩ := hw'
    subst hw''
    clear k0 k1 k5
    go_wp2
    go_ret
    exact ⟨rfl, hbW.trans ((below_regrown W dq osq).mono hbW.size)⟩

end Go.Proofs.YtnpaejknoipicafGreat

namespace Go.Proofs.YtnpaejknoipicafGreat
open Go.RowKit

set_option maxHeartbeats 4000000 in
theorem track_set7 {w : World} {g : Nat} {C : Array Value} {t : TypeId} (h : Blk w g C t) (hs : C.size = 7) (x0 x1 x2 x3 x4 x5 x6 : Value) :
    (((((((w.setCell ⟨g, 0, none⟩ x0).setCell ⟨g, 1, none⟩ x1).setCell ⟨g, 2, none⟩ x2).setCell ⟨g, 3, none⟩ x3).setCell ⟨g, 4, none⟩ x4).setCell ⟨g, 5, none⟩ x5).setCell ⟨g, 6, none⟩ x6).heap.size = w.heap.size ∧ Blk (((((((w.setCell ⟨g, 0, none⟩ x0).setCell ⟨g, 1, none⟩ x1).setCell ⟨g, 2, none⟩ x2).setCell ⟨g, 3, none⟩ x3).setCell ⟨g, 4, none⟩ x4).setCell ⟨g, 5, none⟩ x5).setCell ⟨g, 6, none⟩ x6) g #[x0, x1, x2, x3, x4, x5, x6] t ∧ ∀ j, j ≠ g → (((((((w.setCell ⟨g, 0, none⟩ x0).setCell ⟨g, 1, none⟩ x1).setCell ⟨g, 2, none⟩ x2).setCell ⟨g, 3, none⟩ x3).setCell ⟨g, 4, none⟩ x4).setCell ⟨g, 5, none⟩ x5).setCell ⟨g, 6, none⟩ x6).heap[j]? = w.heap[j]? := by
  obtain ⟨l⟩ := C
  match l, hs with
  | [c0, c1, c2, c3, c4, c5, c6], _ =>
    have e : ∀ (V : World) (i : Nat) (x : Value), (V.setCell ⟨g, i, none⟩ x).heap.size = V.heap.size := fun V i x => by simp
    have k := ((((((h.set 0 x0).set 1 x1).set 2 x2).set 3 x3).set 4 x4).set 5 x5).set 6 x6
    refine ⟨by rw [e, e, e, e, e, e, e], k, fun j hj => ?_⟩
    iterate 6 refine (Below.heap_setCell _ _ _ _ (by exact hj)).trans ?_
    exact Below.heap_setCell _ _ _ _ (by exact hj)
theorem track_cells7 {w : World} {g : Nat} {C : Array Value} {t : TypeId} (h : Blk w g C t) (hs : C.size = 7) : ∃ c0 c1 c2 c3 c4 c5 c6, w.cell? ⟨g, 0, none⟩ = some c0 ∧ w.cell? ⟨g, 1, none⟩ = some c1 ∧ w.cell? ⟨g, 2, none⟩ = some c2 ∧ w.cell? ⟨g, 3, none⟩ = some c3 ∧ w.cell? ⟨g, 4, none⟩ = some c4 ∧ w.cell? ⟨g, 5, none⟩ = some c5 ∧ w.cell? ⟨g, 6, none⟩ = some c6 := by
  obtain ⟨l⟩ := C
  match l, hs with
  | [c0, c1, c2, c3, c4, c5, c6], _ => exact ⟨c0, c1, c2, c3, c4, c5, c6, h.cell rfl, h.cell rfl, h.cell rfl, h.cell rfl, h.cell rfl, h.cell rfl, h.cell rfl⟩

def tp1 : Pk := ⟨65535, 5, true, true, true, ⟨#[97]⟩⟩
def tp2 : Pk := ⟨1, 9, true, true, true, ⟨#[99]⟩⟩
def tp3 : Pk := ⟨0, 7, true, true, true, ⟨#[98]⟩⟩
def tB1 : Tr := (feedA Tr.zero tp1.enc).1
def tB2 : Tr := (feedA tB1 tp2.enc).1
def tB3 : Tr := (feedA tB2 tp3.enc).1
def tBd : Tr := (drainA tB2).1
theorem tbF1 : (feedA Tr.zero tp1.enc).2 = (0, 0) := by kernel_rfl
theorem tbF2 : (feedA tB1 tp2.enc).2 = (0, 0) := by kernel_rfl
theorem tbF3 : (feedA tB2 tp3.enc).2 = (2, 0) := by kernel_rfl
theorem tbFd : (drainA tB2).2 = (1, 0) := by kernel_rfl
theorem tbK : tB3.chk = 0 ∧ tB3.last = 131073 ∧ tB3.L.length = 2 ∧ tBd.L.length = 1 := ⟨by kernel_rfl, by kernel_rfl, by kernel_rfl, by kernel_rfl⟩

theorem trWhole_any (seq time : Int) (t : ByteArray) (w : World) :
    Calls Tryz.prog 79 #[.int .i64 seq, .int .i64 time, .string t] w fun e w' => e = .returned (.agg #[.int .i64 seq, .int .i64 time, .bool true, .bool true, .bool true, .string t]) ∧ Below w.heap.size w w' := by
  go_enter Tryz.func79, Tryz.ntmps79
  go_wp2
  exact bodyPost_ret (v := .agg #[.int .i64 seq, .int .i64 time, .bool true, .bool true, .bool true, .string t]) (by simp [results, Tryz.results79, go_sem]) rfl ⟨rfl, (Below.refl _ _).alloc (Nat.le_refl _) _⟩

theorem bytesOf_any (s t : Int) (f e k : Bool) (x : ByteArray) (w : World) (h : (Pk.mk s t f e k x).chk = 0) :
    Calls Tryz.prog 78 #[.agg #[.int .i64 s, .int .i64 t, .bool f, .bool e, .bool k, .string x]] w fun r w' => r = .returned (.string (ba (Pk.mk s t f e k x).enc)) ∧ Below w.heap.size w w' := by
  obtain ⟨b, hb⟩ : ∃ b, b = ba (Pk.mk s t f e k x).enc := ⟨_, rfl⟩
  have HP : Hid (∀ W : World, Calls Tryz.prog 121 #[.agg #[.int .i64 s, .int .i64 t, .bool f, .bool e, .bool k, .string x]] W fun r w' => r = .returned (.string b) ∧ Below W.heap.size W w') := fun W => by rw [hb]; exact packetBytes_any _ W h
  rw [← hb]
  clear hb h
  go_enter Tryz.func78, Tryz.ntmps78
  go_wp2_with fail
  refine (HP.out _).mono ?_
  rintro r w1 ⟨rfl, b1⟩
  have BW : Hid (Below w.heap.size w w1) := ((Below.refl _ w).alloc (Nat.le_refl _) _).trans (b1.mono (by simp))
  clear b1
  go_wp2
  go_ret
  exact ⟨rfl, BW.out⟩

/-- track.Feed, as the laws' walks want it: all values under names -/
theorem begFeed (t t' : Tr) (s : List UInt8) (cl : Nat) (er : Int) (la0 ne0 fi0 : Int) (hv bv gv ov : Value) (S : Nat → Prop) (w : World) (hf : feedA t s = (t', cl, er)) (hl : la0 = t.last) (hn : ne0 = t.next) (hi : fi0 = t.first) (hr : TrIn S w hv bv gv ov t) :
    Calls Tryz.prog 23 #[.agg #[.int .i64 la0, .int .i64 ne0, hv, bv, .int .i64 fi0, gv, ov], .string (ba s)] w fun e w' => ∃ la1 ne1 ha1 hn1 hc1 oa1 on1 oc1 fi1 ga1 gn1 gc1 pa1 pn1 pc1, e = .returned (.tuple #[.agg #[.int .i64 la1, .int .i64 ne1, .slice ha1 hn1 hc1, .slice oa1 on1 oc1, .int .i64 fi1, .slice ga1 gn1 gc1, .slice pa1 pn1 pc1], .int .i64 cl, .int .i64 er]) ∧ Hid (la1 = t'.last ∧ ne1 = t'.next ∧ fi1 = t'.first ∧ gn1 = t'.L.length) ∧ Hid (TrIn (fun g => w.heap.size ≤ g) w' (.slice ha1 hn1 hc1) (.slice oa1 on1 oc1) (.slice ga1 gn1 gc1) (.slice pa1 pn1 pc1) t') ∧ Below w.heap.size w w' := by
  subst hl hn hi
  refine (trkFeed_any S t s hv bv gv ov w hr).mono ?_
  rw [hf]
  rintro e w' ⟨x1, x2, x3, x4, rfl, q, b⟩
  obtain ⟨a1, c1, a2, c2, a3, c3, a4, c4, e1, e2, e3, e4⟩ := q.slices
  subst e1 e2 e3 e4
  exact ⟨_, _, _, _, _, _, _, _, _, _, _, _, _, _, _, rfl, ⟨rfl, rfl, rfl, rfl⟩, q, b⟩
theorem begDrain (t t' : Tr) (cl : Nat) (er : Int) (la0 ne0 fi0 : Int) (hv bv gv ov : Value) (S : Nat → Prop) (w : World) (hf : drainA t = (t', cl, er)) (hl : la0 = t.last) (hn : ne0 = t.next) (hi : fi0 = t.first) (hr : TrIn S w hv bv gv ov t) :
    Calls Tryz.prog 24 #[.agg #[.int .i64 la0, .int .i64 ne0, hv, bv, .int .i64 fi0, gv, ov]] w fun e w' => ∃ la1 ne1 ha1 hn1 hc1 oa1 on1 oc1 fi1 ga1 gn1 gc1 pa1 pn1 pc1, e = .returned (.tuple #[.agg #[.int .i64 la1, .int .i64 ne1, .slice ha1 hn1 hc1, .slice oa1 on1 oc1, .int .i64 fi1, .slice ga1 gn1 gc1, .slice pa1 pn1 pc1], .int .i64 cl, .int .i64 er]) ∧ Hid (la1 = t'.last ∧ ne1 = t'.next ∧ fi1 = t'.first ∧ gn1 = t'.L.length) ∧ Hid (TrIn (fun g => w.heap.size ≤ g) w' (.slice ha1 hn1 hc1) (.slice oa1 on1 oc1) (.slice ga1 gn1 gc1) (.slice pa1 pn1 pc1) t') ∧ Below w.heap.size w w' := by
  subst hl hn hi
  refine (trkDrain_any S t hv bv gv ov w hr).mono ?_
  rw [hf]
  rintro e w' ⟨x1, x2, x3, x4, rfl, q, b⟩
  obtain ⟨a1, c1, a2, c2, a3, c3, a4, c4, e1, e2, e3, e4⟩ := q.slices
  subst e1 e2 e3 e4
  exact ⟨_, _, _, _, _, _, _, _, _, _, _, _, _, _, _, rfl, ⟨rfl, rfl, rfl, rfl⟩, q, b⟩

end Go.Proofs.YtnpaejknoipicafGreat

namespace Go.Proofs.YtnpaejknoipicafGreat
open Go.RowKit

set_option maxHeartbeats 16000000 in
set_option maxRecDepth 100000 in
theorem trackBegun_any (w : World) :
    Calls Tryz.prog 28 #[] w fun e w' => e = .returned (.bool true) ∧ Below w.heap.size w w' := by
  obtain ⟨bb1, hb1⟩ : ∃ b, b = tp1.enc := ⟨_, rfl⟩
  obtain ⟨bb2, hb2⟩ : ∃ b, b = tp2.enc := ⟨_, rfl⟩
  obtain ⟨bb3, hb3⟩ : ∃ b, b = tp3.enc := ⟨_, rfl⟩
  obtain ⟨tb0, ht0⟩ : ∃ t, t = Tr.zero := ⟨_, rfl⟩
  obtain ⟨tb1, ht1⟩ : ∃ t, t = tB1 := ⟨_, rfl⟩
  obtain ⟨tb2, ht2⟩ : ∃ t, t = tB2 := ⟨_, rfl⟩
  obtain ⟨tb3, ht3⟩ : ∃ t, t = tB3 := ⟨_, rfl⟩
  obtain ⟨tb4, ht4⟩ : ∃ t, t = tBd := ⟨_, rfl⟩
  have HE1 : Hid (feedA tb0 bb1 = (tb1, 0, 0)) := by rw [ht0, hb1, ht1]; exact Prod.ext rfl tbF1
  have HE2 : Hid (feedA tb1 bb2 = (tb2, 0, 0)) := by rw [ht1, hb2, ht2]; exact Prod.ext rfl tbF2
  have HE3 : Hid (feedA tb2 bb3 = (tb3, 2, 0)) := by rw [ht2, hb3, ht3]; exact Prod.ext rfl tbF3
  have HE4 : Hid (drainA tb2 = (tb4, 1, 0)) := by rw [ht2, ht4]; exact Prod.ext rfl tbFd
  have HK : Hid (tb3.chk = 0 ∧ tb3.last = 131073 ∧ tb3.L.length = 2 ∧ tb4.L.length = 1) := by rw [ht3, ht4]; exact tbK
  have HZ : Hid (tb0.last = 0 ∧ tb0.next = 0 ∧ tb0.first = 0 ∧ ∀ W, TrIn (fun _ => True) W (.slice none 0 0) (.slice none 0 0) (.slice none 0 0) (.slice none 0 0) tb0) := by rw [ht0]; exact ⟨rfl, rfl, rfl, fun W => TrIn.zero _ W⟩
  have HW : Hid (∀ (seq time : Int) (t : ByteArray) (W : World), Calls Tryz.prog 79 #[.int .i64 seq, .int .i64 time, .string t] W fun e w' => e = .returned (.agg #[.int .i64 seq, .int .i64 time, .bool true, .bool true, .bool true, .string t]) ∧ Below W.heap.size W w') := trWhole_any
  have HB1 : Hid (∀ W : World, Calls Tryz.prog 78 #[.agg #[.int .i64 65535, .int .i64 5, .bool true, .bool true, .bool true, .string ⟨#[97]⟩]] W fun e w' => e = .returned (.string (ba bb1)) ∧ Below W.heap.size W w') := by rw [hb1]; exact fun W => bytesOf_any _ _ _ _ _ _ W (by decide)
  have HB2 : Hid (∀ W : World, Calls Tryz.prog 78 #[.agg #[.int .i64 1, .int .i64 9, .bool true, .bool true, .bool true, .string ⟨#[99]⟩]] W fun e w' => e = .returned (.string (ba bb2)) ∧ Below W.heap.size W w') := by rw [hb2]; exact fun W => bytesOf_any _ _ _ _ _ _ W (by decide)
  have HB3 : Hid (∀ W : World, Calls Tryz.prog 78 #[.agg #[.int .i64 0, .int .i64 7, .bool true, .bool true, .bool true, .string ⟨#[98]⟩]] W fun e w' => e = .returned (.string (ba bb3)) ∧ Below W.heap.size W w') := by rw [hb3]; exact fun W => bytesOf_any _ _ _ _ _ _ W (by decide)
  have HF1 : Hid (∀ W : World, Calls Tryz.prog 23 #[.agg #[.int .i64 0, .int .i64 0, .slice none 0 0, .slice none 0 0, .int .i64 0, .slice none 0 0, .slice none 0 0], .string (ba bb1)] W fun e w' => ∃ la1 ne1 ha1 hn1 hc1 oa1 on1 oc1 fi1 ga1 gn1 gc1 pa1 pn1 pc1, e = .returned (.tuple #[.agg #[.int .i64 la1, .int .i64 ne1, .slice ha1 hn1 hc1, .slice oa1 on1 oc1, .int .i64 fi1, .slice ga1 gn1 gc1, .slice pa1 pn1 pc1], .int .i64 0, .int .i64 0]) ∧ Hid (la1 = tb1.last ∧ ne1 = tb1.next ∧ fi1 = tb1.first ∧ gn1 = tb1.L.length) ∧ Hid (TrIn (fun g => W.heap.size ≤ g) w' (.slice ha1 hn1 hc1) (.slice oa1 on1 oc1) (.slice ga1 gn1 gc1) (.slice pa1 pn1 pc1) tb1) ∧ Below W.heap.size W w') := fun W => begFeed tb0 tb1 bb1 0 0 0 0 0 _ _ _ _ _ W HE1.out HZ.out.1.symm HZ.out.2.1.symm HZ.out.2.2.1.symm (HZ.out.2.2.2 W)
  clear hb1 hb2 hb3 ht0 ht1 ht2 ht3 ht4 HZ HE1
  go_enter Tryz.func28, Tryz.ntmps28
  go_wp2_with fail
  refine (HW.out 65535 5 ⟨#[97]⟩ w).mono ?_
  rintro e w1 ⟨rfl, c1⟩
  go_wp2_with fail
  refine (HB1.out w1).mono ?_
  rintro e w2 ⟨rfl, c2⟩
  go_wp2_with fail
  refine (HF1.out w2).mono ?_
  rintro e w3 ⟨la1, ne1, ha1, hn1, hc1, oa1, on1, oc1, fi1, ga1, gn1, gc1, pa1, pn1, pc1, rfl, G1, T1, c3⟩
  have BX : Hid (Below w.heap.size w w3) := (c1.trans (c2.mono c1.size)).trans (c3.mono (Nat.le_trans c1.size c2.size))
  clear c1 c2 c3 HF1 HB1
  obtain ⟨V1, hV1⟩ : ∃ V, V = w3.alloc (.cells #[.int .i64 la1, .int .i64 ne1, .slice ha1 hn1 hc1, .slice oa1 on1 oc1, .int .i64 fi1, .slice ga1 gn1 gc1, .slice pa1 pn1 pc1] 61) := ⟨_, rfl⟩
  obtain ⟨bq1, hbq1⟩ : ∃ b, b = w3.heap.size := ⟨_, rfl⟩
  have KP1 : Hid (Blk V1 bq1 #[.int .i64 la1, .int .i64 ne1, .slice ha1 hn1 hc1, .slice oa1 on1 oc1, .int .i64 fi1, .slice ga1 gn1 gc1, .slice pa1 pn1 pc1] 61) := by rw [hbq1]; exact Blk.newE hV1
  have TR1 : Hid (TrIn (fun _ => True) V1 (.slice ha1 hn1 hc1) (.slice oa1 on1 oc1) (.slice ga1 gn1 gc1) (.slice pa1 pn1 pc1) tb1) := by rw [hV1]; exact (T1.out.mono fun _ _ _ => trivial).to (SameOn.alloc _) fun _ _ h => h
  have BW1 : Hid (Below w.heap.size w V1) := by rw [hV1]; exact BX.out.alloc BX.out.size _
  clear T1 BX
  have HF2 : Hid (∀ W : World, TrIn (fun _ => True) W (.slice ha1 hn1 hc1) (.slice oa1 on1 oc1) (.slice ga1 gn1 gc1) (.slice pa1 pn1 pc1) tb1 → Calls Tryz.prog 23 #[.agg #[.int .i64 la1, .int .i64 ne1, .slice ha1 hn1 hc1, .slice oa1 on1 oc1, .int .i64 fi1, .slice ga1 gn1 gc1, .slice pa1 pn1 pc1], .string (ba bb2)] W fun e w' => ∃ la2 ne2 ha2 hn2 hc2 oa2 on2 oc2 fi2 ga2 gn2 gc2 pa2 pn2 pc2, e = .returned (.tuple #[.agg #[.int .i64 la2, .int .i64 ne2, .slice ha2 hn2 hc2, .slice oa2 on2 oc2, .int .i64 fi2, .slice ga2 gn2 gc2, .slice pa2 pn2 pc2], .int .i64 0, .int .i64 0]) ∧ Hid (la2 = tb2.last ∧ ne2 = tb2.next ∧ fi2 = tb2.first ∧ gn2 = tb2.L.length) ∧ Hid (TrIn (fun g => W.heap.size ≤ g) w' (.slice ha2 hn2 hc2) (.slice oa2 on2 oc2) (.slice ga2 gn2 gc2) (.slice pa2 pn2 pc2) tb2) ∧ Below W.heap.size W w') := fun W hT => begFeed tb1 tb2 bb2 0 0 _ _ _ _ _ _ _ _ W HE2.out G1.out.1 G1.out.2.1 G1.out.2.2.1 hT
  clear HE2
  go_wp2_with fail
  rw [← hV1]
  rw [← hbq1]
  clear hV1 hbq1 w1 w2 w3
  refine region_main (by kernel_rfl) (by kernel_rfl) [.quiet (.agg #[.int .i64 la1, .int .i64 ne1, .slice ha1 hn1 hc1, .slice oa1 on1 oc1, .int .i64 fi1, .slice ga1 gn1 gc1, .slice pa1 pn1 pc1]), .qcall (.agg #[.int .i64 1, .int .i64 9, .bool true, .bool true, .bool true, .string ⟨#[99]⟩]), .qcall (.string (ba bb2)), .main, .fin (fun r => r), .fin (exT 0), .fin (exT 1), .fin (exT 2), .box 61 #[.int .i64 0, .int .i64 0, .slice none 0 0, .slice none 0 0, .int .i64 0, .slice none 0 0, .slice none 0 0], .put 8 (fun r => aggC (exT 0 r)), .fin (exT 1), .fin (exT 2)] 3 (by kernel_rfl)
    (fun S r w' => ∃ la2 ne2 ha2 hn2 hc2 oa2 on2 oc2 fi2 ga2 gn2 gc2 pa2 pn2 pc2, r = .tuple #[.agg #[.int .i64 la2, .int .i64 ne2, .slice ha2 hn2 hc2, .slice oa2 on2 oc2, .int .i64 fi2, .slice ga2 gn2 gc2, .slice pa2 pn2 pc2], .int .i64 0, .int .i64 0] ∧ (la2 = tb2.last ∧ ne2 = tb2.next ∧ fi2 = tb2.first ∧ gn2 = tb2.L.length) ∧ TrIn S w' (.slice ha2 hn2 hc2) (.slice oa2 on2 oc2) (.slice ga2 gn2 gc2) (.slice pa2 pn2 pc2) tb2) ?loc ?step ?fin
  case loc =>
    rintro S r w1 w3 ⟨la2, ne2, ha2, hn2, hc2, oa2, on2, oc2, fi2, ga2, gn2, gc2, pa2, pn2, pc2, rfl, h1, h2⟩ hs hsame
    exact ⟨la2, ne2, ha2, hn2, hc2, oa2, on2, oc2, fi2, ga2, gn2, gc2, pa2, pn2, pc2, rfl, h1, h2.to ⟨hs, fun g hg hS => hsame g hS hg⟩ (fun _ _ h => h)⟩
  case step =>
    intro i o ho a' w' r hb hfree hvals
    have f1 : a'.eval (.tmp 1) = .pointer (some ⟨bq1, 0, none⟩) := (hfree 1 (by kernel_rfl)).trans rfl
    obtain ⟨y0, y1, y2, y3, y4, y5, y6⟩ := (KP1.out.below hb KP1.out.lt).sevenc
    match i, ho with
    | 0, ho =>
      simp at ho; subst ho
      show (execOp a'.eval _).run _ w' = .ok (.value _) w'
      generalize a'.eval = ρ at *
      simp [execOp, go_sem, f1, y0, y1, y2, y3, y4, y5, y6]
    | 1, ho =>
      simp at ho; subst ho
      have ef : a'.eval (.func 79) = .func (.func 79) #[] #[] := rfl
      have ec : ∀ v, a'.eval (.const v) = v := fun _ => rfl
      show ∃ f args, (execOp a'.eval _).run _ w' = .ok (.enter f args) w' ∧ _
      generalize a'.eval = ρ at *
      exact ⟨79, #[.int .i64 1, .int .i64 9, .string ⟨#[99]⟩], by simp [execOp, go_sem, ef, ec], HW.out 1 9 ⟨#[99]⟩ w'⟩
    | 2, ho =>
      simp at ho; subst ho
      have e23 : a'.eval (.tmp 23) = .agg #[.int .i64 1, .int .i64 9, .bool true, .bool true, .bool true, .string ⟨#[99]⟩] := hvals 1 _ (by kernel_rfl) rfl
      have ef : a'.eval (.func 78) = .func (.func 78) #[] #[] := rfl
      show ∃ f args, (execOp a'.eval _).run _ w' = .ok (.enter f args) w' ∧ _
      generalize a'.eval = ρ at *
      exact ⟨78, #[.agg #[.int .i64 1, .int .i64 9, .bool true, .bool true, .bool true, .string ⟨#[99]⟩]], by simp [execOp, go_sem, e23, ef], HB2.out w'⟩
    | 3, ho =>
      simp at ho; subst ho
      have e22 : a'.eval (.tmp 22) = .agg #[.int .i64 la1, .int .i64 ne1, .slice ha1 hn1 hc1, .slice oa1 on1 oc1, .int .i64 fi1, .slice ga1 gn1 gc1, .slice pa1 pn1 pc1] := hvals 0 _ (by kernel_rfl) rfl
      have e24 : a'.eval (.tmp 24) = .string (ba bb2) := hvals 2 _ (by kernel_rfl) rfl
      have ef : a'.eval (.func 23) = .func (.func 23) #[] #[] := rfl
      show ∃ f args, (execOp a'.eval _).run _ w' = .ok (.enter f args) w' ∧ _
      generalize a'.eval = ρ at *
      refine ⟨23, #[.agg #[.int .i64 la1, .int .i64 ne1, .slice ha1 hn1 hc1, .slice oa1 on1 oc1, .int .i64 fi1, .slice ga1 gn1 gc1, .slice pa1 pn1 pc1], .string (ba bb2)], by simp [execOp, go_sem, e22, e24, ef], ?_⟩
      refine (HF2.out w' (TR1.out.below hb)).mono ?_
      rintro e w'' ⟨la2, ne2, ha2, hn2, hc2, oa2, on2, oc2, fi2, ga2, gn2, gc2, pa2, pn2, pc2, rfl, q1, q2, q3⟩
      exact ⟨_, rfl, ⟨la2, ne2, ha2, hn2, hc2, oa2, on2, oc2, fi2, ga2, gn2, gc2, pa2, pn2, pc2, rfl, q1.out, q2.out.mono fun g hl hg => ⟨hl, .inr hg⟩⟩, q3⟩
    | 4, ho =>
      simp at ho; subst ho
      have e25 : a'.eval (.tmp 25) = r := hvals 3 _ (by kernel_rfl) rfl
      show ∀ S, _ → (execOp a'.eval _).run _ w' = .ok (.value _) w'
      rintro S ⟨la2, ne2, ha2, hn2, hc2, oa2, on2, oc2, fi2, ga2, gn2, gc2, pa2, pn2, pc2, rfl, _⟩
      try simp only [exT] at e25
      generalize a'.eval = ρ at *
      simp [execOp, go_sem, e25]
    | 5, ho =>
      simp at ho; subst ho
      have e21 : a'.eval (.tmp 21) = r := hvals 4 _ (by kernel_rfl) rfl
      show ∀ S, _ → (execOp a'.eval _).run _ w' = .ok (.value _) w'
      rintro S ⟨la2, ne2, ha2, hn2, hc2, oa2, on2, oc2, fi2, ga2, gn2, gc2, pa2, pn2, pc2, rfl, _⟩
      try simp only [exT] at e21
      generalize a'.eval = ρ at *
      simp [execOp, go_sem, e21, exT]
    | 6, ho =>
      simp at ho; subst ho
      have e21 : a'.eval (.tmp 21) = r := hvals 4 _ (by kernel_rfl) rfl
      show ∀ S, _ → (execOp a'.eval _).run _ w' = .ok (.value _) w'
      rintro S ⟨la2, ne2, ha2, hn2, hc2, oa2, on2, oc2, fi2, ga2, gn2, gc2, pa2, pn2, pc2, rfl, _⟩
      try simp only [exT] at e21
      generalize a'.eval = ρ at *
      simp [execOp, go_sem, e21, exT]
    | 7, ho =>
      simp at ho; subst ho
      have e21 : a'.eval (.tmp 21) = r := hvals 4 _ (by kernel_rfl) rfl
      show ∀ S, _ → (execOp a'.eval _).run _ w' = .ok (.value _) w'
      rintro S ⟨la2, ne2, ha2, hn2, hc2, oa2, on2, oc2, fi2, ga2, gn2, gc2, pa2, pn2, pc2, rfl, _⟩
      try simp only [exT] at e21
      generalize a'.eval = ρ at *
      simp [execOp, go_sem, e21, exT]
    | 8, ho =>
      simp at ho; subst ho
      show (execOp a'.eval _).run _ w' = .ok (.value _) _
      generalize a'.eval = ρ at *
      simp [execOp, go_sem]
    | 9, ho =>
      simp at ho; subst ho
      have e26 : a'.eval (.tmp 26) = (exT 0) r := hvals 5 _ (by kernel_rfl) rfl
      show ∀ S, _ → ∀ t z g C, _ → _ → _ → _ → ∃ w'', (execOp a'.eval _).run _ w' = .ok .skip w'' ∧ _
      rintro S ⟨la2, ne2, ha2, hn2, hc2, oa2, on2, oc2, fi2, ga2, gn2, gc2, pa2, pn2, pc2, rfl, _⟩ t z g C hz hC hs (eb : a'.eval (.tmp 4) = _)
      cases hz
      obtain ⟨u0, u1, u2, u3, u4, u5, u6, q0, q1, q2, q3, q4, q5, q6⟩ := track_cells7 hC hs
      have p0 := hC.free 0
      have p1 := hC.free 1
      have p2 := hC.free 2
      have p3 := hC.free 3
      have p4 := hC.free 4
      have p5 := hC.free 5
      have p6 := hC.free 6
      obtain ⟨m1, m2, m3⟩ := track_set7 hC hs (.int .i64 la2) (.int .i64 ne2) (.slice ha2 hn2 hc2) (.slice oa2 on2 oc2) (.int .i64 fi2) (.slice ga2 gn2 gc2) (.slice pa2 pn2 pc2)
      simp only [exT] at e26
      generalize a'.eval = ρ at *
      have hB := seven_below (A := g) (Below.refl 0 w') (Nat.zero_le g) (.int .i64 la2) (.int .i64 ne2) (.slice ha2 hn2 hc2) (.slice oa2 on2 oc2) (.int .i64 fi2) (.slice ga2 gn2 gc2) (.slice pa2 pn2 pc2)
      refine ⟨_, ?_, m1, m2, rfl, m3, hB.os, hB.tape, hB.output⟩
      clear m1 m2 m3 hB
      simp [execOp, go_sem, e26, eb, q0, q1, q2, q3, q4, q5, q6, p0, p1, p2, p3, p4, p5, p6]
    | 10, ho =>
      simp at ho; subst ho
      have e27 : a'.eval (.tmp 27) = (exT 1) r := hvals 6 _ (by kernel_rfl) rfl
      show ∀ S, _ → (execOp a'.eval _).run _ w' = .ok (.value _) w'
      rintro S ⟨la2, ne2, ha2, hn2, hc2, oa2, on2, oc2, fi2, ga2, gn2, gc2, pa2, pn2, pc2, rfl, _⟩
      try simp only [exT] at e27
      generalize a'.eval = ρ at *
      simp [execOp, go_sem, e27, exT]
    | 11, ho =>
      simp at ho; subst ho
      have e28 : a'.eval (.tmp 28) = (exT 2) r := hvals 7 _ (by kernel_rfl) rfl
      show ∀ S, _ → (execOp a'.eval _).run _ w' = .ok (.value _) w'
      rintro S ⟨la2, ne2, ha2, hn2, hc2, oa2, on2, oc2, fi2, ga2, gn2, gc2, pa2, pn2, pc2, rfl, _⟩
      try simp only [exT] at e28
      generalize a'.eval = ρ at *
      simp [execOp, go_sem, e28, exT]
    | i + 12, ho => simp at ho
  case fin =>
    rintro r gs Sr W hb ⟨la2, ne2, ha2, hn2, hc2, oa2, on2, oc2, fi2, ga2, gn2, gc2, pa2, pn2, pc2, rfl, h1, h2⟩ hS hbox hap
    obtain ⟨p1, p2, C, p3, p4⟩ := hbox 8 _ _ (by decide) rfl
    have p5 := p4 9 _ (by decide) rfl
    subst p5
    have KP2 : Hid (Blk W (gs 8) #[.int .i64 la2, .int .i64 ne2, .slice ha2 hn2 hc2, .slice oa2 on2 oc2, .int .i64 fi2, .slice ga2 gn2 gc2, .slice pa2 pn2 pc2] 61) := p3
    simp only [putK, Kd.out, exT, Act.put, List.setIfInBounds_toArray, List.set_cons_succ, List.set_cons_zero, List.getElem?_toArray, List.getElem?_cons_zero, List.getElem?_cons_succ, Option.getD_some]
    obtain ⟨bq2, hbq⟩ : ∃ p, p = gs 8 := ⟨_, rfl⟩
    rw [← hbq] at KP2 p1
    rw [← hbq]
    have BW2 : Hid (Below w.heap.size w W) := BW1.out.trans (hb.mono BW1.out.size)
    have G2 : Hid (la2 = tb2.last ∧ ne2 = tb2.next ∧ fi2 = tb2.first ∧ gn2 = tb2.L.length) := h1
    have TR2 : Hid (TrIn (fun _ => True) W (.slice ha2 hn2 hc2) (.slice oa2 on2 oc2) (.slice ga2 gn2 gc2) (.slice pa2 pn2 pc2) tb2) := h2.mono fun _ _ _ => trivial
    have hbW2 := hb
    clear hbq h1 h2 hS hbox hap p2 p3 p4 hb
    have HF3 : Hid (∀ W : World, TrIn (fun _ => True) W (.slice ha2 hn2 hc2) (.slice oa2 on2 oc2) (.slice ga2 gn2 gc2) (.slice pa2 pn2 pc2) tb2 → Calls Tryz.prog 23 #[.agg #[.int .i64 la2, .int .i64 ne2, .slice ha2 hn2 hc2, .slice oa2 on2 oc2, .int .i64 fi2, .slice ga2 gn2 gc2, .slice pa2 pn2 pc2], .string (ba bb3)] W fun e w' => ∃ la3 ne3 ha3 hn3 hc3 oa3 on3 oc3 fi3 ga3 gn3 gc3 pa3 pn3 pc3, e = .returned (.tuple #[.agg #[.int .i64 la3, .int .i64 ne3, .slice ha3 hn3 hc3, .slice oa3 on3 oc3, .int .i64 fi3, .slice ga3 gn3 gc3, .slice pa3 pn3 pc3], .int .i64 2, .int .i64 0]) ∧ Hid (la3 = tb3.last ∧ ne3 = tb3.next ∧ fi3 = tb3.first ∧ gn3 = tb3.L.length) ∧ Hid (TrIn (fun g => W.heap.size ≤ g) w' (.slice ha3 hn3 hc3) (.slice oa3 on3 oc3) (.slice ga3 gn3 gc3) (.slice pa3 pn3 pc3) tb3) ∧ Below W.heap.size W w') := fun W hT => begFeed tb2 tb3 bb3 2 0 _ _ _ _ _ _ _ _ W HE3.out G2.out.1 G2.out.2.1 G2.out.2.2.1 hT
    have HD : Hid (∀ W : World, TrIn (fun _ => True) W (.slice ha2 hn2 hc2) (.slice oa2 on2 oc2) (.slice ga2 gn2 gc2) (.slice pa2 pn2 pc2) tb2 → Calls Tryz.prog 24 #[.agg #[.int .i64 la2, .int .i64 ne2, .slice ha2 hn2 hc2, .slice oa2 on2 oc2, .int .i64 fi2, .slice ga2 gn2 gc2, .slice pa2 pn2 pc2]] W fun e w' => ∃ la4 ne4 ha4 hn4 hc4 oa4 on4 oc4 fi4 ga4 gn4 gc4 pa4 pn4 pc4, e = .returned (.tuple #[.agg #[.int .i64 la4, .int .i64 ne4, .slice ha4 hn4 hc4, .slice oa4 on4 oc4, .int .i64 fi4, .slice ga4 gn4 gc4, .slice pa4 pn4 pc4], .int .i64 1, .int .i64 0]) ∧ Hid (la4 = tb4.last ∧ ne4 = tb4.next ∧ fi4 = tb4.first ∧ gn4 = tb4.L.length) ∧ Hid (TrIn (fun g => W.heap.size ≤ g) w' (.slice ha4 hn4 hc4) (.slice oa4 on4 oc4) (.slice ga4 gn4 gc4) (.slice pa4 pn4 pc4) tb4) ∧ Below W.heap.size W w') := fun W hT => begDrain tb2 tb4 1 0 _ _ _ _ _ _ _ _ W HE4.out G2.out.1 G2.out.2.1 G2.out.2.2.1 hT
    clear HE3 HE4 HF2 KP1 TR1 BW1 G1 hbW2 HB2
    go_wp2_with fail
    refine region_main (by kernel_rfl) (by kernel_rfl) [.quiet (.agg #[.int .i64 la2, .int .i64 ne2, .slice ha2 hn2 hc2, .slice oa2 on2 oc2, .int .i64 fi2, .slice ga2 gn2 gc2, .slice pa2 pn2 pc2]), .qcall (.agg #[.int .i64 0, .int .i64 7, .bool true, .bool true, .bool true, .string ⟨#[98]⟩]), .qcall (.string (ba bb3)), .main, .fin (fun r => r), .fin (exT 0), .fin (exT 1), .fin (exT 2), .box 61 #[.int .i64 0, .int .i64 0, .slice none 0 0, .slice none 0 0, .int .i64 0, .slice none 0 0, .slice none 0 0], .put 8 (fun r => aggC (exT 0 r)), .fin (exT 1), .fin (exT 2)] 3 (by kernel_rfl)
      (fun S r w' => ∃ la3 ne3 ha3 hn3 hc3 oa3 on3 oc3 fi3 ga3 gn3 gc3 pa3 pn3 pc3, r = .tuple #[.agg #[.int .i64 la3, .int .i64 ne3, .slice ha3 hn3 hc3, .slice oa3 on3 oc3, .int .i64 fi3, .slice ga3 gn3 gc3, .slice pa3 pn3 pc3], .int .i64 2, .int .i64 0] ∧ (la3 = tb3.last ∧ ne3 = tb3.next ∧ fi3 = tb3.first ∧ gn3 = tb3.L.length) ∧ TrIn S w' (.slice ha3 hn3 hc3) (.slice oa3 on3 oc3) (.slice ga3 gn3 gc3) (.slice pa3 pn3 pc3) tb3) ?loc ?step ?fin
    case loc =>
      rintro S r w1 w3 ⟨la3, ne3, ha3, hn3, hc3, oa3, on3, oc3, fi3, ga3, gn3, gc3, pa3, pn3, pc3, rfl, h1, h2⟩ hs hsame
      exact ⟨la3, ne3, ha3, hn3, hc3, oa3, on3, oc3, fi3, ga3, gn3, gc3, pa3, pn3, pc3, rfl, h1, h2.to ⟨hs, fun g hg hS => hsame g hS hg⟩ (fun _ _ h => h)⟩
    case step =>
      intro i o ho a' w' r hb hfree hvals
      have f4 : a'.eval (.tmp 4) = .pointer (some ⟨bq2, 0, none⟩) := (hfree 4 (by kernel_rfl)).trans rfl
      obtain ⟨y0, y1, y2, y3, y4, y5, y6⟩ := (KP2.out.below hb KP2.out.lt).sevenc
      match i, ho with
      | 0, ho =>
        simp at ho; subst ho
        show (execOp a'.eval _).run _ w' = .ok (.value _) w'
        generalize a'.eval = ρ at *
        simp [execOp, go_sem, f4, y0, y1, y2, y3, y4, y5, y6]
      | 1, ho =>
        simp at ho; subst ho
        have ef : a'.eval (.func 79) = .func (.func 79) #[] #[] := rfl
        have ec : ∀ v, a'.eval (.const v) = v := fun _ => rfl
        show ∃ f args, (execOp a'.eval _).run _ w' = .ok (.enter f args) w' ∧ _
        generalize a'.eval = ρ at *
        exact ⟨79, #[.int .i64 0, .int .i64 7, .string ⟨#[98]⟩], by simp [execOp, go_sem, ef, ec], HW.out 0 7 ⟨#[98]⟩ w'⟩
      | 2, ho =>
        simp at ho; subst ho
        have e31 : a'.eval (.tmp 31) = .agg #[.int .i64 0, .int .i64 7, .bool true, .bool true, .bool true, .string ⟨#[98]⟩] := hvals 1 _ (by kernel_rfl) rfl
        have ef : a'.eval (.func 78) = .func (.func 78) #[] #[] := rfl
        show ∃ f args, (execOp a'.eval _).run _ w' = .ok (.enter f args) w' ∧ _
        generalize a'.eval = ρ at *
        exact ⟨78, #[.agg #[.int .i64 0, .int .i64 7, .bool true, .bool true, .bool true, .string ⟨#[98]⟩]], by simp [execOp, go_sem, e31, ef], HB3.out w'⟩
      | 3, ho =>
        simp at ho; subst ho
        have e30 : a'.eval (.tmp 30) = .agg #[.int .i64 la2, .int .i64 ne2, .slice ha2 hn2 hc2, .slice oa2 on2 oc2, .int .i64 fi2, .slice ga2 gn2 gc2, .slice pa2 pn2 pc2] := hvals 0 _ (by kernel_rfl) rfl
        have e32 : a'.eval (.tmp 32) = .string (ba bb3) := hvals 2 _ (by kernel_rfl) rfl
        have ef : a'.eval (.func 23) = .func (.func 23) #[] #[] := rfl
        show ∃ f args, (execOp a'.eval _).run _ w' = .ok (.enter f args) w' ∧ _
        generalize a'.eval = ρ at *
        refine ⟨23, #[.agg #[.int .i64 la2, .int .i64 ne2, .slice ha2 hn2 hc2, .slice oa2 on2 oc2, .int .i64 fi2, .slice ga2 gn2 gc2, .slice pa2 pn2 pc2], .string (ba bb3)], by simp [execOp, go_sem, e30, e32, ef], ?_⟩
        refine (HF3.out w' (TR2.out.below hb)).mono ?_
        rintro e w'' ⟨la3, ne3, ha3, hn3, hc3, oa3, on3, oc3, fi3, ga3, gn3, gc3, pa3, pn3, pc3, rfl, q1, q2, q3⟩
        exact ⟨_, rfl, ⟨la3, ne3, ha3, hn3, hc3, oa3, on3, oc3, fi3, ga3, gn3, gc3, pa3, pn3, pc3, rfl, q1.out, q2.out.mono fun g hl hg => ⟨hl, .inr hg⟩⟩, q3⟩
      | 4, ho =>
        simp at ho; subst ho
        have e33 : a'.eval (.tmp 33) = r := hvals 3 _ (by kernel_rfl) rfl
        show ∀ S, _ → (execOp a'.eval _).run _ w' = .ok (.value _) w'
        rintro S ⟨la3, ne3, ha3, hn3, hc3, oa3, on3, oc3, fi3, ga3, gn3, gc3, pa3, pn3, pc3, rfl, _⟩
        try simp only [exT] at e33
        generalize a'.eval = ρ at *
        simp [execOp, go_sem, e33]
      | 5, ho =>
        simp at ho; subst ho
        have e29 : a'.eval (.tmp 29) = r := hvals 4 _ (by kernel_rfl) rfl
        show ∀ S, _ → (execOp a'.eval _).run _ w' = .ok (.value _) w'
        rintro S ⟨la3, ne3, ha3, hn3, hc3, oa3, on3, oc3, fi3, ga3, gn3, gc3, pa3, pn3, pc3, rfl, _⟩
        try simp only [exT] at e29
        generalize a'.eval = ρ at *
        simp [execOp, go_sem, e29, exT]
      | 6, ho =>
        simp at ho; subst ho
        have e29 : a'.eval (.tmp 29) = r := hvals 4 _ (by kernel_rfl) rfl
        show ∀ S, _ → (execOp a'.eval _).run _ w' = .ok (.value _) w'
        rintro S ⟨la3, ne3, ha3, hn3, hc3, oa3, on3, oc3, fi3, ga3, gn3, gc3, pa3, pn3, pc3, rfl, _⟩
        try simp only [exT] at e29
        generalize a'.eval = ρ at *
        simp [execOp, go_sem, e29, exT]
      | 7, ho =>
        simp at ho; subst ho
        have e29 : a'.eval (.tmp 29) = r := hvals 4 _ (by kernel_rfl) rfl
        show ∀ S, _ → (execOp a'.eval _).run _ w' = .ok (.value _) w'
        rintro S ⟨la3, ne3, ha3, hn3, hc3, oa3, on3, oc3, fi3, ga3, gn3, gc3, pa3, pn3, pc3, rfl, _⟩
        try simp only [exT] at e29
        generalize a'.eval = ρ at *
        simp [execOp, go_sem, e29, exT]
      | 8, ho =>
        simp at ho; subst ho
        show (execOp a'.eval _).run _ w' = .ok (.value _) _
        generalize a'.eval = ρ at *
        simp [execOp, go_sem]
      | 9, ho =>
        simp at ho; subst ho
        have e34 : a'.eval (.tmp 34) = (exT 0) r := hvals 5 _ (by kernel_rfl) rfl
        show ∀ S, _ → ∀ t z g C, _ → _ → _ → _ → ∃ w'', (execOp a'.eval _).run _ w' = .ok .skip w'' ∧ _
        rintro S ⟨la3, ne3, ha3, hn3, hc3, oa3, on3, oc3, fi3, ga3, gn3, gc3, pa3, pn3, pc3, rfl, _⟩ t z g C hz hC hs (eb : a'.eval (.tmp 7) = _)
        cases hz
        obtain ⟨u0, u1, u2, u3, u4, u5, u6, q0, q1, q2, q3, q4, q5, q6⟩ := track_cells7 hC hs
        have p0 := hC.free 0
        have p1 := hC.free 1
        have p2 := hC.free 2
        have p3 := hC.free 3
        have p4 := hC.free 4
        have p5 := hC.free 5
        have p6 := hC.free 6
        obtain ⟨m1, m2, m3⟩ := track_set7 hC hs (.int .i64 la3) (.int .i64 ne3) (.slice ha3 hn3 hc3) (.slice oa3 on3 oc3) (.int .i64 fi3) (.slice ga3 gn3 gc3) (.slice pa3 pn3 pc3)
        simp only [exT] at e34
        generalize a'.eval = ρ at *
        have hB := seven_below (A := g) (Below.refl 0 w') (Nat.zero_le g) (.int .i64 la3) (.int .i64 ne3) (.slice ha3 hn3 hc3) (.slice oa3 on3 oc3) (.int .i64 fi3) (.slice ga3 gn3 gc3) (.slice pa3 pn3 pc3)
        refine ⟨_, ?_, m1, m2, rfl, m3, hB.os, hB.tape, hB.output⟩
        clear m1 m2 m3 hB
        simp [execOp, go_sem, e34, eb, q0, q1, q2, q3, q4, q5, q6, p0, p1, p2, p3, p4, p5, p6]
      | 10, ho =>
        simp at ho; subst ho
        have e35 : a'.eval (.tmp 35) = (exT 1) r := hvals 6 _ (by kernel_rfl) rfl
        show ∀ S, _ → (execOp a'.eval _).run _ w' = .ok (.value _) w'
        rintro S ⟨la3, ne3, ha3, hn3, hc3, oa3, on3, oc3, fi3, ga3, gn3, gc3, pa3, pn3, pc3, rfl, _⟩
        try simp only [exT] at e35
        generalize a'.eval = ρ at *
        simp [execOp, go_sem, e35, exT]
      | 11, ho =>
        simp at ho; subst ho
        have e36 : a'.eval (.tmp 36) = (exT 2) r := hvals 7 _ (by kernel_rfl) rfl
        show ∀ S, _ → (execOp a'.eval _).run _ w' = .ok (.value _) w'
        rintro S ⟨la3, ne3, ha3, hn3, hc3, oa3, on3, oc3, fi3, ga3, gn3, gc3, pa3, pn3, pc3, rfl, _⟩
        try simp only [exT] at e36
        generalize a'.eval = ρ at *
        simp [execOp, go_sem, e36, exT]
      | i + 12, ho => simp at ho
    case fin =>
      rintro r gs Sr W hb ⟨la3, ne3, ha3, hn3, hc3, oa3, on3, oc3, fi3, ga3, gn3, gc3, pa3, pn3, pc3, rfl, h1, h2⟩ hS hbox hap
      obtain ⟨p1, p2, C, p3, p4⟩ := hbox 8 _ _ (by decide) rfl
      have p5 := p4 9 _ (by decide) rfl
      subst p5
      have KP3 : Hid (Blk W (gs 8) #[.int .i64 la3, .int .i64 ne3, .slice ha3 hn3 hc3, .slice oa3 on3 oc3, .int .i64 fi3, .slice ga3 gn3 gc3, .slice pa3 pn3 pc3] 61) := p3
      simp only [putK, Kd.out, exT, Act.put, List.setIfInBounds_toArray, List.set_cons_succ, List.set_cons_zero, List.getElem?_toArray, List.getElem?_cons_zero, List.getElem?_cons_succ, Option.getD_some]
      obtain ⟨bq3, hbq⟩ : ∃ p, p = gs 8 := ⟨_, rfl⟩
      rw [← hbq] at KP3 p1
      rw [← hbq]
      have BW3 : Hid (Below w.heap.size w W) := BW2.out.trans (hb.mono BW2.out.size)
      have G3 : Hid (la3 = tb3.last ∧ ne3 = tb3.next ∧ fi3 = tb3.first ∧ gn3 = tb3.L.length) := h1
      have TR3 : Hid (TrIn (fun _ => True) W (.slice ha3 hn3 hc3) (.slice oa3 on3 oc3) (.slice ga3 gn3 gc3) (.slice pa3 pn3 pc3) tb3) := h2.mono fun _ _ _ => trivial
      have hbW3 := hb
      clear hbq h1 h2 hS hbox hap p2 p3 p4 hb
      have KP2' : Hid (Blk W bq2 #[.int .i64 la2, .int .i64 ne2, .slice ha2 hn2 hc2, .slice oa2 on2 oc2, .int .i64 fi2, .slice ga2 gn2 gc2, .slice pa2 pn2 pc2] 61) := KP2.out.below hbW3 KP2.out.lt
      have TR2' : Hid (TrIn (fun _ => True) W (.slice ha2 hn2 hc2) (.slice oa2 on2 oc2) (.slice ga2 gn2 gc2) (.slice pa2 pn2 pc2) tb2) := TR2.out.below hbW3
      clear KP2 TR2 hbW3 BW2 HF3 HB3 HW
      have HC : Hid (∀ U : World, TrIn (fun _ => True) U (.slice ha3 hn3 hc3) (.slice oa3 on3 oc3) (.slice ga3 gn3 gc3) (.slice pa3 pn3 pc3) tb3 → Calls Tryz.prog 29 #[.agg #[.int .i64 la3, .int .i64 ne3, .slice ha3 hn3 hc3, .slice oa3 on3 oc3, .int .i64 fi3, .slice ga3 gn3 gc3, .slice pa3 pn3 pc3]] U fun e w' => e = .returned (.int .i64 0) ∧ Below U.heap.size U w') := fun U hT => by
        have q := trkCheck_any _ tb3 _ _ _ _ U hT
        rw [← G3.out.1, ← G3.out.2.1, ← G3.out.2.2.1, HK.out.1] at q
        exact q
      have e1 : la3 = 131073 := G3.out.1.trans HK.out.2.1
      have e2 : gn3 = 2 := G3.out.2.2.2.trans HK.out.2.2.1
      have hk4 : Hid (tb4.L.length = 1) := HK.out.2.2.2
      clear G3 HK
      subst e1 e2
      obtain ⟨y0, y1, y2, y3, y4, y5, y6⟩ := KP2'.out.sevenc
      go_wp2_with fail
      refine (HD.out W TR2'.out).mono ?_
      rintro e w5 ⟨la4, ne4, ha4, hn4, hc4, oa4, on4, oc4, fi4, ga4, gn4, gc4, pa4, pn4, pc4, rfl, G4, _, c5⟩
      have e1 : gn4 = 1 := G4.out.2.2.2.trans hk4.out
      subst e1
      have KP3' : Hid (Blk w5 bq3 #[.int .i64 131073, .int .i64 ne3, .slice ha3 hn3 hc3, .slice oa3 on3 oc3, .int .i64 fi3, .slice ga3 2 gc3, .slice pa3 pn3 pc3] 61) := KP3.out.below c5 KP3.out.lt
      have TR3' : Hid (TrIn (fun _ => True) w5 (.slice ha3 hn3 hc3) (.slice oa3 on3 oc3) (.slice ga3 2 gc3) (.slice pa3 pn3 pc3) tb3) := TR3.out.below c5
      have BW5 : Hid (Below w.heap.size w w5) := BW3.out.trans (c5.mono BW3.out.size)
      clear y0 y1 y2 y3 y4 y5 y6 HD G2 G4 hk4 c5 KP2' TR2' KP3 TR3 BW3
      obtain ⟨V5, hV5⟩ : ∃ V, V = w5.alloc (.cells #[.int .i64 la4, .int .i64 ne4, .slice ha4 hn4 hc4, .slice oa4 on4 oc4, .int .i64 fi4, .slice ga4 1 gc4, .slice pa4 pn4 pc4] 61) := ⟨_, rfl⟩
      obtain ⟨bq5, hbq5⟩ : ∃ b, b = w5.heap.size := ⟨_, rfl⟩
      have KP5 : Hid (Blk V5 bq5 #[.int .i64 la4, .int .i64 ne4, .slice ha4 hn4 hc4, .slice oa4 on4 oc4, .int .i64 fi4, .slice ga4 1 gc4, .slice pa4 pn4 pc4] 61) := by rw [hbq5]; exact Blk.newE hV5
      have KP3 : Hid (Blk V5 bq3 #[.int .i64 131073, .int .i64 ne3, .slice ha3 hn3 hc3, .slice oa3 on3 oc3, .int .i64 fi3, .slice ga3 2 gc3, .slice pa3 pn3 pc3] 61) := by rw [hV5]; exact KP3'.out.below ((Below.refl _ _).alloc (Nat.le_refl _) _) KP3'.out.lt
      have TR3 : Hid (TrIn (fun _ => True) V5 (.slice ha3 hn3 hc3) (.slice oa3 on3 oc3) (.slice ga3 2 gc3) (.slice pa3 pn3 pc3) tb3) := by rw [hV5]; exact TR3'.out.to (SameOn.alloc _) fun _ _ h => h
      have BV5 : Hid (Below w.heap.size w V5) := by rw [hV5]; exact BW5.out.alloc BW5.out.size _
      obtain ⟨x0, x1, x2, x3, x4, x5, x6⟩ := KP3'.out.sevenc
      have hb3 := KP3'.out.lt
      clear KP3' TR3' BW5
      go_wp2_with fail
      rw [← hV5]
      try rw [← hbq5]
      clear hV5 hbq5 x0 x1 x2 x3 x4 x5 x6 hb3
      refine (HC.out V5 TR3.out).mono ?_
      rintro e w6 ⟨rfl, c6⟩
      have BW6 : Hid (Below w.heap.size w w6) := BV5.out.trans (c6.mono BV5.out.size)
      obtain ⟨x0, x1, x2, x3, x4, x5, x6⟩ := (KP3.out.below c6 KP3.out.lt).sevenc
      obtain ⟨y0, y1, y2, y3, y4, y5, y6⟩ := (KP5.out.below c6 KP5.out.lt).sevenc
      clear c6 BV5 KP3 KP5 TR3 HC
      go_wp2
      go_ret
      exact ⟨rfl, BW6.out⟩

end Go.Proofs.YtnpaejknoipicafGreat

namespace Go.Proofs.YtnpaejknoipicafGreat
open Go.RowKit Go.Sort

set_option maxHeartbeats 4000000 in
set_option maxRecDepth 100000 in
theorem addOf_any (v : Value) (l : List Sk) (x : Sk) (w : World) (hv : Sls w v l) (hl3 : l.length ≤ 3) (hnums : ∀ y ∈ l, y.chk = 0) :
    Calls Tryz.prog 120 #[.agg #[v], x.val] w fun e w' => ∃ ov pv, e = .returned (.tuple #[.agg #[ov], .agg #[.int .i64 (addT l x), .bool (addK l x), pv], .bool (addW l x)]) ∧
      Sls w' ov (addO l x) ∧ Strs w' pv (addP l x) ∧ (∀ g, pv.ownBlock = some g → w.heap.size ≤ g ∧ ∃ cur, Blk w' g cur 9) ∧ (∀ g, ov.ownBlock = some g → w.heap.size ≤ g ∧ g < w'.heap.size) ∧ Below w.heap.size w w' := by
  obtain ⟨i0, hi, hz0, hz1, hz2⟩ := info_parts Tryz.infoSlot
  obtain ⟨ao, c, hva, hc⟩ := hv.parts
  have HV : Hid (Sls w v l) := hv
  obtain ⟨n, hn⟩ : ∃ n, n = l.length := ⟨_, rfl⟩
  have HN : Hid (n = l.length) := hn
  rw [← hn] at hva hl3
  obtain ⟨T, hT⟩ : ∃ T, T = takeF l x := ⟨_, rfl⟩
  have HT : Hid (T = takeF l x) := hT
  have HC : Hid (∀ k, k < l.length → ∃ b off, ao = some ⟨b, off, none⟩ ∧ b < w.heap.size ∧ At7 w b (off + k * 7) (l[k]?.getD Sk.zero)) := hc
  have HNU : Hid (∀ y ∈ l, y.chk = 0) := hnums
  clear hv hn hT hc hnums
  subst hva
  obtain ⟨rT, hrT⟩ : ∃ rT, rT = addT l x := ⟨_, rfl⟩
  obtain ⟨rK, hrK⟩ : ∃ rK, rK = addK l x := ⟨_, rfl⟩
  obtain ⟨rW, hrW⟩ : ∃ rW, rW = addW l x := ⟨_, rfl⟩
  obtain ⟨rO, hrO⟩ : ∃ rO, rO = addO l x := ⟨_, rfl⟩
  obtain ⟨rP, hrP⟩ : ∃ rP, rP = addP l x := ⟨_, rfl⟩
  have HRS : Hid (rT = addT l x ∧ rK = addK l x ∧ rW = addW l x ∧ rO = addO l x ∧ rP = addP l x) := ⟨hrT, hrK, hrW, hrO, hrP⟩
  rw [← hrT, ← hrK, ← hrW, ← hrO, ← hrP]
  clear hrT hrK hrW hrO hrP
  obtain ⟨xn, seq, time, xf, xe, xk, xt⟩ := x
  simp only [Sk.val]
  go_enter Tryz.func120, Tryz.ntmps120
  go_upto_if 16 with fail
  go_cut [7] (fun s7 wc => ∃ (a : Option Addr) (c' : Nat), s7 = .slice a T.length c' ∧ Hid (Sls wc (.slice a T.length c') T) ∧ Hid (∀ g, (Value.slice a T.length c').ownBlock = some g → w.heap.size + 1 + 1 + 1 + 1 ≤ g ∧ g < wc.heap.size) ∧ Hid (Blk wc (w.heap.size + 1) #[.int .i64 xn, .int .i64 seq, .int .i64 time, .bool xf, .bool xe, .bool xk, .string xt] 91) ∧ Hid (Blk wc (w.heap.size + 1 + 1) #[.slice none 0 0] 59) ∧ Hid (Blk wc (w.heap.size + 1 + 1 + 1) #[.int .i64 0, .bool false, .slice none 0 0] 30) ∧ Hid (Below w.heap.size w wc))
  case first =>
    obtain ⟨W, hW⟩ : ∃ W, W = ((((w.alloc (.cells #[.slice ao n c] 59)).alloc (.cells #[.int .i64 xn, .int .i64 seq, .int .i64 time, .bool xf, .bool xe, .bool xk, .string xt] 91)).alloc (.cells #[.slice none 0 0] 59)).alloc (.cells #[.int .i64 0, .bool false, .slice none 0 0] 30)) := ⟨_, rfl⟩
    rw [← hW]
    obtain ⟨kb, kx, kr, kf, bW, sW⟩ := blocks4 (w := w) (w1 := W) (by rw [hW]; exact Below.refl _ _)
    have sW2 : W.heap.size = w.heap.size + 1 + 1 + 1 + 1 := by rw [hW]; simp
    clear hW sW
    have KB : Hid (Blk W w.heap.size #[.slice ao n c] 59) := kb
    have KX : Hid (Blk W (w.heap.size + 1) #[.int .i64 xn, .int .i64 seq, .int .i64 time, .bool xf, .bool xe, .bool xk, .string xt] 91) := kx
    have KR : Hid (Blk W (w.heap.size + 1 + 1) #[.slice none 0 0] 59) := kr
    have KF : Hid (Blk W (w.heap.size + 1 + 1 + 1) #[.int .i64 0, .bool false, .slice none 0 0] 30) := kf
    have BW : Hid (Below w.heap.size w W) := bW
    have SW : Hid (W.heap.size = w.heap.size + 1 + 1 + 1 + 1) := sW2
    have b0 := kb.one
    obtain ⟨x0, x1, x2, x3, x4, x5, x6⟩ := kx.seven
    clear kb kx kr kf bW sW2
    have SAME : Hid (∀ (V : World) (t : List Sk), Hid (T = t) → Below W.heap.size W V → ∀ (a : Option Addr) (m c' : Nat), m = t.length → Sls V (.slice a m c') t → (∀ g, (Value.slice a m c').ownBlock = some g → W.heap.size ≤ g ∧ g < V.heap.size) →
        ∃ (a' : Option Addr) (c'' : Nat), Value.slice a m c' = .slice a' T.length c'' ∧ Hid (Sls V (.slice a' T.length c'') T) ∧ Hid (∀ g, (Value.slice a' T.length c'').ownBlock = some g → w.heap.size + 1 + 1 + 1 + 1 ≤ g ∧ g < V.heap.size) ∧ Hid (Blk V (w.heap.size + 1) #[.int .i64 xn, .int .i64 seq, .int .i64 time, .bool xf, .bool xe, .bool xk, .string xt] 91) ∧ Hid (Blk V (w.heap.size + 1 + 1) #[.slice none 0 0] 59) ∧ Hid (Blk V (w.heap.size + 1 + 1 + 1) #[.int .i64 0, .bool false, .slice none 0 0] 30) ∧ Hid (Below w.heap.size w V)) := fun V t ht hb a m c' hm hs hg => by
      have e : T = t := ht.out
      subst e
      subst hm
      have := SW.out
      exact ⟨a, c', rfl, hs, fun g h => by have := hg g h; omega, KX.out.below hb KX.out.lt, KR.out.below hb KR.out.lt, KF.out.below hb KF.out.lt, BW.out.trans (hb.mono BW.out.size)⟩
    cases xf
    · by_cases hn0 : n = 0
      · have HTT : Hid (T = []) := by
          show T = []
          rw [HT.out]; unfold takeF
          rw [if_neg (by simp), if_neg (by rw [← HN.out]; omega)]
        subst hn0
        have hd : decide ((0 : Int) < 0) = false := rfl
        go_wp2_with fail
        go_quiet (fail)
        go_wp2_with fail
        go_meet
        case rel => exact SAME.out _ [] HTT (below_drewN (Below.refl _ _) _) none 0 0 rfl (Sls.nil _) (fun g hg => by simp [Value.ownBlock] at hg)
      · obtain ⟨y, hy⟩ : ∃ y, y = lastSk l := ⟨_, rfl⟩
        have HY : Hid (y = lastSk l) := hy
        have hyb : 0 ≤ y.n ∧ y.n ≤ 1000000001 := by
          rw [hy]; unfold lastSk
          have hlt : l.length - 1 < l.length := by rw [← HN.out]; omega
          rw [List.getElem?_eq_getElem hlt, Option.getD_some]
          have := Sk.chk_zero (HNU.out _ (List.getElem_mem hlt))
          omega
        obtain ⟨b, off, hao, hbl, hat⟩ := HC.out (l.length - 1) (by rw [← HN.out]; omega)
        rw [show l[l.length - 1]?.getD Sk.zero = y from hy.symm] at hat
        subst hao
        obtain ⟨n1, hn1⟩ : ∃ n1, n1 = l.length - 1 := ⟨_, rfl⟩
        rw [← hn1] at hat
        have hnn : (n : Int) - 1 = (n1 : Int) := by have := HN.out; omega
        have hn1n : (n1 : Int) < (n : Int) := by omega
        have hn10 : (0 : Int) ≤ (n1 : Int) := by omega
        have hd : decide (0 < n) = true := decide_eq_true (by omega)
        have hwr : IntKind.i64.wrap (n1 : Int) = (n1 : Int) := by rw [IntKind.wrap_i64]; omega
        obtain ⟨X, hX⟩ : ∃ X : Sk, X = ⟨xn, ⟨seq, time, false, xe, xk, xt⟩⟩ := ⟨_, rfl⟩
        have HX : Hid (X = ⟨xn, ⟨seq, time, false, xe, xk, xt⟩⟩) := hX
        obtain ⟨t, ht⟩ : ∃ t, t = nextB y X := ⟨_, rfl⟩
        have HTB : Hid (t = nextB y X) := ht
        have HN0 : Hid (¬ n = 0) := hn0
        have cF : ∀ d os, Calls Tryz.prog 116 #[.agg #[.int .i64 y.n, .int .i64 y.p.seq, .int .i64 y.p.time, .bool y.p.f, .bool y.p.e, .bool y.p.k, .string y.p.t], .agg #[.int .i64 xn, .int .i64 seq, .int .i64 time, .bool false, .bool xe, .bool xk, .string xt]] (grow (redrawn W d) os) fun e w'' => e = .returned (.bool t) ∧ ∃ p : Regrown, w'' = grow (redrawn W p.d) p.os := fun d os =>
          Calls.regrown_of (by
            have h := isNext_any y X (grow (redrawn W d) os) hyb
            rw [← ht, hX] at h
            exact h)
        obtain ⟨p0, p1, p2, p3, p4, p5, p6⟩ := hat.below BW.out hbl
        have m0 := cell_regrown b0
        have q0 := cell_regrown p0
        have q1 := cell_regrown p1
        have q2 := cell_regrown p2
        have q3 := cell_regrown p3
        have q4 := cell_regrown p4
        have q5 := cell_regrown p5
        have q6 := cell_regrown p6
        have z0 := cell_regrown x0
        have z1 := cell_regrown x1
        have z2 := cell_regrown x2
        have z3 := cell_regrown x3
        have z4 := cell_regrown x4
        have z5 := cell_regrown x5
        have z6 := cell_regrown x6
        clear p0 p1 p2 p3 p4 p5 p6 x0 x1 x2 x3 x4 x5 x6 b0 hat hn1 hX ht hy hn0
        go_wp2_with fail
        refine wp_region_quiet_below (by kernel_rfl) (by kernel_rfl) ?_
        repeat (quiet_step (exact cF _ _))
        refine wpQuiet_nil ?_
        intro _ hw'
        obtain ⟨⟨dq, osq⟩, hw''⟩ := hw'
        subst hw''
        have bR := below_regrown W dq osq
        obtain ⟨V, hV⟩ : ∃ V, V = grow (redrawn W dq) osq := ⟨_, rfl⟩
        rw [← hV] at bR
        have BV : Hid (Below W.heap.size W V) := bR
        have x0 := z0 dq osq
        have x1 := z1 dq osq
        have x2 := z2 dq osq
        have x3 := z3 dq osq
        have x4 := z4 dq osq
        have x5 := z5 dq osq
        have x6 := z6 dq osq
        have b0 := m0 dq osq
        rw [← hV] at x0 x1 x2 x3 x4 x5 x6 b0 ⊢
        clear hV bR cF m0 q0 q1 q2 q3 q4 q5 q6 z0 z1 z2 z3 z4 z5 z6
        cases t
        · have HTT : Hid (T = []) := by
            show T = []
            rw [HT.out, ← HX.out]; unfold takeF
            rw [if_neg (by rw [HX.out]; simp), if_neg (fun h => by
              have h2 : nextB y X = true := by unfold nextB; rw [HY.out, h.2, HX.out]; rfl
              rw [← HTB.out] at h2; cases h2)]
          go_wp2_with fail
          go_meet
          case rel => exact SAME.out _ [] HTT BV.out none 0 0 rfl (Sls.nil _) (fun g hg => by simp [Value.ownBlock] at hg)
        · have HTT : Hid (T = l ++ [X]) := by
            show T = _
            rw [HT.out, ← HX.out]; unfold takeF
            have h2 := HTB.out
            unfold nextB at h2
            rw [if_neg (by rw [HX.out]; simp), if_pos ⟨by have := HN.out; have := HN0.out; omega, by rw [← HY.out]; simpa using (Bool.and_eq_true_iff.1 h2.symm).2⟩]
          have hs1 : w.heap.size + 1 < V.heap.size := by have := BV.out.size; have := SW.out; omega
          have hs0 : w.heap.size < V.heap.size := by omega
          have HBV : Hid (Below w.heap.size w V) := BW.out.trans (BV.out.mono BW.out.size)
          have KB1 : Hid (Blk V w.heap.size #[.slice (some ⟨b, off, none⟩) n c] 59) := KB.out.below BV.out KB.out.lt
          have KX1 : Hid (Blk V (w.heap.size + 1) #[.int .i64 xn, .int .i64 seq, .int .i64 time, .bool false, .bool xe, .bool xk, .string xt] 91) := KX.out.below BV.out KX.out.lt
          have happ : App1 Tryz.prog V 55 91 55 7 n (skCells l) (.slice (some ⟨b, off, none⟩) n c) := by
            refine app1_any V _ _ _ i0 _ 7 48 Tryz.underlying55 hi hz0 hz1 hz2 rfl (by decide) n (skCells l) _ ?_ (fun u hu => by obtain ⟨z, _, hz⟩ := List.mem_flatMap.1 hu; exact oneSlot z u hz) (by unfold maxLen; omega) (by omega)
            have := HV.out.below HBV.out
            unfold Sls at this
            rw [← HN.out] at this
            exact this
          clear x0 x1 x2 x3 x4 x5 x6
          go_wp2_with fail
          refine region_app2 (by kernel_rfl) (by kernel_rfl) (by kernel_rfl) 55 91 i0 _ 7 48 Tryz.underlying55 hi hz0 hz1 hz2 rfl (by decide) 31 32 33 34 35 36 37 7 2 rfl rfl rfl rfl rfl rfl rfl rfl (by rfl) n (skCells l) (.slice (some ⟨b, off, none⟩) n c) happ
            [.int .i64 xn, .int .i64 seq, .int .i64 time, .bool false, .bool xe, .bool xk, .string xt] rfl ?hx1 (.pointer (some ⟨w.heap.size, 0, none⟩)) (.agg #[.int .i64 xn, .int .i64 seq, .int .i64 time, .bool false, .bool xe, .bool xk, .string xt]) 3 (by rfl) ?r0 ?r1 ?r2 rfl ?r4 ?r5 rfl ?r7 (by unfold maxLen; omega) (by omega) ?_
          case hx1 => exact oneSlot ⟨xn, ⟨seq, time, false, xe, xk, xt⟩⟩
          case r0 =>
            intro a' w'
            generalize a'.eval = ρ
            simp [execOp, go_sem]
          case r1 =>
            intro a' w' h
            have h2 : a'.eval (.tmp 2) = .pointer (some ⟨w.heap.size, 0, none⟩) := h.trans rfl
            clear h
            generalize a'.eval = ρ at *
            simp [execOp, go_sem, h2]
          case r2 =>
            intro a' w' h hb
            have c1 := (hb.cell (p := ⟨w.heap.size, 0, none⟩) (Blk.lt KB1.out)).trans b0
            generalize a'.eval = ρ at *
            simp [execOp, go_sem, h, c1]
          case r4 =>
            intro a' w' h hb
            have h2 : a'.eval (.tmp 3) = .pointer (some ⟨w.heap.size + 1, 0, none⟩) := h.trans rfl
            obtain ⟨y0, y1, y2, y3, y4, y5, y6⟩ := (KX1.out.below hb (Blk.lt KX1.out)).seven
            clear h
            generalize a'.eval = ρ at *
            simp [execOp, go_sem, h2, y0, y1, y2, y3, y4, y5, y6]
          case r5 =>
            intro a' w' h
            generalize a'.eval = ρ at *
            simp [execOp, go_sem, h]
          case r7 =>
            intro a' w'
            generalize a'.eval = ρ at *
            simp [execOp, go_sem]
          intro u0 u3 u5 v7 w7 hown7 hb7
          obtain ⟨a2, c2, hv7⟩ := Sl.len (Sl.of_owns hown7)
          subst hv7
          have FIN : Hid (Sls w7 (.slice a2 (n + 1) c2) (l ++ [X]) ∧ (∀ g, (Value.slice a2 (n + 1) c2).ownBlock = some g → W.heap.size ≤ g ∧ g < w7.heap.size) ∧ Below W.heap.size W w7) := by
            have hs := BV.out.size
            refine ⟨?_, fun g hg => by have := hown7.lt g hg; omega, BV.out.trans (hb7.mono hs)⟩
            refine Sls.of_owns (base := V.heap.size) ?_
            rw [skCells_append, skCells_one, List.length_append, ← HN.out, HX.out]
            exact hown7
          clear hown7 hb7 happ
          go_wp2_with fail
          go_meet
          case rel => exact SAME.out _ _ HTT FIN.out.2.2 a2 (n + 1) c2 (by rw [List.length_append, ← HN.out]; rfl) FIN.out.1 FIN.out.2.1
    · have HTT : Hid (T = [⟨xn, ⟨seq, time, true, xe, xk, xt⟩⟩]) := by
        show T = _
        rw [HT.out]; unfold takeF; rw [if_pos rfl]
      go_wp2_with fail
      go_meet
      case rel =>
        refine SAME.out _ _ HTT ((Below.refl _ W).alloc (Nat.le_refl _) _) (some ⟨W.heap.size, 0, none⟩) 1 1 rfl ?_ (fun g hg => by simp [Value.ownBlock] at hg; simp; omega)
        exact Sls.of_owns (base := W.heap.size) (World.ownsRow_lit W #[.int .i64 xn, .int .i64 seq, .int .i64 time, .bool true, .bool xe, .bool xk, .string xt] 1 (Nat.le_refl _) (by unfold maxLen; omega) rfl)
  case rest =>
    obtain ⟨aT, cT, rfl, HS, HG, KX, KR, KF, BC⟩ := hcut
    obtain ⟨j0, hj, hy0, hy1, hy2⟩ := info_parts Tryz.infoStr
    obtain ⟨X, hX⟩ : ∃ X : Sk, X = ⟨xn, ⟨seq, time, xf, xe, xk, xt⟩⟩ := ⟨_, rfl⟩
    have HX : Hid (X = ⟨xn, ⟨seq, time, xf, xe, xk, xt⟩⟩) := hX
    have HXE : Hid (X.p.e = xe) := by show _ = _; rw [hX]
    rw [← hX] at HT HRS
    clear hX HC HNU HV
    obtain ⟨m, hm⟩ : ∃ m, m = T.length := ⟨_, rfl⟩
    have HM : Hid (m = T.length) := hm
    rw [← hm] at HS HG
    rw [← hm]
    clear hm
    have hml : m ≤ 100 := by rw [HM.out, HT.out]; have := takeF_len l X; rw [← HN.out] at this; omega
    have xe4 := (Blk.seven KX.out).2.2.2.2.1
    have hsC := Blk.lt KF.out
    by_cases hw : 0 < m ∧ xe = true
    · obtain ⟨hm0, hxe⟩ := hw
      have HWF : Hid (addW l X = true) := by
        show addW l X = true
        unfold addW
        rw [← HT.out, ← HM.out, HXE.out, hxe, decide_eq_true hm0]; rfl
      have hd : decide (0 < m) = true := decide_eq_true hm0
      subst hxe
      obtain ⟨ao2, c2, hv2, hc2⟩ := Sls.parts HS.out
      have HC2 : Hid (∀ k, k < T.length → ∃ b off, ao2 = some ⟨b, off, none⟩ ∧ b < wc.heap.size ∧ At7 wc b (off + k * 7) (T[k]?.getD Sk.zero)) := hc2
      injection hv2 with q1 q2 q3
      subst q1
      obtain ⟨b, off, hao, hb, hat⟩ := hc2 0 (by rw [← HM.out]; omega)
      subst hao
      obtain ⟨y, hy⟩ : ∃ y, y = T[0]?.getD Sk.zero := ⟨_, rfl⟩
      rw [← hy] at hat
      simp only [Nat.zero_mul, Nat.add_zero] at hat
      obtain ⟨c0, c1, c2', c3, c4, c5, c6⟩ := hat
      have HSV : Hid (addT l X = y.p.time ∧ addK l X = y.p.k ∧ addP l X = texts T ∧ addO l X = []) := by
        refine ⟨?_, ?_, ?_, ?_⟩
        · unfold addT; rw [HWF.out, ← HT.out, hy]; rfl
        · unfold addK; rw [HWF.out, ← HT.out, hy]; rfl
        · unfold addP; rw [HWF.out, ← HT.out]; rfl
        · unfold addO; rw [HWF.out]; rfl
      have hmi : (0 : Int) < (m : Int) := by omega
      clear hc2 q2 q3 hy
      have HEQ : Hid (rT = y.p.time ∧ rK = y.p.k ∧ rW = true ∧ rO = [] ∧ rP = texts T) := ⟨HRS.out.1.trans HSV.out.1, HRS.out.2.1.trans HSV.out.2.1, HRS.out.2.2.1.trans HWF.out, HRS.out.2.2.2.1.trans HSV.out.2.2.2, HRS.out.2.2.2.2.trans HSV.out.2.2.1⟩
      go_wp2_with fail
      go_region
      go_wp2_with fail
      clear c0 c1 c2' c3 c4 c5 c6 xe4
      have hP : Hid (b < wc.heap.size) := hb
      go_loopw [10] (fun i wr => ∃ (k : Nat) (pv : Value), k ≤ m ∧ i = .int .i64 k ∧ Hid (Blk wr wc.heap.size #[.int .i64 y.p.time, .bool y.p.k, pv] 30) ∧ Hid (wr.ownsRow (wc.heap.size + 1) 9 1 pv k ((texts (T.take k)).map Value.string)) ∧ Hid (Below wc.heap.size wc wr))
        (fun i _ => m - (intOf i).toNat)
      case atStart => exact ⟨0, .slice none 0 0, Nat.zero_le _, rfl, Blk.new wc _ _, World.ownsRow_nil _ _ _ _, ((Below.refl _ wc).alloc (Nat.le_refl _) _).drew⟩
      case round =>
        obtain ⟨k, pv, hk, rfl, K1, HO, HB⟩ := hrel
        obtain ⟨d0, d1, d2⟩ := Blk.three K1.out
        have hsz := Blk.lt K1.out
        by_cases hlt : k < m
        · obtain ⟨b', off', hbo, hbb, hat⟩ := HC2.out k (by rw [← HM.out]; exact hlt)
          cases hbo
          obtain ⟨c0, c1, c2', c3, c4, c5, c6⟩ := hat.below HB.out hbb
          obtain ⟨z, hz⟩ : ∃ z, z = T[k]?.getD Sk.zero := ⟨_, rfl⟩
          rw [← hz] at c0 c1 c2' c3 c4 c5 c6
          have HZ : Hid (z = T[k]?.getD Sk.zero) := hz
          clear hz hat
          have hlti : (k : Int) < (m : Int) := by omega
          have own1 : Hid ((wr.alloc (.cells #[.string z.p.t] 9)).drew.ownsRow (wc.heap.size + 1) 9 1 pv k ((texts (T.take k)).map Value.string)) := HO.out.alloc _
          have new1 : Hid (∀ j u, [Value.string z.p.t][j]? = some u → (wr.alloc (.cells #[.string z.p.t] 9)).drew.cell? ((⟨wr.heap.size, 0, none⟩ : Addr).add j) = some u) := fun j u hj => by
            match j, hj with
            | 0, hj =>
              simp at hj; subst hj
              exact (Blk.new wr #[.string z.p.t] 9).one
          have aft : Hid (∀ v' w2, w2.ownsRow (wc.heap.size + 1) 9 1 v' (k + 1) ((texts (T.take k)).map Value.string ++ [.string z.p.t]) → (wr.alloc (.cells #[.string z.p.t] 9)).drew.grownBy w2 pv.ownBlock →
              ∃ a' c', v' = .slice a' (k + 1) c' ∧ w2.cell? ⟨wc.heap.size, 2, none⟩ = some pv ∧ w2.frozen? ⟨wc.heap.size, 2, none⟩ = false ∧
                Hid (∀ w3, Hid (w3 = w2.setCell ⟨wc.heap.size, 2, none⟩ (.slice a' (k + 1) c')) → Blk w3 wc.heap.size #[.int .i64 y.p.time, .bool y.p.k, .slice a' (k + 1) c'] 30 ∧ w3.ownsRow (wc.heap.size + 1) 9 1 (.slice a' (k + 1) c') (k + 1) ((texts (T.take (k + 1))).map Value.string) ∧ Below wc.heap.size wc w3)) := fun v' w2 ho2 hg2 => by
            obtain ⟨a', c', hv'⟩ := Sl.len (Sl.of_owns ho2)
            have k12 : Blk w2 wc.heap.size #[.int .i64 y.p.time, .bool y.p.k, pv] 30 := (hg2.block _ (by show _ < (wr.alloc _).heap.size; simp; omega) (fun e => by have := (HO.out.lt _ e.symm).1; omega)).trans (K1.out.alloc _)
            refine ⟨a', c', hv', k12.three.2.2, k12.free 2, fun w3 hw3 => ?_⟩
            rw [hw3.out]
            refine ⟨k12.set 2 _, ?_, ?_⟩
            · have e : (texts (T.take (k + 1))).map Value.string = (texts (T.take k)).map Value.string ++ [.string z.p.t] := by
                rw [take_one (by rw [← HM.out]; exact hlt) Sk.zero, ← HZ.out]; simp [texts]
              rw [e, ← hv']
              exact ownsRow_setCell_below ho2 (by show wc.heap.size < _; omega) _
            · exact (((HB.out.alloc HB.out.size _).drew).grown hg2 (by have := HB.out.size; show _ ≤ (wr.alloc _).heap.size; simp; omega) (fun j hj => by have := (HO.out.lt j hj).1; omega)).setCell (by simp) _
          have l1 : Hid (k + 1 ≤ maxLen) := by show _ ≤ _; unfold maxLen; omega
          have l2 : Hid ((k + 1) * 16 ≤ 140737488355328) := by show _ ≤ _; omega
          have l3 : Hid (wc.heap.size + 1 ≤ (wr.alloc (.cells #[.string z.p.t] 9)).drew.heap.size) := by show _ ≤ (wr.alloc _).heap.size; simp; omega
          have hbw : b < wr.heap.size := by omega
          clear HO K1
          go_wp2_with fail
          go_region_law (refine step_append_own2 rfl (.tmp 64) (.tmp 71) 28 rfl (wc.heap.size + 1) 9 j0 _ 1 16 Tryz.underlying28 hj hy0 hy1 hy2 rfl (by decide) pv k ((texts (T.take k)).map Value.string) (by simp [Act.eval]) own1.out ⟨wr.heap.size, 0, none⟩ 1 1 [.string z.p.t] (by simp [Act.eval]) rfl new1.out (by intro u hu; simp at hu; subst hu; rfl) l1.out l2.out l3.out ?_; intro v' w2 ho2 hg2 _; obtain ⟨a', c', hv', g0, g1, G⟩ := aft.out v' w2 ho2 hg2; clear ho2 hg2; subst hv')
          all_goals
            go_wp2_with fail
            go_roundw
            case rel =>
              obtain ⟨e1, e2, e3⟩ := G.out _ rfl
              exact ⟨k + 1, _, by omega, by go_num, e1, e2, e3⟩
            case measure => simp [intOf]; omega
        · have hkl : k = m := by omega
          subst hkl
          have kr := Blk.below KR.out HB.out (Blk.lt KR.out)
          have kf := Blk.below KF.out HB.out (Blk.lt KF.out)
          have r0 := kr.one
          obtain ⟨r1, r2, r3⟩ := kf.three
          have rf := kr.free
          have ff := kf.free
          have ho := HO.out
          rw [HM.out, List.take_length, ← HM.out] at ho
          obtain ⟨a', c', hpv⟩ := Sl.len (Sl.of_owns ho)
          subst hpv
          have HO2 : Hid (wr.ownsRow (wc.heap.size + 1) 9 1 (.slice a' k c') k ((texts T).map Value.string)) := ho
          have FINW : Hid (∀ w3 : World, w3.heap.size = wr.heap.size → (∀ j, j ≠ w.heap.size + 1 + 1 → j ≠ w.heap.size + 1 + 1 + 1 → w3.heap[j]? = wr.heap[j]?) → Strs w3 (.slice a' k c') (texts T) ∧ (∀ g, (Value.slice a' k c').ownBlock = some g → w.heap.size ≤ g ∧ ∃ cur, Blk w3 g cur 9)) := fun w3 h1 h2 => by
            have e : (texts T).length = k := by rw [HM.out]; simp [texts]
            constructor
            · show Sl _ _ (texts T).length 1 _
              rw [e]
              exact Sl.same (Sl.of_owns HO2.out) (by omega) (fun g hg => by obtain ⟨q1, cur, q2⟩ := owns_blk HO2.out hg; exact h2 g (by omega) (by omega))
            · intro g hg
              obtain ⟨q1, cur, q2⟩ := owns_blk HO2.out hg
              exact ⟨by omega, cur, (h2 g (by omega) (by omega)).trans q2⟩
          have BF : Hid (Below w.heap.size w wr) := BC.out.trans (HB.out.mono BC.out.size)
          clear ho HO K1 kr kf
          have hne1 : ¬ wc.heap.size = w.heap.size + 1 + 1 := by omega
          have hne2 : ¬ wc.heap.size = w.heap.size + 1 + 1 + 1 := by omega
          go_wp2_with fail
          go_region
          all_goals
            go_wp2
            refine bodyPost_ret (v := .tuple #[.agg #[.slice none 0 0], .agg #[.int .i64 y.p.time, .bool y.p.k, .slice a' k c'], .bool true]) (by simp [results, Tryz.results120, go_sem, r0, r1, r2, r3]) rfl ?_
            obtain ⟨w1, w2, w3, w4, w5⟩ := HEQ.out
            rw [w1, w2, w3, w4, w5]
            refine ⟨_, _, rfl, Sls.nil _, ?_⟩
            rw [← and_assoc]
            refine ⟨FINW.out _ (by simp) (fun j e1 e2 => ?_), fun g hg => by simp [Value.ownBlock] at hg, ?_⟩
            · show (World.setCell _ _ _).heap[j]? = _
              rw [Below.heap_setCell _ _ _ _ (by exact e2), Below.heap_setCell _ _ _ _ (by exact e2), Below.heap_setCell _ _ _ _ (by exact e2), Below.heap_setCell _ _ _ _ (by exact e1)]
            · exact ((((BF.out.setCell (by simp; omega) _).setCell (by simp; omega) _).setCell (by simp; omega) _).setCell (by simp; omega) _).drew
    · have HWF : Hid (addW l X = false) := by
        show addW l X = false
        unfold addW
        rw [← HT.out, ← HM.out, HXE.out]
        cases xe
        · simp
        · simp only [Bool.and_true, decide_eq_false_iff_not]; intro h0; exact hw ⟨h0, rfl⟩
      have HSV : Hid (addT l X = 0 ∧ addK l X = false ∧ addP l X = [] ∧ addO l X = if m = 4 then [] else T) := by
        refine ⟨?_, ?_, ?_, ?_⟩
        · unfold addT; rw [HWF.out]; rfl
        · unfold addK; rw [HWF.out]; rfl
        · unfold addP; rw [HWF.out]; rfl
        · unfold addO; rw [HWF.out, ← HT.out, ← HM.out]; rfl
      have hg : decide (0 < m) = false ∨ decide (0 < m) = true ∧ xe = false := by
        by_cases h : 0 < m
        · right
          refine ⟨decide_eq_true h, ?_⟩
          cases he : xe
          · rfl
          · exact absurd ⟨h, he⟩ hw
        · left; exact decide_eq_false h
      have r0 := Blk.one KR.out
      obtain ⟨r1, r2, r3⟩ := Blk.three KF.out
      have rf := Blk.free KR.out
      have ff := Blk.free KF.out
      have HEQ : Hid (rT = 0 ∧ rK = false ∧ rW = false ∧ rO = (if m = 4 then [] else T) ∧ rP = []) := ⟨HRS.out.1.trans HSV.out.1, HRS.out.2.1.trans HSV.out.2.1, HRS.out.2.2.1.trans HWF.out, HRS.out.2.2.2.1.trans HSV.out.2.2.2, HRS.out.2.2.2.2.trans HSV.out.2.2.1⟩
      clear hw HSV
      rcases hg with hd | ⟨hd, hxe⟩
      all_goals
        by_cases h4 : m = 4
        · have h4i : ((m : Int) == 4) = true := by simp; omega
          have HO4 : Hid (rO = []) := by show _ = _; rw [HEQ.out.2.2.2.1, if_pos h4]
          clear h4
          go_wp2
          refine bodyPost_ret (v := .tuple #[.agg #[.slice none 0 0], .agg #[.int .i64 0, .bool false, .slice none 0 0], .bool false]) (by simp [results, Tryz.results120, go_sem, r0, r1, r2, r3]) rfl ?_
          rw [HEQ.out.1, HEQ.out.2.1, HEQ.out.2.2.1, HO4.out, HEQ.out.2.2.2.2]
          refine ⟨_, _, rfl, Sls.nil _, Strs.nil _, fun g hg => by simp [Value.ownBlock] at hg, fun g hg => by simp [Value.ownBlock] at hg, ?_⟩
          exact ((((BC.out.setCell (by simp; omega) _).setCell (by simp; omega) _).setCell (by simp; omega) _).setCell (by simp; omega) _)
        · have h4i : ((m : Int) == 4) = false := by simp; omega
          have HO4 : Hid (rO = T) := by show _ = _; rw [HEQ.out.2.2.2.1, if_neg h4]
          clear h4
          go_wp2
          refine bodyPost_ret (v := .tuple #[.agg #[.slice aT m cT], .agg #[.int .i64 0, .bool false, .slice none 0 0], .bool false]) (by simp [results, Tryz.results120, go_sem, r0, r1, r2, r3]) rfl ?_
          rw [HEQ.out.1, HEQ.out.2.1, HEQ.out.2.2.1, HO4.out, HEQ.out.2.2.2.2]
          refine ⟨_, _, rfl, Sl.same HS.out (by simp) (fun g hg => ?_), Strs.nil _, fun g hg => by simp [Value.ownBlock] at hg, fun g hg => by have := HG.out g hg; simp; omega, ?_⟩
          · have h1 := HG.out g hg
            have e1 : g ≠ w.heap.size + 1 + 1 := by omega
            have e2 : g ≠ w.heap.size + 1 + 1 + 1 := by omega
            rw [Below.heap_setCell _ _ _ _ (by exact e2), Below.heap_setCell _ _ _ _ (by exact e2), Below.heap_setCell _ _ _ _ (by exact e2), Below.heap_setCell _ _ _ _ (by exact e1)]
          · exact ((((BC.out.setCell (by simp; omega) _).setCell (by simp; omega) _).setCell (by simp; omega) _).setCell (by simp; omega) _)

end Go.Proofs.YtnpaejknoipicafGreat

namespace Go.Proofs.YtnpaejknoipicafGreat
open Go.RowKit

theorem gchk_first {l : List Fr} (h : gchk l = 0) : 0 < l.length ∧ l.length ≤ 6 ∧ (frAt l 0).key = true := by
  obtain ⟨h1, h2, h3⟩ := gchk_zero.1 h
  refine ⟨h1, h2, ?_⟩
  have := (h3 0 h1).2
  simpa [inPl] using this
theorem FrsIn.first {S : Nat → Prop} {w : World} {ao : Option Addr} {n c : Nat} {l : List Fr} (h : FrsIn S w (.slice ao n c) l) (h0 : 0 < l.length) : ∃ b off, ao = some ⟨b, off, none⟩ ∧ w.cell? ⟨b, off, none⟩ = some (.int .i64 (frAt l 0).time) ∧ w.cell? ⟨b, off + 1, none⟩ = some (.bool (frAt l 0).key) := by
  obtain ⟨ao', c', e, _, _, hc⟩ := h
  injection e with e1 _ _
  subst e1
  obtain ⟨b, off, e, _, _, pv, c0, c1, _⟩ := hc 0 h0
  exact ⟨b, off, e, by simpa using c0, by simpa using c1⟩
theorem grAt_mem {L : List (List Fr)} {k : Nat} (h : k < L.length) : grAt L k ∈ L := by
  unfold grAt; rw [List.getElem?_eq_getElem h]; exact List.getElem_mem _

end Go.Proofs.YtnpaejknoipicafGreat

namespace Go.Proofs.YtnpaejknoipicafGreat
open Go.RowKit

theorem gsize_right {g : List Fr} (h : gchk g = 0) : gsize g = szG g := by unfold gsize; rw [if_pos h]

set_option maxHeartbeats 2000000 in
set_option maxRecDepth 100000 in
theorem isFull_any (S : Nat → Prop) (v : Value) (L : List (List Fr)) (w : World) (hv : GrsIn S w v L) (hR : ∀ g ∈ L, gchk g = 0) (hL : L.length ≤ 1000) :
    Calls Tryz.prog 52 #[v] w fun e w' => e = .returned (.bool (fullB L)) ∧ Below w.heap.size w w' := by
  obtain ⟨ao, c, rfl, _, _, hc⟩ := hv
  obtain ⟨n, hn⟩ : ∃ n, n = L.length := ⟨_, rfl⟩
  have HN : Hid (n = L.length) := hn
  have HC : Hid (∀ k, k < L.length → ∃ b off, ao = some ⟨b, off, none⟩ ∧ b < w.heap.size ∧ S b ∧ ∃ sv, w.cell? ⟨b, off + k, none⟩ = some sv ∧ FrsIn S w sv (L[k]?.getD [])) := hc
  have HR : Hid (∀ g ∈ L, gchk g = 0) := hR
  obtain ⟨FB, hFB⟩ : ∃ b, b = fullB L := ⟨_, rfl⟩
  have HFB : Hid (∀ y, y = sumG L → FB = (decide (5 < n) || (decide (1 < n) && decide (100 < y)))) := fun y hy => by rw [hFB, hy, hn]; rfl
  rw [← hn, ← hFB]
  have hn1 : n ≤ 1000 := by omega
  clear hn hc hR hL hFB
  go_enter Tryz.func52, Tryz.ntmps52
  go_wp2
  go_loopw [3, 4] (fun s i wr => ∃ (k y : Nat), k ≤ n ∧ i = .int .i64 k ∧ s = .int .i64 y ∧ Hid (y = sumG (L.take k)) ∧ Hid (y ≤ k * 192) ∧ Hid (Below w.heap.size w wr))
    (fun _ i _ => n - (intOf i).toNat)
  case atStart => exact ⟨0, 0, Nat.zero_le _, rfl, rfl, (show 0 = sumG (L.take 0) from rfl), (show 0 ≤ _ from Nat.zero_le _), Below.refl _ _⟩
  case round =>
    obtain ⟨k, y, hk, rfl, rfl, HY, HYB, HB⟩ := hrel
    by_cases hlt : k < n
    · obtain ⟨b, off, rfl, hb, _, sv, c0, hs⟩ := HC.out k (by rw [← HN.out]; exact hlt)
      have c1 := (HB.out.cell (p := ⟨b, off + k, none⟩) hb).trans c0
      obtain ⟨x, hx⟩ : ∃ x, x = L[k]?.getD [] := ⟨_, rfl⟩
      rw [← hx] at hs
      have hgx : gchk x = 0 := HR.out x (by rw [hx]; exact grAt_mem (by rw [← HN.out]; exact hlt))
      obtain ⟨z, hz⟩ : ∃ z, z = szG x := ⟨_, rfl⟩
      have hz2 : z ≤ 192 := by rw [hz, ← gsize_right hgx]; exact gsize_le x
      have HZ : Hid (y + z = sumG (L.take (k + 1))) := by
        show _ = _
        rw [sumG_take L k (by rw [← HN.out]; exact hlt), ← HY.out, show grAt L k = x from hx.symm, gsize_right hgx, hz]
      obtain ⟨a1, a2, rfl, _, _⟩ := hs.len
      have HCF : Hid (Calls Tryz.prog 96 #[.agg #[.slice a1 x.length a2]] wr fun e w' => e = .returned (.int .i64 z) ∧ Below wr.heap.size wr w') := by
        show Calls _ _ _ _ _
        rw [hz]; exact sizeOf_any _ _ x wr (hs.below HB.out) hgx
      have hyb := HYB.out
      have hlti : (k : Int) < (n : Int) := by omega
      clear hx hgx hz hs c0
      go_wp2_with fail
      refine HCF.out.mono ?_
      rintro e w2 ⟨rfl, b2⟩
      have B2 : Hid (Below w.heap.size w w2) := HB.out.trans (b2.mono HB.out.size)
      clear b2 HB c1
      go_wp2_with fail
      go_roundw
      case rel => exact ⟨k + 1, y + z, by omega, by go_num, by go_num, HZ.out, (show y + z ≤ _ by omega), B2.out⟩
      case measure => simp [intOf]; omega
    · have hkl : k = n := by omega
      subst hkl
      have hfb := HFB.out y (by rw [HY.out, HN.out, List.take_length])
      have HH : Hid (FB = (decide (5 < k) || (decide (1 < k) && decide (100 < y)))) := hfb
      have BW : Hid (Below w.heap.size w wr) := HB.out
      clear hfb HFB HB HY
      by_cases h5 : 5 < k
      · have hr : FB = true := by rw [HH.out, decide_eq_true h5]; rfl
        have h5i : (5 : Int) < (k : Int) := by omega
        subst hr
        go_wp2
        go_ret
        exact ⟨rfl, BW.out⟩
      · by_cases h1 : 1 < k
        · have hr : FB = decide (100 < y) := by rw [HH.out, decide_eq_false h5, decide_eq_true h1]; rfl
          subst hr
          have h5i : ¬ (5 : Int) < (k : Int) := by omega
          have h1i : (1 : Int) < (k : Int) := by omega
          by_cases hy : 100 < y
          · have hyi : (100 : Int) < (y : Int) := by omega
            go_wp2
            go_ret
            exact ⟨by simp, BW.out⟩
          · have hyi : ¬ (100 : Int) < (y : Int) := by omega
            go_wp2
            go_ret
            exact ⟨by simp, BW.out⟩
        · have hr : FB = false := by rw [HH.out, decide_eq_false h5, decide_eq_false h1]; rfl
          subst hr
          have h5i : ¬ (5 : Int) < (k : Int) := by omega
          have h1i : ¬ (1 : Int) < (k : Int) := by omega
          go_wp2
          go_ret
          exact ⟨rfl, BW.out⟩

/-- what Trimmed must say -/
def TrimsWell (S : Nat → Prop) (L : List (List Fr)) : Prop := ∀ (first : Int) (v : Value) (w : World), GrsIn S w v L → (∀ g ∈ L, gchk g = 0) → L.length ≤ 1000 → -1000000000 ≤ first → first + L.length ≤ 1000000000 →
    Calls Tryz.prog 54 #[.int .i64 first, v] w fun e w' => ∃ v', e = .returned (.tuple #[.int .i64 (first + trimD L), v']) ∧ GrsIn S w' v' (L.drop (trimD L)) ∧ Below w.heap.size w w'

set_option maxHeartbeats 2000000 in
set_option maxRecDepth 100000 in
theorem trimmed_no (S : Nat → Prop) (L : List (List Fr)) (hb : fullB L = false) : TrimsWell S L := by
  intro first v w hv hR hL hf0 hf1
  have HF : Hid (Calls Tryz.prog 52 #[v] w fun e w' => e = .returned (.bool false) ∧ Below w.heap.size w w') := by
    have := isFull_any S v L w hv hR hL
    rw [hb] at this
    exact this
  have HV : Hid (Stay w (fun U => GrsIn S U v L)) := hv.stay
  have HT : Hid (trimD L = 0) := trimD_no hb
  obtain ⟨n, hn⟩ : ∃ n, n = L.length := ⟨_, rfl⟩
  obtain ⟨ao, c, ev, _⟩ := hv
  rw [← hn] at ev
  subst ev
  clear hb hR hL hf1 hn
  go_enter Tryz.func54, Tryz.ntmps54
  go_wp2_with fail
  refine HF.out.mono ?_
  rintro e w1 ⟨rfl, b1⟩
  go_wp2_with fail
  exact bodyPost_ret (v := .tuple #[.int .i64 first, .slice ao n c]) (by simp [results, Tryz.results54, go_sem]) rfl ⟨.slice ao n c, by rw [HT.out]; simp, by rw [HT.out]; exact HV.out _ b1, b1⟩

set_option maxHeartbeats 2000000 in
set_option maxRecDepth 100000 in
theorem trimmed_yes (S : Nat → Prop) (g : List Fr) (r : List (List Fr)) (hb : fullB (g :: r) = true) (ih : TrimsWell S r) : TrimsWell S (g :: r) := by
  intro first v w hv hR hL hf0 hf1
  have HF : Hid (Calls Tryz.prog 52 #[v] w fun e w' => e = .returned (.bool true) ∧ Below w.heap.size w w') := by
    have := isFull_any S v (g :: r) w hv hR hL
    rw [hb] at this
    exact this
  have HT : Hid (trimD (g :: r) = trimD r + 1) := trimD_yes hb
  have h1 := fullB_len hb
  obtain ⟨a0, c0, e0, hc0, _⟩ := hv.len
  subst e0
  obtain ⟨b, off, e1, _, hc1, hta⟩ := hv.tail h1
  subst e1
  obtain ⟨m, hm⟩ : ∃ m, m = (g :: r).length := ⟨_, rfl⟩
  rw [← hm] at hta h1 hL hc0 hc1 HF
  obtain ⟨D, hD⟩ : ∃ D, D = trimD r := ⟨_, rfl⟩
  have HTA : Hid (Stay w (fun U => GrsIn S U (.slice (some ⟨b, off + 1, none⟩) (m - 1) (c0 - 1)) r)) := hta.stay
  have HI : Hid (∀ U : World, GrsIn S U (.slice (some ⟨b, off + 1, none⟩) (m - 1) (c0 - 1)) r → Calls Tryz.prog 54 #[.int .i64 (first + 1), .slice (some ⟨b, off + 1, none⟩) (m - 1) (c0 - 1)] U fun e w' => ∃ v', e = .returned (.tuple #[.int .i64 (first + 1 + D), v']) ∧ GrsIn S w' v' (r.drop D) ∧ Below U.heap.size U w') := fun U hU => by
    rw [hD]
    exact ih (first + 1) _ U hU (fun x hx => hR x (List.mem_cons_of_mem _ hx)) (by simp at hm; omega) (by omega) (by simp at hf1 ⊢; omega)
  rw [← hD] at HT
  have hmi : (1 : Int) < (m : Int) := by omega
  have hmm : 1 ≤ m := by omega
  have hlast : first ≤ 1000000000 := by simp at hf1; omega
  rw [← hm]
  clear hv hta hm hR hf1 hb hD ih
  go_enter Tryz.func54, Tryz.ntmps54
  go_wp2_with fail
  refine HF.out.mono ?_
  rintro e w1 ⟨rfl, b1⟩
  have B1 : Hid (Below w.heap.size w w1) := b1
  clear b1
  go_wp2_with fail
  refine (HI.out _ (HTA.out _ B1.out)).mono ?_
  rintro e w2 ⟨v', rfl, h2, b2⟩
  have B2 : Hid (Below w.heap.size w w2) := B1.out.trans (b2.mono B1.out.size)
  have H2 : Hid (GrsIn S w2 v' (r.drop D)) := h2
  clear b2 h2
  go_wp2_with fail
  rw [HT.out]
  exact bodyPost_ret (v := .tuple #[.int .i64 (first + 1 + D), v']) (by simp [results, Tryz.results54, go_sem]) rfl ⟨v', by rw [show first + 1 + (D : Int) = first + ((D + 1 : Nat) : Int) by omega], by rw [List.drop_succ_cons]; exact H2.out, B2.out⟩

theorem trimmed_any (S : Nat → Prop) (L : List (List Fr)) : TrimsWell S L := by
  induction L with
  | nil => exact trimmed_no S [] fullB_nil
  | cons g r ih =>
    cases hb : fullB (g :: r)
    · exact trimmed_no S _ hb
    · exact trimmed_yes S g r hb ih

set_option maxHeartbeats 2000000 in
set_option maxRecDepth 100000 in
theorem refCheckStore_any (S : Nat → Prop) (first : Int) (gv ov : Value) (L : List (List Fr)) (O : List Fr) (w : World) (hg : GrsIn S w gv L) (ho : FrsIn S w ov O) :
    Calls Tryz.prog 11 #[.agg #[.int .i64 first, gv, ov]] w fun e w' => e = .returned (.int .i64 (stchk first L O)) ∧ Below w.heap.size w w' := by
  have HG : Hid (GrsIn S w gv L) := hg
  have HO : Hid (FrsIn S w ov O) := ho
  obtain ⟨ao, c, hva, h1, h2, hc⟩ := hg
  obtain ⟨oa, oc, eo, _, hol⟩ := ho.len
  obtain ⟨n, hn⟩ : ∃ n, n = L.length := ⟨_, rfl⟩
  obtain ⟨m, hm⟩ : ∃ m, m = O.length := ⟨_, rfl⟩
  have HN : Hid (n = L.length) := hn
  have HC : Hid (∀ k, k < L.length → ∃ b off, ao = some ⟨b, off, none⟩ ∧ b < w.heap.size ∧ S b ∧ ∃ sv, w.cell? ⟨b, off + k, none⟩ = some sv ∧ FrsIn S w sv (L[k]?.getD [])) := hc
  rw [← hn] at hva h1
  rw [← hm] at eo hol
  obtain ⟨E, hE⟩ : ∃ E, E = stchk first L O := ⟨_, rfl⟩
  have HE : Hid (E = if first < 0 then 3 else if 100000 < first then 3 else if 5 < n then 2 else
    if goN (fun k => gchk (grAt L k)) n 0 = 0 then (if tooB L then 2 else if 0 < m then gchk O else 0) else goN (fun k => gchk (grAt L k)) n 0) := by show _ = _; rw [hE, hn, hm]; rfl
  rw [← hE]
  clear hc hn hm hE ho
  subst hva eo
  by_cases f1 : first < 0
  · have e : E = 3 := by rw [HE.out, if_pos f1]
    have f1d : decide (0 ≤ first) = false := decide_eq_false (by omega)
    rw [e]
    go_enter Tryz.func11, Tryz.ntmps11
    go_wp2
    go_ret
    exact ⟨rfl, (Below.refl _ _).alloc (Nat.le_refl _) _⟩
  by_cases f2 : 100000 < first
  · have e : E = 3 := by rw [HE.out, if_neg f1, if_pos f2]
    have f1d : decide (0 ≤ first) = true := decide_eq_true (by omega)
    have f2d : decide (first ≤ 100000) = false := decide_eq_false (by omega)
    rw [e]
    go_enter Tryz.func11, Tryz.ntmps11
    go_wp2
    go_ret
    exact ⟨rfl, (Below.refl _ _).alloc (Nat.le_refl _) _⟩
  have f1d : decide (0 ≤ first) = true := decide_eq_true (by omega)
  have f2d : decide (first ≤ 100000) = true := decide_eq_true (by omega)
  by_cases f3 : 5 < n
  · have e : E = 2 := by rw [HE.out, if_neg f1, if_neg f2, if_pos f3]
    have f3i : (5 : Int) < (n : Int) := by omega
    rw [e]
    go_enter Tryz.func11, Tryz.ntmps11
    go_wp2
    go_ret
    exact ⟨rfl, (Below.refl _ _).alloc (Nat.le_refl _) _⟩
  have f3i : ¬ (5 : Int) < (n : Int) := by omega
  have HE2 : Hid (E = if goN (fun k => gchk (grAt L k)) n 0 = 0 then (if tooB L then 2 else if 0 < m then gchk O else 0) else goN (fun k => gchk (grAt L k)) n 0) := by show _ = _; rw [HE.out, if_neg f1, if_neg f2, if_neg f3]
  clear HE
  go_enter Tryz.func11, Tryz.ntmps11
  go_wp2
  go_loopw [3] (fun i wr => ∃ k : Nat, k ≤ n ∧ i = .int .i64 k ∧ Hid (∀ j, j < k → gchk (grAt L j) = 0) ∧ Hid (Blk wr w.heap.size #[.int .i64 first, .slice ao n c, .slice oa m oc] 27) ∧ Hid (Below w.heap.size w wr))
    (fun i _ => n - (intOf i).toNat)
  case atStart => exact ⟨0, Nat.zero_le _, rfl, (show ∀ j, _ → _ from fun j hj => absurd hj (Nat.not_lt_zero _)), Blk.new _ _ _, (Below.refl _ _).alloc (Nat.le_refl _) _⟩
  case round =>
    obtain ⟨k, hk, rfl, HK, KB, HB⟩ := hrel
    by_cases hlt : k < n
    · obtain ⟨b, off, rfl, hb, _, sv, c0, hs⟩ := HC.out k (by rw [← HN.out]; exact hlt)
      obtain ⟨g, hg⟩ : ∃ g, g = grAt L k := ⟨_, rfl⟩
      rw [show L[k]?.getD [] = g from hg.symm] at hs
      have c1 := (HB.out.cell (p := ⟨b, off + k, none⟩) hb).trans c0
      obtain ⟨sa, sc, esv, _, _⟩ := hs.len
      obtain ⟨gn, hgn⟩ : ∃ gn, gn = g.length := ⟨_, rfl⟩
      rw [← hgn] at esv
      obtain ⟨e, he⟩ : ∃ e, e = gchk g := ⟨_, rfl⟩
      have HS : Hid (∀ U, Below w.heap.size w U → Calls Tryz.prog 51 #[.agg #[sv]] U fun e' w'' => e' = .returned (.int .i64 e) ∧ Below U.heap.size U w'') := fun U hU => by
        rw [he]; exact refCheckGroup_any S sv g U (hs.below hU)
      have hlti : (k : Int) < (n : Int) := by omega
      have HGE : Hid (e = gchk (grAt L k)) := by show _ = _; rw [he, hg]
      clear hs hg hgn he c0
      subst esv
      obtain ⟨k0, k1, k2⟩ := KB.out.three
      go_wp2_with fail
      have B1 : Hid (Below w.heap.size w wr) := HB
      have K1 := KB
      refine (HS.out _ B1.out).mono ?_
      rintro e' w2 ⟨rfl, hb2⟩
      have B2 : Hid (Below w.heap.size w w2) := B1.out.trans (hb2.mono B1.out.size)
      have K2 : Hid (Blk w2 w.heap.size #[.int .i64 first, .slice (some ⟨b, off, none⟩) n c, .slice oa m oc] 27) := K1.out.below hb2 K1.out.lt
      clear hb2 c1 K1 B1 KB HB k0 k1 k2
      by_cases he0 : e = 0
      · have HK2 : Hid (∀ j, j < k + 1 → gchk (grAt L j) = 0) := fun j hj => by
          by_cases e' : j = k
          · subst e'; rw [← HGE.out]; exact he0
          · exact HK.out j (by omega)
        clear HGE
        subst he0
        go_wp2_with fail
        go_roundw
        case rel => exact ⟨k + 1, by omega, by go_num, HK2, K2, B2⟩
        case measure => simp [intOf]; omega
      · have hE : E = e := by
          have hh := goN_hit (e := fun k => gchk (grAt L k)) n 0 k (Nat.zero_le _) (by omega) (fun j _ hj => HK.out j hj) (by show ¬ gchk (grAt L k) = 0; rw [← HGE.out]; exact he0)
          change goN (fun k => gchk (grAt L k)) n 0 = gchk (grAt L k) at hh
          rw [← HGE.out] at hh
          rw [HE2.out, hh, if_neg he0]
        have HEE : Hid (E = e) := hE
        clear hE
        go_wp2
        go_ret
        exact ⟨by rw [HEE.out]; rfl, B2.out⟩
    · have hkl : k = n := by omega
      subst hkl
      have hz : goN (fun k => gchk (grAt L k)) k 0 = 0 := goN_all _ _ (fun j _ hj => HK.out j (by omega))
      have HE3 : Hid (E = if tooB L then 2 else if 0 < m then gchk O else 0) := by show _ = _; rw [HE2.out, if_pos hz]
      obtain ⟨T, hT⟩ : ∃ T, T = tooB L := ⟨_, rfl⟩
      have HTG : Hid (∀ U, Below w.heap.size w U → Calls Tryz.prog 52 #[.slice ao k c] U fun e' w'' => e' = .returned (.bool T) ∧ Below U.heap.size U w'') := fun U hU => by
        rw [hT, ← show fullB L = tooB L by unfold fullB; rw [decide_eq_false (by rw [← HN.out]; omega)]; rfl]
        refine isFull_any S _ L U (HG.out.below hU) (fun g hg => ?_) (by rw [← HN.out]; omega)
        obtain ⟨j, hj, e⟩ := List.mem_iff_getElem.1 hg
        have := HK.out j (by rw [HN.out]; exact hj)
        rw [show grAt L j = g by simp [grAt, List.getElem?_eq_getElem hj, e]] at this
        exact this
      have HE4 : Hid (E = if T then 2 else if 0 < m then gchk O else 0) := by show _ = _; rw [hT]; exact HE3.out
      clear hz hT HE3 HE2
      obtain ⟨k0, k1, k2⟩ := KB.out.three
      go_wp2_with fail
      refine (HTG.out _ HB.out).mono ?_
      rintro e' w2 ⟨rfl, hb2⟩
      have B2 : Hid (Below w.heap.size w w2) := HB.out.trans (hb2.mono HB.out.size)
      obtain ⟨j0, j1, j2⟩ := (KB.out.below hb2 KB.out.lt).three
      clear hb2 k0 k1 k2
      cases T
      case true =>
        have HEE : Hid (E = 2) := HE4.out
        go_wp2
        go_ret
        exact ⟨by rw [HEE.out]; rfl, B2.out⟩
      case false =>
        by_cases hm0 : 0 < m
        · have hm0i : (0 : Int) < (m : Int) := by omega
          have HEO : Hid (E = gchk O) := by show _ = _; rw [HE4.out]; simp [hm0]
          go_wp2_with fail
          refine (refCheckGroup_any S _ O _ (HO.out.below B2.out)).mono ?_
          rintro e' w3 ⟨rfl, hb3⟩
          rw [← HEO.out]
          have B3 : Hid (Below w.heap.size w w3) := B2.out.trans (hb3.mono B2.out.size)
          clear hb3 j0 j1 j2
          go_wp2
          go_ret
          exact ⟨rfl, B3.out⟩
        · have hm0i : ¬ (0 : Int) < (m : Int) := by omega
          have HEE : Hid (E = 0) := by show _ = _; rw [HE4.out]; simp [hm0]
          go_wp2
          go_ret
          exact ⟨by rw [HEE.out]; rfl, B2.out⟩

end Go.Proofs.YtnpaejknoipicafGreat

namespace Go.Proofs.YtnpaejknoipicafGreat
open Go.RowKit

theorem groups_copyS {S : Nat → Prop} {w : World} {u : Value} {L : List (List Fr)} (hS : ∀ g, S g → g < w.heap.size) (hu : GrsIn S w u L) (hb : L.length ≤ 1000) :
    ∃ v' w', (Builtin.append_ #[22, 22] 22 #[.slice (some ⟨w.heap.size, 0, none⟩) 0 0, u]).run Tryz.prog (w.alloc (.cells #[] 25)) = .ok v' w' ∧ OwnGrs w.heap.size S w' v' L ∧ Below w.heap.size w w' := by
  obtain ⟨qs, q1, q2, q3⟩ := (hu.alloc (.cells #[] 25)).sl
  have h0 : OwnGrs w.heap.size S (w.alloc (.cells #[] 25)) (.slice (some ⟨w.heap.size, 0, none⟩) 0 0) [] := ⟨[], rfl, World.ownsRow_lit (base := w.heap.size) (e := 25) (size := 1) w #[] 0 (Nat.le_refl _) (by unfold maxLen; omega) rfl, fun _ hp => absurd hp List.not_mem_nil⟩
  obtain ⟨v', w', r, o, g, _⟩ := groups_app h0 q1 q2 q3 (fun g hg e => by have := hS g hg; simp [Value.ownBlock] at e; omega) (by simpa using hb) (by simp)
  exact ⟨v', w', r, by simpa using o, ((Below.refl _ w).alloc (Nat.le_refl _) _).grown g (by simp) (fun j hj => by simp [Value.ownBlock] at hj; omega)⟩
theorem groups_snocS {base : Nat} {S : Nat → Prop} {w : World} {v ov : Value} {L : List (List Fr)} {o : List Fr} (hS : ∀ g, S g → g < base) (hv : OwnGrs base S w v L) (ho : FrsIn S w ov o) (hb : L.length ≤ 999) (hbase : base ≤ w.heap.size) :
    ∃ v' w', (Builtin.append_ #[22, 22] 22 #[v, .slice (some ⟨w.heap.size, 0, none⟩) 1 1]).run Tryz.prog (w.alloc (.cells #[ov] 25)) = .ok v' w' ∧ OwnGrs base S w' v' (L ++ [o]) ∧ Below base w w' := by
  have hS' : ∀ g, S g → some g ≠ v.ownBlock := fun g hg e => by have := (hv.lt g e.symm).1; have := hS g hg; omega
  obtain ⟨v', w', r, o', g, _⟩ := groups_app (qs := [(o, ov)]) (hv.below ((Below.refl _ w).alloc (Nat.le_refl _) (.cells #[ov] 25))) rfl (Sl.new w #[ov] 25 1 1 1 rfl) (fun p hp => by simp at hp; subst hp; exact ho.alloc _) hS' (by simpa using hb) (by simp; omega)
  exact ⟨v', w', r, o', ((Below.refl base w).alloc hbase _).grown g (by simp; omega) (fun j hj => (hv.lt j hj).1)⟩

theorem GrsIn.firstTime {S : Nat → Prop} {w : World} {ao : Option Addr} {n c k : Nat} {L : List (List Fr)} (h : GrsIn S w (.slice ao n c) L) (hk : k < L.length) (h0 : 0 < (grAt L k).length) :
    ∃ b off b2 off2 sn sc, ao = some ⟨b, off, none⟩ ∧ w.cell? ⟨b, off + k, none⟩ = some (.slice (some ⟨b2, off2, none⟩) sn sc) ∧ 0 < sn ∧ w.cell? ⟨b2, off2, none⟩ = some (.int .i64 (frAt (grAt L k) 0).time) := by
  obtain ⟨ao', c', e, _, _, hc⟩ := h
  injection e with e1 e2 e3
  subst e1
  obtain ⟨b, off, e4, _, _, sv, c0, hs⟩ := hc k hk
  obtain ⟨sa, sc, es, _, _⟩ := hs.len
  subst es
  obtain ⟨b2, off2, e5, d0, _⟩ := hs.first h0
  subst e5
  exact ⟨b, off, b2, off2, _, sc, e4, c0, h0, d0⟩

end Go.Proofs.YtnpaejknoipicafGreat

namespace Go.Proofs.YtnpaejknoipicafGreat
open Go.RowKit

set_option maxHeartbeats 8000000 in
set_option maxRecDepth 100000 in
theorem refStoreAdd_in (S : Nat → Prop) (first : Int) (gv ov pv : Value) (L : List (List Fr)) (O : List Fr) (f : Fr) (w : World) (hg : GrsIn S w gv L) (ho : FrsIn S w ov O) (hp : StrsIn S w pv f.parts) (hr : stchk first L O = 0) (hf : f.chk = 0) :
    Calls Tryz.prog 13 #[.agg #[.int .i64 first, gv, ov], .agg #[.int .i64 f.time, .bool f.key, pv]] w fun e w' => ∃ gv' ov', e = .returned (.tuple #[.agg #[.int .i64 (addsF first L O f), gv', ov'], .bool (addsB first L O f), .int .i64 (addsE first L O f)]) ∧ GrsIn (fun g => S g ∨ w.heap.size ≤ g) w' gv' (addsL first L O f) ∧ FrsIn (fun g => S g ∨ w.heap.size ≤ g) w' ov' (addsO first L O f) ∧ Below w.heap.size w w' := by
  obtain ⟨r1, r2, r3, r4, _, r6⟩ := stchk_zero.1 hr
  have hO6 : O.length ≤ 6 := by
    rcases r6 with r6 | r6
    · rw [r6]; simp
    · exact (gchk_zero.1 r6).2.1
  obtain ⟨ga, gc, eg, _, _⟩ := hg.len
  obtain ⟨oa, oc, eo, _, _⟩ := ho.len
  obtain ⟨pa, pc, ep⟩ := hp.1.len
  obtain ⟨ln, hln⟩ : ∃ n, n = L.length := ⟨_, rfl⟩
  obtain ⟨lo, hlo⟩ : ∃ n, n = O.length := ⟨_, rfl⟩
  obtain ⟨pn, hpn⟩ : ∃ n, n = f.parts.length := ⟨_, rfl⟩
  rw [← hln] at eg
  rw [← hlo] at eo
  rw [← hpn] at ep
  obtain ⟨ft, hft⟩ : ∃ t, t = f.time := ⟨_, rfl⟩
  obtain ⟨fk, hfk⟩ : ∃ t, t = f.key := ⟨_, rfl⟩
  obtain ⟨M, hM⟩ : ∃ M, M = L ++ closedG O f := ⟨_, rfl⟩
  obtain ⟨cl, hcl⟩ : ∃ c, c = (f.key && decide (0 < O.length)) := ⟨_, rfl⟩
  obtain ⟨D, hD⟩ : ∃ D, D = trimD M := ⟨_, rfl⟩
  obtain ⟨Q, hQ⟩ : ∃ Q, Q = growG O f := ⟨_, rfl⟩
  obtain ⟨nq, hnq⟩ : ∃ n, n = Q.length := ⟨_, rfl⟩
  obtain ⟨E, hE⟩ : ∃ E, E = addsE first L O f := ⟨_, rfl⟩
  have HE : Hid (E = if 100000 < first + (D : Int) then 2 else 0) := by show _ = _; rw [hE, hD, hM]; unfold addsE; rw [if_pos hr, if_pos hf]
  have HBAD : Hid (¬ E = 0 → addsF first L O f = 0 ∧ addsL first L O f = [] ∧ addsO first L O f = [] ∧ addsB first L O f = false) := fun h => addsE_bad (by rw [← hE]; exact h)
  have HGOOD : Hid (E = 0 → addsF first L O f = first + D ∧ addsL first L O f = M.drop D ∧ addsO first L O f = Q ∧ addsB first L O f = cl) := fun h => by
    rw [hE] at h
    obtain ⟨_, _, _, e1, e2, e3, e4⟩ := addsE_zero h
    rw [hD, hM, hQ, hcl]
    refine ⟨e1, e2, e3, ?_⟩
    rw [e4]
    unfold closedG
    cases (f.key && decide (0 < O.length)) <;> rfl
  have HMC : Hid ((cl = false → M = L) ∧ (cl = true → M = L ++ [O])) := by
    rw [hM, hcl]; unfold closedG
    exact ⟨fun h => by rw [h]; simp, fun h => by rw [h]; simp⟩
  have HM : Hid ((∀ g ∈ M, gchk g = 0) ∧ M.length ≤ 6) := by
    rw [hM]
    rcases closedG_cases O f with ⟨e, _⟩ | ⟨e, _, h0⟩
    · rw [e, List.append_nil]; exact ⟨r4, by omega⟩
    · rw [e]
      refine ⟨fun g hg => ?_, by simp; omega⟩
      rcases List.mem_append.1 hg with hg | hg
      · exact r4 g hg
      · simp at hg; subst hg
        rcases r6 with r6 | r6
        · rw [r6] at h0; simp at h0
        · exact r6
  have HTR : Hid (∀ (S : Nat → Prop) (v : Value) (U : World), GrsIn S U v M → Calls Tryz.prog 54 #[.int .i64 first, v] U fun e w' => ∃ v', e = .returned (.tuple #[.int .i64 (first + D), v']) ∧ GrsIn S w' v' (M.drop D) ∧ Below U.heap.size U w') := fun S v U h => by
    rw [hD]; exact trimmed_any S M first v U h HM.out.1 (by have := HM.out.2; omega) (by omega) (by have := HM.out.2; omega)
  have HGR : Hid (∀ U, Below w.heap.size w U → Calls Tryz.prog 53 #[.agg #[ov], .agg #[.int .i64 ft, .bool fk, pv]] U fun e w' => ∃ a c, e = .returned (.tuple #[.agg #[.slice a nq c], .bool cl]) ∧ Hid (FrsIn (fun b => (S b ∧ b < w.heap.size) ∨ U.heap.size ≤ b) w' (.slice a nq c) Q) ∧ Below U.heap.size U w') := fun U hU => by
    have := growOf_any (fun g => S g ∧ g < w.heap.size) ov O f pv U ((ho.mono fun g h h' => ⟨h', h⟩).below hU) ((hp.mono fun g h h' => ⟨h', h⟩).below hU) hO6
    rw [← hft, ← hfk, ← hQ, ← hnq, hfk, ← hcl, ← hfk] at this
    exact this
  have hD6 : D ≤ 5 := by have := trimD_le M; have := HM.out.2; omega
  have HG : Hid (GrsIn (fun g => S g ∧ g < w.heap.size) w gv L) := hg.mono fun g h h' => ⟨h', h⟩
  have HO : Hid (FrsIn (fun g => S g ∧ g < w.heap.size) w ov O) := ho.mono fun g h h' => ⟨h', h⟩
  have HL : Hid (L.length ≤ 5) := r3
  rw [← hft, ← hfk, ← hE]
  clear hg ho hp hr hf r3 r4 r6 hO6 hft hfk hM hcl hD hQ hnq hE hln hlo hpn
  subst eg eo ep
  go_enter Tryz.func13, Tryz.ntmps13
  go_wp2_with fail
  obtain ⟨W0, hW0⟩ : ∃ W0, W0 = ((w.alloc (.cells #[.int .i64 first, .slice ga ln gc, .slice oa lo oc] 27)).alloc (.cells #[.int .i64 ft, .bool fk, .slice pa pn pc] 30)).alloc (.cells #[.int .i64 0, .slice none 0 0, .slice none 0 0] 27) := ⟨_, rfl⟩
  have z0 : W0.heap.size = w.heap.size + 3 := by rw [hW0]; simp
  have HS0 : Hid (Stay W0 (fun U => Blk U w.heap.size #[.int .i64 first, .slice ga ln gc, .slice oa lo oc] 27 ∧ Blk U (w.heap.size + 2) #[.int .i64 0, .slice none 0 0, .slice none 0 0] 27 ∧ GrsIn (fun g => S g ∧ g < w.heap.size) U (.slice ga ln gc) L ∧ FrsIn (fun g => S g ∧ g < w.heap.size) U (.slice oa lo oc) O ∧ Below w.heap.size w U)) := by
    have hb : Below w.heap.size w W0 := by rw [hW0]; exact (((Below.refl _ _).alloc (Nat.le_refl _) _).alloc (by simp) _).alloc (by simp; omega) _
    have k1 : Blk W0 w.heap.size #[.int .i64 first, .slice ga ln gc, .slice oa lo oc] 27 := by rw [hW0]; exact ((Blk.new _ _ _).alloc _).alloc _
    have k2 : Blk W0 (w.heap.size + 2) #[.int .i64 0, .slice none 0 0, .slice none 0 0] 27 := by
      have := Blk.newE hW0
      simpa using this
    exact k1.stay.and (k2.stay.and ((HG.out.below hb).stay.and ((HO.out.below hb).stay.and (below_stay hb (by omega)))))
  rw [← hW0]
  clear hW0 HG HO
  refine (HGR.out _ HS0.out.now.2.2.2.2).mono ?_
  rintro e w1 ⟨a1, c1, rfl, F1, b1⟩
  have hs1 := b1.size
  obtain ⟨V, hV⟩ : ∃ V, V = (w1.alloc (.cells #[.slice a1 nq c1] 25)).alloc (.cells #[.int .i64 0, .slice none 0 0, .slice a1 nq c1] 27) := ⟨_, rfl⟩
  have zV : V.heap.size = w1.heap.size + 2 := by rw [hV]; simp
  have HSV : Hid (Stay V (fun U => (Blk U (w1.heap.size + 1) #[.int .i64 0, .slice none 0 0, .slice a1 nq c1] 27 ∧ FrsIn (fun g => ((S g ∧ g < w.heap.size) ∨ w.heap.size + 3 ≤ g) ∧ g < w1.heap.size) U (.slice a1 nq c1) Q) ∧ Blk U w.heap.size #[.int .i64 first, .slice ga ln gc, .slice oa lo oc] 27 ∧ Blk U (w.heap.size + 2) #[.int .i64 0, .slice none 0 0, .slice none 0 0] 27 ∧ GrsIn (fun g => S g ∧ g < w.heap.size) U (.slice ga ln gc) L ∧ FrsIn (fun g => S g ∧ g < w.heap.size) U (.slice oa lo oc) O ∧ Below w.heap.size w U)) := by
    have k1 : Blk V (w1.heap.size + 1) #[.int .i64 0, .slice none 0 0, .slice a1 nq c1] 27 := by
      have := Blk.newE hV
      simpa using this
    have k2 : FrsIn (fun g => ((S g ∧ g < w.heap.size) ∨ w.heap.size + 3 ≤ g) ∧ g < w1.heap.size) V (.slice a1 nq c1) Q := by
      rw [hV]; exact ((F1.out.mono fun g h1 h2 => ⟨h2.imp id (fun h => by omega), h1⟩).alloc _).alloc _
    have k3 := (((HS0.out.step b1).alloc (.cells #[.slice a1 nq c1] 25)).allocE hV).out
    exact (k1.stay.and k2.stay).and k3
  obtain ⟨v3, w3, r3, o3, b3⟩ := groups_copyS (S := fun g => S g ∧ g < w.heap.size) (fun g hg => by have := hg.2; omega) HSV.out.now.2.2.2.1 (by have := HL.out; omega)
  have HS3 := Stay.go HSV b3
  obtain ⟨v5, w5, r5, o5, b5⟩ := groups_snocS (S := fun g => S g ∧ g < w.heap.size) (fun g hg => by have := hg.2; omega) o3 HS3.out.now.2.2.2.2.1 (by have := HL.out; omega) b3.size
  have b35 : Below V.heap.size V w5 := b3.trans (b5.mono (Nat.le_refl _))
  have HS5 := Stay.go HSV b35
  have HR3 : Hid (GrsIn (fun g => (S g ∧ g < w.heap.size) ∨ V.heap.size ≤ g) w3 v3 L) := o3.grsIn (fun g _ h => .inl h) (fun g h => .inr (o3.lt g h).1)
  have HR5 : Hid (GrsIn (fun g => (S g ∧ g < w.heap.size) ∨ V.heap.size ≤ g) w5 v5 (L ++ [O])) := o5.grsIn (fun g _ h => .inl h) (fun g h => .inr (o5.lt g h).1)
  have r3' : (Builtin.append_ #[22, 22] 22 #[.slice (some ⟨w1.heap.size + 2, 0, none⟩) 0 0, .slice ga ln gc]).run Tryz.prog (((w1.alloc (.cells #[.slice a1 nq c1] 25)).alloc (.cells #[.int .i64 0, .slice none 0 0, .slice a1 nq c1] 27)).alloc (.cells #[] 25)) = .ok v3 w3 := by
    rw [show w1.heap.size + 2 = V.heap.size by omega, ← hV]; exact r3
  -- behind the groups: one way for both
  have HREST : Hid (∀ (v : Value) (U : World), GrsIn (fun g => (S g ∧ g < w.heap.size) ∨ V.heap.size ≤ g) U v M → True) := fun _ _ _ => trivial
  obtain ⟨k0, k1, k2⟩ := (HS0.out.step b1).now.1.three
  obtain ⟨m0, m1, m2⟩ := (HSV.out.alloc (.cells #[] 25)).now.2.1.three
  have hlt1 : w.heap.size < w1.heap.size := by omega
  have hlt2 : w.heap.size + 2 < w1.heap.size := by omega
  obtain ⟨q0, q1, q2⟩ := HS3.out.now.2.1.three
  obtain ⟨p0, p1, p2⟩ := HS5.out.now.2.1.three
  obtain ⟨Z, hZ⟩ : ∃ Z, Z = V.heap.size := ⟨_, rfl⟩
  rw [← hZ] at HR3 HR5
  have hZ2 : Z = w1.heap.size + 2 := by omega
  clear r3 o3 o5 b3 b5 b35 HREST HS0 b1 F1 HGR hZ HSV zV
  subst hV
  go_upto_if 24 with (at_builtin; refine wpList_append_run rfl (.tmp 20) (.tmp 22) 22 22 rfl _ _ rfl rfl r3' ?_)
  go_cut [10] (fun s10 wc => Hid (GrsIn (fun g => (S g ∧ g < w.heap.size) ∨ Z ≤ g) wc s10 M) ∧ Hid (Stay wc (fun U => (Blk U (w1.heap.size + 1) #[.int .i64 0, .slice none 0 0, .slice a1 nq c1] 27 ∧ FrsIn (fun g => ((S g ∧ g < w.heap.size) ∨ w.heap.size + 3 ≤ g) ∧ g < w1.heap.size) U (.slice a1 nq c1) Q) ∧ Blk U w.heap.size #[.int .i64 first, .slice ga ln gc, .slice oa lo oc] 27 ∧ Blk U (w.heap.size + 2) #[.int .i64 0, .slice none 0 0, .slice none 0 0] 27 ∧ GrsIn (fun g => S g ∧ g < w.heap.size) U (.slice ga ln gc) L ∧ FrsIn (fun g => S g ∧ g < w.heap.size) U (.slice oa lo oc) O ∧ Below w.heap.size w U)))
  case first =>
    cases cl
    · have hM : Hid (M = L) := HMC.out.1 rfl
      go_wp2_with fail
      go_meet
      case rel => exact ⟨by rw [hM.out]; exact HR3.out, HS3.out⟩
    · have hM : Hid (M = L ++ [O]) := HMC.out.2 rfl
      go_wp2_with (at_builtin; refine wpList_append_run rfl (.tmp 25) (.tmp 28) 22 22 rfl _ _ rfl rfl r5 ?_)
      go_meet
      case rel => exact ⟨by rw [hM.out]; exact HR5.out, HS5.out⟩
  case rest =>
    obtain ⟨HGM, HS6⟩ := hcut
    clear HR3 HR5 r3' r5 HS3 HS5 k0 k1 k2 m0 m1 m2 q0 q1 q2 p0 p1 p2 HMC
    obtain ⟨k0, k1, k2⟩ := HS6.out.now.2.1.three
    go_wp2_with fail
    refine (HTR.out _ _ _ HGM.out).mono ?_
    rintro e w7 ⟨v7, rfl, G7, b7⟩
    obtain ⟨va, vc, ev, _, _⟩ := G7.len
    obtain ⟨nv, hnv⟩ : ∃ n, n = (M.drop D).length := ⟨_, rfl⟩
    rw [← hnv] at ev
    clear hnv
    subst ev
    have HS7 := Stay.go HS6 b7
    have HG7 : Hid (GrsIn (fun g => (S g ∧ g < w.heap.size) ∨ Z ≤ g) w7 (.slice va nv vc) (M.drop D)) := G7
    clear b7 G7 HS6 k0 k1 k2 HGM HTR
    have X7 := HS7.out.now.1.1
    have R7 := HS7.out.now.2.2.1
    have hXl := X7.lt
    have hRl := R7.lt
    obtain ⟨x0, x1, x2⟩ := X7.three
    obtain ⟨y0, y1, y2⟩ := R7.three
    have f0 := X7.free
    have f1 := R7.free
    obtain ⟨Y, hY⟩ : ∃ Y, Y = (w7.setCell ⟨w1.heap.size + 1, 0, none⟩ (.int .i64 (first + D))).setCell ⟨w1.heap.size + 1, 1, none⟩ (.slice va nv vc) := ⟨_, rfl⟩
    have XY : Blk Y (w1.heap.size + 1) #[.int .i64 (first + D), .slice va nv vc, .slice a1 nq c1] 27 := by
      rw [hY]; exact (X7.set 0 (.int .i64 (first + D))).set 1 (.slice va nv vc)
    have RY : Blk Y (w.heap.size + 2) #[.int .i64 0, .slice none 0 0, .slice none 0 0] 27 := by
      rw [hY]; exact (R7.other (a := ⟨w1.heap.size + 1, 0, none⟩) (by simp; omega) _).other (a := ⟨w1.heap.size + 1, 1, none⟩) (by simp; omega) _
    have hYo : ∀ g, g ≠ w1.heap.size + 1 → Y.heap[g]? = w7.heap[g]? := fun g hg => by
      rw [hY, Below.heap_setCell _ _ _ _ (by exact hg), Below.heap_setCell _ _ _ _ (by exact hg)]
    have hYs : Y.heap.size = w7.heap.size := by rw [hY]; simp
    have BY : Below w.heap.size w Y := by
      rw [hY]; exact (HS7.out.now.2.2.2.2.2.setCell (by simp; omega) _).setCell (by simp; omega) _
    have finish : ∀ (u0 u1 u2 : Value) (U : World), U = ((Y.setCell ⟨w.heap.size + 1 + 1, 0, none⟩ u0).setCell ⟨w.heap.size + 1 + 1, 1, none⟩ u1).setCell ⟨w.heap.size + 1 + 1, 2, none⟩ u2 → Blk U (w.heap.size + 2) #[u0, u1, u2] 27 ∧ (∀ g, g ≠ w1.heap.size + 1 → g ≠ w.heap.size + 2 → U.heap[g]? = w7.heap[g]?) ∧ U.heap.size = w7.heap.size ∧ Below w.heap.size w U := fun u0 u1 u2 U hU => by
      refine ⟨by rw [hU]; exact ((RY.set 0 u0).set 1 u1).set 2 u2, fun g h1 h2 => ?_, by rw [hU]; simpa using hYs, ?_⟩
      · rw [hU, Below.heap_setCell _ _ _ _ (by exact h2), Below.heap_setCell _ _ _ _ (by exact h2), Below.heap_setCell _ _ _ _ (by exact h2)]
        exact hYo g h1
      · rw [hU]; exact ((BY.setCell (by simp; omega) _).setCell (by simp; omega) _).setCell (by simp; omega) _
    have HFIN : Hid (∀ (u0 u1 u2 : Value) (U : World), U = ((Y.setCell ⟨w.heap.size + 1 + 1, 0, none⟩ u0).setCell ⟨w.heap.size + 1 + 1, 1, none⟩ u1).setCell ⟨w.heap.size + 1 + 1, 2, none⟩ u2 → Blk U (w.heap.size + 2) #[u0, u1, u2] 27 ∧ (∀ g, g ≠ w1.heap.size + 1 → g ≠ w.heap.size + 2 → U.heap[g]? = w7.heap[g]?) ∧ U.heap.size = w7.heap.size ∧ Below w.heap.size w U) := finish
    have HQ7 : Hid (FrsIn (fun g => ((S g ∧ g < w.heap.size) ∨ w.heap.size + 3 ≤ g) ∧ g < w1.heap.size) w7 (.slice a1 nq c1) Q) := HS7.out.now.1.2
    have hne1 : ¬ w1.heap.size + 1 = w.heap.size + 1 + 1 := by omega
    have hne2 : ¬ w.heap.size + 1 + 1 = w1.heap.size + 1 := by omega
    clear finish X7 R7 XY RY hYo hYs BY HS7
    by_cases hbig : 100000 < first + (D : Int)
    · have hE : E = 2 := by rw [HE.out, if_pos hbig]
      obtain ⟨e1, e2, e3, e4⟩ := HBAD.out (by rw [hE]; decide)
      have HEE : Hid (E = 2 ∧ addsF first L O f = 0 ∧ addsL first L O f = [] ∧ addsO first L O f = [] ∧ addsB first L O f = false) := ⟨hE, e1, e2, e3, e4⟩
      obtain ⟨U, hU⟩ : ∃ U, U = ((Y.setCell ⟨w.heap.size + 1 + 1, 0, none⟩ (.int .i64 0)).setCell ⟨w.heap.size + 1 + 1, 1, none⟩ (.slice none 0 0)).setCell ⟨w.heap.size + 1 + 1, 2, none⟩ (.slice none 0 0) := ⟨_, rfl⟩
      obtain ⟨n1, n2, n3, n4⟩ := HFIN.out _ _ _ U hU
      have HU3 : Hid (Blk U (w.heap.size + 1 + 1) _ _) := n1
      have HN4 : Hid (Below w.heap.size w U) := n4
      rw [hY] at hU
      clear HBAD HGOOD HE hE e1 e2 e3 e4 HFIN n1 n2 n3 n4 hY
      go_wp2_with fail
      rw [← hU]
      obtain ⟨u0, u1, u2⟩ := HU3.out.three
      obtain ⟨h1, h2, h3, h4, h5⟩ := HEE.out
      rw [h1, h2, h3, h4, h5]
      exact bodyPost_ret (v := .tuple #[.agg #[.int .i64 0, .slice none 0 0, .slice none 0 0], .bool false, .int .i64 2]) (by simp [results, Tryz.results13, go_sem, u0, u1, u2]) rfl ⟨_, _, rfl, GrsIn.nil _ _, FrsIn.nil _ _, HN4.out⟩
    · have hE : E = 0 := by rw [HE.out, if_neg hbig]
      obtain ⟨e1, e2, e3, e4⟩ := HGOOD.out hE
      have HEE : Hid (E = 0 ∧ addsF first L O f = first + D ∧ addsL first L O f = M.drop D ∧ addsO first L O f = Q ∧ addsB first L O f = cl) := ⟨hE, e1, e2, e3, e4⟩
      obtain ⟨U, hU⟩ : ∃ U, U = ((Y.setCell ⟨w.heap.size + 1 + 1, 0, none⟩ (.int .i64 (first + D))).setCell ⟨w.heap.size + 1 + 1, 1, none⟩ (.slice va nv vc)).setCell ⟨w.heap.size + 1 + 1, 2, none⟩ (.slice a1 nq c1) := ⟨_, rfl⟩
      obtain ⟨n1, n2, n3, n4⟩ := HFIN.out _ _ _ U hU
      have GU : Hid (GrsIn (fun g => S g ∨ w.heap.size ≤ g) U (.slice va nv vc) (M.drop D)) := HG7.out.to ⟨by omega, fun g _ hg => n2 g (by rcases hg with hg | hg <;> omega) (by rcases hg with hg | hg <;> omega)⟩ (fun g _ h => h.imp (fun h => h.1) (fun h => by omega))
      have FU : Hid (FrsIn (fun g => S g ∨ w.heap.size ≤ g) U (.slice a1 nq c1) Q) := HQ7.out.to ⟨by omega, fun g _ hg => n2 g (by have := hg.2; omega) (by rcases hg.1 with h | h <;> omega)⟩ (fun g _ h => h.1.imp (fun h => h.1) (fun h => by omega))
      have HU3 : Hid (Blk U (w.heap.size + 1 + 1) _ _) := n1
      have HN4 : Hid (Below w.heap.size w U) := n4
      rw [hY] at hU
      clear HBAD HGOOD HE hE e1 e2 e3 e4 HFIN n1 n2 n3 n4 hY
      go_wp2_with fail
      rw [← hU]
      obtain ⟨u0, u1, u2⟩ := HU3.out.three
      obtain ⟨h1, h2, h3, h4, h5⟩ := HEE.out
      rw [h1, h2, h3, h4, h5]
      exact bodyPost_ret (v := .tuple #[.agg #[.int .i64 (first + D), .slice va nv vc, .slice a1 nq c1], .bool cl, .int .i64 0]) (by simp [results, Tryz.results13, go_sem, u0, u1, u2]) rfl ⟨_, _, rfl, GU.out, FU.out, HN4.out⟩

theorem refStoreAdd_any (first : Int) (gv ov pv : Value) (L : List (List Fr)) (O : List Fr) (f : Fr) (w : World) (hg : GrsIn (fun _ => True) w gv L) (ho : FrsIn (fun _ => True) w ov O) (hp : StrsIn (fun _ => True) w pv f.parts) (hr : stchk first L O = 0) (hf : f.chk = 0) :
    Calls Tryz.prog 13 #[.agg #[.int .i64 first, gv, ov], .agg #[.int .i64 f.time, .bool f.key, pv]] w fun e w' => ∃ gv' ov', e = .returned (.tuple #[.agg #[.int .i64 (addsF first L O f), gv', ov'], .bool (addsB first L O f), .int .i64 (addsE first L O f)]) ∧ GrsIn (fun _ => True) w' gv' (addsL first L O f) ∧ FrsIn (fun _ => True) w' ov' (addsO first L O f) ∧ Below w.heap.size w w' := by
  refine (refStoreAdd_in (fun _ => True) first gv ov pv L O f w hg ho hp hr hf).mono ?_
  rintro e w' ⟨gv', ov', rfl, h1, h2, h3⟩
  exact ⟨gv', ov', rfl, h1.mono (fun _ _ _ => trivial), h2.mono (fun _ _ _ => trivial), h3⟩

end Go.Proofs.YtnpaejknoipicafGreat

namespace Go.Proofs.YtnpaejknoipicafGreat
open Go.RowKit

theorem SlsIn.keptR {S : Nat → Prop} {K : List Nat} {w w' : World} {v : Value} {l : List Sk} (h : SlsIn S w v l) (hk : Kept K w w') (hS : ∀ g, S g → g ∉ K) : SlsIn S w' v l := h.to ⟨hk.size, fun g hg hs => hk.block g hg (hS g hs)⟩ (fun _ _ h => h)
theorem SlsIn.atR {S : Nat → Prop} {w : World} {ao : Option Addr} {n c k : Nat} {l : List Sk} (h : SlsIn S w (.slice ao n c) l) (hk : k < l.length) : ∃ b off, ao = some ⟨b, off, none⟩ ∧ b < w.heap.size ∧ At7 w b (off + k * 7) (l[k]?.getD Sk.zero) := by
  obtain ⟨ao', c', e, hc⟩ := h.1.parts
  injection e with e1 _ _
  subst e1
  exact hc k hk
theorem tkN_dropR {l : List Sk} {k : Nat} (hk : k < l.length) (s : Tr × Nat) : tkN (l.drop k) s = if (tk1 s.1 (l[k]?.getD Sk.zero)).2.2 = 0 then tkN (l.drop (k + 1)) ((tk1 s.1 (l[k]?.getD Sk.zero)).1, s.2 + (tk1 s.1 (l[k]?.getD Sk.zero)).2.1) else (Tr.zero, 0, (tk1 s.1 (l[k]?.getD Sk.zero)).2.2) := by
  rw [List.drop_eq_getElem_cons hk, List.getElem?_eq_getElem hk, Option.getD_some]
  rfl
theorem tk1_leR (t : Tr) (x : Sk) : (tk1 t x).2.1 ≤ 1 := by
  unfold tk1
  cases addW t.o x
  · exact Nat.zero_le _
  · simp only [if_true]
    split <;> omega
theorem seven_belowR {B A : Nat} {w V : World} (h : Below B w V) (hA : B ≤ A) (x0 x1 x2 x3 x4 x5 x6 : Value) : Below B w (((((((V.setCell ⟨A, 0, none⟩ x0).setCell ⟨A, 1, none⟩ x1).setCell ⟨A, 2, none⟩ x2).setCell ⟨A, 3, none⟩ x3).setCell ⟨A, 4, none⟩ x4).setCell ⟨A, 5, none⟩ x5).setCell ⟨A, 6, none⟩ x6) :=
  ((((((h.setCell (by exact hA) _).setCell (by exact hA) _).setCell (by exact hA) _).setCell (by exact hA) _).setCell (by exact hA) _).setCell (by exact hA) _).setCell (by exact hA) _
theorem Blk.sixq {w : World} {b : Nat} {x0 x1 x2 x3 x4 x5 : Value} {t : TypeId} (h : Blk w b #[x0, x1, x2, x3, x4, x5] t) : w.cell? ⟨b, 0, none⟩ = some x0 ∧ w.cell? ⟨b, 1, none⟩ = some x1 ∧ w.cell? ⟨b, 2, none⟩ = some x2 ∧ w.cell? ⟨b, 3, none⟩ = some x3 ∧ w.cell? ⟨b, 4, none⟩ = some x4 ∧ w.cell? ⟨b, 5, none⟩ = some x5 :=
  ⟨h.cell rfl, h.cell rfl, h.cell rfl, h.cell rfl, h.cell rfl, h.cell rfl⟩
theorem Kept.sameTo {S : List Nat} {X : Nat → Prop} {w w' : World} (h : Kept S w w') (hx : ∀ g, X g → g ∉ S) : SameOn X w w' := ⟨h.size, fun g hg hX => h.block g hg (hx g hX)⟩

set_option maxHeartbeats 16000000 in
set_option maxRecDepth 100000 in
theorem taken_in (S : Nat → Prop) (t : Tr) (hv bv gv ov v : Value) (l : List Sk) (w : World) (hr : TrIn S w hv bv gv ov t) (hS : ∀ g, w.heap.size ≤ g → S g) (hok : TkOk t) (hsl : SlsIn (fun _ => True) w v l) (hch : ∀ x ∈ l, x.chk = 0) (hlen : l.length ≤ 100) :
    Calls Tryz.prog 76 #[.agg #[.int .i64 t.last, .int .i64 t.next, hv, bv, .int .i64 t.first, gv, ov], v] w fun e w' => ∃ hv' bv' gv' ov', e = .returned (.tuple #[.agg #[.int .i64 (tkN l (t, 0)).1.last, .int .i64 (tkN l (t, 0)).1.next, hv', bv', .int .i64 (tkN l (t, 0)).1.first, gv', ov'], .int .i64 (tkN l (t, 0)).2.1, .int .i64 (tkN l (t, 0)).2.2]) ∧ TrIn S w' hv' bv' gv' ov' (tkN l (t, 0)).1 ∧ Below w.heap.size w w' := by
  obtain ⟨hA, hC, bA, bC, gA, gC, oA, oC, eh, eb, eg, eo⟩ := hr.slices
  obtain ⟨va, vc, ev⟩ := hsl.len
  obtain ⟨n, hn⟩ : ∃ x, x = l.length := ⟨_, rfl⟩
  obtain ⟨R, hR⟩ : ∃ x, x = tkN l (t, 0) := ⟨_, rfl⟩
  obtain ⟨last, hla⟩ : ∃ x, x = t.last := ⟨_, rfl⟩
  obtain ⟨next, hne⟩ : ∃ x, x = t.next := ⟨_, rfl⟩
  obtain ⟨first, hfi⟩ : ∃ x, x = t.first := ⟨_, rfl⟩
  obtain ⟨hN, hhN⟩ : ∃ x, x = t.h.length := ⟨_, rfl⟩
  obtain ⟨bN, hbN⟩ : ∃ x, x = t.o.length := ⟨_, rfl⟩
  obtain ⟨lN, hlN⟩ : ∃ x, x = t.L.length := ⟨_, rfl⟩
  obtain ⟨oN, hoN⟩ : ∃ x, x = t.O.length := ⟨_, rfl⟩
  rw [← hn] at ev hlen
  rw [← hhN] at eh
  rw [← hbN] at eb
  rw [← hlN] at eg
  rw [← hoN] at eo
  have HN : Hid (n = l.length) := hn
  have HRR : Hid (R = tkN (l.drop 0) (t, 0)) := by rw [List.drop_zero]; exact hR
  have HCH : Hid (∀ x ∈ l, x.chk = 0) := hch
  have HOK : Hid (TkOk t) := hok
  obtain ⟨M, hM⟩ : ∃ x, x = w.heap.size := ⟨_, rfl⟩
  obtain ⟨V, hV⟩ : ∃ V, V = (w.alloc (.cells #[.int .i64 last, .int .i64 next, .slice hA hN hC, .slice bA bN bC, .int .i64 first, .slice gA lN gC, .slice oA oN oC] 61)).alloc (.cells #[.int .i64 0, .int .i64 0, .slice none 0 0, .slice none 0 0, .int .i64 0, .slice none 0 0, .slice none 0 0] 61) := ⟨_, rfl⟩
  have hbV : Below w.heap.size w V := by rw [hV]; exact ((Below.refl _ w).alloc (Nat.le_refl _) _).alloc (by simp) _
  have hMV : Blk V M #[.int .i64 t.last, .int .i64 t.next, hv, bv, .int .i64 t.first, gv, ov] 61 := by
    have := (Blk.new w #[.int .i64 last, .int .i64 next, .slice hA hN hC, .slice bA bN bC, .int .i64 first, .slice gA lN gC, .slice oA oN oC] 61).alloc (.cells #[.int .i64 0, .int .i64 0, .slice none 0 0, .slice none 0 0, .int .i64 0, .slice none 0 0, .slice none 0 0] 61)
    rw [← hV, ← hM, ← eh, ← eb, ← eg, ← eo, hla, hne, hfi] at this
    exact this
  have hZV : Blk V (M + 1) #[.int .i64 0, .int .i64 0, .slice none 0 0, .slice none 0 0, .int .i64 0, .slice none 0 0, .slice none 0 0] 61 := by
    have := Blk.new (w.alloc (.cells #[.int .i64 last, .int .i64 next, .slice hA hN hC, .slice bA bN bC, .int .i64 first, .slice gA lN gC, .slice oA oN oC] 61)) #[.int .i64 0, .int .i64 0, .slice none 0 0, .slice none 0 0, .int .i64 0, .slice none 0 0, .slice none 0 0] 61
    rw [World.size_alloc, ← hV, ← hM] at this
    exact this
  have HMV : Hid (Blk V M #[.int .i64 t.last, .int .i64 t.next, hv, bv, .int .i64 t.first, gv, ov] 61) := hMV
  have HZV : Hid (Blk V (M + 1) #[.int .i64 0, .int .i64 0, .slice none 0 0, .slice none 0 0, .int .i64 0, .slice none 0 0, .slice none 0 0] 61) := hZV
  have HTV : Hid (TrIn (fun g => S g ∧ g ≠ M ∧ g ≠ M + 1) V hv bv gv ov t) := ((hr.mono (S' := fun g => S g ∧ g < M) fun g h hs => ⟨hs, by rw [hM]; exact h⟩).below hbV).mono fun g _ h => ⟨h.1, by have := h.2; omega, by have := h.2; omega⟩
  have HSU : Hid (∀ g, M ≤ g → S g) := fun g hg => hS g (by omega)
  have HVV : Hid (SlsIn (fun g => g ≠ M ∧ g ≠ M + 1) V v l) := ((hsl.mono (S' := fun g => g < M) fun g h _ => by rw [hM]; exact h).below hbV).mono fun g _ h => ⟨by omega, by omega⟩
  have HBV : Hid (Below M w V) := by show Below M w V; rw [hM]; exact hbV
  have hMs : M + 2 ≤ V.heap.size := by have := hZV.lt; omega
  rw [← hR]
  have HW : Hid (M = w.heap.size ∧ V = (w.alloc (.cells #[.int .i64 last, .int .i64 next, .slice hA hN hC, .slice bA bN bC, .int .i64 first, .slice gA lN gC, .slice oA oN oC] 61)).alloc (.cells #[.int .i64 0, .int .i64 0, .slice none 0 0, .slice none 0 0, .int .i64 0, .slice none 0 0, .slice none 0 0] 61)) := ⟨hM, hV⟩
  rw [← hla, ← hne, ← hfi]
  have HMe : Hid (M = w.heap.size) := hM
  have HVAL : Hid (hv = .slice hA hN hC ∧ bv = .slice bA bN bC ∧ gv = .slice gA lN gC ∧ ov = .slice oA oN oC) := ⟨eh, eb, eg, eo⟩
  rw [eh, eb, eg, eo]
  clear hS hbV hMV hZV hR hla hne hfi hhN hbN hlN hoN hM hV hr hsl hch hok eh eb eg eo hn
  subst ev
  go_enter Tryz.func76, Tryz.ntmps76
  go_wp2_with fail
  rw [← HW.out.2, ← HW.out.1]
  clear HW HVAL
  go_loopw [7, 8] (fun c i wr => ∃ (k : Nat) (tk : Tr) (ck : Nat) (ha : Option Addr) (hn hc : Nat) (bo : Option Addr) (bn bc : Nat) (ga : Option Addr) (ln gc : Nat) (oa : Option Addr) (lo oc : Nat), k ≤ n ∧ c = .int .i64 ck ∧ i = .int .i64 k ∧ Hid (Blk wr M #[.int .i64 tk.last, .int .i64 tk.next, .slice ha hn hc, .slice bo bn bc, .int .i64 tk.first, .slice ga ln gc, .slice oa lo oc] 61) ∧ Hid (TrIn (fun g => S g ∧ g ≠ M ∧ g ≠ M + 1) wr (.slice ha hn hc) (.slice bo bn bc) (.slice ga ln gc) (.slice oa lo oc) tk) ∧ Hid (TkOk tk) ∧ Hid (R = tkN (l.drop k) (tk, ck)) ∧ ck ≤ k ∧ Hid (Kept [M] V wr))
    (fun _ i _ => n - (intOf i).toNat)
  case atStart =>
    obtain ⟨hA', hC', bA', bC', gA', gC', oA', oC', eh, eb, eg, eo⟩ := HTV.out.slices
    have h1 := HMV.out
    have h2 := HTV.out
    rw [eh, eb, eg, eo] at h1 h2
    exact ⟨0, t, 0, hA', _, hC', bA', _, bC', gA', _, gC', oA', _, oC', Nat.zero_le _, rfl, rfl, h1, h2, HOK.out, HRR.out, Nat.le_refl _, Kept.refl _ _⟩
  case round =>
    obtain ⟨k, tk, ck, ha, hn, hc, bo, bn, bc, ga, ln, gc, oa, lo, oc, hk, rfl, rfl, HMr, HTr, HO, HR, hck, HK⟩ := hrel
    clear HTV HRR HOK HMV
    by_cases hlt : k < n
    · have hlti : (k : Int) < (n : Int) := by omega
      have hkl : k < l.length := by rw [← HN.out]; exact hlt
      have HVr : Hid (SlsIn (fun g => g ≠ M ∧ g ≠ M + 1) wr (.slice va n vc) l) := HVV.out.keptR HK.out (fun g h => by simp; exact h.1)
      obtain ⟨b, off, e1, hbl, hat⟩ := HVr.out.atR hkl
      obtain ⟨x, hx⟩ : ∃ x, x = l[k]?.getD Sk.zero := ⟨_, rfl⟩
      rw [← hx] at hat
      have HAT : Hid (At7 wr b (off + k * 7) x) := hat
      have hxc : x.chk = 0 := by
        rw [hx, List.getElem?_eq_getElem hkl, Option.getD_some]; exact HCH.out _ (List.getElem_mem _)
      obtain ⟨E, hE⟩ : ∃ e, e = (tk1 tk x).2.2 := ⟨_, rfl⟩
      have HRX : Hid (R = if E = 0 then tkN (l.drop (k + 1)) ((tk1 tk x).1, ck + (tk1 tk x).2.1) else (Tr.zero, 0, E)) := by
        show R = _
        rw [HR.out, tkN_dropR hkl, ← hx, ← hE]
      have HEE : Hid (E = (tk1 tk x).2.2) := hE
      have HO2 : Hid (E = 0 → TkOk (tk1 tk x).1) := fun h => by
        rcases tk1_ok HO.out hxc with ⟨_, h'⟩ | h'
        · exact h'
        · rw [← hE, h] at h'; cases h'
      have hle := tk1_leR tk x
      obtain ⟨B1, hB1⟩ : ∃ E, E = addO tk.o x := ⟨_, rfl⟩
      obtain ⟨T1, hT1⟩ : ∃ E, E = addT tk.o x := ⟨_, rfl⟩
      obtain ⟨K1, hK1⟩ : ∃ E, E = addK tk.o x := ⟨_, rfl⟩
      obtain ⟨P1, hP1⟩ : ∃ E, E = addP tk.o x := ⟨_, rfl⟩
      obtain ⟨W1, hW1⟩ : ∃ E, E = addW tk.o x := ⟨_, rfl⟩
      obtain ⟨nB, hnB⟩ : ∃ n, n = B1.length := ⟨_, rfl⟩
      obtain ⟨nP, hnP⟩ : ∃ n, n = P1.length := ⟨_, rfl⟩
      have HF1 : Hid (W1 = true → (Fr.mk T1 K1 P1).chk = 0) := fun h => by
        rw [hW1] at h
        have := addF_right HO.out.1 hxc h
        rw [hT1, hK1, hP1]; exact this
      have HST : Hid (stchk tk.first tk.L tk.O = 0) := HO.out.2
      have HT0 : Hid (W1 = false → tk1 tk x = (⟨tk.last, tk.next, tk.h, B1, tk.first, tk.L, tk.O⟩, 0, 0)) := fun h => by
        rw [hW1] at h
        unfold tk1; rw [h, ← hB1]; rfl
      have HT1 : Hid (W1 = true → tk1 tk x = (⟨tk.last, tk.next, tk.h, B1, addsF tk.first tk.L tk.O ⟨T1, K1, P1⟩, addsL tk.first tk.L tk.O ⟨T1, K1, P1⟩, addsO tk.first tk.L tk.O ⟨T1, K1, P1⟩⟩, if addsB tk.first tk.L tk.O ⟨T1, K1, P1⟩ then 1 else 0, addsE tk.first tk.L tk.O ⟨T1, K1, P1⟩)) := fun h => by
        rw [hW1] at h
        unfold tk1 addF; rw [h, ← hB1, ← hT1, ← hK1, ← hP1]; rfl
      have HADD : Hid (∀ U : World, Below wr.heap.size wr U → Calls Tryz.prog 120 #[.agg #[.slice bo bn bc], .agg #[.int .i64 x.n, .int .i64 x.p.seq, .int .i64 x.p.time, .bool x.p.f, .bool x.p.e, .bool x.p.k, .string x.p.t]] U fun e w' => ∃ va vc qa qc, e = .returned (.tuple #[.agg #[.slice va nB vc], .agg #[.int .i64 T1, .bool K1, .slice qa nP qc], .bool W1]) ∧ Hid (SlsIn (fun g => U.heap.size ≤ g) w' (.slice va nB vc) B1) ∧ Hid (StrsIn (fun g => U.heap.size ≤ g) w' (.slice qa nP qc) P1) ∧ Below U.heap.size U w') := fun U hU => by
        obtain ⟨o1, o2, o3⟩ := ochk_len HO.out.1
        refine (addOf_any _ tk.o x U (HTr.out.2.1.below hU).1 o1 o3).mono ?_
        rintro e w' ⟨ov', pv', rfl, h1, h2, h3, h4, h5⟩
        rw [← hB1] at h1
        rw [← hP1] at h2
        obtain ⟨va, vc, ev⟩ := h1.len
        obtain ⟨qa, qc, eq⟩ := h2.len
        rw [← hnB] at ev
        rw [← hnP] at eq
        subst ev eq
        rw [← hT1, ← hK1, ← hW1]
        have l1 : B1.length ≤ 3 := by rw [hB1]; exact addO_len _ _ o1
        have l2 : P1.length ≤ 4 := by rw [hP1]; exact addP_len _ _ o1
        exact ⟨va, vc, qa, qc, rfl, SlsIn.of h1 (by omega) (fun g hg _ => (h4 g hg).1), ⟨h2, by omega, fun g hg _ => ⟨(h3 g hg).1, by obtain ⟨_, c, hc⟩ := h3 g hg; exact hc.lt⟩⟩, h5⟩
      subst e1
      have hwrs : M + 2 ≤ wr.heap.size := Nat.le_trans hMs HK.out.size
      clear hx hE hB1 hT1 hK1 hP1 hW1 hnB hnP HR HO hxc hat HVr hkl
      go_upto_region 5 with fail
      refine region_main (by kernel_rfl) (by kernel_rfl) [.quiet (.pointer (some ⟨M, 3, none⟩)), .quiet (.agg #[.slice bo bn bc]), .quiet (.slice (some ⟨b, off, none⟩) n vc), .quiet (.int .i64 k), .quiet (.pointer (some ⟨b, off + k * 7, none⟩)), .quiet (.agg #[.int .i64 x.n, .int .i64 x.p.seq, .int .i64 x.p.time, .bool x.p.f, .bool x.p.e, .bool x.p.k, .string x.p.t]), .main, .fin (fun r => r), .fin (exT 0), .fin (exT 1), .fin (exT 2), .box 59 #[.slice none 0 0], .box 30 #[.int .i64 0, .bool false, .slice none 0 0], .put 11 (fun r => aggC (exT 0 r)), .put 12 (fun r => aggC (exT 1 r)), .fin (exT 2)] 6 (by kernel_rfl)
        (fun S r w' => ∃ va2 vc2 qa qc, r = .tuple #[.agg #[.slice va2 nB vc2], .agg #[.int .i64 T1, .bool K1, .slice qa nP qc], .bool W1] ∧ SlsIn (fun g => S g ∧ wr.heap.size ≤ g) w' (.slice va2 nB vc2) B1 ∧ StrsIn (fun g => S g ∧ wr.heap.size ≤ g) w' (.slice qa nP qc) P1) ?loc ?step ?fin
      case loc =>
        rintro S r w1 w3 ⟨va2, vc2, qa, qc, rfl, h1, h2⟩ hs hsame
        exact ⟨va2, vc2, qa, qc, rfl, h1.to ⟨hs, fun g hg hS => hsame g hS.1 hg⟩ (fun _ _ h => h), h2.to ⟨hs, fun g hg hS => hsame g hS.1 hg⟩ (fun _ _ h => h)⟩
      case step =>
        intro i o ho a' w' r hb hfree hvals
        have f2 : a'.eval (.tmp 2) = .pointer (some ⟨M, 0, none⟩) := (hfree 2 (by kernel_rfl)).trans rfl
        have f1 : a'.eval (.tmp 1) = .slice (some ⟨b, off, none⟩) n vc := (hfree 1 (by kernel_rfl)).trans rfl
        have f8 : a'.eval (.tmp 8) = .int .i64 k := (hfree 8 (by kernel_rfl)).trans rfl
        obtain ⟨y0, y1, y2, y3, y4, y5, y6⟩ := (HMr.out.below hb HMr.out.lt).sevenc
        obtain ⟨j0, j1, j2, j3, j4, j5, j6⟩ := HAT.out.below hb hbl
        match i, ho with
        | 0, ho =>
          simp at ho; subst ho
          show (execOp a'.eval _).run _ w' = .ok (.value _) w'
          generalize a'.eval = ρ at *
          simp [execOp, go_sem, f2]
        | 1, ho =>
          simp at ho; subst ho
          have e22 : a'.eval (.tmp 22) = .pointer (some ⟨M, 3, none⟩) := hvals 0 _ (by kernel_rfl) rfl
          show (execOp a'.eval _).run _ w' = .ok (.value _) w'
          generalize a'.eval = ρ at *
          simp [execOp, go_sem, e22, y3]
        | 2, ho =>
          simp at ho; subst ho
          show (execOp a'.eval _).run _ w' = .ok (.value _) w'
          generalize a'.eval = ρ at *
          simp [execOp, go_sem, f1]
        | 3, ho =>
          simp at ho; subst ho
          show (execOp a'.eval _).run _ w' = .ok (.value _) w'
          generalize a'.eval = ρ at *
          simp [execOp, go_sem, f8]
        | 4, ho =>
          simp at ho; subst ho
          have e24 : a'.eval (.tmp 24) = .slice (some ⟨b, off, none⟩) n vc := hvals 2 _ (by kernel_rfl) rfl
          have e25 : a'.eval (.tmp 25) = .int .i64 k := hvals 3 _ (by kernel_rfl) rfl
          show (execOp a'.eval _).run _ w' = .ok (.value _) w'
          generalize a'.eval = ρ at *
          simp [execOp, go_sem, e24, e25, hlti]
        | 5, ho =>
          simp at ho; subst ho
          have e26 : a'.eval (.tmp 26) = .pointer (some ⟨b, off + k * 7, none⟩) := hvals 4 _ (by kernel_rfl) rfl
          show (execOp a'.eval _).run _ w' = .ok (.value _) w'
          generalize a'.eval = ρ at *
          simp [execOp, go_sem, e26, j0, j1, j2, j3, j4, j5, j6]
        | 6, ho =>
          simp at ho; subst ho
          have e23 : a'.eval (.tmp 23) = .agg #[.slice bo bn bc] := hvals 1 _ (by kernel_rfl) rfl
          have e27 : a'.eval (.tmp 27) = .agg #[.int .i64 x.n, .int .i64 x.p.seq, .int .i64 x.p.time, .bool x.p.f, .bool x.p.e, .bool x.p.k, .string x.p.t] := hvals 5 _ (by kernel_rfl) rfl
          have ef : a'.eval (.func 120) = .func (.func 120) #[] #[] := rfl
          show ∃ f args, (execOp a'.eval _).run _ w' = .ok (.enter f args) w' ∧ _
          generalize a'.eval = ρ at *
          refine ⟨120, #[.agg #[.slice bo bn bc], .agg #[.int .i64 x.n, .int .i64 x.p.seq, .int .i64 x.p.time, .bool x.p.f, .bool x.p.e, .bool x.p.k, .string x.p.t]], by simp [execOp, go_sem, e23, e27, ef], ?_⟩
          refine (HADD.out w' hb).mono ?_
          rintro e w'' ⟨va2, vc2, qa, qc, rfl, h1, h2, hb4⟩
          exact ⟨_, rfl, ⟨va2, vc2, qa, qc, rfl, h1.out.mono (fun g hl hg => ⟨⟨hl, .inr hg⟩, (by have := hb.size; omega)⟩), h2.out.mono (fun g hl hg => ⟨⟨hl, .inr hg⟩, (by have := hb.size; omega)⟩)⟩, hb4⟩
        | 7, ho =>
          simp at ho; subst ho
          have e28 : a'.eval (.tmp 28) = r := hvals 6 _ (by kernel_rfl) rfl
          show ∀ S, _ → (execOp a'.eval _).run _ w' = .ok (.value _) w'
          rintro S ⟨va2, vc2, qa, qc, rfl, _, _⟩
          try simp only [exT] at e28
          generalize a'.eval = ρ at *
          simp [execOp, go_sem, e28]
        | 8, ho =>
          simp at ho; subst ho
          have e21 : a'.eval (.tmp 21) = r := hvals 7 _ (by kernel_rfl) rfl
          show ∀ S, _ → (execOp a'.eval _).run _ w' = .ok (.value _) w'
          rintro S ⟨va2, vc2, qa, qc, rfl, _, _⟩
          try simp only [exT] at e21
          generalize a'.eval = ρ at *
          simp [execOp, go_sem, e21, exT]
        | 9, ho =>
          simp at ho; subst ho
          have e21 : a'.eval (.tmp 21) = r := hvals 7 _ (by kernel_rfl) rfl
          show ∀ S, _ → (execOp a'.eval _).run _ w' = .ok (.value _) w'
          rintro S ⟨va2, vc2, qa, qc, rfl, _, _⟩
          try simp only [exT] at e21
          generalize a'.eval = ρ at *
          simp [execOp, go_sem, e21, exT]
        | 10, ho =>
          simp at ho; subst ho
          have e21 : a'.eval (.tmp 21) = r := hvals 7 _ (by kernel_rfl) rfl
          show ∀ S, _ → (execOp a'.eval _).run _ w' = .ok (.value _) w'
          rintro S ⟨va2, vc2, qa, qc, rfl, _, _⟩
          try simp only [exT] at e21
          generalize a'.eval = ρ at *
          simp [execOp, go_sem, e21, exT]
        | 11, ho =>
          simp at ho; subst ho
          show (execOp a'.eval _).run _ w' = .ok (.value _) _
          generalize a'.eval = ρ at *
          simp [execOp, go_sem]
        | 12, ho =>
          simp at ho; subst ho
          show (execOp a'.eval _).run _ w' = .ok (.value _) _
          generalize a'.eval = ρ at *
          simp [execOp, go_sem]
        | 13, ho =>
          simp at ho; subst ho
          have e29 : a'.eval (.tmp 29) = (exT 0) r := hvals 8 _ (by kernel_rfl) rfl
          show ∀ S, _ → ∀ t z g C, _ → _ → _ → _ → ∃ w'', (execOp a'.eval _).run _ w' = .ok .skip w'' ∧ _
          rintro S ⟨va2, vc2, qa, qc, rfl, _, _⟩ t z g C hz hC hs (eb : a'.eval (.tmp 9) = _)
          cases hz
          obtain ⟨u0, q0⟩ := cells1 hC hs
          have p0 := hC.free 0
          obtain ⟨m1, m2, m3⟩ := set1 hC hs (.slice va2 nB vc2)
          simp only [exT] at e29
          generalize a'.eval = ρ at *
          exact ⟨_, by simp [execOp, go_sem, e29, eb, q0, p0], m1, m2, rfl, m3, rfl, rfl, rfl⟩
        | 14, ho =>
          simp at ho; subst ho
          have e30 : a'.eval (.tmp 30) = (exT 1) r := hvals 9 _ (by kernel_rfl) rfl
          show ∀ S, _ → ∀ t z g C, _ → _ → _ → _ → ∃ w'', (execOp a'.eval _).run _ w' = .ok .skip w'' ∧ _
          rintro S ⟨va2, vc2, qa, qc, rfl, _, _⟩ t z g C hz hC hs (eb : a'.eval (.tmp 10) = _)
          cases hz
          obtain ⟨u0, u1, u2, q0, q1, q2⟩ := cells3 hC hs
          have p0 := hC.free 0
          have p1 := hC.free 1
          have p2 := hC.free 2
          obtain ⟨m1, m2, m3⟩ := set3 hC hs (.int .i64 T1) (.bool K1) (.slice qa nP qc)
          simp only [exT] at e30
          generalize a'.eval = ρ at *
          exact ⟨_, by simp [execOp, go_sem, e30, eb, q0, q1, q2, p0, p1, p2], m1, m2, rfl, m3, rfl, rfl, rfl⟩
        | 15, ho =>
          simp at ho; subst ho
          have e31 : a'.eval (.tmp 31) = (exT 2) r := hvals 10 _ (by kernel_rfl) rfl
          show ∀ S, _ → (execOp a'.eval _).run _ w' = .ok (.value _) w'
          rintro S ⟨va2, vc2, qa, qc, rfl, _, _⟩
          try simp only [exT] at e31
          generalize a'.eval = ρ at *
          simp [execOp, go_sem, e31, exT]
        | i + 16, ho => simp at ho
      case fin =>
        rintro r gs Sr W hb ⟨va2, vc2, qa, qc, rfl, h1, h2⟩ hS hbox hap
        obtain ⟨p1, p2, C, p3, p4⟩ := hbox 11 _ _ (by decide) rfl
        have p5 := p4 13 _ (by decide) rfl
        subst p5
        obtain ⟨o1, o2, C', o3, o4⟩ := hbox 12 _ _ (by decide) rfl
        have o5 := o4 14 _ (by decide) rfl
        subst o5
        have KP : Hid (Blk W (gs 11) #[.slice va2 nB vc2] 59) := p3
        have KO : Hid (Blk W (gs 12) #[.int .i64 T1, .bool K1, .slice qa nP qc] 30) := o3
        simp only [putK, Kd.out, exT, Act.put, List.setIfInBounds_toArray, List.set_cons_succ, List.set_cons_zero, List.getElem?_toArray, List.getElem?_cons_zero, List.getElem?_cons_succ, Option.getD_some]
        obtain ⟨p, hp⟩ : ∃ p, p = gs 11 := ⟨_, rfl⟩
        obtain ⟨q, hq⟩ : ∃ p, p = gs 12 := ⟨_, rfl⟩
        rw [← hp] at KP p1
        rw [← hq] at KO o1
        rw [← hp, ← hq]
        have HBW : Hid (Below wr.heap.size wr W) := hb
        have H1 : Hid (SlsIn (fun g => wr.heap.size ≤ g) W (.slice va2 nB vc2) B1) := h1.mono fun _ _ h => h.2
        have H2 : Hid (StrsIn (fun g => wr.heap.size ≤ g) W (.slice qa nP qc) P1) := h2.mono fun _ _ h => h.2
        clear hp hq h1 h2 hS hbox hap p2 p3 p4 o2 o3 o4 hb HADD HAT hbl
        have HMW : Hid (Blk W M #[.int .i64 tk.last, .int .i64 tk.next, .slice ha hn hc, .slice bo bn bc, .int .i64 tk.first, .slice ga ln gc, .slice oa lo oc] 61) := HMr.out.below HBW.out HMr.out.lt
        have HRW : Hid (TrIn (fun g => S g ∧ g ≠ M ∧ g ≠ M + 1) W (.slice ha hn hc) (.slice bo bn bc) (.slice ga ln gc) (.slice oa lo oc) tk) := HTr.out.below HBW.out
        have HKW : Hid (Kept [M] V W) := HK.out.below HBW.out
        clear HMr HTr HK
        have x0 := KP.out.one
        obtain ⟨y0, y1, y2, y3, y4, y5, y6⟩ := HMW.out.sevenc
        have fM := HMW.out.free
        have lM := HMW.out.lt
        have hpM : ¬ p = M := by omega
        have hqM : ¬ q = M := by omega
        obtain ⟨W2, hW2⟩ : ∃ V, V = W.setCell ⟨M, 3, none⟩ (.slice va2 nB vc2) := ⟨_, rfl⟩
        have hKs : Kept [M] W W2 := by rw [hW2]; exact (Kept.refl _ _).setCell (p := ⟨M, 3, none⟩) (by simp) _
        have HMV : Hid (Blk W2 M #[.int .i64 tk.last, .int .i64 tk.next, .slice ha hn hc, .slice va2 nB vc2, .int .i64 tk.first, .slice ga ln gc, .slice oa lo oc] 61) := by
          have := HMW.out.set 3 (.slice va2 nB vc2)
          rw [hW2]; simpa [Hid] using this
        have KOV : Hid (Blk W2 q #[.int .i64 T1, .bool K1, .slice qa nP qc] 30) := KO.out.kept hKs (by simp; exact hqM)
        have HTV : Hid (TrIn (fun g => S g ∧ g ≠ M ∧ g ≠ M + 1) W2 (.slice ha hn hc) (.slice va2 nB vc2) (.slice ga ln gc) (.slice oa lo oc) ⟨tk.last, tk.next, tk.h, B1, tk.first, tk.L, tk.O⟩) := by
          have so : SameOn (fun g => S g ∧ g ≠ M ∧ g ≠ M + 1) W W2 := hKs.sameTo (fun g h => by simp; exact h.2.1)
          have so2 : SameOn (fun g => wr.heap.size ≤ g) W W2 := hKs.sameTo (fun g h => by simp; omega)
          exact ⟨HRW.out.1.to so (fun _ _ h => h), H1.out.to so2 (fun g _ h => ⟨HSU.out g (by omega), by omega, by omega⟩), HRW.out.2.2.1.to so (fun _ _ h => h), HRW.out.2.2.2.to so (fun _ _ h => h)⟩
        have HPN : Hid (∀ U, Below W2.heap.size W2 U → StrsIn (fun g => S g ∧ g ≠ M ∧ g ≠ M + 1) U (.slice qa nP qc) P1) := fun U hU => ((H2.out.to (hKs.sameTo (X := fun g => wr.heap.size ≤ g) (fun g h => by simp; omega)) (fun g _ h => (⟨HSU.out g (by omega), by omega, by omega⟩ : S g ∧ g ≠ M ∧ g ≠ M + 1)))).below hU
        have HPV : Hid (StrsIn (fun _ => True) W2 (.slice qa nP qc) P1) := H2.out.to (hKs.sameTo (X := fun g => wr.heap.size ≤ g) (fun g h => by simp; omega)) (fun _ _ _ => trivial)
        have HKV : Hid (Kept [M] V W2) := HKW.out.trans hKs
        have hs2 : wr.heap.size ≤ W2.heap.size := Nat.le_trans HBW.out.size hKs.size
        clear hKs HRW H1 H2 KO HMW HKW HBW
        cases W1
        case false =>
          have HH1 : Hid (tk1 tk x = (⟨tk.last, tk.next, tk.h, B1, tk.first, tk.L, tk.O⟩, 0, 0)) := HT0.out rfl
          have HRX' : Hid (R = tkN (l.drop (k + 1)) ((⟨tk.last, tk.next, tk.h, B1, tk.first, tk.L, tk.O⟩, ck))) := by
            have h := HRX.out
            rcases Int.decEq E 0 with hE | hE
            · exfalso
              rw [if_neg hE] at h
              have := HEE.out
              rw [HH1.out] at this
              exact hE this
            · rw [if_pos hE, HH1.out] at h; exact h
          have HO3 : Hid (TkOk ⟨tk.last, tk.next, tk.h, B1, tk.first, tk.L, tk.O⟩) := by
            have h := HO2.out (by have := HEE.out; rw [HH1.out] at this; exact this)
            rw [HH1.out] at h
            exact h
          clear HRX HO2 HT0 HT1 HF1 HST HH1 HEE hle
          go_wp2_with fail
          rw [← hW2]
          clear hW2 x0 y0 y1 y2 y3 y4 y5 y6 fM lM
          go_roundw
          case rel => exact ⟨k + 1, ⟨tk.last, tk.next, tk.h, B1, tk.first, tk.L, tk.O⟩, ck, ha, hn, hc, va2, nB, vc2, ga, ln, gc, oa, lo, oc, by omega, rfl, by go_num, HMV.out, HTV.out, HO3.out, HRX'.out, by omega, HKV.out⟩
          case measure => simp [intOf]; omega
        case true =>
          have HH1 := HT1.out rfl
          obtain ⟨F2, hF2⟩ : ∃ E, E = addsF tk.first tk.L tk.O ⟨T1, K1, P1⟩ := ⟨_, rfl⟩
          obtain ⟨L2, hL2⟩ : ∃ E, E = addsL tk.first tk.L tk.O ⟨T1, K1, P1⟩ := ⟨_, rfl⟩
          obtain ⟨O2, hO2⟩ : ∃ E, E = addsO tk.first tk.L tk.O ⟨T1, K1, P1⟩ := ⟨_, rfl⟩
          obtain ⟨B2, hB2⟩ : ∃ E, E = addsB tk.first tk.L tk.O ⟨T1, K1, P1⟩ := ⟨_, rfl⟩
          obtain ⟨E2, hE2⟩ : ∃ E, E = addsE tk.first tk.L tk.O ⟨T1, K1, P1⟩ := ⟨_, rfl⟩
          obtain ⟨nL, hnL⟩ : ∃ n, n = L2.length := ⟨_, rfl⟩
          obtain ⟨nO, hnO⟩ : ∃ n, n = O2.length := ⟨_, rfl⟩
          have HSA : Hid (∀ U : World, Below W2.heap.size W2 U → Calls Tryz.prog 13 #[.agg #[.int .i64 tk.first, .slice ga ln gc, .slice oa lo oc], .agg #[.int .i64 T1, .bool K1, .slice qa nP qc]] U fun e w' => ∃ a1 c1 a2 c2, e = .returned (.tuple #[.agg #[.int .i64 F2, .slice a1 nL c1, .slice a2 nO c2], .bool B2, .int .i64 E2]) ∧ Hid (GrsIn (fun g => S g ∧ g ≠ M ∧ g ≠ M + 1) w' (.slice a1 nL c1) L2) ∧ Hid (FrsIn (fun g => S g ∧ g ≠ M ∧ g ≠ M + 1) w' (.slice a2 nO c2) O2) ∧ Below U.heap.size U w') := fun U hU => by
            have hUs := hU.size
            refine (refStoreAdd_in (fun g => S g ∧ g ≠ M ∧ g ≠ M + 1) tk.first _ _ _ tk.L tk.O ⟨T1, K1, P1⟩ U (HTV.out.2.2.1.below hU) (HTV.out.2.2.2.below hU) (HPN.out U hU) HST.out (HF1.out rfl)).mono ?_
            rintro e w' ⟨gv', ov', rfl, h1, h2, h3⟩
            rw [← hL2] at h1
            rw [← hO2] at h2
            obtain ⟨a1, c1, e1, _⟩ := h1.len
            obtain ⟨a2, c2, e2, _⟩ := h2.len
            rw [← hnL] at e1
            rw [← hnO] at e2
            subst e1 e2
            rw [← hF2, ← hB2, ← hE2]
            exact ⟨a1, c1, a2, c2, rfl, h1.mono (fun g _ h => by
              rcases h with h | h
              · exact h
              · exact ⟨HSU.out g (by omega), by omega, by omega⟩), h2.mono (fun g _ h => by
              rcases h with h | h
              · exact h
              · exact ⟨HSU.out g (by omega), by omega, by omega⟩), h3⟩
          rw [← hF2, ← hL2, ← hO2, ← hB2, ← hE2] at HH1
          have HH : Hid (tk1 tk x = (⟨tk.last, tk.next, tk.h, B1, F2, L2, O2⟩, if B2 then 1 else 0, E2)) := HH1
          have e2 : E2 = E := by have := HEE.out; rw [HH1] at this; exact this.symm
          subst e2
          have HBB : Hid (B2 = addsB tk.first tk.L tk.O ⟨T1, K1, P1⟩) := hB2
          clear hF2 hL2 hO2 hB2 hE2 hnL hnO HH1 HT0 HT1 HF1 HST HPV HEE HPN
          go_upto_region 8 with fail
          rw [← hW2]
          clear hW2 x0 y0 y1 y2 y3 y4 y5 y6 fM lM
          obtain ⟨y0, y1, y2, y3, y4, y5, y6⟩ := HMV.out.sevenc
          obtain ⟨f0, f1, f2⟩ := KOV.out.three
          go_wp2_with fail
          refine (HSA.out W2 (Below.refl _ _)).mono ?_
          rintro e w5 ⟨a1, c1, a2, c2, rfl, G1, G2, c5⟩
          have HM5 : Hid (Blk w5 M #[.int .i64 tk.last, .int .i64 tk.next, .slice ha hn hc, .slice va2 nB vc2, .int .i64 tk.first, .slice ga ln gc, .slice oa lo oc] 61) := HMV.out.below c5 HMV.out.lt
          have HK5 : Hid (Kept [M] V w5) := HKV.out.below c5
          have HT5 := HTV.out.below c5
          clear y0 y1 y2 y3 y4 y5 y6 f0 f1 f2 HMV HKV KOV HSA
          obtain ⟨W6, hW6⟩ : ∃ W, W = w5.alloc (.cells #[.int .i64 F2, .slice a1 nL c1, .slice a2 nO c2] 27) := ⟨_, rfl⟩
          have b6 : Below w5.heap.size w5 W6 := by rw [hW6]; exact (Below.refl _ _).alloc (Nat.le_refl _) _
          have HM6 : Hid (Blk W6 M #[.int .i64 tk.last, .int .i64 tk.next, .slice ha hn hc, .slice va2 nB vc2, .int .i64 tk.first, .slice ga ln gc, .slice oa lo oc] 61) := HM5.out.below b6 HM5.out.lt
          have HX6 : Hid (Blk W6 w5.heap.size #[.int .i64 F2, .slice a1 nL c1, .slice a2 nO c2] 27) := Blk.newE hW6
          have HK6 : Hid (Kept [M] V W6) := HK5.out.below b6
          have HT6 : Hid (TrIn (fun g => S g ∧ g ≠ M ∧ g ≠ M + 1) W6 (.slice ha hn hc) (.slice va2 nB vc2) (.slice a1 nL c1) (.slice a2 nO c2) ⟨tk.last, tk.next, tk.h, B1, F2, L2, O2⟩) := ⟨HT5.1.below b6, HT5.2.1.below b6, G1.out.below b6, G2.out.below b6⟩
          have hM5 := HM5.out.lt
          clear b6 HM5 HK5 HT5 G1 G2
          by_cases hE0 : E2 = 0
          · have HRX' : Hid (R = tkN (l.drop (k + 1)) (⟨tk.last, tk.next, tk.h, B1, F2, L2, O2⟩, ck + (if B2 then 1 else 0))) := by
              have h := HRX.out
              rw [if_pos hE0, HH.out] at h; exact h
            have HO3 : Hid (TkOk ⟨tk.last, tk.next, tk.h, B1, F2, L2, O2⟩) := by
              have h := HO2.out hE0
              rw [HH.out] at h; exact h
            clear HRX HO2 HH hle
            subst hE0
            obtain ⟨y0, y1, y2, y3, y4, y5, y6⟩ := HM6.out.sevenc
            have fM := HM6.out.free
            have lM := HM6.out.lt
            obtain ⟨s0, s1, s2⟩ := HX6.out.three
            obtain ⟨W7, hW7⟩ : ∃ W, W = ((W6.setCell ⟨M, 4, none⟩ (.int .i64 F2)).setCell ⟨M, 5, none⟩ (.slice a1 nL c1)).setCell ⟨M, 6, none⟩ (.slice a2 nO c2) := ⟨_, rfl⟩
            have hK7 : Kept [M] W6 W7 := by rw [hW7]; exact (((Kept.refl _ _).setCell (p := ⟨M, 4, none⟩) (by simp) _).setCell (p := ⟨M, 5, none⟩) (by simp) _).setCell (p := ⟨M, 6, none⟩) (by simp) _
            have HM7 : Hid (Blk W7 M #[.int .i64 tk.last, .int .i64 tk.next, .slice ha hn hc, .slice va2 nB vc2, .int .i64 F2, .slice a1 nL c1, .slice a2 nO c2] 61) := by
              have := ((HM6.out.set 4 (.int .i64 F2)).set 5 (.slice a1 nL c1)).set 6 (.slice a2 nO c2)
              rw [hW7]; simpa [Hid] using this
            have HT7 : Hid (TrIn (fun g => S g ∧ g ≠ M ∧ g ≠ M + 1) W7 (.slice ha hn hc) (.slice va2 nB vc2) (.slice a1 nL c1) (.slice a2 nO c2) ⟨tk.last, tk.next, tk.h, B1, F2, L2, O2⟩) := HT6.out.to (hK7.sameTo (fun g h => by simp; exact h.2.1)) (fun _ _ h => h)
            have HK7 : Hid (Kept [M] V W7) := HK6.out.trans hK7
            clear hK7 HM6 HK6 HT6
            have hck1 : IntKind.i64.wrap ((ck : Int) + 1) = (ck : Int) + 1 := by rw [IntKind.wrap_i64]; omega
            go_upto_region 9 with fail
            rw [← hW6]
            clear hW6
            go_upto_region 12 with fail
            rw [← hW7]
            clear hW7 y0 y1 y2 y3 y4 y5 y6 fM lM s0 s1 s2
            cases B2
            · go_wp2_with fail
              go_roundw
              case rel => exact ⟨k + 1, ⟨tk.last, tk.next, tk.h, B1, F2, L2, O2⟩, ck, ha, hn, hc, va2, nB, vc2, a1, nL, c1, a2, nO, c2, by omega, rfl, by go_num, HM7.out, HT7.out, HO3.out, HRX'.out, by omega, HK7.out⟩
              case measure => simp [intOf]; omega
            · go_wp2_with fail
              go_roundw
              case rel => exact ⟨k + 1, ⟨tk.last, tk.next, tk.h, B1, F2, L2, O2⟩, ck + 1, ha, hn, hc, va2, nB, vc2, a1, nL, c1, a2, nO, c2, by omega, by go_num, by go_num, HM7.out, HT7.out, HO3.out, HRX'.out, by omega, HK7.out⟩
              case measure => simp [intOf]; omega
          · have HRX' : Hid (R = (Tr.zero, 0, E2)) := by
              have h := HRX.out
              rw [if_neg hE0] at h; exact h
            have HZ6 : Hid (Blk W6 (M + 1) #[.int .i64 0, .int .i64 0, .slice none 0 0, .slice none 0 0, .int .i64 0, .slice none 0 0, .slice none 0 0] 61) := HZV.out.kept HK6.out (by simp)
            have HB6 : Hid (Below M V W6) := HK6.out.toBelow (by omega) (by simp)
            clear HRX HO2 HH hle HM6 HT6 HK6 HX6
            obtain ⟨y0, y1, y2, y3, y4, y5, y6⟩ := HZ6.out.sevenc
            have fM := HZ6.out.free
            have lM := HZ6.out.lt
            obtain ⟨W7, hW7⟩ : ∃ W, W = ((((((W6.setCell ⟨M + 1, 0, none⟩ (.int .i64 0)).setCell ⟨M + 1, 1, none⟩ (.int .i64 0)).setCell ⟨M + 1, 2, none⟩ (.slice none 0 0)).setCell ⟨M + 1, 3, none⟩ (.slice none 0 0)).setCell ⟨M + 1, 4, none⟩ (.int .i64 0)).setCell ⟨M + 1, 5, none⟩ (.slice none 0 0)).setCell ⟨M + 1, 6, none⟩ (.slice none 0 0) := ⟨_, rfl⟩
            have HZ7 : Hid (Blk W7 (M + 1) #[.int .i64 0, .int .i64 0, .slice none 0 0, .slice none 0 0, .int .i64 0, .slice none 0 0, .slice none 0 0] 61) := by
              have := ((((((HZ6.out.set 0 (.int .i64 0)).set 1 (.int .i64 0)).set 2 (.slice none 0 0)).set 3 (.slice none 0 0)).set 4 (.int .i64 0)).set 5 (.slice none 0 0)).set 6 (.slice none 0 0)
              rw [hW7]; simpa [Hid] using this
            have HB7 : Hid (Below M w W7) := by
              show Below _ _ _
              rw [hW7]
              exact seven_belowR (HBV.out.trans HB6.out) (by omega) _ _ _ _ _ _ _
            clear HZ6 HB6
            go_upto_region 10 with fail
            rw [← hW6]
            clear hW6
            go_wp2
            rw [← hW7]
            clear hW7 y0 y1 y2 y3 y4 y5 y6 fM lM
            obtain ⟨y0, y1, y2, y3, y4, y5, y6⟩ := HZ7.out.sevenc
            refine bodyPost_ret (v := .tuple #[.agg #[.int .i64 0, .int .i64 0, .slice none 0 0, .slice none 0 0, .int .i64 0, .slice none 0 0, .slice none 0 0], .int .i64 0, .int .i64 E2]) (by simp [results, Tryz.results76, go_sem, y0, y1, y2, y3, y4, y5, y6]) rfl ?_
            rw [HRX'.out]
            exact ⟨_, _, _, _, rfl, TrIn.zero _ _, by have := HB7.out; rw [HMe.out] at this; exact this⟩
    · have hkn : k = n := by omega
      subst hkn
      have HRX' : Hid (R = (tk, ck, 0)) := by
        show R = _
        rw [HR.out, HN.out, List.drop_length]; rfl
      have HZ6 : Hid (Blk wr (M + 1) #[.int .i64 0, .int .i64 0, .slice none 0 0, .slice none 0 0, .int .i64 0, .slice none 0 0, .slice none 0 0] 61) := HZV.out.kept HK.out (by simp)
      have HB6 : Hid (Below M V wr) := HK.out.toBelow (by omega) (by simp)
      clear HR HO HK
      obtain ⟨y0, y1, y2, y3, y4, y5, y6⟩ := HMr.out.sevenc
      obtain ⟨z0, z1, z2, z3, z4, z5, z6⟩ := HZ6.out.sevenc
      have fM := HZ6.out.free
      have lM := HZ6.out.lt
      obtain ⟨W7, hW7⟩ : ∃ W, W = ((((((wr.setCell ⟨M + 1, 0, none⟩ (.int .i64 tk.last)).setCell ⟨M + 1, 1, none⟩ (.int .i64 tk.next)).setCell ⟨M + 1, 2, none⟩ (.slice ha hn hc)).setCell ⟨M + 1, 3, none⟩ (.slice bo bn bc)).setCell ⟨M + 1, 4, none⟩ (.int .i64 tk.first)).setCell ⟨M + 1, 5, none⟩ (.slice ga ln gc)).setCell ⟨M + 1, 6, none⟩ (.slice oa lo oc) := ⟨_, rfl⟩
      have HZ7 : Hid (Blk W7 (M + 1) #[.int .i64 tk.last, .int .i64 tk.next, .slice ha hn hc, .slice bo bn bc, .int .i64 tk.first, .slice ga ln gc, .slice oa lo oc] 61) := by
        have := ((((((HZ6.out.set 0 (.int .i64 tk.last)).set 1 (.int .i64 tk.next)).set 2 (.slice ha hn hc)).set 3 (.slice bo bn bc)).set 4 (.int .i64 tk.first)).set 5 (.slice ga ln gc)).set 6 (.slice oa lo oc)
        rw [hW7]; simpa [Hid] using this
      have HB7 : Hid (Below M w W7) := by
        show Below _ _ _
        rw [hW7]
        exact seven_belowR (HBV.out.trans HB6.out) (by omega) _ _ _ _ _ _ _
      have hk7 : Kept [M + 1] wr W7 := by
        rw [hW7]
        exact (((((((Kept.refl [M + 1] wr).setCell (p := ⟨M + 1, 0, none⟩) (by simp) _).setCell (p := ⟨M + 1, 1, none⟩) (by simp) _).setCell (p := ⟨M + 1, 2, none⟩) (by simp) _).setCell (p := ⟨M + 1, 3, none⟩) (by simp) _).setCell (p := ⟨M + 1, 4, none⟩) (by simp) _).setCell (p := ⟨M + 1, 5, none⟩) (by simp) _).setCell (p := ⟨M + 1, 6, none⟩) (by simp) _
      have HT7 : Hid (TrIn S W7 (.slice ha hn hc) (.slice bo bn bc) (.slice ga ln gc) (.slice oa lo oc) tk) := HTr.out.to (hk7.sameTo (fun g h => by simp; exact h.2.2)) (fun _ _ h => h.1)
      clear HZ6 HB6 HTr HMr hk7
      go_wp2
      rw [← hW7]
      clear hW7 y0 y1 y2 y3 y4 y5 y6 z0 z1 z2 z3 z4 z5 z6 fM lM
      obtain ⟨y0, y1, y2, y3, y4, y5, y6⟩ := HZ7.out.sevenc
      refine bodyPost_ret (v := .tuple #[.agg #[.int .i64 tk.last, .int .i64 tk.next, .slice ha hn hc, .slice bo bn bc, .int .i64 tk.first, .slice ga ln gc, .slice oa lo oc], .int .i64 ck, .int .i64 0]) (by simp [results, Tryz.results76, go_sem, y0, y1, y2, y3, y4, y5, y6]) rfl ?_
      rw [HRX'.out]
      exact ⟨_, _, _, _, rfl, HT7.out, by have := HB7.out; rw [HMe.out] at this; exact this⟩

end Go.Proofs.YtnpaejknoipicafGreat

namespace Go.Proofs.YtnpaejknoipicafGreat
open Go.RowKit

theorem bgo_split (next : Int) (x : Sk) (s : List Sk) : ∀ (r : List Sk) (last : Int), bgo next last r = 0 → bgo next last (r ++ x :: s) = bgo next (r.foldl (fun _ y => y.n) last) (x :: s)
  | [], _, _ => rfl
  | y :: r, last, h => by
    simp only [List.cons_append, List.foldl_cons]
    by_cases hy : y.chk = 0
    · by_cases h2 : y.n ≤ next ∨ y.n ≤ last
      · simp [bgo, hy, h2] at h
      · have h' : bgo next y.n r = 0 := by simpa [bgo, hy, h2] using h
        have := bgo_split next x s r y.n h'
        rw [← this]
        conv => lhs; unfold bgo
        rw [if_pos hy, if_neg h2]
    · simp [bgo, hy] at h
theorem last_at (l : List Sk) (n : Int) (k : Nat) (hk : k ≤ l.length) : (l.take k).foldl (fun _ y => y.n) n = if k = 0 then n else (l[k - 1]?.getD Sk.zero).n := by
  cases k with
  | zero => simp
  | succ k =>
    rw [take_one (by omega) Sk.zero, List.foldl_append]
    simp
theorem bgo_at (next : Int) (l : List Sk) (k : Nat) (hk : k < l.length) (h : bgo next next (l.take k) = 0) :
    bgo next next l = bgo next (if k = 0 then next else (l[k - 1]?.getD Sk.zero).n) ((l[k]?.getD Sk.zero) :: l.drop (k + 1)) := by
  have e : l = l.take k ++ (l[k]?.getD Sk.zero) :: l.drop (k + 1) := by
    rw [List.getElem?_eq_getElem hk, Option.getD_some, ← List.drop_eq_getElem_cons hk, List.take_append_drop]
  conv => lhs; rw [e]
  rw [bgo_split next _ _ _ _ h, last_at l next k (by omega)]
theorem bgo_at1 (next : Int) (l : List Sk) (k : Nat) (hk : k < l.length) (h : bgo next next (l.take k) = 0) :
    bgo next next (l.take (k + 1)) = bgo next (if k = 0 then next else (l[k - 1]?.getD Sk.zero).n) [l[k]?.getD Sk.zero] := by
  rw [take_one hk Sk.zero, bgo_split next _ _ _ _ h, last_at l next k (by omega)]

set_option maxHeartbeats 2000000 in
set_option maxRecDepth 100000 in
theorem refCheckBuffer_any (next : Int) (v : Value) (l : List Sk) (w : World) (hv : Sls w v l) (hlen : l.length ≤ 9223372036854775807) :
    Calls Tryz.prog 71 #[.agg #[.int .i64 next, v]] w fun e w' => e = .returned (.int .i64 (bchk next l)) ∧ Below w.heap.size w w' := by
  obtain ⟨ao, c, hva, hc⟩ := hv.parts
  obtain ⟨n, hn⟩ : ∃ n, n = l.length := ⟨_, rfl⟩
  obtain ⟨r, hr⟩ : ∃ r, r = bchk next l := ⟨_, rfl⟩
  rw [← hn] at hva
  rw [← hr]
  have HR : Hid (r = bchk next l) := hr
  have HN : Hid (n = l.length) := hn
  have HC : Hid (∀ k, k < l.length → ∃ b off, ao = some ⟨b, off, none⟩ ∧ b < w.heap.size ∧ At7 w b (off + k * 7) (l[k]?.getD Sk.zero)) := hc
  have hln : n ≤ 9223372036854775807 := by omega
  clear hr hv hn hlen hc
  subst hva
  cases hb : nextBad next
  · have hnx := nextBad_false.1 hb
    have h0 : next = 0 ∨ ¬ next = 0 ∧ Cn.betB next 65536 1000000001 = true := by
      rcases hnx with h | h
      · exact .inl h
      · exact .inr ⟨by omega, by simp [Cn.betB]; omega⟩
    by_cases h4 : 4 < n
    · have hr : r = 2 := by rw [HR.out]; unfold bchk; rw [hb, if_neg (by simp), if_pos (by rw [← HN.out]; exact h4)]
      rw [hr]
      clear hnx hb hr
      rcases h0 with rfl | ⟨h1, h2⟩
      all_goals
        go_enter Tryz.func71, Tryz.ntmps71
        go_wp2_with (go_at_call 50; refine (between_any _ _ _ _).mono ?_; rintro e w' ⟨rfl, rfl⟩)
        go_ret
        exact ⟨rfl, by go_grown⟩
    · have hr : Hid (bgo next next l = 0 → r = if next = 0 ∧ 0 < n then 4 else 0) := fun h => by rw [HR.out]; unfold bchk; rw [hb, if_neg (by simp), if_neg (by rw [← HN.out]; exact h4), if_pos h, HN.out]
      have hr2 : Hid (¬ bgo next next l = 0 → r = bgo next next l) := fun h => by rw [HR.out]; unfold bchk; rw [hb, if_neg (by simp), if_neg (by rw [← HN.out]; exact h4), if_neg h]
      clear hnx hb HR
      have hq : (next != 0) = false ∧ (next == 0) = true ∧ True ∨ (next != 0) = true ∧ (next == 0) = false ∧ Cn.betB next 65536 1000000001 = true := by
        rcases h0 with rfl | ⟨h1, h2⟩
        · exact .inl ⟨rfl, rfl, trivial⟩
        · exact .inr ⟨by simpa using h1, by simpa using h1, h2⟩
      clear h0
      rcases hq with ⟨hq1, hq2, hq3⟩ | ⟨hq1, hq2, hq3⟩
      all_goals
        go_enter Tryz.func71, Tryz.ntmps71
        go_wp2_with (go_at_call 50; refine (between_any _ _ _ _).mono ?_; rintro e w' ⟨rfl, rfl⟩)
        go_loopw [3] (fun i wr => ∃ k : Nat, k ≤ n ∧ i = .int .i64 k ∧ Hid (bgo next next (l.take k) = 0) ∧ Hid (Blk wr w.heap.size #[.int .i64 next, .slice ao n c] 57) ∧ Hid (Below w.heap.size w wr))
          (fun i _ => n - (intOf i).toNat)
        case atStart => exact ⟨0, Nat.zero_le _, rfl, (show bgo next next (l.take 0) = 0 from rfl), Blk.new w _ _, (Below.refl _ w).alloc (Nat.le_refl _) _⟩
        case round =>
          obtain ⟨k, hk, rfl, HK, HBl, HB⟩ := hrel
          obtain ⟨d0, d1⟩ := Blk.two HBl.out
          by_cases hlt : k < n
          · obtain ⟨b, off, rfl, hbb, hat⟩ := HC.out k (by rw [← HN.out]; exact hlt)
            obtain ⟨c0, c1, c2, c3, c4, c5, c6⟩ := hat.below HB.out hbb
            obtain ⟨x, hx⟩ : ∃ x, x = l[k]?.getD Sk.zero := ⟨_, rfl⟩
            rw [← hx] at c0 c1 c2 c3 c4 c5 c6 hat
            have HX : Hid (x = l[k]?.getD Sk.zero) := hx
            have HAT : Hid (At7 w b (off + k * 7) x) := hat
            clear hx hat
            obtain ⟨ch, hch⟩ : ∃ ch, ch = x.chk := ⟨_, rfl⟩
            have HCH : Hid (ch = x.chk) := hch
            have hck : ∀ w : World, Calls Tryz.prog 115 #[x.val] w fun e w' => e = .returned (.int .i64 ch) ∧ Below w.heap.size w w' := fun w => by rw [hch]; exact refSlot_any x w
            clear hch
            simp only [Sk.val] at hck
            go_wp2_with fail
            refine (hck _).mono ?_
            rintro e w1 ⟨rfl, hb1⟩
            have HB1 : Hid (Below w.heap.size w w1) := HB.out.trans (hb1.mono HB.out.size)
            have HBl1 : Hid (Blk w1 w.heap.size #[.int .i64 next, .slice (some ⟨b, off, none⟩) n c] 57) := Blk.below HBl.out hb1 (Blk.lt HBl.out)
            have g0 := (HAT.out.below HB1.out hbb).1
            obtain ⟨e0, e1⟩ := Blk.two HBl1.out
            clear hb1 hck c0 c1 c2 c3 c4 c5 c6 d0 d1 HBl HB
            by_cases h0 : ch = 0
            · subst h0
              have hlti : (k : Int) < (n : Int) := by omega
              by_cases hle : x.n ≤ next
              · have hres : r = 4 := by
                  have := bgo_at next l k (by rw [← HN.out]; exact hlt) HK.out
                  rw [← HX.out] at this
                  simp only [bgo, ← HCH.out, if_true] at this
                  rw [if_pos (.inl hle)] at this
                  rw [hr2.out (by rw [this]; decide), this]
                have hd : decide (x.n ≤ next) = true := decide_eq_true hle
                go_wp2
                go_quiet (fail)
                go_wp2
                go_ret
                exact ⟨by rw [hres]; rfl, below_drewN HB1.out _⟩
              · have hd : decide (x.n ≤ next) = false := decide_eq_false hle
                by_cases hk0 : k = 0
                · have HK1 : Hid (bgo next next (l.take (k + 1)) = 0) := by
                    show bgo next next (l.take (k + 1)) = 0
                    rw [bgo_at1 next l k (by rw [← HN.out]; exact hlt) HK.out, ← HX.out]
                    simp only [bgo, ← HCH.out, if_true]
                    rw [if_pos hk0, if_neg (by omega)]
                  have hd2 : decide (0 < k) = false := decide_eq_false (by omega)
                  clear hk0
                  go_wp2
                  go_quiet (fail)
                  go_wp2
                  go_roundw
                  case rel => exact ⟨k + 1, by omega, by go_num, HK1, HBl1.out, below_drewN HB1.out _⟩
                  case measure => simp [intOf]; omega
                · have hd2 : decide (0 < k) = true := decide_eq_true (by omega)
                  obtain ⟨b', off', hbo, hbb', hat'⟩ := HC.out (k - 1) (by rw [← HN.out]; omega)
                  cases hbo
                  have p0 := (hat'.below HB1.out hbb).1
                  obtain ⟨y, hy⟩ : ∃ y, y = l[k - 1]?.getD Sk.zero := ⟨_, rfl⟩
                  rw [← hy] at p0
                  have HY : Hid (y = l[k - 1]?.getD Sk.zero) := hy
                  obtain ⟨k1, hk1⟩ : ∃ k1, k1 = k - 1 := ⟨_, rfl⟩
                  rw [← hk1] at p0
                  have hkk : (k : Int) - 1 = (k1 : Int) := by omega
                  have hkn : (k1 : Int) < (n : Int) := by omega
                  have hwr : IntKind.i64.wrap (k1 : Int) = (k1 : Int) := by rw [IntKind.wrap_i64]; omega
                  have HK0 : Hid (¬ k = 0) := hk0
                  clear hy hat' hk0 hk1
                  by_cases hyl : x.n ≤ y.n
                  · have hd3 : decide (x.n ≤ y.n) = true := decide_eq_true hyl
                    have hres : r = 4 := by
                      have := bgo_at next l k (by rw [← HN.out]; exact hlt) HK.out
                      rw [← HX.out, ← HY.out] at this
                      simp only [bgo, ← HCH.out, if_true] at this
                      rw [if_neg HK0.out, if_pos (.inr hyl)] at this
                      rw [hr2.out (by rw [this]; decide), this]
                    go_wp2
                    go_quiet (fail)
                    go_wp2
                    go_ret
                    exact ⟨by rw [hres]; rfl, below_drewN HB1.out _⟩
                  · have hd3 : decide (x.n ≤ y.n) = false := decide_eq_false hyl
                    have HK1 : Hid (bgo next next (l.take (k + 1)) = 0) := by
                      show bgo next next (l.take (k + 1)) = 0
                      rw [bgo_at1 next l k (by rw [← HN.out]; exact hlt) HK.out, ← HX.out, ← HY.out]
                      simp only [bgo, ← HCH.out, if_true]
                      rw [if_neg HK0.out, if_neg (by omega)]
                    go_wp2
                    go_quiet (fail)
                    go_wp2
                    go_roundw
                    case rel => exact ⟨k + 1, by omega, by go_num, HK1, HBl1.out, below_drewN HB1.out _⟩
                    case measure => simp [intOf]; omega
            · have hres : r = ch := by
                have := bgo_at next l k (by rw [← HN.out]; exact hlt) HK.out
                rw [← HX.out] at this
                simp only [bgo, ← HCH.out] at this
                rw [if_neg h0] at this
                rw [hr2.out (by rw [this]; exact h0), this]
              go_wp2
              go_ret
              exact ⟨by rw [hres]; rfl, HB1.out⟩
          · have hkl : k = n := by omega
            subst hkl
            have hk0 := HK.out
            rw [HN.out, List.take_length] at hk0
            have hres := hr.out hk0
            have HRES : Hid (r = if next = 0 ∧ 0 < k then 4 else 0) := hres
            clear hres hk0
            by_cases hn0 : k = 0
            · subst hn0
              go_wp2
              go_ret
              exact ⟨by rw [HRES.out]; simp [Array.getD], HB.out⟩
            · have hn1 : (0 : Int) < (k : Int) := by omega
              go_wp2
              go_ret
              refine ⟨?_, HB.out⟩
              rw [HRES.out]
              first
                | (rw [if_pos ⟨by simpa using hq2, by omega⟩]; rfl)
                | (rw [if_neg (fun h => by have := h.1; simp [this] at hq2)]; rfl)
  · have hr : r = 3 := by rw [HR.out]; unfold bchk; rw [hb, if_pos rfl]
    rw [hr]
    have h0 : ¬ next = 0 := by rintro rfl; simp [nextBad] at hb
    have h1 : Cn.betB next 65536 1000000001 = false := by
      cases hbb : Cn.betB next 65536 1000000001
      · rfl
      · simp [nextBad] at hb; simp [Cn.betB] at hbb; omega
    clear hb hr
    go_enter Tryz.func71, Tryz.ntmps71
    go_wp2_with (go_at_call 50; refine (between_any _ _ _ _).mono ?_; rintro e w' ⟨rfl, rfl⟩)
    go_ret
    exact ⟨rfl, by go_grown⟩

end Go.Proofs.YtnpaejknoipicafGreat

namespace Go.Proofs.YtnpaejknoipicafGreat
open Go.RowKit

/-- what a round of released leaves -/
def Rel (V : Option Nat) (base B : Nat) (wr : World) (next : Int) (h o : List Sk) (ov : Value) : Prop :=
  ∃ a c, Blk wr B #[.int .i64 next, .slice a h.length c] 57 ∧ Blk wr (B + 1) #[.int .i64 0, .slice none 0 0] 57 ∧ Sls wr (.slice a h.length c) h ∧ h.length ≤ c ∧ wr.ownsRow base 91 7 ov o.length (skCells o) ∧ Apart ov (.slice a h.length c) ∧
    (0 < h.length → ∀ g, (Value.slice a h.length c).ownBlock = some g → V = some g ∧ g < B ∨ base ≤ g)
theorem Sls.same {w w' : World} {v : Value} {l : List Sk} (h : Sls w v l) (hs : w.heap.size ≤ w'.heap.size) (hb : 0 < l.length → ∀ g, v.ownBlock = some g → w'.heap[g]? = w.heap[g]?) : Sls w' v l := by
  obtain ⟨hl, h | ⟨b, off, c, rfl, hlt, hc⟩⟩ := h
  · exact ⟨hl, .inl h⟩
  · by_cases h0 : 0 < l.length
    · exact ⟨hl, .inr ⟨b, off, c, rfl, by omega, fun j u hj => (World.cell?_of_block (hb h0 b rfl)).trans (hc j u hj)⟩⟩
    · have : l = [] := List.eq_nil_of_length_eq_zero (by omega)
      subst this
      exact ⟨hl, .inl ⟨rfl, _, _, rfl⟩⟩
theorem Rel.heap {V : Option Nat} {base B : Nat} {w w' : World} {next : Int} {h o : List Sk} {ov : Value} (hk : Rel V base B w next h o ov) (e : w'.heap = w.heap) : Rel V base B w' next h o ov := by
  obtain ⟨a, c, k1, k2, kS, kc, kO, kA, kD⟩ := hk
  have eb : ∀ {g : Nat} {C : Array Value} {t : TypeId}, Blk w g C t → Blk w' g C t := fun h => by unfold Blk at h ⊢; rw [e]; exact h
  exact ⟨a, c, eb k1, eb k2, kS.same (by rw [e]; exact Nat.le_refl _) (fun _ g _ => by rw [e]), kc, owns_same kO (fun g _ => by rw [e]), kA, kD⟩
theorem Rel.next {V : Option Nat} {base B : Nat} {w : World} {next n' : Int} {h o : List Sk} {ov : Value} (hk : Rel V base B w next h o ov) (hB : B + 1 < base) : Rel V base B (w.setCell ⟨B, 0, none⟩ (.int .i64 n')) n' h o ov := by
  obtain ⟨a, c, k1, k2, kS, kc, kO, kA, kD⟩ := hk
  have hblk : ∀ j, j ≠ B → (w.setCell ⟨B, 0, none⟩ (.int .i64 n')).heap[j]? = w.heap[j]? := fun j hj => Below.heap_setCell _ _ _ _ (by exact hj)
  exact ⟨a, c, k1.set 0 _, (hblk (B + 1) (by omega)).trans k2, kS.same (by simp) (fun h0 g hg => hblk g (by rcases kD h0 g hg with ⟨_, h⟩ | h <;> omega)), kc, owns_same kO (fun g hg => hblk g (by have := (kO.lt g hg).1; omega)), kA, kD⟩

/-- behind 'out = append(out, b.Held[0])' -/
theorem Rel.out {V : Option Nat} {base B : Nat} {w w2 : World} {next : Int} {x : Sk} {r o : List Sk} {ov v' : Value} {obj : Obj} (hk : Rel V base B w next (x :: r) o ov) (hB : B + 1 < base)
    (ho : w2.ownsRow base 91 7 v' (o.length + 1) (skCells o ++ x.cells.toList)) (hg : (w.alloc obj).grownBy w2 ov.ownBlock) (hd : v'.ownBlock = ov.ownBlock ∨ ∀ g, v'.ownBlock = some g → (w.alloc obj).heap.size ≤ g) :
    Rel V base B w2 next (x :: r) (o ++ [x]) v' := by
  obtain ⟨a, c, k1, k2, kS, kc, kO, kA, kD⟩ := hk
  have hblk : ∀ j, j < w.heap.size → some j ≠ ov.ownBlock → w2.heap[j]? = w.heap[j]? := fun j hj hne => (hg.block j (by simp; omega) hne).trans (Below.heap_alloc w obj j hj)
  have hlow : ∀ j, j < base → some j ≠ ov.ownBlock := fun j hj e => by have := (kO.lt j e.symm).1; omega
  obtain ⟨b, off, ha, hb, _⟩ := kS.cons
  subst ha
  refine ⟨some ⟨b, off, none⟩, c, (hblk B k1.lt (hlow B (by omega))).trans k1, (hblk (B + 1) k2.lt (hlow (B + 1) hB)).trans k2, kS.same (by have := hg.size; simp at this; omega) (fun _ g hgg => ?_), kc, ?_, ?_, kD⟩
  · simp only [Value.ownBlock, Option.some.injEq] at hgg
    subst hgg
    exact hblk b hb (fun e => kA b e.symm rfl)
  · rw [List.length_append, skCells_append, skCells_one]; exact ho
  · intro g h1 h2
    simp only [Value.ownBlock, Option.some.injEq] at h2
    subst h2
    rcases hd with hd | hd
    · exact kA b (hd ▸ h1) rfl
    · have := hd b h1
      simp at this; omega

/-- behind 'b = api.Buffer{Next: b.Next + 1, Held: append([]api.Slot{}, b.Held[1:]...)}' -/
theorem Rel.step {V : Option Nat} {base B : Nat} {w w2 w3 : World} {next : Int} {x : Sk} {r o : List Sk} {ov v' : Value} {obj : Obj} {a' : Option Addr} {c' : Nat} (hk : Rel V base B w next (x :: r) o ov) (hB : B + 1 < base) (hbw : base ≤ w.heap.size)
    (hv' : v' = .slice a' r.length c') (ho : w2.ownsRow w.heap.size 91 7 v' r.length (skCells r)) (hg : (w.alloc obj).grownBy w2 (some w.heap.size)) (hw3 : w3 = (w2.setCell ⟨B, 0, none⟩ (.int .i64 (next + 1))).setCell ⟨B, 1, none⟩ v') :
    Rel V base B w3 (next + 1) r o ov := by
  obtain ⟨a, c, k1, k2, kS, kc, kO, kA, kD⟩ := hk
  have hblk : ∀ j, j < w.heap.size → w2.heap[j]? = w.heap[j]? := fun j hj => (hg.block j (by simp; omega) (by simp; omega)).trans (Below.heap_alloc w obj j hj)
  have hblk3 : ∀ j, j ≠ B → w3.heap[j]? = w2.heap[j]? := fun j hj => by rw [hw3, Below.heap_setCell _ _ _ _ (by exact hj), Below.heap_setCell _ _ _ _ (by exact hj)]
  have hB1 := k1.lt
  have hB2 := k2.lt
  have k12 : Blk w2 B _ _ := (hblk B hB1).trans k1
  have e : r.length = r.length := rfl
  refine ⟨a', c', ?_, (hblk3 (B + 1) (by omega)).trans ((hblk (B + 1) hB2).trans k2), ?_, ?_, owns_same kO (fun g hgg => ?_), ?_, ?_⟩
  · rw [hw3, hv']; exact (k12.set 0 _).set 1 _
  · rw [← hv']
    exact Sls.same (Sls.of_owns ho) (by rw [hw3]; simp) (fun _ g hgg => hblk3 g (by have := (ho.lt g hgg).1; omega))
  · obtain ⟨_, ⟨h1, h2⟩ | ⟨g, cap, cur, h1, _, _, h2, _⟩⟩ := ho
    · omega
    · rw [hv'] at h1; injection h1 with _ _ h3; omega
  · have := kO.lt g hgg
    exact (hblk3 g (by omega)).trans (hblk g this.2)
  · intro g h1 h2
    rw [← hv'] at h2
    have h3 := (ho.lt g h2).1
    have h4 := (kO.lt g h1).2
    omega
  · intro _ g hgg
    rw [← hv'] at hgg
    have := (ho.lt g hgg).1
    omega

set_option maxHeartbeats 2000000 in
set_option maxRecDepth 100000 in
theorem released_any (most : Nat) (next : Int) (v : Value) (l : List Sk) (w : World) (hv : Sls w v l) (hcap : ∀ a n c, v = .slice a n c → n ≤ c) (hnums : Nums l) (hn0 : 0 ≤ next ∧ next ≤ 1000000001) (hlen : l.length ≤ 50) :
    Calls Tryz.prog 119 #[.agg #[.int .i64 next, v], .int .i64 most] w fun e w' => ∃ hv' ov', e = .returned (.tuple #[.agg #[.int .i64 (relF most next l []).1, hv'], ov']) ∧
      Sls w' hv' (relF most next l []).2.1 ∧ Sls w' ov' (relF most next l []).2.2 ∧ Below w.heap.size w w' ∧ (0 < (relF most next l []).2.1.length → ∀ g, hv'.ownBlock = some g → v.ownBlock = some g ∨ w.heap.size ≤ g) ∧ (∀ g, ov'.ownBlock = some g → w.heap.size ≤ g) := by
  obtain ⟨v0, hv0⟩ : ∃ v0, v0 = v.ownBlock := ⟨_, rfl⟩
  rw [← hv0]
  obtain ⟨i0, hi, hz0, hz1, hz2⟩ := info_parts Tryz.infoSlot
  obtain ⟨R, hR⟩ : ∃ R, R = relF most next l [] := ⟨_, rfl⟩
  rw [← hR]
  obtain ⟨a0, c0, hva⟩ := hv.len
  have hcap0 := hcap _ _ _ hva
  clear hcap
  subst hva
  have HR : Hid (relF most next l [] = R) := hR.symm
  have HS : Hid (∀ w' : World, Blk w' w.heap.size #[.int .i64 next, .slice a0 l.length c0] 57 → Blk w' (w.heap.size + 1) #[.int .i64 0, .slice none 0 0] 57 → Below w.heap.size w w' → Rel v0 (w.heap.size + 1 + 1) w.heap.size w' next l [] (.slice none 0 0)) := fun w' h1 h2 h3 => by
    refine ⟨a0, c0, h1, h2, hv.below h3, hcap0, World.ownsRow_nil _ _ _ _, Apart.nil _, fun h0 g hg => ?_⟩
    obtain ⟨_, ⟨hl, _⟩ | ⟨b, off, c, hvv, hb, _⟩⟩ := hv
    · omega
    · injection hvv with e1 e2 e3
      rw [e1] at hg
      left
      refine ⟨by rw [hv0, e1]; exact hg, ?_⟩
      simp only [Value.ownBlock, Option.some.injEq] at hg
      omega
  obtain ⟨n0, hn00⟩ : ∃ n, n = l.length := ⟨_, rfl⟩
  rw [← hn00] at HS ⊢
  have HN0 : Hid (n0 = l.length) := hn00
  clear hv hR hcap0 hn00 hv0
  go_enter Tryz.func119, Tryz.ntmps119
  go_wp2
  go_loopg [6] n0 (fun gg ov wr => ∃ next' h' o', Hid (Rel v0 (w.heap.size + 1 + 1) w.heap.size wr next' h' o' ov) ∧
      Hid (relF most next' h' o' = R) ∧ Nums h' ∧ (0 ≤ next' ∧ next' ≤ 1000000001) ∧ h'.length + o'.length ≤ 50 ∧ Hid (Below w.heap.size w wr) ∧ h'.length ≤ gg)
  case atStart =>
    refine ⟨next, l, [], HS.out _ ((Blk.new w _ _).alloc _) ?_ (((Below.refl _ w).alloc (Nat.le_refl _) _).alloc (by simp) _), HR, hnums, hn0, by simpa using hlen, ((Below.refl _ w).alloc (Nat.le_refl _) _).alloc (by simp) _, by rw [HN0.out]; exact Nat.le_refl _⟩
    have := Blk.new (w.alloc (.cells #[.int .i64 next, .slice a0 n0 c0] 57)) #[.int .i64 0, .slice none 0 0] 57
    simp only [World.size_alloc] at this
    exact this
  case round =>
    obtain ⟨next', h', o', RE, RL, hnu, hne, hle, HB, hgg⟩ := hrel
    obtain ⟨a, c, kB, kR, kS, kc, kO, kA, kD⟩ := RE.out
    obtain ⟨d0, d1⟩ := kB.two
    have hf0 := kB.free 0
    have hsz : w.heap.size + 1 < wr.heap.size := kR.lt
    obtain ⟨r0, r1⟩ := kR.two
    have rf := kR.free
    have hfin : Hid (∀ w3 : World, (∃ q, w3 = ((wr.drewN q).setCell ⟨w.heap.size + 1, 0, none⟩ (.int .i64 next')).setCell ⟨w.heap.size + 1, 1, none⟩ (.slice a h'.length c)) → Hid (R = (next', h', o')) → Sls w3 (.slice a h'.length c) R.2.1 ∧ Sls w3 u6 R.2.2 ∧ Below w.heap.size w w3 ∧ (0 < R.2.1.length → ∀ g, (Value.slice a h'.length c).ownBlock = some g → v0 = some g ∨ w.heap.size ≤ g) ∧ (∀ g, u6.ownBlock = some g → w.heap.size ≤ g)) := fun w3 hw3 hR => by
      obtain ⟨q, hw3⟩ := hw3
      have hblk : ∀ j, j ≠ w.heap.size + 1 → w3.heap[j]? = wr.heap[j]? := fun j hj => by rw [hw3, Below.heap_setCell _ _ _ _ (by exact hj), Below.heap_setCell _ _ _ _ (by exact hj)]; rfl
      have hs3 : w3.heap.size = wr.heap.size := by rw [hw3]; simp
      rw [hR.out]
      refine ⟨kS.same (by omega) (fun h0 g hg => hblk g (by rcases kD h0 g hg with ⟨_, h⟩ | h <;> omega)), (Sls.of_owns kO).same (by omega) (fun _ g hg => hblk g (by have := (kO.lt g hg).1; omega)), ?_, fun h0 g hg => ?_, fun g hg => by have := (kO.lt g hg).1; omega⟩
      · rw [hw3]
        exact ((below_drewN HB.out q).setCell (by simp) _).setCell (by simp) _
      · rcases kD h0 g hg with ⟨h, _⟩ | h
        · exact .inl h
        · right; omega
    cases h' with
    | nil =>
      simp only [List.length_nil] at d1
      clear kB kR kS kc kO kA kD
      have HRR : Hid (R = (next', [], o')) := RL.out.symm
      clear RL
      go_wp2
      refine bodyPost_ret (v := .tuple #[.agg #[.int .i64 R.1, .slice a 0 c], u6]) (by have hR1 := congrArg Prod.fst HRR.out; simp only at hR1; simp [results, Tryz.results119, go_sem, r0, r1, hR1]) rfl ⟨_, _, rfl, hfin.out _ ⟨0, rfl⟩ HRR.out⟩
    | cons x r =>
      obtain ⟨g, off, rfl, hgl, hat⟩ := kS.cons
      obtain ⟨c0, c1, c2, c3, c4, c5, c6⟩ := hat
      obtain ⟨m, hm⟩ : ∃ m, m = (x :: r).length := ⟨_, rfl⟩
      have HM : Hid (m = (x :: r).length) := hm
      rw [← hm] at d1
      have hm1 : (0 : Int) < (m : Int) := by simp at hm; omega
      have hrm : Hid (m = r.length + 1) := hm
      clear kB kR kS kc kO kA kD hm
      by_cases hxn : x.n = next'
      · have HXN : Hid (x.n = next') := hxn
        have hq : (x.n != next') = false := by simpa using hxn
        have RL2 : Hid (relF most (x.n + 1) r (o' ++ [x]) = R) := by
          show _ = R
          rw [← RL.out]
          conv => rhs; unfold relF
          rw [if_pos HXN.out, HXN.out]
        clear hxn
        go_wp2
        go_quiet (fail)
        obtain ⟨W, hW⟩ : ∃ W, W = wr.drewN nq := ⟨_, rfl⟩
        have RW : Hid (Rel v0 (w.heap.size + 1 + 1) w.heap.size W x.n (x :: r) o' u6) := by show Rel _ _ _ _ _ _ _ _; rw [hW]; rw [HXN.out]; exact RE.out.heap rfl
        have BW : Hid (Below w.heap.size w W) := by show Below _ _ _; rw [hW]; exact below_drewN HB.out nq
        clear hfin d0 d1 c0 c1 c2 c3 c4 c5 c6 r0 r1 rf hf0 hsz
        rw [← hW]
        clear hW
        obtain ⟨a, c, kB, kR, kS, kc, kO, kA, kD⟩ := RW.out
        obtain ⟨d0, d1⟩ := kB.two
        obtain ⟨g, off, rfl, hgl, hat⟩ := kS.cons
        obtain ⟨c0, c1, c2, c3, c4, c5, c6⟩ := hat
        have hsz : w.heap.size + 1 < W.heap.size := kR.lt
        obtain ⟨m, hm⟩ : ∃ m, m = (x :: r).length := ⟨_, rfl⟩
        have HM : Hid (m = (x :: r).length) := hm
        rw [← hm] at d1
        have hm1 : (0 : Int) < (m : Int) := by simp at hm; omega
        have KO : Hid (W.ownsRow (w.heap.size + 1 + 1) 91 7 u6 o'.length (skCells o')) := kO
        clear kB kR kS kc kO kA kD hm
        have own1 : Hid ((W.alloc (.cells #[.int .i64 x.n, .int .i64 x.p.seq, .int .i64 x.p.time, .bool x.p.f, .bool x.p.e, .bool x.p.k, .string x.p.t] 91)).ownsRow (w.heap.size + 1 + 1) 91 7 u6 o'.length (skCells o')) := KO.out.alloc _
        have new1 : Hid (∀ j u, x.cells.toList[j]? = some u → (W.alloc (.cells #[.int .i64 x.n, .int .i64 x.p.seq, .int .i64 x.p.time, .bool x.p.f, .bool x.p.e, .bool x.p.k, .string x.p.t] 91)).cell? ((⟨W.heap.size, 0, none⟩ : Addr).add j) = some u) := newSlot rfl
        have l1 : Hid (o'.length + 1 ≤ maxLen) := by show _ ≤ _; unfold maxLen; simp at hle; omega
        have l2 : Hid ((o'.length + 1) * 48 ≤ 140737488355328) := by show _ ≤ _; simp at hle; omega
        have l3 : Hid (w.heap.size + 1 + 1 ≤ (W.alloc (.cells #[.int .i64 x.n, .int .i64 x.p.seq, .int .i64 x.p.time, .bool x.p.f, .bool x.p.e, .bool x.p.k, .string x.p.t] 91)).heap.size) := by show _ ≤ _; simp; omega
        have aft : Hid (∀ v' w2, w2.ownsRow (w.heap.size + 1 + 1) 91 7 v' (o'.length + 1) (skCells o' ++ x.cells.toList) → (W.alloc (.cells #[.int .i64 x.n, .int .i64 x.p.seq, .int .i64 x.p.time, .bool x.p.f, .bool x.p.e, .bool x.p.k, .string x.p.t] 91)).grownBy w2 u6.ownBlock → (v'.ownBlock = u6.ownBlock ∨ ∀ g, v'.ownBlock = some g → (W.alloc (.cells #[.int .i64 x.n, .int .i64 x.p.seq, .int .i64 x.p.time, .bool x.p.f, .bool x.p.e, .bool x.p.k, .string x.p.t] 91)).heap.size ≤ g) →
            Hid (Rel v0 (w.heap.size + 1 + 1) w.heap.size w2 x.n (x :: r) (o' ++ [x]) v') ∧ Hid (Below w.heap.size w w2) ∧ Hid (W.heap.size + 1 ≤ w2.heap.size)) := fun v' w2 ho2 hg2 hd2 =>
          ⟨RW.out.out (by omega) ho2 hg2 hd2, (BW.out.alloc BW.out.size _).grown hg2 (by have := BW.out.size; simp; omega) (fun j hj => by have := (KO.out.lt j hj).1; omega), by have := hg2.size; show W.heap.size + 1 ≤ _; simpa using this⟩
        go_wp2_with (at_builtin; refine wpList_append_own2 _ rfl _ _ 55 rfl (w.heap.size + 1 + 1) 91 i0 _ 7 48 Tryz.underlying55 hi hz0 hz1 hz2 rfl (by decide) _ o'.length (skCells o') rfl own1.out ⟨W.heap.size, 0, none⟩ 1 1 x.cells.toList rfl rfl new1.out (oneSlot x) l1.out l2.out l3.out ?_; intro v' w2 ho2 hg2 hd2; obtain ⟨R2, B2, S2⟩ := aft.out v' w2 ho2 hg2 hd2; clear ho2 hg2 hd2)
        clear own1 new1 l1 l2 l3 aft d0 d1 c0 c1 c2 c3 c4 c5 c6 KO RW BW HM hm1 hgl
        obtain ⟨a2, c, kB, kR, kS, kc, kO, kA, kD⟩ := R2.out
        obtain ⟨d0, d1⟩ := kB.two
        have hfB := kB.free
        obtain ⟨g, off, rfl, hgl, hat⟩ := kS.cons
        have hsz2 : w.heap.size + 1 < w2.heap.size := kR.lt
        obtain ⟨m, hm⟩ : ∃ m, m = (x :: r).length := ⟨_, rfl⟩
        have HM : Hid (m = r.length + 1) := hm
        rw [← hm] at d1
        have hm1 : (1 : Int) ≤ (m : Int) := by simp at hm; omega
        have KC : Hid (r.length + 1 ≤ c) := kc
        have KT : Hid (Sls w2 (.slice (some ⟨g, off + 7, none⟩) r.length (c - 1)) r) := kS.tail
        have hx := hnu x (by simp)
        obtain ⟨hx1, hx2⟩ := hx
        have own2 : Hid ((w2.alloc (.cells #[] 91)).drew.ownsRow w2.heap.size 91 7 (.slice (some ⟨w2.heap.size, 0, none⟩) 0 0) 0 []) := World.ownsRow_made w2 #[] 0 (Nat.le_refl _) (by unfold maxLen; omega) rfl
        have new2 : Hid (∀ j u, (skCells r)[j]? = some u → (w2.alloc (.cells #[] 91)).drew.cell? ((⟨g, off + 7, none⟩ : Addr).add j) = some u) := fun j u hj => by
          obtain ⟨hl, ⟨h0, b, cc, hv⟩ | ⟨b, of2, c3, hv, hb, hc⟩⟩ := KT.out
          · have : r = [] := List.eq_nil_of_length_eq_zero h0
            subst this
            simp [skCells] at hj
          · cases hv
            rw [Addr.add_lit]
            exact (World.cell?_alloc_past (w := w2) _ _ _ hb).trans (hc j u hj)
        have one2 : Hid (∀ u ∈ skCells r, u.oneCell' = true) := fun u hu => by
          obtain ⟨y, _, hy⟩ := List.mem_flatMap.1 hu
          exact oneSlot y u hy
        have q1 : Hid ((skCells r).length = (m - 1) * 7) := by show _ = _; rw [skCells_len, HM.out]; simp
        have q2 : Hid (0 + (m - 1) ≤ maxLen) := by show _ ≤ _; unfold maxLen; rw [HM.out]; simp at hle; omega
        have q3 : Hid ((0 + (m - 1)) * 48 ≤ 140737488355328) := by show _ ≤ _; rw [HM.out]; simp at hle; omega
        have q4 : Hid (w2.heap.size ≤ (w2.alloc (.cells #[] 91)).drew.heap.size) := by show _ ≤ (w2.alloc _).heap.size; simp
        have aft2 : Hid (∀ v3 w3, w3.ownsRow w2.heap.size 91 7 v3 (0 + (m - 1)) ([] ++ skCells r) → (w2.alloc (.cells #[] 91)).drew.grownBy w3 (Value.slice (some ⟨w2.heap.size, 0, none⟩) 0 0).ownBlock →
            ∃ a3 c3, v3 = .slice a3 r.length c3 ∧ w3.cell? ⟨w.heap.size, 0, none⟩ = some (.int .i64 x.n) ∧ w3.cell? ⟨w.heap.size, 1, none⟩ = some (.slice (some ⟨g, off, none⟩) m c) ∧ (∀ j, w3.frozen? ⟨w.heap.size, j, none⟩ = false) ∧
              Hid (∀ w4, Hid (w4 = (w3.setCell ⟨w.heap.size, 0, none⟩ (.int .i64 (x.n + 1))).setCell ⟨w.heap.size, 1, none⟩ (.slice a3 r.length c3)) → Rel v0 (w.heap.size + 1 + 1) w.heap.size w4 (x.n + 1) r (o' ++ [x]) v' ∧ Below w.heap.size w w4)) := fun v3 w3 ho3 hg3 => by
          have hml : 0 + (m - 1) = r.length := by have := HM.out; omega
          rw [hml, List.nil_append] at ho3
          obtain ⟨a3, c3, hv3⟩ := Sl.len (Sl.of_owns ho3)
          have hlt := kB.lt
          have kB3 : Blk w3 w.heap.size #[.int .i64 x.n, .slice (some ⟨g, off, none⟩) m c] 57 := (hg3.block w.heap.size (by show _ < (w2.alloc _).heap.size; simp; omega) (by simp [Value.ownBlock]; omega)).trans ((Below.heap_alloc w2 _ w.heap.size hlt).trans (by rw [hm]; exact kB))
          obtain ⟨e0, e1⟩ := kB3.two
          refine ⟨a3, c3, hv3, e0, e1, kB3.free, fun w4 hw4 => ⟨R2.out.step (by omega) (by omega) hv3 ho3 (obj := .cells #[] 91) ⟨hg3.os, hg3.tape, hg3.output, hg3.size, hg3.block⟩ (by rw [hw4.out, hv3]), ?_⟩⟩
          rw [hw4.out]
          have hb3 : Below w.heap.size w w3 := ((B2.out.alloc B2.out.size _).drew).grown hg3 (by have := B2.out.size; show _ ≤ (w2.alloc _).heap.size; simp; omega) (fun j hj => by simp only [Value.ownBlock, Option.some.injEq] at hj; have := B2.out.size; omega)
          exact (hb3.setCell (by simp) _).setCell (by simp) _
        have ltB : w.heap.size < w2.heap.size := by omega
        have hwr : IntKind.i64.wrap (x.n + 1) = x.n + 1 := by rw [IntKind.wrap_i64]; omega
        have hml2 : Hid (r.length + (o' ++ [x]).length ≤ 50) := by show _ ≤ _; simp at hle ⊢; omega
        have hnr : Nums r := fun y hy => hnu y (by simp [hy])
        clear kB kR kS kc kO kA kD hm hat RE HB R2 B2 S2 KT
        by_cases hc1 : c = 1
        · have hm2 : m = 1 := by have h1 := HM.out; have h2 := KC.out; omega
          have hr0 : r = [] := List.eq_nil_of_length_eq_zero (by have := HM.out; omega)
          subst hc1 hm2 hr0
          have new3 : Hid (∀ j u, (skCells ([] : List Sk))[j]? = some u → (w2.alloc (.cells #[] 91)).drew.cell? ((⟨g, off, none⟩ : Addr).add j) = some u) := fun j u hj => by simp [skCells] at hj
          go_region_law (refine step_append_own2 rfl (.tmp 40) (.tmp 43) 55 rfl w2.heap.size 91 i0 _ 7 48 Tryz.underlying55 hi hz0 hz1 hz2 rfl (by decide) (.slice (some ⟨w2.heap.size, 0, none⟩) 0 0) 0 [] (by simp [Act.eval, Act.put]) own2.out ⟨g, off, none⟩ 0 0 (skCells ([] : List Sk)) (by simp [Act.eval, Act.put]) rfl new3.out one2.out q2.out q3.out q4.out ?_; intro v3 w3 ho3 hg3 _; obtain ⟨a3, c3, hv3, g0, g1, gf, G⟩ := aft2.out v3 w3 ho3 hg3; clear ho3 hg3; subst hv3)
          all_goals
            clear own2 new2 new3 one2 q1 q2 q3 q4 aft2
            go_wp2
            go_roundg 0
            case measure => simp at hgg; omega
            case rel =>
              have GG := G.out _ rfl
              exact ⟨x.n + 1, [], o' ++ [x], GG.1, RL2, hnr, by omega, hml2.out, GG.2, Nat.le_refl _⟩
        · go_region_law (refine step_append_own2 rfl (.tmp 40) (.tmp 43) 55 rfl w2.heap.size 91 i0 _ 7 48 Tryz.underlying55 hi hz0 hz1 hz2 rfl (by decide) (.slice (some ⟨w2.heap.size, 0, none⟩) 0 0) 0 [] (by simp [Act.eval, Act.put]) own2.out ⟨g, off + 7, none⟩ (m - 1) (c - 1) (skCells r) (by simp [Act.eval, Act.put]) q1.out new2.out one2.out q2.out q3.out q4.out ?_; intro v3 w3 ho3 hg3 _; obtain ⟨a3, c3, hv3, g0, g1, gf, G⟩ := aft2.out v3 w3 ho3 hg3; clear ho3 hg3; subst hv3)
          all_goals
            clear own2 new2 one2 q1 q2 q3 q4 aft2
            go_wp2
            go_roundg r.length
            case measure => simp at hgg; omega
            case rel =>
              have GG := G.out _ rfl
              exact ⟨x.n + 1, r, o' ++ [x], GG.1, RL2, hnr, by omega, hml2.out, GG.2, Nat.le_refl _⟩
      · have HXN : Hid (¬ x.n = next') := hxn
        have hq : (x.n != next') = true := by simpa using hxn
        clear hxn
        by_cases hmo : m ≤ most
        · have HRR : Hid (R = (next', x :: r, o')) := by
            show R = _
            rw [← RL.out]
            simp only [relF, if_neg HXN.out]
            rw [if_pos (by have := hrm.out; omega)]
          have hmoi : (m : Int) ≤ (most : Int) := by omega
          rw [← HM.out] at hfin
          clear RL
          go_wp2
          go_quiet (fail)
          go_wp2
          refine bodyPost_ret (v := .tuple #[.agg #[.int .i64 R.1, .slice (some ⟨g, off, none⟩) m c], u6]) (by have hR1 := congrArg Prod.fst HRR.out; simp only at hR1; simp [results, Tryz.results119, go_sem, r0, r1, hR1]) rfl ⟨_, _, rfl, hfin.out _ ⟨nq, rfl⟩ HRR.out⟩
        · have hmoi : ¬ (m : Int) ≤ (most : Int) := by omega
          have RL2 : Hid (relF most (x.n + 1) r (o' ++ [x]) = R) := by
            show _ = R
            rw [← RL.out]
            simp only [relF, if_neg HXN.out]
            rw [if_neg (by have := hrm.out; omega)]
          go_wp2
          go_quiet (fail)
          go_upto_region 6 with fail
          obtain ⟨W, hW⟩ : ∃ W, W = (wr.drewN nq).setCell ⟨w.heap.size, 0, none⟩ (.int .i64 x.n) := ⟨_, rfl⟩
          have RW : Hid (Rel v0 (w.heap.size + 1 + 1) w.heap.size W x.n (x :: r) o' u6) := by show Rel _ _ _ _ _ _ _ _; rw [hW]; exact (RE.out.heap (w' := wr.drewN nq) rfl).next (by omega)
          have BW : Hid (Below w.heap.size w W) := by show Below _ _ _; rw [hW]; exact (below_drewN HB.out nq).setCell (by simp) _
          clear hfin d0 d1 c0 c1 c2 c3 c4 c5 c6 r0 r1 rf hf0 hsz
          rw [← hW]
          clear hW
          obtain ⟨a, c, kB, kR, kS, kc, kO, kA, kD⟩ := RW.out
          obtain ⟨d0, d1⟩ := kB.two
          obtain ⟨g, off, rfl, hgl, hat⟩ := kS.cons
          obtain ⟨c0, c1, c2, c3, c4, c5, c6⟩ := hat
          have hsz : w.heap.size + 1 < W.heap.size := kR.lt
          obtain ⟨m, hm⟩ : ∃ m, m = (x :: r).length := ⟨_, rfl⟩
          have HM : Hid (m = (x :: r).length) := hm
          rw [← hm] at d1
          have hm1 : (0 : Int) < (m : Int) := by simp at hm; omega
          have KO : Hid (W.ownsRow (w.heap.size + 1 + 1) 91 7 u6 o'.length (skCells o')) := kO
          clear kB kR kS kc kO kA kD hm
          have own1 : Hid ((W.alloc (.cells #[.int .i64 x.n, .int .i64 x.p.seq, .int .i64 x.p.time, .bool x.p.f, .bool x.p.e, .bool x.p.k, .string x.p.t] 91)).ownsRow (w.heap.size + 1 + 1) 91 7 u6 o'.length (skCells o')) := KO.out.alloc _
          have new1 : Hid (∀ j u, x.cells.toList[j]? = some u → (W.alloc (.cells #[.int .i64 x.n, .int .i64 x.p.seq, .int .i64 x.p.time, .bool x.p.f, .bool x.p.e, .bool x.p.k, .string x.p.t] 91)).cell? ((⟨W.heap.size, 0, none⟩ : Addr).add j) = some u) := newSlot rfl
          have l1 : Hid (o'.length + 1 ≤ maxLen) := by show _ ≤ _; unfold maxLen; simp at hle; omega
          have l2 : Hid ((o'.length + 1) * 48 ≤ 140737488355328) := by show _ ≤ _; simp at hle; omega
          have l3 : Hid (w.heap.size + 1 + 1 ≤ (W.alloc (.cells #[.int .i64 x.n, .int .i64 x.p.seq, .int .i64 x.p.time, .bool x.p.f, .bool x.p.e, .bool x.p.k, .string x.p.t] 91)).heap.size) := by show _ ≤ _; simp; omega
          have aft : Hid (∀ v' w2, w2.ownsRow (w.heap.size + 1 + 1) 91 7 v' (o'.length + 1) (skCells o' ++ x.cells.toList) → (W.alloc (.cells #[.int .i64 x.n, .int .i64 x.p.seq, .int .i64 x.p.time, .bool x.p.f, .bool x.p.e, .bool x.p.k, .string x.p.t] 91)).grownBy w2 u6.ownBlock → (v'.ownBlock = u6.ownBlock ∨ ∀ g, v'.ownBlock = some g → (W.alloc (.cells #[.int .i64 x.n, .int .i64 x.p.seq, .int .i64 x.p.time, .bool x.p.f, .bool x.p.e, .bool x.p.k, .string x.p.t] 91)).heap.size ≤ g) →
              Hid (Rel v0 (w.heap.size + 1 + 1) w.heap.size w2 x.n (x :: r) (o' ++ [x]) v') ∧ Hid (Below w.heap.size w w2) ∧ Hid (W.heap.size + 1 ≤ w2.heap.size)) := fun v' w2 ho2 hg2 hd2 =>
            ⟨RW.out.out (by omega) ho2 hg2 hd2, (BW.out.alloc BW.out.size _).grown hg2 (by have := BW.out.size; simp; omega) (fun j hj => by have := (KO.out.lt j hj).1; omega), by have := hg2.size; show W.heap.size + 1 ≤ _; simpa using this⟩
          go_wp2_with (at_builtin; refine wpList_append_own2 _ rfl _ _ 55 rfl (w.heap.size + 1 + 1) 91 i0 _ 7 48 Tryz.underlying55 hi hz0 hz1 hz2 rfl (by decide) _ o'.length (skCells o') rfl own1.out ⟨W.heap.size, 0, none⟩ 1 1 x.cells.toList rfl rfl new1.out (oneSlot x) l1.out l2.out l3.out ?_; intro v' w2 ho2 hg2 hd2; obtain ⟨R2, B2, S2⟩ := aft.out v' w2 ho2 hg2 hd2; clear ho2 hg2 hd2)
          clear own1 new1 l1 l2 l3 aft d0 d1 c0 c1 c2 c3 c4 c5 c6 KO RW BW HM hm1 hgl
          obtain ⟨a2, c, kB, kR, kS, kc, kO, kA, kD⟩ := R2.out
          obtain ⟨d0, d1⟩ := kB.two
          have hfB := kB.free
          obtain ⟨g, off, rfl, hgl, hat⟩ := kS.cons
          have hsz2 : w.heap.size + 1 < w2.heap.size := kR.lt
          obtain ⟨m, hm⟩ : ∃ m, m = (x :: r).length := ⟨_, rfl⟩
          have HM : Hid (m = r.length + 1) := hm
          rw [← hm] at d1
          have hm1 : (1 : Int) ≤ (m : Int) := by simp at hm; omega
          have KC : Hid (r.length + 1 ≤ c) := kc
          have KT : Hid (Sls w2 (.slice (some ⟨g, off + 7, none⟩) r.length (c - 1)) r) := kS.tail
          have hx := hnu x (by simp)
          obtain ⟨hx1, hx2⟩ := hx
          have own2 : Hid ((w2.alloc (.cells #[] 91)).drew.ownsRow w2.heap.size 91 7 (.slice (some ⟨w2.heap.size, 0, none⟩) 0 0) 0 []) := World.ownsRow_made w2 #[] 0 (Nat.le_refl _) (by unfold maxLen; omega) rfl
          have new2 : Hid (∀ j u, (skCells r)[j]? = some u → (w2.alloc (.cells #[] 91)).drew.cell? ((⟨g, off + 7, none⟩ : Addr).add j) = some u) := fun j u hj => by
            obtain ⟨hl, ⟨h0, b, cc, hv⟩ | ⟨b, of2, c3, hv, hb, hc⟩⟩ := KT.out
            · have : r = [] := List.eq_nil_of_length_eq_zero h0
              subst this
              simp [skCells] at hj
            · cases hv
              rw [Addr.add_lit]
              exact (World.cell?_alloc_past (w := w2) _ _ _ hb).trans (hc j u hj)
          have one2 : Hid (∀ u ∈ skCells r, u.oneCell' = true) := fun u hu => by
            obtain ⟨y, _, hy⟩ := List.mem_flatMap.1 hu
            exact oneSlot y u hy
          have q1 : Hid ((skCells r).length = (m - 1) * 7) := by show _ = _; rw [skCells_len, HM.out]; simp
          have q2 : Hid (0 + (m - 1) ≤ maxLen) := by show _ ≤ _; unfold maxLen; rw [HM.out]; simp at hle; omega
          have q3 : Hid ((0 + (m - 1)) * 48 ≤ 140737488355328) := by show _ ≤ _; rw [HM.out]; simp at hle; omega
          have q4 : Hid (w2.heap.size ≤ (w2.alloc (.cells #[] 91)).drew.heap.size) := by show _ ≤ (w2.alloc _).heap.size; simp
          have aft2 : Hid (∀ v3 w3, w3.ownsRow w2.heap.size 91 7 v3 (0 + (m - 1)) ([] ++ skCells r) → (w2.alloc (.cells #[] 91)).drew.grownBy w3 (Value.slice (some ⟨w2.heap.size, 0, none⟩) 0 0).ownBlock →
              ∃ a3 c3, v3 = .slice a3 r.length c3 ∧ w3.cell? ⟨w.heap.size, 0, none⟩ = some (.int .i64 x.n) ∧ w3.cell? ⟨w.heap.size, 1, none⟩ = some (.slice (some ⟨g, off, none⟩) m c) ∧ (∀ j, w3.frozen? ⟨w.heap.size, j, none⟩ = false) ∧
                Hid (∀ w4, Hid (w4 = (w3.setCell ⟨w.heap.size, 0, none⟩ (.int .i64 (x.n + 1))).setCell ⟨w.heap.size, 1, none⟩ (.slice a3 r.length c3)) → Rel v0 (w.heap.size + 1 + 1) w.heap.size w4 (x.n + 1) r (o' ++ [x]) v' ∧ Below w.heap.size w w4)) := fun v3 w3 ho3 hg3 => by
            have hml : 0 + (m - 1) = r.length := by have := HM.out; omega
            rw [hml, List.nil_append] at ho3
            obtain ⟨a3, c3, hv3⟩ := Sl.len (Sl.of_owns ho3)
            have hlt := kB.lt
            have kB3 : Blk w3 w.heap.size #[.int .i64 x.n, .slice (some ⟨g, off, none⟩) m c] 57 := (hg3.block w.heap.size (by show _ < (w2.alloc _).heap.size; simp; omega) (by simp [Value.ownBlock]; omega)).trans ((Below.heap_alloc w2 _ w.heap.size hlt).trans (by rw [hm]; exact kB))
            obtain ⟨e0, e1⟩ := kB3.two
            refine ⟨a3, c3, hv3, e0, e1, kB3.free, fun w4 hw4 => ⟨R2.out.step (by omega) (by omega) hv3 ho3 (obj := .cells #[] 91) ⟨hg3.os, hg3.tape, hg3.output, hg3.size, hg3.block⟩ (by rw [hw4.out, hv3]), ?_⟩⟩
            rw [hw4.out]
            have hb3 : Below w.heap.size w w3 := ((B2.out.alloc B2.out.size _).drew).grown hg3 (by have := B2.out.size; show _ ≤ (w2.alloc _).heap.size; simp; omega) (fun j hj => by simp only [Value.ownBlock, Option.some.injEq] at hj; have := B2.out.size; omega)
            exact (hb3.setCell (by simp) _).setCell (by simp) _
          have ltB : w.heap.size < w2.heap.size := by omega
          have hwr : IntKind.i64.wrap (x.n + 1) = x.n + 1 := by rw [IntKind.wrap_i64]; omega
          have hml2 : Hid (r.length + (o' ++ [x]).length ≤ 50) := by show _ ≤ _; simp at hle ⊢; omega
          have hnr : Nums r := fun y hy => hnu y (by simp [hy])
          clear kB kR kS kc kO kA kD hm hat RE HB R2 B2 S2 KT
          by_cases hc1 : c = 1
          · have hm2 : m = 1 := by have h1 := HM.out; have h2 := KC.out; omega
            have hr0 : r = [] := List.eq_nil_of_length_eq_zero (by have := HM.out; omega)
            subst hc1 hm2 hr0
            have new3 : Hid (∀ j u, (skCells ([] : List Sk))[j]? = some u → (w2.alloc (.cells #[] 91)).drew.cell? ((⟨g, off, none⟩ : Addr).add j) = some u) := fun j u hj => by simp [skCells] at hj
            go_region_law (refine step_append_own2 rfl (.tmp 40) (.tmp 43) 55 rfl w2.heap.size 91 i0 _ 7 48 Tryz.underlying55 hi hz0 hz1 hz2 rfl (by decide) (.slice (some ⟨w2.heap.size, 0, none⟩) 0 0) 0 [] (by simp [Act.eval, Act.put]) own2.out ⟨g, off, none⟩ 0 0 (skCells ([] : List Sk)) (by simp [Act.eval, Act.put]) rfl new3.out one2.out q2.out q3.out q4.out ?_; intro v3 w3 ho3 hg3 _; obtain ⟨a3, c3, hv3, g0, g1, gf, G⟩ := aft2.out v3 w3 ho3 hg3; clear ho3 hg3; subst hv3)
            all_goals
              clear own2 new2 new3 one2 q1 q2 q3 q4 aft2
              go_wp2
              go_roundg 0
              case measure => simp at hgg; omega
              case rel =>
                have GG := G.out _ rfl
                exact ⟨x.n + 1, [], o' ++ [x], GG.1, RL2, hnr, by omega, hml2.out, GG.2, Nat.le_refl _⟩
          · go_region_law (refine step_append_own2 rfl (.tmp 40) (.tmp 43) 55 rfl w2.heap.size 91 i0 _ 7 48 Tryz.underlying55 hi hz0 hz1 hz2 rfl (by decide) (.slice (some ⟨w2.heap.size, 0, none⟩) 0 0) 0 [] (by simp [Act.eval, Act.put]) own2.out ⟨g, off + 7, none⟩ (m - 1) (c - 1) (skCells r) (by simp [Act.eval, Act.put]) q1.out new2.out one2.out q2.out q3.out q4.out ?_; intro v3 w3 ho3 hg3 _; obtain ⟨a3, c3, hv3, g0, g1, gf, G⟩ := aft2.out v3 w3 ho3 hg3; clear ho3 hg3; subst hv3)
            all_goals
              clear own2 new2 one2 q1 q2 q3 q4 aft2
              go_wp2
              go_roundg r.length
              case measure => simp at hgg; omega
              case rel =>
                have GG := G.out _ rfl
                exact ⟨x.n + 1, r, o' ++ [x], GG.1, RL2, hnr, by omega, hml2.out, GG.2, Nat.le_refl _⟩

end Go.Proofs.YtnpaejknoipicafGreat

namespace Go.Proofs.YtnpaejknoipicafGreat
open Go.RowKit

theorem Sls.blk {w : World} {v : Value} {l : List Sk} (h : Sls w v l) : 0 < l.length → ∀ g, v.ownBlock = some g → g < w.heap.size := by
  intro h0 g hg
  obtain ⟨_, ⟨hl, _⟩ | ⟨b, off, c, rfl, hb, _⟩⟩ := h
  · omega
  · simp only [Value.ownBlock, Option.some.injEq] at hg; omega
theorem relF_len (most : Nat) : ∀ (h : List Sk) (next : Int) (o : List Sk), (relF most next h o).2.1.length ≤ h.length
  | [], _, _ => Nat.le_refl _
  | x :: r, next, o => by
    unfold relF
    split
    · have := relF_len most r (next + 1) (o ++ [x]); simp; omega
    · split
      · exact Nat.le_refl _
      · have := relF_len most r (x.n + 1) (o ++ [x]); simp; omega

set_option maxHeartbeats 1000000 in
theorem flushOf_any (next : Int) (v : Value) (l : List Sk) (w : World) (hv : Sls w v l) (hcap : ∀ a n c, v = .slice a n c → n ≤ c) (hnums : Nums l) (hn0 : 0 ≤ next ∧ next ≤ 1000000001) (hlen : l.length ≤ 50) :
    Calls Tryz.prog 77 #[.agg #[.int .i64 next, v]] w fun e w' => ∃ hv' ov', e = .returned (.tuple #[.agg #[.int .i64 (relF 0 next l []).1, hv'], ov']) ∧
      Sls w' hv' (relF 0 next l []).2.1 ∧ Sls w' ov' (relF 0 next l []).2.2 ∧ Below w.heap.size w w' ∧ (0 < (relF 0 next l []).2.1.length → ∀ g, hv'.ownBlock = some g → v.ownBlock = some g ∨ w.heap.size ≤ g) ∧ (∀ g, ov'.ownBlock = some g → w.heap.size ≤ g) := by
  obtain ⟨a, c, hva⟩ := hv.len
  have hrel := released_any 0 next v l ((w.alloc (.cells #[.int .i64 next, v] 57)).alloc (.cells #[.int .i64 0, .slice none 0 0] 57)) ((hv.alloc _).alloc _) hcap hnums hn0 hlen
  have HLT : Hid (0 < l.length → ∀ g, v.ownBlock = some g → g < w.heap.size) := hv.blk
  have HRL : Hid ((relF 0 next l []).2.1.length ≤ l.length) := relF_len 0 l next []
  obtain ⟨n, hn⟩ : ∃ n, n = l.length := ⟨_, rfl⟩
  rw [← hn] at hva
  obtain ⟨R, hR⟩ : ∃ R, R = relF 0 next l [] := ⟨_, rfl⟩
  rw [← hR] at hrel HRL ⊢
  clear hR hn hv hcap
  subst hva
  go_enter Tryz.func77, Tryz.ntmps77
  go_wp2_with fail
  refine hrel.mono ?_
  rintro e w1 ⟨hv', ov', rfl, s1, s2, hb1, f1, f2⟩
  obtain ⟨kb, kr, bb, hs1⟩ := blocks2 hb1
  obtain ⟨r0, r1⟩ := kr.two
  have rf := kr.free
  obtain ⟨a1, c1, e1⟩ := s1.len
  obtain ⟨a2, c2, e2⟩ := s2.len
  subst e1 e2
  have HF : Hid (∀ w3 : World, Hid (w3 = (w1.setCell ⟨w.heap.size + 1, 0, none⟩ (.int .i64 R.1)).setCell ⟨w.heap.size + 1, 1, none⟩ (.slice a1 R.2.1.length c1)) → Sls w3 (.slice a1 R.2.1.length c1) R.2.1 ∧ Sls w3 (.slice a2 R.2.2.length c2) R.2.2 ∧ Below w.heap.size w w3 ∧ (0 < R.2.1.length → ∀ g, (Value.slice a1 R.2.1.length c1).ownBlock = some g → (Value.slice a n c).ownBlock = some g ∨ w.heap.size ≤ g) ∧ (∀ g, (Value.slice a2 R.2.2.length c2).ownBlock = some g → w.heap.size ≤ g)) := fun w3 hw3 => by
    have hblk : ∀ j, j ≠ w.heap.size + 1 → w3.heap[j]? = w1.heap[j]? := fun j hj => by rw [hw3.out, Below.heap_setCell _ _ _ _ (by exact hj), Below.heap_setCell _ _ _ _ (by exact hj)]
    have hs3 : w3.heap.size = w1.heap.size := by rw [hw3.out]; simp
    refine ⟨s1.same (by omega) (fun h0 g hg => hblk g ?_), s2.same (by omega) (fun _ g hg => hblk g (by have := f2 g hg; simp at this; omega)), ?_⟩
    · rcases f1 h0 g hg with h | h
      · have := HLT.out (by have := HRL.out; omega) g h
        omega
      · simp at h; omega
    · refine ⟨by rw [hw3.out]; exact (bb.setCell (by simp) _).setCell (by simp) _, fun h0 g hg => ?_, fun g hg => by have := f2 g hg; simp at this; omega⟩
      rcases f1 h0 g hg with h | h
      · exact .inl h
      · right; simp at h; omega
  clear hb1 kb kr bb f1 f2 s1 s2 hrel
  go_wp2
  exact bodyPost_ret (v := .tuple #[.agg #[.int .i64 R.1, .slice a1 R.2.1.length c1], .slice a2 R.2.2.length c2]) (by simp [results, Tryz.results77, go_sem, r0, r1]) rfl ⟨_, _, rfl, HF.out _ rfl⟩

end Go.Proofs.YtnpaejknoipicafGreat

namespace Go.Proofs.YtnpaejknoipicafGreat
open Go.RowKit

theorem own_set {w : World} {base : Nat} {e : TypeId} {size g n cap j : Nat} {xs : List Value} (h : w.ownsRow base e size (.slice (some ⟨g, 0, none⟩) n cap) n xs) (u : Value) :
    (w.setCell ⟨g, j, none⟩ u).ownsRow base e size (.slice (some ⟨g, 0, none⟩) n cap) n (xs.set j u) := by
  obtain ⟨hl, ⟨h1, _⟩ | ⟨g', cap', cur, h1, hb, hh, h2, h3, h4, h5⟩⟩ := h
  · cases h1
  · injection h1 with e1 e2 e3
    injection e1 with e1
    injection e1 with e1
    subst e1 e3
    refine ⟨by simpa using hl, .inr ⟨g, cap, cur.setIfInBounds j u, rfl, hb, Blk.set (show Blk w g cur e from hh) j u, h2, h3, by simpa using h4, ?_⟩⟩
    rw [Array.toList_setIfInBounds, List.take_set, h5]

def set7 (xs : List Value) (j : Nat) (y : Sk) : List Value :=
  ((((((xs.set j (.int .i64 y.n)).set (j + 1) (.int .i64 y.p.seq)).set (j + 2) (.int .i64 y.p.time)).set (j + 3) (.bool y.p.f)).set (j + 4) (.bool y.p.e)).set (j + 5) (.bool y.p.k)).set (j + 6) (.string y.p.t)
theorem set7_append (a b : List Value) (j : Nat) (y : Sk) : set7 (a ++ b) (a.length + j) y = a ++ set7 b j y := by
  have h : ∀ (b : List Value) (i : Nat) (u : Value), (a ++ b).set (a.length + i) u = a ++ b.set i u := fun b i u => by
    rw [List.set_append_right _ _ (by omega)]; congr 2; omega
  unfold set7
  simp only [Nat.add_assoc, h]
theorem set7_cells (y : Sk) : ∀ (l : List Sk) (k : Nat), k < l.length → set7 (skCells l) (k * 7) y = skCells (l.set k y)
  | [], _, h => by simp at h
  | x :: r, 0, _ => by simp [skCells, Sk.cells, set7]
  | x :: r, k + 1, h => by
    have e : skCells (x :: r) = x.cells.toList ++ skCells r := by simp [skCells]
    have e2 : skCells ((x :: r).set (k + 1) y) = x.cells.toList ++ skCells (r.set k y) := by simp [skCells]
    rw [e, e2, show (k + 1) * 7 = x.cells.toList.length + k * 7 by simp [Sk.cells]; omega, set7_append, set7_cells y r k (by simpa using h)]

/-- seven cells of a slot, stored -/
def World.put7 (w : World) (g j : Nat) (y : Sk) : World :=
  ((((((w.setCell ⟨g, j, none⟩ (.int .i64 y.n)).setCell ⟨g, j + 1, none⟩ (.int .i64 y.p.seq)).setCell ⟨g, j + 2, none⟩ (.int .i64 y.p.time)).setCell ⟨g, j + 3, none⟩ (.bool y.p.f)).setCell ⟨g, j + 4, none⟩ (.bool y.p.e)).setCell ⟨g, j + 5, none⟩ (.bool y.p.k)).setCell ⟨g, j + 6, none⟩ (.string y.p.t)
theorem own_put7 {w : World} {base : Nat} {e : TypeId} {g n cap k : Nat} {l : List Sk} (h : w.ownsRow base e 7 (.slice (some ⟨g, 0, none⟩) n cap) n (skCells l)) (hk : k < l.length) (y : Sk) :
    (World.put7 w g (k * 7) y).ownsRow base e 7 (.slice (some ⟨g, 0, none⟩) n cap) n (skCells (l.set k y)) := by
  rw [← set7_cells y l k hk]
  exact own_set (own_set (own_set (own_set (own_set (own_set (own_set h _) _) _) _) _) _) _
theorem put7_block {w : World} {g j : Nat} {y : Sk} {b : Nat} (h : b ≠ g) : (World.put7 w g j y).heap[b]? = w.heap[b]? := by
  unfold World.put7
  rw [Below.heap_setCell _ _ _ _ (by exact h), Below.heap_setCell _ _ _ _ (by exact h), Below.heap_setCell _ _ _ _ (by exact h), Below.heap_setCell _ _ _ _ (by exact h), Below.heap_setCell _ _ _ _ (by exact h), Below.heap_setCell _ _ _ _ (by exact h), Below.heap_setCell _ _ _ _ (by exact h)]
theorem put7_size {w : World} {g j : Nat} {y : Sk} : (World.put7 w g j y).heap.size = w.heap.size := by simp [World.put7]
theorem put7_below {B : Nat} {w0 w : World} {g j : Nat} {y : Sk} (h : Below B w0 w) (hg : B ≤ g) : Below B w0 (World.put7 w g j y) := by
  unfold World.put7
  exact (((((((h.setCell (by exact hg) _).setCell (by exact hg) _).setCell (by exact hg) _).setCell (by exact hg) _).setCell (by exact hg) _).setCell (by exact hg) _).setCell (by exact hg) _)

theorem putAt_len (l : List Sk) (k : Nat) (x : Sk) (hk : k ≤ l.length) : (putAt l k x).length = l.length + 1 := by simp [putAt]; omega
theorem putAt_at (l : List Sk) (k : Nat) (x : Sk) (hk : k ≤ l.length) : (putAt l k x)[k]? = some x := by
  unfold putAt
  rw [List.getElem?_append_right (by simp; omega)]
  simp [Nat.min_eq_left hk]
theorem putAt_ahead (l : List Sk) (k j : Nat) (x : Sk) (hk : k ≤ l.length) (hj : j < k) : (putAt l k x)[j]? = l[j]? := by
  unfold putAt
  rw [List.getElem?_append_left (by simp; omega), List.getElem?_take, if_pos hj]
theorem putAt_swap (x : Sk) : ∀ (l : List Sk) (k : Nat), k < l.length → ((putAt l (k + 1) x).set (k + 1) (l[k]?.getD Sk.zero)).set k x = putAt l k x
  | [], _, h => by simp at h
  | y :: r, 0, _ => by simp [putAt]
  | y :: r, k + 1, h => by
    have := putAt_swap x r k (by simpa using h)
    simp only [putAt, List.take_succ_cons, List.drop_succ_cons, List.cons_append, List.set_cons_succ, List.getElem?_cons_succ, List.cons.injEq, true_and] at this ⊢
    exact this
theorem upB_ge {a : Int} {l : List Sk} (h : upB a l = true) {k : Nat} (hk : k < l.length) : (l[0]?.getD Sk.zero).n ≤ (l[k]?.getD Sk.zero).n := by
  cases l with
  | nil => simp at hk
  | cons y r =>
    cases k with
    | zero => exact Int.le_refl _
    | succ k =>
      simp only [upB, Bool.and_eq_true] at h
      have hk' : k < r.length := by simpa using hk
      have := upB_all h.2 r[k] (List.getElem_mem hk')
      simp [hk']
      omega
theorem place_of (x : Sk) : ∀ (l : List Sk) (k : Nat) (a : Int), upB a l = true → k ≤ l.length → (∀ y ∈ l.drop k, x.n < y.n) → (k = 0 ∨ ¬ x.n < (l[k - 1]?.getD Sk.zero).n) → place l x = k
  | [], k, _, _, hk, _, _ => by have : k = 0 := by simpa using hk
                                rw [this]; rfl
  | y :: r, 0, _, _, _, h1, _ => by
    rw [place_cons, if_pos (h1 y (by simp))]
  | y :: r, k + 1, a, hu, hk, h1, h2 => by
    have hge := upB_ge hu (k := k) (by simp at hk ⊢; omega)
    have h2' : ¬ x.n < ((y :: r)[k]?.getD Sk.zero).n := by
      rcases h2 with h2 | h2
      · omega
      · simpa using h2
    have hy : ¬ x.n < y.n := by
      have : ((y :: r)[0]?.getD Sk.zero).n = y.n := rfl
      omega
    rw [place_cons, if_neg hy]
    simp only [upB, Bool.and_eq_true] at hu
    rw [place_of x r k y.n hu.2 (by simpa using hk) (by simpa using h1) (by
      cases k with
      | zero => left; rfl
      | succ k => right; simpa using h2')]

end Go.Proofs.YtnpaejknoipicafGreat

namespace Go.Proofs.YtnpaejknoipicafGreat
open Go.RowKit

set_option maxHeartbeats 4000000 in
set_option maxRecDepth 100000 in
theorem putOf_any (next : Int) (v : Value) (l : List Sk) (x : Sk) (w : World) (hv : Sls w v l) (hR : Right next l) (hx : x.chk = 0) :
    Calls Tryz.prog 75 #[.agg #[.int .i64 next, v], x.val] w fun e w' => ∃ hv' ov', e = .returned (.tuple #[.agg #[.int .i64 (putF next l x).1, hv'], ov']) ∧
      Sls w' hv' (putF next l x).2.1 ∧ Sls w' ov' (putF next l x).2.2 ∧ Below w.heap.size w w' ∧ (0 < (putF next l x).2.1.length → ∀ g, hv'.ownBlock = some g → (v.ownBlock = some g ∧ 0 < l.length) ∨ w.heap.size ≤ g) ∧ (∀ g, ov'.ownBlock = some g → w.heap.size ≤ g) := by
  obtain ⟨i0, hi, hz0, hz1, hz2⟩ := info_parts Tryz.infoSlot
  obtain ⟨ao, c, hva, hc⟩ := hv.parts
  have HV : Hid (Sls w v l) := hv
  have HRI : Hid (Right next l) := hR
  obtain ⟨n, hn⟩ : ∃ n, n = l.length := ⟨_, rfl⟩
  have HN : Hid (n = l.length) := hn
  have HC : Hid (∀ k, k < l.length → ∃ b off, ao = some ⟨b, off, none⟩ ∧ b < w.heap.size ∧ At7 w b (off + k * 7) (l[k]?.getD Sk.zero)) := hc
  have hn4 : n ≤ 4 := by rw [hn]; exact hR.2.1
  have hxn := Sk.chk_zero hx
  have hx1 : 65536 ≤ x.n ∧ x.n ≤ 1000000000 := ⟨hxn.1, hxn.2.1⟩
  rw [← hn] at hva
  obtain ⟨nx, hnx⟩ : ∃ nx : Int, nx = if next = 0 then x.n else next := ⟨_, rfl⟩
  have HNX : Hid (nx = if next = 0 then x.n else next) := hnx
  have hnx1 : 65536 ≤ nx ∧ nx ≤ 1000000001 := by
    rw [hnx]
    split
    · omega
    · rcases hR.1 with ⟨h, _⟩ | h
      · contradiction
      · exact h
  obtain ⟨R, hR'⟩ : ∃ R, R = putF next l x := ⟨_, rfl⟩
  have HR : Hid (R = putF next l x) := hR'
  rw [← hR']
  have HRR : Hid (x.n < nx → R = (nx, l, [])) := fun h => by rw [hR']; unfold putF; rw [← hnx, if_pos h]
  have HRR2 : Hid ((l.any fun y => y.n == x.n) = true → R = (nx, l, [])) := fun h => by
    rw [hR']; unfold putF; rw [← hnx, if_pos h]
    split <;> rfl
  have HRR3 : Hid (nx ≤ x.n → (l.any fun y => y.n == x.n) = false → R = relF 4 nx (insF l x) []) := fun h h2 => by
    rw [hR']; unfold putF; rw [← hnx, if_neg (by omega), h2, if_neg (by simp)]
  clear hv hn hc hnx hR' hR hxn hx
  subst hva
  obtain ⟨X, hX⟩ : ∃ X : Sk, X = x := ⟨_, rfl⟩
  have HX : Hid (X = x) := hX
  clear hX
  obtain ⟨xn, seq, time, xf, xe, xk, xt⟩ := x
  simp only [Sk.val] at hx1 HRR HRR3 HNX ⊢
  go_enter Tryz.func75, Tryz.ntmps75
  go_upto_if 11 with fail
  go_cut [] (fun wc => Hid (Blk wc w.heap.size #[.int .i64 nx, .slice ao n c] 57) ∧ Hid (Blk wc (w.heap.size + 1) #[.int .i64 xn, .int .i64 seq, .int .i64 time, .bool xf, .bool xe, .bool xk, .string xt] 91) ∧ Hid (Blk wc (w.heap.size + 1 + 1) #[.int .i64 0, .slice none 0 0] 57) ∧ Hid (Below w.heap.size w wc))
  case first =>
    obtain ⟨W, hW⟩ : ∃ W, W = (((w.alloc (.cells #[.int .i64 next, .slice ao n c] 57)).alloc (.cells #[.int .i64 xn, .int .i64 seq, .int .i64 time, .bool xf, .bool xe, .bool xk, .string xt] 91)).alloc (.cells #[.int .i64 0, .slice none 0 0] 57)) := ⟨_, rfl⟩
    rw [← hW]
    obtain ⟨kb, kx, kr, bW, sW⟩ := blocks3 (w := w) (w1 := W) (by rw [hW]; exact Below.refl _ _)
    clear hW
    obtain ⟨b0, b1⟩ := kb.two
    have x0 := kx.seven.1
    have fr := kb.free
    have KB : Hid (Blk W w.heap.size #[.int .i64 next, .slice ao n c] 57) := kb
    have KX : Hid (Blk W (w.heap.size + 1) #[.int .i64 xn, .int .i64 seq, .int .i64 time, .bool xf, .bool xe, .bool xk, .string xt] 91) := kx
    have KR : Hid (Blk W (w.heap.size + 1 + 1) #[.int .i64 0, .slice none 0 0] 57) := kr
    have BW : Hid (Below w.heap.size w W) := bW
    clear kb kx kr bW
    by_cases h0 : next = 0
    · have e : nx = xn := by rw [HNX.out, if_pos h0]
      subst h0
      go_wp2_with fail
      go_meet
      case rel =>
        rw [e]
        exact ⟨KB.out.set 0 _, KX.out.other (by simp) _, KR.out.other (by simp; omega) _, BW.out.setCell (by simp) _⟩
    · have e : nx = next := by rw [HNX.out, if_neg h0]
      go_wp2_with fail
      go_meet
      case rel =>
        rw [e]
        exact ⟨KB, KX, KR, BW⟩
  case rest =>
    obtain ⟨KB, KX, KR, BC⟩ := hcut
    go_wp2_with fail
    go_loopw [6] (fun i wr => ∃ k : Nat, k ≤ n ∧ i = .int .i64 k ∧ Hid (∀ j, j < k → ¬ (l[j]?.getD Sk.zero).n = xn) ∧ Hid (Below wc.heap.size wc wr))
      (fun i _ => n - (intOf i).toNat)
    case atStart => exact ⟨0, Nat.zero_le _, rfl, (show ∀ j, j < 0 → _ from fun j hj => absurd hj (Nat.not_lt_zero _)), Below.refl _ _⟩
    case round =>
      obtain ⟨k, hk, rfl, HK, HB⟩ := hrel
      have kb := Blk.below KB.out HB.out (Blk.lt KB.out)
      have kx := Blk.below KX.out HB.out (Blk.lt KX.out)
      have kr := Blk.below KR.out HB.out (Blk.lt KR.out)
      have BR : Hid (Below w.heap.size w wr) := BC.out.trans (HB.out.mono BC.out.size)
      have KB1 : Hid (Blk wr w.heap.size #[.int .i64 nx, .slice ao n c] 57) := kb
      have KX1 : Hid (Blk wr (w.heap.size + 1) #[.int .i64 xn, .int .i64 seq, .int .i64 time, .bool xf, .bool xe, .bool xk, .string xt] 91) := kx
      have KR1 : Hid (Blk wr (w.heap.size + 1 + 1) #[.int .i64 0, .slice none 0 0] 57) := kr
      obtain ⟨b0, b1⟩ := kb.two
      obtain ⟨x0, x1, x2, x3, x4, x5, x6⟩ := kx.seven
      obtain ⟨r0, r1⟩ := kr.two
      have rf := kr.free
      clear kb kx kr
      by_cases hlt : k < n
      · obtain ⟨b, off, rfl, hbb, hat⟩ := HC.out k (by rw [← HN.out]; exact hlt)
        have c0 := (hat.below BR.out hbb).1
        obtain ⟨y, hy⟩ : ∃ y, y = (l[k]?.getD Sk.zero).n := ⟨_, rfl⟩
        rw [← hy] at c0
        have HY : Hid (y = (l[k]?.getD Sk.zero).n) := hy
        have hlti : (k : Int) < (n : Int) := by omega
        clear hy hat
        by_cases he : y = xn
        · have hd : (y == xn) = true := by simpa using he
          have HRE : Hid (R = (nx, l, [])) := HRR2.out (by
            rw [List.any_eq_true]
            have hkl : k < l.length := by rw [← HN.out]; exact hlt
            refine ⟨l[k], List.getElem_mem hkl, ?_⟩
            have := HY.out
            rw [List.getElem?_eq_getElem hkl, Option.getD_some] at this
            simp [← this, he])
          go_wp2
          go_quiet (fail)
          go_wp2
          refine bodyPost_ret (v := .tuple #[.agg #[.int .i64 nx, .slice (some ⟨b, off, none⟩) n c], .slice none 0 0]) (by simp [results, Tryz.results75, go_sem, r0, r1]) rfl ?_
          rw [HRE.out]
          have b3 := ((below_drewN BR.out nq).setCell (p := ⟨w.heap.size + 1 + 1, 0, none⟩) (by simp; omega) (.int .i64 nx)).setCell (p := ⟨w.heap.size + 1 + 1, 1, none⟩) (by simp; omega) (.slice (some ⟨b, off, none⟩) n c)
          exact ⟨_, _, rfl, HV.out.below b3, Sls.nil _, b3, fun h0 g hg => .inl ⟨hg, h0⟩, fun g hg => by simp [Value.ownBlock] at hg⟩
        · have hd : (y == xn) = false := by simpa using he
          go_wp2
          go_quiet (fail)
          go_wp2
          go_roundw
          case rel =>
            refine ⟨k + 1, by omega, by go_num, (show ∀ j, j < k + 1 → _ from fun j hj => ?_), below_drewN HB.out _⟩
            by_cases e : j = k
            · subst e; rw [← HY.out]; exact he
            · exact HK.out j (by omega)
          case measure => simp [intOf]; omega
      · have hkl : k = n := by omega
        subst hkl
        have HANY : Hid ((l.any fun y => y.n == xn) = false) := by
          show _ = _
          rw [List.any_eq_false]
          intro y hy
          obtain ⟨j, hj, rfl⟩ := List.getElem_of_mem hy
          have := HK.out j (by rw [HN.out]; exact hj)
          rw [List.getElem?_eq_getElem hj, Option.getD_some] at this
          simpa using this
        by_cases hl : xn < nx
        · have HRE : Hid (R = (nx, l, [])) := HRR.out hl
          go_wp2
          refine bodyPost_ret (v := .tuple #[.agg #[.int .i64 nx, .slice ao k c], .slice none 0 0]) (by simp [results, Tryz.results75, go_sem, r0, r1]) rfl ?_
          rw [HRE.out]
          have b3 := (BR.out.setCell (p := ⟨w.heap.size + 1 + 1, 0, none⟩) (by simp; omega) (.int .i64 nx)).setCell (p := ⟨w.heap.size + 1 + 1, 1, none⟩) (by simp; omega) (.slice ao k c)
          exact ⟨_, _, rfl, HV.out.below b3, Sls.nil _, b3, fun h0 g hg => .inl ⟨hg, h0⟩, fun g hg => by simp [Value.ownBlock] at hg⟩
        · have HRE : Hid (R = relF 4 nx (insF l X) []) := by rw [HX.out]; exact HRR3.out (by omega) HANY.out
          go_wp2_with fail
          have happ : App1 Tryz.prog wr 55 91 55 7 k (skCells l) (.slice ao k c) := by
            refine app1_any wr _ _ _ i0 _ 7 48 Tryz.underlying55 hi hz0 hz1 hz2 rfl (by decide) k (skCells l) (.slice ao k c) ?_ (sk_one l) (by unfold maxLen; omega) (by omega)
            have := HV.out.below BR.out
            unfold Sls at this
            rw [← HN.out] at this
            exact this
          refine region_app2 (by kernel_rfl) (by kernel_rfl) (by kernel_rfl) 55 91 i0 _ 7 48 Tryz.underlying55 hi hz0 hz1 hz2 rfl (by decide) 38 39 40 41 42 43 44 7 2 rfl rfl rfl rfl rfl rfl rfl rfl (by rfl) k (skCells l) (.slice ao k c) happ
            [.int .i64 xn, .int .i64 seq, .int .i64 time, .bool xf, .bool xe, .bool xk, .string xt] rfl ?hx1 (.pointer (some ⟨w.heap.size, 1, none⟩)) (.agg #[.int .i64 xn, .int .i64 seq, .int .i64 time, .bool xf, .bool xe, .bool xk, .string xt]) 3 (by rfl) ?r0 ?r1 ?r2 rfl ?r4 ?r5 rfl ?r7 (by unfold maxLen; omega) (by omega) ?_
          case hx1 => exact oneSlot ⟨xn, ⟨seq, time, xf, xe, xk, xt⟩⟩
          case r0 =>
            intro a' w'
            generalize a'.eval = ρ
            simp [execOp, go_sem]
          case r1 =>
            intro a' w' h
            have h2 : a'.eval (.tmp 2) = .pointer (some ⟨w.heap.size, 0, none⟩) := h.trans rfl
            clear h
            generalize a'.eval = ρ at *
            simp [execOp, go_sem, h2]
          case r2 =>
            intro a' w' h hb
            have c1 := (hb.cell (p := ⟨w.heap.size, 1, none⟩) (Blk.lt KB1.out)).trans b1
            generalize a'.eval = ρ at *
            simp [execOp, go_sem, h, c1]
          case r4 =>
            intro a' w' h hb
            have h2 : a'.eval (.tmp 3) = .pointer (some ⟨w.heap.size + 1, 0, none⟩) := h.trans rfl
            obtain ⟨y0, y1, y2, y3, y4, y5, y6⟩ := (KX1.out.below hb (Blk.lt KX1.out)).seven
            clear h
            generalize a'.eval = ρ at *
            simp [execOp, go_sem, h2, y0, y1, y2, y3, y4, y5, y6]
          case r5 =>
            intro a' w' h
            generalize a'.eval = ρ at *
            simp [execOp, go_sem, h]
          case r7 =>
            intro a' w'
            generalize a'.eval = ρ at *
            simp [execOp, go_sem]
          intro u0 u3 u5 v7 w7 hown7 hb7
          have hlw := Blk.lt KR1.out
          obtain ⟨g, cap, hv7, hg7, hcap7⟩ : ∃ g cap, v7 = .slice (some ⟨g, 0, none⟩) (k + 1) cap ∧ wr.heap.size ≤ g ∧ k + 1 ≤ cap := by
            obtain ⟨_, ⟨_, h⟩ | ⟨g, cap, cur, h1, h2, _, h3, _⟩⟩ := hown7
            · omega
            · exact ⟨g, cap, h1, h2, h3⟩
          subst hv7
          have OW7 : Hid (w7.ownsRow wr.heap.size 91 7 (.slice (some ⟨g, 0, none⟩) (k + 1) cap) (k + 1) (skCells (putAt l k X))) := by
            show World.ownsRow _ _ _ _ _ _ _
            have e : skCells (putAt l k X) = skCells l ++ [.int .i64 xn, .int .i64 seq, .int .i64 time, .bool xf, .bool xe, .bool xk, .string xt] := by
              unfold putAt
              rw [HN.out, List.take_length, List.drop_length, skCells_append, skCells_one, HX.out]
              rfl
            rw [e]; exact hown7
          obtain ⟨Z, hZ⟩ : ∃ Z, Z = wr.heap.size := ⟨_, rfl⟩
          have B7 : Hid (Below w.heap.size w w7) := BR.out.trans (hb7.mono BR.out.size)
          have KB7 : Hid (Blk w7 w.heap.size #[.int .i64 nx, .slice ao k c] 57) := Blk.below KB1.out hb7 (Blk.lt KB1.out)
          have KR7 : Hid (Blk w7 (w.heap.size + 1 + 1) #[.int .i64 0, .slice none 0 0] 57) := Blk.below KR1.out hb7 (Blk.lt KR1.out)
          rw [← hZ] at OW7 hg7 hlw
          clear hown7 hb7 happ hZ KB1 KR1 KX1 BR b0 b1 x0 x1 x2 x3 x4 x5 x6 r0 r1 rf KB KX KR BC HB
          have hki : ((k + 1 : Nat) : Int) - 1 = (k : Int) := by omega
          have HREL : Hid (∀ U : World, Sls U (.slice (some ⟨g, 0, none⟩) (k + 1) cap) (insF l X) → Calls Tryz.prog 119 #[.agg #[.int .i64 nx, .slice (some ⟨g, 0, none⟩) (k + 1) cap], .int .i64 4] U fun e w' => ∃ hv' ov', e = .returned (.tuple #[.agg #[.int .i64 R.1, hv'], ov']) ∧
              Sls w' hv' R.2.1 ∧ Sls w' ov' R.2.2 ∧ Below U.heap.size U w' ∧ (0 < R.2.1.length → ∀ g', hv'.ownBlock = some g' → (Value.slice (some ⟨g, 0, none⟩) (k + 1) cap).ownBlock = some g' ∨ U.heap.size ≤ g') ∧ (∀ g', ov'.ownBlock = some g' → U.heap.size ≤ g')) := fun U hs => by
            have hnl : Nums l := fun y hy => by have := Sk.chk_zero (HRI.out.2.2.1 y hy); omega
            have := released_any 4 nx (.slice (some ⟨g, 0, none⟩) (k + 1) cap) (insF l X) U hs (fun a n c e => by injection e with _ e2 e3; omega) (nums_ins hnl (by rw [HX.out]; exact hx1)) (by omega) (by rw [insF_len, ← HN.out]; omega)
            rw [← HRE.out] at this
            exact this
          go_wp2_with fail
          go_loopw [8] (fun i w8 => ∃ j : Nat, j ≤ k ∧ i = .int .i64 j ∧ Hid (w8.ownsRow Z 91 7 (.slice (some ⟨g, 0, none⟩) (k + 1) cap) (k + 1) (skCells (putAt l j X))) ∧ Hid (∀ y ∈ l.drop j, xn < y.n) ∧ Hid (Blk w8 w.heap.size #[.int .i64 nx, .slice ao k c] 57) ∧ Hid (Blk w8 (w.heap.size + 1 + 1) #[.int .i64 0, .slice none 0 0] 57) ∧ Hid (Below w.heap.size w w8))
            (fun i _ => (intOf i).toNat)
          case atStart => exact ⟨k, Nat.le_refl _, by go_num, OW7.out, (show ∀ y ∈ _, _ from by rw [HN.out, List.drop_length]; intro y hy; cases hy), KB7.out, KR7.out, B7.out⟩
          case round =>
            obtain ⟨j, hj, rfl, HO, HU, KB8, KR8, B8⟩ := hrel
            obtain ⟨b0, b1⟩ := Blk.two KB8.out
            have hplen : (putAt l j X).length = k + 1 := by rw [putAt_len l j X (by rw [← HN.out]; exact hj), HN.out]
            have HPL : Hid ((putAt l j X).length = k + 1) := hplen
            have hsl : Sls wr (.slice (some ⟨g, 0, none⟩) (k + 1) cap) (putAt l j X) := Sls.of_owns (base := Z) (by rw [hplen]; exact HO.out)
            obtain ⟨a8, c8, e8, hat8⟩ := hsl.parts
            rw [hplen] at e8 hat8
            injection e8 with e8a _ e8c
            subst e8a
            clear e8c
            have HAT : Hid (∀ q, q < k + 1 → ∃ b off, some (⟨g, 0, none⟩ : Addr) = some ⟨b, off, none⟩ ∧ b < wr.heap.size ∧ At7 wr b (off + q * 7) ((putAt l j X)[q]?.getD Sk.zero)) := hat8
            clear hat8 hsl hplen
            have HEND : Hid (∀ (q : Nat), q = place l X → q = j → Sls wr (.slice (some ⟨g, 0, none⟩) (k + 1) cap) (insF l X)) := fun q h1 h2 => by
              have e : insF l X = putAt l j X := by unfold insF; rw [← h1, h2]
              rw [e]
              refine Sls.of_owns (base := Z) ?_
              rw [HPL.out]; exact HO.out
            cases j with
            | zero =>
              have hd : decide ((0 : Int) < 0) = false := rfl
              have HINS : Hid (Sls wr (.slice (some ⟨g, 0, none⟩) (k + 1) cap) (insF l X)) := HEND.out 0 (place_of X l 0 next HRI.out.2.2.2 (Nat.zero_le _) (by rw [HX.out]; exact HU.out) (.inl rfl)).symm rfl
              clear HAT HEND
              go_wp2_with fail
              go_quiet (fail)
              go_wp2_with fail
              refine (HREL.out _ (HINS.out.below (below_drewN (Below.refl _ _) _))).mono ?_
              rintro e w9 ⟨hv', ov', rfl, s1, s2, hb9, f1, f2⟩
              obtain ⟨a1, c1, e1⟩ := s1.len
              obtain ⟨a2, c2, e2⟩ := s2.len
              subst e1 e2
              have b89 := (below_drewN (Below.refl _ wr) nq).trans hb9
              have kr9 : Blk w9 (w.heap.size + 1 + 1) #[.int .i64 0, .slice none 0 0] 57 := KR8.out.below b89 KR8.out.lt
              obtain ⟨r0, r1⟩ := kr9.two
              have rf := kr9.free
              have hsz9 : Z ≤ wr.heap.size := Nat.le_of_lt (Nat.lt_of_le_of_lt hg7 ((HO.out.lt g rfl).2))
              have HF : Hid (∀ w3 : World, Hid (w3 = (w9.setCell ⟨w.heap.size + 1 + 1, 0, none⟩ (.int .i64 R.1)).setCell ⟨w.heap.size + 1 + 1, 1, none⟩ (.slice a1 R.2.1.length c1)) → Sls w3 (.slice a1 R.2.1.length c1) R.2.1 ∧ Sls w3 (.slice a2 R.2.2.length c2) R.2.2 ∧ Below w.heap.size w w3 ∧ (0 < R.2.1.length → ∀ g', (Value.slice a1 R.2.1.length c1).ownBlock = some g' → ((Value.slice ao k c).ownBlock = some g' ∧ 0 < l.length) ∨ w.heap.size ≤ g') ∧ (∀ g', (Value.slice a2 R.2.2.length c2).ownBlock = some g' → w.heap.size ≤ g')) := fun w3 hw3 => by
                have hblk : ∀ j, j ≠ w.heap.size + 1 + 1 → w3.heap[j]? = w9.heap[j]? := fun j hj => by rw [hw3.out, Below.heap_setCell _ _ _ _ (by exact hj), Below.heap_setCell _ _ _ _ (by exact hj)]
                have hs3 : w3.heap.size = w9.heap.size := by rw [hw3.out]; simp
                refine ⟨s1.same (by omega) (fun h0 g' hg' => hblk g' ?_), s2.same (by omega) (fun _ g' hg' => hblk g' (by have := f2 g' hg'; change wr.heap.size ≤ g' at this; omega)), ?_⟩
                · rcases f1 h0 g' hg' with h | h
                  · simp only [Value.ownBlock, Option.some.injEq] at h; omega
                  · change wr.heap.size ≤ g' at h; omega
                · refine ⟨by rw [hw3.out]; exact ((B8.out.trans (b89.mono B8.out.size)).setCell (by simp; omega) _).setCell (by simp; omega) _, fun h0 g' hg' => ?_, fun g' hg' => by have := f2 g' hg'; change wr.heap.size ≤ g' at this; omega⟩
                  rcases f1 h0 g' hg' with h | h
                  · right; simp only [Value.ownBlock, Option.some.injEq] at h; omega
                  · right; change wr.heap.size ≤ g' at h; omega
              clear hb9 kr9 b89 f1 f2 s1 s2
              go_wp2
              exact bodyPost_ret (v := .tuple #[.agg #[.int .i64 R.1, .slice a1 R.2.1.length c1], .slice a2 R.2.2.length c2]) (by simp [results, Tryz.results75, go_sem, r0, r1]) rfl ⟨_, _, rfl, HF.out _ rfl⟩
            | succ m =>
              obtain ⟨b', off', e', hb', hat'⟩ := HAT.out (m + 1) (by omega)
              cases e'
              obtain ⟨b', off', e', _, hat''⟩ := HAT.out m (by omega)
              cases e'
              rw [putAt_at l (m + 1) X (by rw [← HN.out]; exact hj), Option.getD_some, HX.out] at hat'
              rw [putAt_ahead l (m + 1) m X (by rw [← HN.out]; exact hj) (by omega)] at hat''
              obtain ⟨y, hy⟩ : ∃ y, y = l[m]?.getD Sk.zero := ⟨_, rfl⟩
              rw [← hy] at hat''
              have HY : Hid (y = l[m]?.getD Sk.zero) := hy
              simp only [Nat.zero_add] at hat' hat''
              obtain ⟨p0, p1, p2, p3, p4, p5, p6⟩ := hat'
              obtain ⟨q0, q1, q2, q3, q4, q5, q6⟩ := hat''
              have hmi : ((m + 1 : Nat) : Int) - 1 = (m : Int) := by omega
              have hmk : (m : Int) < ((k + 1 : Nat) : Int) := by omega
              have hmk2 : ((m + 1 : Nat) : Int) < ((k + 1 : Nat) : Int) := by omega
              have hd : decide ((0 : Int) < ((m + 1 : Nat) : Int)) = true := decide_eq_true (by omega)
              clear hy
              by_cases hlt2 : xn < y.n
              · have hd2 : decide (xn < y.n) = true := decide_eq_true hlt2
                have fz : ∀ q, wr.frozen? ⟨g, q, none⟩ = false := fun q => by
                  obtain ⟨_, cur, hcur⟩ := owns_blk HO.out (g := g) rfl
                  exact hcur.free q
                go_wp2_with fail
                go_quiet (fail)
                go_wp2_with fail
                go_region
                obtain ⟨w8, hw8⟩ : ∃ w8, w8 = World.put7 (World.put7 (wr.drewN (nq + 1)) g ((m + 1) * 7) y) g (m * 7) X := ⟨_, rfl⟩
                have e8 : World.put7 (World.put7 (wr.drewN (nq + 1)) g ((m + 1) * 7) y) g (m * 7) ⟨xn, ⟨seq, time, xf, xe, xk, xt⟩⟩ = w8 := by rw [hw8, HX.out]
                have O8 : Hid (w8.ownsRow Z 91 7 (.slice (some ⟨g, 0, none⟩) (k + 1) cap) (k + 1) (skCells (putAt l m X))) := by
                  show World.ownsRow _ _ _ _ _ _ _
                  have hml : m < l.length := by rw [← HN.out]; omega
                  rw [hw8, ← putAt_swap X l m hml, ← HY.out]
                  have hO : (wr.drewN (nq + 1)).ownsRow Z 91 7 (.slice (some ⟨g, 0, none⟩) (k + 1) cap) (k + 1) (skCells (putAt l (m + 1) X)) := owns_same HO.out (fun _ _ => rfl)
                  exact own_put7 (own_put7 hO (by rw [HPL.out]; omega) y) (by rw [List.length_set, HPL.out]; omega) X
                have hblk : ∀ j, j ≠ g → w8.heap[j]? = wr.heap[j]? := fun j hj => by rw [hw8, put7_block hj, put7_block hj]; rfl
                have K8 : Hid (Blk w8 w.heap.size #[.int .i64 nx, .slice ao k c] 57) := (hblk _ (by omega)).trans KB8.out
                have R8 : Hid (Blk w8 (w.heap.size + 1 + 1) #[.int .i64 0, .slice none 0 0] 57) := (hblk _ (by omega)).trans KR8.out
                have L8 : Hid (Below w.heap.size w w8) := by
                  show Below _ _ _
                  rw [hw8]; exact put7_below (put7_below (below_drewN B8.out _) (by omega)) (by omega)
                have U8 : Hid (∀ z ∈ l.drop m, xn < z.n) := fun z hz => by
                  have hml : m < l.length := by rw [← HN.out]; omega
                  rw [List.drop_eq_getElem_cons hml] at hz
                  rcases List.mem_cons.1 hz with rfl | hz
                  · have := HY.out
                    rw [List.getElem?_eq_getElem hml, Option.getD_some] at this
                    rw [← this]; exact hlt2
                  · exact HU.out z hz
                change Exit.inBlock _ _ _ _ (World.put7 (World.put7 (wr.drewN (nq + 1)) g ((m + 1) * 7) y) g (m * 7) ⟨xn, ⟨seq, time, xf, xe, xk, xt⟩⟩)
                rw [e8]
                clear hw8 e8 hblk p0 p1 p2 p3 p4 p5 p6 q0 q1 q2 q3 q4 q5 q6 fz b0 b1 HO KB8 KR8 B8 HU HAT HEND
                go_wp2_with fail
                go_roundw
                case rel => exact ⟨m, by omega, by go_num, O8.out, U8.out, K8.out, R8.out, L8.out⟩
                case measure => simp [intOf]
              · have hd2 : decide (xn < y.n) = false := decide_eq_false hlt2
                have HINS : Hid (Sls wr (.slice (some ⟨g, 0, none⟩) (k + 1) cap) (insF l X)) := HEND.out (m + 1) (place_of X l (m + 1) next HRI.out.2.2.2 (by rw [← HN.out]; exact hj) (by rw [HX.out]; exact HU.out) (.inr (by rw [show m + 1 - 1 = m by omega, ← HY.out, HX.out]; exact hlt2))).symm rfl
                clear HAT HEND
                go_wp2_with fail
                go_quiet (fail)
                go_wp2_with fail
                refine (HREL.out _ (HINS.out.below (below_drewN (Below.refl _ _) _))).mono ?_
                rintro e w9 ⟨hv', ov', rfl, s1, s2, hb9, f1, f2⟩
                obtain ⟨a1, c1, e1⟩ := s1.len
                obtain ⟨a2, c2, e2⟩ := s2.len
                subst e1 e2
                have b89 := (below_drewN (Below.refl _ wr) nq).trans hb9
                have kr9 : Blk w9 (w.heap.size + 1 + 1) #[.int .i64 0, .slice none 0 0] 57 := KR8.out.below b89 KR8.out.lt
                obtain ⟨r0, r1⟩ := kr9.two
                have rf := kr9.free
                have hsz9 : Z ≤ wr.heap.size := Nat.le_of_lt (Nat.lt_of_le_of_lt hg7 ((HO.out.lt g rfl).2))
                have HF : Hid (∀ w3 : World, Hid (w3 = (w9.setCell ⟨w.heap.size + 1 + 1, 0, none⟩ (.int .i64 R.1)).setCell ⟨w.heap.size + 1 + 1, 1, none⟩ (.slice a1 R.2.1.length c1)) → Sls w3 (.slice a1 R.2.1.length c1) R.2.1 ∧ Sls w3 (.slice a2 R.2.2.length c2) R.2.2 ∧ Below w.heap.size w w3 ∧ (0 < R.2.1.length → ∀ g', (Value.slice a1 R.2.1.length c1).ownBlock = some g' → ((Value.slice ao k c).ownBlock = some g' ∧ 0 < l.length) ∨ w.heap.size ≤ g') ∧ (∀ g', (Value.slice a2 R.2.2.length c2).ownBlock = some g' → w.heap.size ≤ g')) := fun w3 hw3 => by
                  have hblk : ∀ j, j ≠ w.heap.size + 1 + 1 → w3.heap[j]? = w9.heap[j]? := fun j hj => by rw [hw3.out, Below.heap_setCell _ _ _ _ (by exact hj), Below.heap_setCell _ _ _ _ (by exact hj)]
                  have hs3 : w3.heap.size = w9.heap.size := by rw [hw3.out]; simp
                  refine ⟨s1.same (by omega) (fun h0 g' hg' => hblk g' ?_), s2.same (by omega) (fun _ g' hg' => hblk g' (by have := f2 g' hg'; change wr.heap.size ≤ g' at this; omega)), ?_⟩
                  · rcases f1 h0 g' hg' with h | h
                    · simp only [Value.ownBlock, Option.some.injEq] at h; omega
                    · change wr.heap.size ≤ g' at h; omega
                  · refine ⟨by rw [hw3.out]; exact ((B8.out.trans (b89.mono B8.out.size)).setCell (by simp; omega) _).setCell (by simp; omega) _, fun h0 g' hg' => ?_, fun g' hg' => by have := f2 g' hg'; change wr.heap.size ≤ g' at this; omega⟩
                    rcases f1 h0 g' hg' with h | h
                    · right; simp only [Value.ownBlock, Option.some.injEq] at h; omega
                    · right; change wr.heap.size ≤ g' at h; omega
                clear hb9 kr9 b89 f1 f2 s1 s2
                go_wp2
                exact bodyPost_ret (v := .tuple #[.agg #[.int .i64 R.1, .slice a1 R.2.1.length c1], .slice a2 R.2.2.length c2]) (by simp [results, Tryz.results75, go_sem, r0, r1]) rfl ⟨_, _, rfl, HF.out _ rfl⟩

end Go.Proofs.YtnpaejknoipicafGreat

namespace Go.Proofs.YtnpaejknoipicafGreat
open Go.RowKit Go.Sort

set_option maxHeartbeats 4000000 in
theorem packetOf_no (l : List UInt8) (w : World) (hform : formB l = false) :
    Calls Tryz.prog 73 #[.string (ba l)] w fun e w' => e = .returned (.tuple #[Pk.zero.val, .int .i64 1]) ∧ Below w.heap.size w w' := by
  simp only [Pk.zero, Pk.val]
  by_cases h8 : l.length < 8
  · have h8' : ((ba l).size : Int) < 8 := by rw [ba_size]; omega
    clear hform
    go_enter Tryz.func73, Tryz.ntmps73
    go_wp2
    exact bodyPost_ret (v := .tuple #[.agg #[.int .i64 0, .int .i64 0, .bool false, .bool false, .bool false, .string ByteArray.empty], .int .i64 1]) (by simp [results, Tryz.results73, go_sem]; rfl) rfl ⟨rfl, by go_grown⟩
  · have h8' : ¬ ((ba l).size : Int) < 8 := by rw [ba_size]; omega
    have hz0 : 0 < (ba l).size := by rw [ba_size]; omega
    have hz7 : 7 < (ba l).size := by rw [ba_size]; omega
    have g0 := ba_get l 0 hz0
    have g7 := ba_get l 7 hz7
    have b0' := at8_lt l 0
    have b7' := at8_lt l 7
    have hno : at8 l 0 < 128 ∨ 135 < at8 l 0 ∨ ((ba l).size : Int) ≠ 8 + at8 l 7 := by
      rw [ba_size]
      simp only [formB, Bool.and_eq_false_iff, decide_eq_false_iff_not] at hform
      omega
    generalize at8 l 0 = a0 at *
    generalize at8 l 7 = a7 at *
    clear hform h8
    by_cases hA : a0 < 128
    · have hA' : (a0 : Int) < 128 := by omega
      clear hno g7 b7'
      go_enter Tryz.func73, Tryz.ntmps73
      go_wp2
      exact bodyPost_ret (v := .tuple #[.agg #[.int .i64 0, .int .i64 0, .bool false, .bool false, .bool false, .string ByteArray.empty], .int .i64 1]) (by simp [results, Tryz.results73, go_sem]; rfl) rfl ⟨rfl, by go_grown⟩
    · have hA' : ¬ (a0 : Int) < 128 := by omega
      by_cases hB : 135 < a0
      · have hB' : (135 : Int) < a0 := by omega
        clear hno g7 b7'
        go_enter Tryz.func73, Tryz.ntmps73
        go_wp2
        exact bodyPost_ret (v := .tuple #[.agg #[.int .i64 0, .int .i64 0, .bool false, .bool false, .bool false, .string ByteArray.empty], .int .i64 1]) (by simp [results, Tryz.results73, go_sem]; rfl) rfl ⟨rfl, by go_grown⟩
      · have hB' : ¬ (135 : Int) < a0 := by omega
        have hne : (((ba l).size : Int) != 8 + (a7 : Int)) = true := by
          rw [bne_iff_ne]
          rcases hno with h | h | h
          · exact absurd h hA
          · exact absurd h hB
          · exact h
        clear hno
        go_enter Tryz.func73, Tryz.ntmps73
        go_wp2
        exact bodyPost_ret (v := .tuple #[.agg #[.int .i64 0, .int .i64 0, .bool false, .bool false, .bool false, .string ByteArray.empty], .int .i64 1]) (by simp [results, Tryz.results73, go_sem]; rfl) rfl ⟨rfl, by go_grown⟩

set_option maxHeartbeats 16000000 in
theorem packetOf_form (l : List UInt8) (w : World) (hform : formB l = true) :
    Calls Tryz.prog 73 #[.string (ba l)] w fun e w' => e = .returned (.tuple #[(if (Pk.told l).chk == 0 then Pk.told l else Pk.zero).val, .int .i64 (Pk.told l).chk]) ∧ Below w.heap.size w w' := by
  have hf4 : ((8 ≤ l.length ∧ l.length = 8 + at8 l 7) ∧ 128 ≤ at8 l 0) ∧ at8 l 0 ≤ 135 := by simpa [formB] using hform
  obtain ⟨⟨⟨h8, hl⟩, hh1⟩, hh2⟩ := hf4
  have h8' : ¬ ((ba l).size : Int) < 8 := by rw [ba_size]; omega
  have hz0 : 0 < (ba l).size := by rw [ba_size]; omega
  have hz7 : 7 < (ba l).size := by rw [ba_size]; omega
  have g0 := ba_get l 0 hz0
  have g7 := ba_get l 7 hz7
  have b7' := at8_lt l 7
  have hne : (((ba l).size : Int) != 8 + (at8 l 7 : Int)) = false := by rw [bne_eq_false_iff_eq, ba_size]; omega
  have HN1 := @id (Hid (∀ w : World, Calls Tryz.prog 117 #[.string (ba l), .int .i64 1, .int .i64 2] w fun e w' => e = .returned (.int .i64 (num ((l.drop 1).take 2))) ∧ w = w')) (fun w => numberAt_any l 1 2 1 2 w rfl rfl (by omega) (by decide) (by decide))
  have HN2 := @id (Hid (∀ w : World, Calls Tryz.prog 117 #[.string (ba l), .int .i64 3, .int .i64 4] w fun e w' => e = .returned (.int .i64 (num ((l.drop 3).take 4))) ∧ w = w')) (fun w => numberAt_any l 3 4 3 4 w rfl rfl (by omega) (by decide) (by decide))
  obtain ⟨p, hp⟩ : ∃ p, p = Pk.told l := ⟨_, rfl⟩
  have hseq : num ((l.drop 1).take 2) = p.seq := by rw [hp]; rfl
  have htime : num ((l.drop 3).take 4) = p.time := by rw [hp]; rfl
  have ht : ba (l.drop 8) = p.t := by rw [hp]; rfl
  have hpf : p.f = (at8 l 0 % 2 == 1) := by rw [hp]; rfl
  have hpe : p.e = (at8 l 0 / 2 % 2 == 1) := by rw [hp]; rfl
  have hpk : p.k = (at8 l 0 / 4 % 2 == 1) := by rw [hp]; rfl
  have hext : (ba l).extract 8 (ba l).size = p.t := by rw [ba_drop, ht]
  rw [hseq] at HN1
  rw [htime] at HN2
  rw [← hp]
  obtain ⟨c, hc⟩ : ∃ c, c = p.chk := ⟨_, rfl⟩
  have HCK := @id (Hid (∀ w : World, Calls Tryz.prog 118 #[p.val] w fun e w' => e = .returned (.int .i64 c) ∧ w' = w.alloc (.cells p.cells 89))) (fun w => by rw [hc]; exact refCheck_any p w)
  rw [← hc]
  clear hc hp hseq htime ht hform hl h8
  generalize at8 l 0 = a0 at *
  generalize at8 l 7 = a7 at *
  obtain ⟨seq, time, f, e, k, t⟩ := p
  simp only [Pk.val, Pk.cells] at *
  have u1 : (((a0 : Int) - 128).tmod 2 == 1) = f := by
    rw [hpf]
    have : a0 = 128 ∨ a0 = 129 ∨ a0 = 130 ∨ a0 = 131 ∨ a0 = 132 ∨ a0 = 133 ∨ a0 = 134 ∨ a0 = 135 := by omega
    rcases this with rfl | rfl | rfl | rfl | rfl | rfl | rfl | rfl <;> decide
  have u2 : ((IntKind.i64.wrap (((a0 : Int) - 128).tdiv 2)).tmod 2 == 1) = e := by
    rw [hpe]
    have : a0 = 128 ∨ a0 = 129 ∨ a0 = 130 ∨ a0 = 131 ∨ a0 = 132 ∨ a0 = 133 ∨ a0 = 134 ∨ a0 = 135 := by omega
    rcases this with rfl | rfl | rfl | rfl | rfl | rfl | rfl | rfl <;> decide
  have u3 : (IntKind.i64.wrap (((a0 : Int) - 128).tdiv 4) == 1) = k := by
    rw [hpk]
    have : a0 = 128 ∨ a0 = 129 ∨ a0 = 130 ∨ a0 = 131 ∨ a0 = 132 ∨ a0 = 133 ∨ a0 = 134 ∨ a0 = 135 := by omega
    rcases this with rfl | rfl | rfl | rfl | rfl | rfl | rfl | rfl <;> decide
  have hA' : ¬ (a0 : Int) < 128 := by omega
  have hB' : ¬ (135 : Int) < a0 := by omega
  clear hpf hpe hpk hh1 hh2
  cases hcz : (c == 0)
  · have hcn : (c != 0) = true := by simp at hcz; simp [hcz]
    simp only [Bool.false_eq_true, if_false, Pk.zero]
    go_enter Tryz.func73, Tryz.ntmps73
    go_wp2_with fail
    go_region_with (first | (go_at_call_of 117 (Value.int IntKind.i64 2); refine (HN1.out _).mono ?_; rintro e w' ⟨rfl, rfl⟩) | (go_at_call_of 117 (Value.int IntKind.i64 4); refine (HN2.out _).mono ?_; rintro e w' ⟨rfl, rfl⟩))
    all_goals
      go_wp2_with (go_at_call 118; refine (HCK.out _).mono ?_; rintro e w' ⟨rfl, rfl⟩)
      exact bodyPost_ret (v := .tuple #[.agg #[.int .i64 0, .int .i64 0, .bool false, .bool false, .bool false, .string ByteArray.empty], .int .i64 c]) (by simp [results, Tryz.results73, go_sem]; rfl) rfl ⟨rfl, by go_grown⟩
  · have hc0 : c = 0 := by simpa using hcz
    subst hc0
    clear hcz
    simp only [if_true]
    go_enter Tryz.func73, Tryz.ntmps73
    go_wp2_with fail
    go_region_with (first | (go_at_call_of 117 (Value.int IntKind.i64 2); refine (HN1.out _).mono ?_; rintro e w' ⟨rfl, rfl⟩) | (go_at_call_of 117 (Value.int IntKind.i64 4); refine (HN2.out _).mono ?_; rintro e w' ⟨rfl, rfl⟩))
    all_goals
      go_wp2_with (go_at_call 118; refine (HCK.out _).mono ?_; rintro e w' ⟨rfl, rfl⟩)
      exact bodyPost_ret (v := .tuple #[.agg #[.int .i64 seq, .int .i64 time, .bool f, .bool e, .bool k, .string t], .int .i64 0]) (by simp [results, Tryz.results73, go_sem]) rfl ⟨rfl, by go_grown⟩

theorem packetOf_any (l : List UInt8) (w : World) :
    Calls Tryz.prog 73 #[.string (ba l)] w fun e w' => e = .returned (.tuple #[(Pk.dec l).1.val, .int .i64 (Pk.dec l).2]) ∧ Below w.heap.size w w' := by
  unfold Pk.dec
  cases hform : formB l
  · exact packetOf_no l w hform
  · have h := packetOf_form l w hform
    cases hc : ((Pk.told l).chk == 0)
    · rw [hc] at h
      simpa using h
    · rw [hc] at h
      have : (Pk.told l).chk = 0 := by simpa using hc
      rw [this] at h
      simpa using h

end Go.Proofs.YtnpaejknoipicafGreat

namespace Go.Proofs.YtnpaejknoipicafGreat
open Go.RowKit

theorem Tryz.infoInt : (Tryz.prog.info? 3).map (fun i => (i.zero, i.size, i.bytes)) = some (some (.int .i64 0), 1, 8) := by kernel_rfl

end Go.Proofs.YtnpaejknoipicafGreat

namespace Go.Proofs.YtnpaejknoipicafGreat
open Go.RowKit

theorem Cn.bet_isN (n : Int) : Cn.betB n 65536 1000000000 = Cn.isNB n := by
  simp [Cn.betB, Cn.isNB]

set_option maxHeartbeats 400000 in
theorem refIsN_any (n : Int) (w : World) :
    Calls Tryz.prog 70 #[.int .i64 n] w fun e w' => e = .returned (.bool (Cn.isNB n)) ∧ w = w' := by
  rw [← Cn.bet_isN]
  go_enter Tryz.func70, Tryz.ntmps70
  go_wp2_with (go_at_call 50; refine (between_any _ _ _ _).mono ?_; rintro e w' ⟨rfl, rfl⟩)
  go_ret
  exact ⟨rfl, rfl⟩

end Go.Proofs.YtnpaejknoipicafGreat

namespace Go.Proofs.YtnpaejknoipicafGreat
open Go.RowKit

theorem Cn.raw_other (last seq : Int) (h1 : 0 ≤ seq) (h2 : seq ≤ 65535) :
    (last - last % 65536 + seq < last - 32767 → Cn.raw last seq = last - last % 65536 + seq + 65536) ∧
    (¬ last - last % 65536 + seq < last - 32767 → last + 32768 < last - last % 65536 + seq → Cn.raw last seq = last - last % 65536 + seq - 65536) ∧
    (¬ last - last % 65536 + seq < last - 32767 → ¬ last + 32768 < last - last % 65536 + seq → Cn.raw last seq = last - last % 65536 + seq) := by
  unfold Cn.raw; refine ⟨?_, ?_, ?_⟩ <;> (split <;> omega)

set_option maxHeartbeats 1000000 in
theorem unwrapOf_any (last seq : Int) (w : World) :
    Calls Tryz.prog 74 #[.int .i64 last, .int .i64 seq] w fun e w' => e = .returned (.tuple #[.int .i64 (Cn.uwN last seq), .int .i64 (Cn.uwE last seq)]) ∧ w = w' := by
  cases hb : Cn.isNB last
  · have hno : Cn.okB last seq = false := by simp [Cn.okB, hb]
    obtain ⟨hE, hN⟩ := Cn.uw_no hno
    rw [hE, hN]
    clear hE hN hno
    go_enter Tryz.func74, Tryz.ntmps74
    go_wp2_with (first
      | (go_at_call 70; refine (refIsN_any _ _).mono ?_; rintro e w' ⟨rfl, rfl⟩)
      | (go_at_call 50; refine (between_any _ _ _ _).mono ?_; rintro e w' ⟨rfl, rfl⟩))
    go_ret2
    exact ⟨rfl, rfl⟩
  · cases hs : Cn.betB seq 0 65535
    · have hno : Cn.okB last seq = false := by
        simp only [Cn.betB, Bool.and_eq_false_iff] at hs
        rcases hs with hs | hs <;> simp [Cn.okB, hs]
      obtain ⟨hE, hN⟩ := Cn.uw_no hno
      rw [hE, hN]
      clear hE hN hno
      go_enter Tryz.func74, Tryz.ntmps74
      go_wp2_with (first
        | (go_at_call 70; refine (refIsN_any _ _).mono ?_; rintro e w' ⟨rfl, rfl⟩)
        | (go_at_call 50; refine (between_any _ _ _ _).mono ?_; rintro e w' ⟨rfl, rfl⟩))
      go_ret2
      exact ⟨rfl, rfl⟩
    · obtain ⟨hr1, hr2⟩ := Cn.isNB_iff.1 hb
      have hsb : 0 ≤ seq ∧ seq ≤ 65535 := by simpa [Cn.betB] using hs
      obtain ⟨hs1, hs2⟩ := hsb
      obtain ⟨ho1, ho2, ho3⟩ := Cn.raw_other last seq hs1 hs2
      have key : ∀ x, Cn.raw last seq = x → (Cn.isNB x = true → Cn.uwE last seq = 0 ∧ Cn.uwN last seq = x) ∧ (Cn.isNB x = false → Cn.uwE last seq = 3 ∧ Cn.uwN last seq = 0) := by
        intro x hx
        refine ⟨fun h => ?_, fun h => ?_⟩
        · have := Cn.uw_ok (last := last) (seq := seq) (by simp [Cn.okB, hb, hs1, hs2, hx, h])
          rw [hx] at this; exact this
        · exact Cn.uw_no (last := last) (seq := seq) (by simp [Cn.okB, hx, h])
      have fin : ∀ x, x = last - last % 65536 + seq → (x < last - 32767 → Cn.raw last seq = x + 65536) ∧ (¬ x < last - 32767 → last + 32768 < x → Cn.raw last seq = x - 65536) ∧ (¬ x < last - 32767 → ¬ last + 32768 < x → Cn.raw last seq = x) := by
        intro x hx; subst hx; exact ⟨ho1, ho2, ho3⟩
      by_cases hc1 : last - last % 65536 + seq < last - 32767
      · have hk := key _ (ho1 hc1)
        clear ho1 ho2 ho3 fin key
        cases hb2 : Cn.isNB (last - last % 65536 + seq + 65536)
        · obtain ⟨hE, hN⟩ := hk.2 hb2
          rw [hE, hN]
          clear hE hN hk
          go_enter Tryz.func74, Tryz.ntmps74
          go_wp2_with (first
            | (go_at_call 70; refine (refIsN_any _ _).mono ?_; rintro e w' ⟨rfl, rfl⟩)
            | (go_at_call 50; refine (between_any _ _ _ _).mono ?_; rintro e w' ⟨rfl, rfl⟩))
          go_ret2
          exact ⟨rfl, rfl⟩
        · obtain ⟨hE, hN⟩ := hk.1 hb2
          rw [hE, hN]
          clear hE hN hk
          go_enter Tryz.func74, Tryz.ntmps74
          go_wp2_with (first
            | (go_at_call 70; refine (refIsN_any _ _).mono ?_; rintro e w' ⟨rfl, rfl⟩)
            | (go_at_call 50; refine (between_any _ _ _ _).mono ?_; rintro e w' ⟨rfl, rfl⟩))
          go_ret2
          exact ⟨rfl, rfl⟩
      · by_cases hc2 : last + 32768 < last - last % 65536 + seq
        · have hk := key _ (ho2 hc1 hc2)
          clear ho1 ho2 ho3 fin key
          cases hb2 : Cn.isNB (last - last % 65536 + seq - 65536)
          · obtain ⟨hE, hN⟩ := hk.2 hb2
            rw [hE, hN]
            clear hE hN hk
            go_enter Tryz.func74, Tryz.ntmps74
            go_wp2_with (first
              | (go_at_call 70; refine (refIsN_any _ _).mono ?_; rintro e w' ⟨rfl, rfl⟩)
              | (go_at_call 50; refine (between_any _ _ _ _).mono ?_; rintro e w' ⟨rfl, rfl⟩))
            go_ret2
            exact ⟨rfl, rfl⟩
          · obtain ⟨hE, hN⟩ := hk.1 hb2
            rw [hE, hN]
            clear hE hN hk
            go_enter Tryz.func74, Tryz.ntmps74
            go_wp2_with (first
              | (go_at_call 70; refine (refIsN_any _ _).mono ?_; rintro e w' ⟨rfl, rfl⟩)
              | (go_at_call 50; refine (between_any _ _ _ _).mono ?_; rintro e w' ⟨rfl, rfl⟩))
            go_ret2
            exact ⟨rfl, rfl⟩
        · have hk := key _ (ho3 hc1 hc2)
          clear ho1 ho2 ho3 fin key
          cases hb2 : Cn.isNB (last - last % 65536 + seq)
          · obtain ⟨hE, hN⟩ := hk.2 hb2
            rw [hE, hN]
            clear hE hN hk
            go_enter Tryz.func74, Tryz.ntmps74
            go_wp2_with (first
              | (go_at_call 70; refine (refIsN_any _ _).mono ?_; rintro e w' ⟨rfl, rfl⟩)
              | (go_at_call 50; refine (between_any _ _ _ _).mono ?_; rintro e w' ⟨rfl, rfl⟩))
            go_ret2
            exact ⟨rfl, rfl⟩
          · obtain ⟨hE, hN⟩ := hk.1 hb2
            rw [hE, hN]
            clear hE hN hk
            go_enter Tryz.func74, Tryz.ntmps74
            go_wp2_with (first
              | (go_at_call 70; refine (refIsN_any _ _).mono ?_; rintro e w' ⟨rfl, rfl⟩)
              | (go_at_call 50; refine (between_any _ _ _ _).mono ?_; rintro e w' ⟨rfl, rfl⟩))
            go_ret2
            exact ⟨rfl, rfl⟩

end Go.Proofs.YtnpaejknoipicafGreat

namespace Go.Proofs.YtnpaejknoipicafGreat
open Go.RowKit

set_option maxHeartbeats 8000000 in
set_option maxRecDepth 100000 in
theorem refCheckTrack_any (t : Tr) (hv bv gv ov : Value) (w : World) (hr : TrIn (fun _ => True) w hv bv gv ov t) :
    Calls Tryz.prog 25 #[.agg #[.int .i64 t.last, .int .i64 t.next, hv, bv, .int .i64 t.first, gv, ov]] w fun e w' => e = .returned (.int .i64 t.chk) ∧ Below w.heap.size w w' := by
  obtain ⟨ha, hc, ba0, bc, ga, gc, oa, oc, eh, eb, eg, eo⟩ := hr.slices
  obtain ⟨nh, hnh⟩ : ∃ n, n = t.h.length := ⟨_, rfl⟩
  obtain ⟨no, hno⟩ : ∃ n, n = t.o.length := ⟨_, rfl⟩
  obtain ⟨ng, hng⟩ : ∃ n, n = t.L.length := ⟨_, rfl⟩
  obtain ⟨nO, hnO⟩ : ∃ n, n = t.O.length := ⟨_, rfl⟩
  rw [← hnh] at eh
  rw [← hno] at eb
  rw [← hng] at eg
  rw [← hnO] at eo
  obtain ⟨last, hla⟩ : ∃ x, x = t.last := ⟨_, rfl⟩
  obtain ⟨next, hne⟩ : ∃ x, x = t.next := ⟨_, rfl⟩
  obtain ⟨first, hfi⟩ : ∃ x, x = t.first := ⟨_, rfl⟩
  obtain ⟨NB, hNB⟩ : ∃ b, b = Cn.isNB last := ⟨_, rfl⟩
  obtain ⟨BE, hBE⟩ : ∃ b, b = bchk next t.h := ⟨_, rfl⟩
  obtain ⟨OE, hOE⟩ : ∃ b, b = ochk t.o := ⟨_, rfl⟩
  obtain ⟨SE, hSE⟩ : ∃ b, b = stchk first t.L t.O := ⟨_, rfl⟩
  obtain ⟨C, hC⟩ : ∃ b, b = t.chk := ⟨_, rfl⟩
  have HC : Hid (C = if ¬ last = 0 ∧ NB = false then 3 else if BE = 0 then (if OE = 0 then (if SE = 0 then (if (last == 0) = (next == 0) then 0 else 4) else SE) else OE) else BE) := by
    show C = _
    rw [hC, hNB, hBE, hOE, hSE, hla, hne, hfi]; rfl
  have HIN : Hid (∀ W : World, Calls Tryz.prog 70 #[.int .i64 last] W fun e w' => e = .returned (.bool NB) ∧ W = w') := fun W => by rw [hNB]; exact refIsN_any last W
  have HBC : Hid (∀ W : World, Below w.heap.size w W → Calls Tryz.prog 71 #[.agg #[.int .i64 next, hv]] W fun e w' => e = .returned (.int .i64 BE) ∧ Below W.heap.size W w') := fun W hW => by
    rw [hBE]; exact refCheckBuffer_any next hv t.h W (hr.1.below hW).1 hr.1.2.1
  have HOC : Hid (∀ W : World, Below w.heap.size w W → Calls Tryz.prog 72 #[.agg #[bv]] W fun e w' => e = .returned (.int .i64 OE) ∧ Below W.heap.size W w') := fun W hW => by
    rw [hOE]; exact refCheckBuilder_any bv t.o W (hr.2.1.below hW).1 hr.2.1.2.1
  have HSC : Hid (∀ W : World, Below w.heap.size w W → Calls Tryz.prog 11 #[.agg #[.int .i64 first, gv, ov]] W fun e w' => e = .returned (.int .i64 SE) ∧ Below W.heap.size W w') := fun W hW => by
    rw [hSE]; exact refCheckStore_any (fun _ => True) first gv ov t.L t.O W (hr.2.2.1.below hW) (hr.2.2.2.below hW)
  rw [← hla, ← hne, ← hfi, ← hC]
  clear hla hne hfi hnh hno hng hnO hNB hBE hOE hSE hC hr
  subst eh eb eg eo
  obtain ⟨W0, hW0⟩ : ∃ W, W = w.alloc (.cells #[.int .i64 last, .int .i64 next, .slice ha nh hc, .slice ba0 no bc, .int .i64 first, .slice ga ng gc, .slice oa nO oc] 61) := ⟨_, rfl⟩
  have HS0 : Hid (Stay W0 (fun U => Blk U w.heap.size #[.int .i64 last, .int .i64 next, .slice ha nh hc, .slice ba0 no bc, .int .i64 first, .slice ga ng gc, .slice oa nO oc] 61 ∧ Below w.heap.size w U)) := by
    have hb : Below w.heap.size w W0 := by rw [hW0]; exact (Below.refl _ _).alloc (Nat.le_refl _) _
    exact (Blk.newE hW0).stay.and (below_stay hb hb.size)
  obtain ⟨y0, y1, y2, y3, y4, y5, y6⟩ := HS0.out.now.1.sevenc
  have BW : Hid (Below w.heap.size w W0) := HS0.out.now.2
  go_enter Tryz.func25, Tryz.ntmps25
  go_upto_region 1 with fail
  rw [← hW0]
  clear hW0
  by_cases h1 : ¬ last = 0 ∧ NB = false
  · have hc3 : Hid (C = 3) := by show C = _; rw [HC.out, if_pos h1]
    obtain ⟨h1a, h1b⟩ := h1
    subst h1b
    clear HS0 HBC HOC HSC HC
    go_wp2_with fail
    refine (HIN.out W0).mono ?_
    rintro e w1 ⟨rfl, rfl⟩
    go_wp2
    go_ret
    rw [hc3.out]
    exact ⟨rfl, BW.out⟩
  have HC2 : Hid (C = if BE = 0 then (if OE = 0 then (if SE = 0 then (if (last == 0) = (next == 0) then 0 else 4) else SE) else OE) else BE) := by show C = _; rw [HC.out, if_neg h1]
  have hcond : last = 0 ∨ NB = true := by
    by_cases h : last = 0
    · exact .inl h
    · right
      cases hb : NB
      · exact absurd ⟨h, hb⟩ h1
      · rfl
  clear HC h1
  go_cut [12] (fun s12 wc => s12 = .bool false ∧ wc = W0)
  case first =>
    by_cases h0 : last = 0
    · subst h0
      go_wp2_with fail
      go_meet
      case rel => exact ⟨rfl, rfl⟩
    · have h := hcond.resolve_left h0
      subst h
      go_wp2_with fail
      refine (HIN.out W0).mono ?_
      rintro e w1 ⟨rfl, rfl⟩
      go_wp2_with fail
      go_meet
      case rel => exact ⟨rfl, rfl⟩
  case rest =>
    obtain ⟨rfl, rfl⟩ := hcut
    clear HIN hcond
    go_wp2_with fail
    refine (HBC.out _ BW.out).mono ?_
    rintro e w1 ⟨rfl, b1⟩
    have HS1 := Stay.go HS0 b1
    clear b1 HS0 HBC BW y0 y1 y2 y3 y4 y5 y6
    have BW : Hid (Below w.heap.size w w1) := HS1.out.now.2
    by_cases h2 : BE = 0
    case neg =>
      have hc : Hid (C = BE) := by show C = _; rw [HC2.out, if_neg h2]
      clear HS1 HOC HSC HC2
      go_wp2
      go_ret
      rw [hc.out]
      exact ⟨rfl, BW.out⟩
    have HC3 : Hid (C = if OE = 0 then (if SE = 0 then (if (last == 0) = (next == 0) then 0 else 4) else SE) else OE) := by show C = _; rw [HC2.out, if_pos h2]
    subst h2
    obtain ⟨y0, y1, y2, y3, y4, y5, y6⟩ := HS1.out.now.1.sevenc
    clear HC2
    go_wp2_with fail
    refine (HOC.out _ BW.out).mono ?_
    rintro e w2 ⟨rfl, b2⟩
    have HS2 := Stay.go HS1 b2
    clear b2 HS1 HOC BW y0 y1 y2 y3 y4 y5 y6
    have BW : Hid (Below w.heap.size w w2) := HS2.out.now.2
    by_cases h3 : OE = 0
    case neg =>
      have hc : Hid (C = OE) := by show C = _; rw [HC3.out, if_neg h3]
      clear HS2 HSC HC3
      go_wp2
      go_ret
      rw [hc.out]
      exact ⟨rfl, BW.out⟩
    have HC4 : Hid (C = if SE = 0 then (if (last == 0) = (next == 0) then 0 else 4) else SE) := by show C = _; rw [HC3.out, if_pos h3]
    subst h3
    obtain ⟨y0, y1, y2, y3, y4, y5, y6⟩ := HS2.out.now.1.sevenc
    clear HC3
    go_wp2_with fail
    refine (HSC.out _ BW.out).mono ?_
    rintro e w3 ⟨rfl, b3⟩
    have HS3 := Stay.go HS2 b3
    clear b3 HS2 HSC BW y0 y1 y2 y3 y4 y5 y6
    have BW : Hid (Below w.heap.size w w3) := HS3.out.now.2
    by_cases h4 : SE = 0
    case neg =>
      have hc : Hid (C = SE) := by show C = _; rw [HC4.out, if_neg h4]
      clear HS3 HC4
      go_wp2
      go_ret
      rw [hc.out]
      exact ⟨rfl, BW.out⟩
    have HC5 : Hid (C = if (last == 0) = (next == 0) then 0 else 4) := by show C = _; rw [HC4.out, if_pos h4]
    subst h4
    obtain ⟨y0, y1, y2, y3, y4, y5, y6⟩ := HS3.out.now.1.sevenc
    clear HC4 HS3
    obtain ⟨B1, hB1⟩ : ∃ b, b = (last == 0) := ⟨_, rfl⟩
    obtain ⟨B2, hB2⟩ : ∃ b, b = (next == 0) := ⟨_, rfl⟩
    rw [← hB1, ← hB2] at HC5
    have q1 : (last == 0) = B1 := hB1.symm
    have q2 : (next == 0) = B2 := hB2.symm
    clear hB1 hB2
    cases B1 <;> cases B2
    all_goals
      go_wp2
      go_ret
      rw [HC5.out]
      exact ⟨rfl, BW.out⟩

set_option maxHeartbeats 16000000 in
set_option maxRecDepth 100000 in
theorem refFeedOf_in (S : Nat → Prop) (t : Tr) (s : List UInt8) (hv bv gv ov : Value) (w : World) (hr : TrIn S w hv bv gv ov t) (hS : ∀ g, w.heap.size ≤ g → S g) (hc0 : t.chk = 0) :
    Calls Tryz.prog 26 #[.agg #[.int .i64 t.last, .int .i64 t.next, hv, bv, .int .i64 t.first, gv, ov], .string (ba s)] w fun e w' => ∃ hv' bv' gv' ov', e = .returned (.tuple #[.agg #[.int .i64 (feedR t s).1.last, .int .i64 (feedR t s).1.next, hv', bv', .int .i64 (feedR t s).1.first, gv', ov'], .int .i64 (feedR t s).2.1, .int .i64 (feedR t s).2.2]) ∧ TrIn S w' hv' bv' gv' ov' (feedR t s).1 ∧ Below w.heap.size w w' := by
  obtain ⟨c1, c2, c3, c4, c5⟩ := Tr.chk_zero.1 hc0
  obtain ⟨M, hM⟩ : ∃ x, x = w.heap.size := ⟨_, rfl⟩
  obtain ⟨S0, hS0⟩ : ∃ P : Nat → Prop, P = fun g => S g ∧ g ≠ M ∧ g ≠ M + 1 := ⟨_, rfl⟩
  have mk0 : ∀ g, S g → g ≠ M → g ≠ M + 1 → S0 g := fun g h1 h2 h3 => by rw [hS0]; exact ⟨h1, h2, h3⟩
  have HS00 : Hid (∀ g, S0 g → S g ∧ g ≠ M ∧ g ≠ M + 1) := fun g h => by rw [hS0] at h; exact h
  obtain ⟨R, hR⟩ : ∃ R, R = feedR t s := ⟨_, rfl⟩
  obtain ⟨D, hD⟩ : ∃ D, D = (Pk.dec s).2 := ⟨_, rfl⟩
  obtain ⟨⟨ps, pt, pf, pe, pk, px⟩, hp⟩ : ∃ p, p = (Pk.dec s).1 := ⟨_, rfl⟩
  have hpc : D = 0 → (Pk.mk ps pt pf pe pk px).chk = 0 := fun h => by
    rcases Pk.dec_or s with ⟨_, h2⟩ | ⟨_, h2, _⟩
    · rw [← hD, h] at h2; cases h2
    · rw [hp]; exact h2
  obtain ⟨NE, hNE⟩ : ∃ e, e = numE t.last ⟨ps, pt, pf, pe, pk, px⟩ := ⟨_, rfl⟩
  obtain ⟨n, hn⟩ : ∃ e, e = numN t.last ⟨ps, pt, pf, pe, pk, px⟩ := ⟨_, rfl⟩
  have HBAD1 : Hid (¬ D = 0 → R = (Tr.zero, 0, D)) := fun h => by
    rw [hR]; unfold feedR; rw [← hD, if_neg h]
  have HBAD2 : Hid (D = 0 → ¬ NE = 0 → R = (Tr.zero, 0, NE)) := fun h h2 => by
    rw [hR]; unfold feedR; rw [← hD, if_pos h, ← hp, ← hNE, if_neg h2]
  have HSEQ : Hid (D = 0 → 0 ≤ ps ∧ ps ≤ 65535) := fun h => by
    obtain ⟨a, b, _⟩ := Pk.chk_ok (hpc h)
    exact ⟨a, b⟩
  have HL0 : Hid (t.last = 0 → NE = 0 ∧ n = ps + 65536) := fun h => by
    rw [hNE, hn]; unfold numE numN; rw [if_pos h, if_pos h]; exact ⟨rfl, rfl⟩
  have HLB : Hid (t.last = 0 ∨ 65536 ≤ t.last ∧ t.last ≤ 1000000000) := c1.imp id Cn.isNB_iff.1
  have HNB : Hid (D = 0 → NE = 0 → 65536 ≤ n ∧ n ≤ 1000000000) := fun h h2 => by
    rw [hn]; exact Cn.isNB_iff.1 (num_ok (hpc h) c1 (by rw [← hNE]; exact h2)).1
  have HUW : Hid (¬ t.last = 0 → ∀ W : World, Calls Tryz.prog 74 #[.int .i64 t.last, .int .i64 ps] W fun e w' => e = .returned (.tuple #[.int .i64 n, .int .i64 NE]) ∧ W = w') := fun h W => by
    have q := unwrapOf_any t.last ps W
    rw [hNE, hn]; unfold numE numN; rw [if_neg h, if_neg h]; exact q
  have HPO : Hid (∀ W : World, Calls Tryz.prog 73 #[.string (ba s)] W fun e w' => e = .returned (.tuple #[.agg #[.int .i64 ps, .int .i64 pt, .bool pf, .bool pe, .bool pk, .string px], .int .i64 D]) ∧ Below W.heap.size W w') := fun W => by
    have q := packetOf_any s W
    rw [← hp, ← hD] at q
    exact q
  have HGO : Hid (D = 0 → NE = 0 → ∃ N1 h1 o1, (∀ W : World, Below M w W → M + 2 ≤ W.heap.size → Calls Tryz.prog 75 #[.agg #[.int .i64 t.next, hv], .agg #[.int .i64 n, .int .i64 ps, .int .i64 pt, .bool pf, .bool pe, .bool pk, .string px]] W fun e w' => ∃ xa xn xc za zn zc, e = .returned (.tuple #[.agg #[.int .i64 N1, .slice xa xn xc], .slice za zn zc]) ∧ Hid (SlsIn S0 w' (.slice xa xn xc) h1) ∧ Hid (SlsIn S0 w' (.slice za zn zc) o1) ∧ Below W.heap.size W w') ∧
      (∀ (W : World) (xa : Option Addr) (xn xc : Nat) (za : Option Addr) (zn zc : Nat), Below M w W → M + 2 ≤ W.heap.size → SlsIn S0 W (.slice xa xn xc) h1 → SlsIn S0 W (.slice za zn zc) o1 → Calls Tryz.prog 76 #[.agg #[.int .i64 (max t.last n), .int .i64 N1, .slice xa xn xc, bv, .int .i64 t.first, gv, ov], .slice za zn zc] W fun e w' => ∃ la1 ne1 ha1 hn1 hc1 oa1 on1 oc1 fi1 ga1 gn1 gc1 pa1 pn1 pc1, e = .returned (.tuple #[.agg #[.int .i64 la1, .int .i64 ne1, .slice ha1 hn1 hc1, .slice oa1 on1 oc1, .int .i64 fi1, .slice ga1 gn1 gc1, .slice pa1 pn1 pc1], .int .i64 R.2.1, .int .i64 R.2.2]) ∧ Hid (la1 = R.1.last ∧ ne1 = R.1.next ∧ fi1 = R.1.first ∧ gn1 = R.1.L.length) ∧ Hid (TrIn S0 w' (.slice ha1 hn1 hc1) (.slice oa1 on1 oc1) (.slice ga1 gn1 gc1) (.slice pa1 pn1 pc1) R.1) ∧ Below W.heap.size W w')) := fun h h2 => by
    have hx : (Sk.mk n ⟨ps, pt, pf, pe, pk, px⟩).chk = 0 := by rw [hn]; exact num_slot (hpc h) c1 (by rw [← hNE]; exact h2)
    obtain ⟨i1, i2, i3, i4, i5, i6, i7⟩ := put_inv c2 hx
    have hRe : R = tkN (putF t.next t.h ⟨n, ⟨ps, pt, pf, pe, pk, px⟩⟩).2.2 (t.buf (max t.last n) (putF t.next t.h ⟨n, ⟨ps, pt, pf, pe, pk, px⟩⟩).1 (putF t.next t.h ⟨n, ⟨ps, pt, pf, pe, pk, px⟩⟩).2.1, 0) := by
      rw [hR]; unfold feedR; rw [← hD, if_pos h, ← hp, ← hNE, if_pos h2, ← hn]; rfl
    have hlo : (putF t.next t.h ⟨n, ⟨ps, pt, pf, pe, pk, px⟩⟩).2.2.length ≤ 100 := put_olen c2
    refine ⟨(putF t.next t.h ⟨n, ⟨ps, pt, pf, pe, pk, px⟩⟩).1, (putF t.next t.h ⟨n, ⟨ps, pt, pf, pe, pk, px⟩⟩).2.1, (putF t.next t.h ⟨n, ⟨ps, pt, pf, pe, pk, px⟩⟩).2.2, fun W hW hWs => ?_, fun W xa xn xc za zn zc hW hWs q1 q2 => ?_⟩
    · refine (putOf_any t.next hv t.h ⟨n, ⟨ps, pt, pf, pe, pk, px⟩⟩ W (hr.1.below (by rw [← hM]; exact hW)).1 c2 hx).mono ?_
      rintro e w' ⟨hv', ov', rfl, f1, f2, f3, f4, f5⟩
      obtain ⟨pa, pc, e2⟩ := f1.len
      obtain ⟨qa, qc, e3⟩ := f2.len
      have l1 := i1.2.1
      refine ⟨pa, _, pc, qa, _, qc, by rw [e2, e3], ?_, ?_, f3⟩
      · rw [← e2]
        refine SlsIn.of f1 (by omega) fun g hg h0 => ?_
        rcases f4 h0 g hg with ⟨hg', h0'⟩ | hg'
        · obtain ⟨u1, u2⟩ := hr.1.2.2 g hg' h0'
          exact mk0 g u1 (by omega) (by omega)
        · exact mk0 g (hS g (by omega)) (by omega) (by omega)
      · rw [← e3]
        refine SlsIn.of f2 (by omega) fun g hg _ => ?_
        have := f5 g hg
        exact mk0 g (hS g (by omega)) (by omega) (by omega)
    · have hrW : TrIn S0 W hv bv gv ov t := ((hr.mono (S' := fun g => S g ∧ g < M) fun g h hs => ⟨hs, by rw [hM]; exact h⟩).below (by rw [← hM]; exact hW)).mono fun g _ h => mk0 g h.1 (Nat.ne_of_lt h.2) (by have := h.2; omega)
      refine (taken_in S0 (t.buf (max t.last n) _ _) _ bv gv ov _ _ W ⟨q1, hrW.2.1, hrW.2.2.1, hrW.2.2.2⟩ (fun g hg => mk0 g (hS g (by omega)) (by omega) (by omega)) ⟨c3, c4⟩ (q2.mono fun _ _ _ => trivial) (fun y hy => ?_) hlo).mono ?_
      · rcases (i3 y hy).1 with e | e
        · rw [e]; exact hx
        · exact c2.2.2.1 y e
      · rintro e w' ⟨x1, x2, x3, x4, rfl, q, b⟩
        rw [← hRe] at q ⊢
        obtain ⟨a1, c1, a2, c2, a3, c3, a4, c4, e1, e2, e3, e4⟩ := q.slices
        subst e1 e2 e3 e4
        exact ⟨_, _, _, _, _, _, _, _, _, _, _, _, _, _, _, rfl, ⟨rfl, rfl, rfl, rfl⟩, q, b⟩
  rw [← hR]
  obtain ⟨ha, hc, ba0, bc, ga, gc, oa, oc, eh, eb, eg, eo⟩ := hr.slices
  obtain ⟨nh, hnh⟩ : ∃ n, n = t.h.length := ⟨_, rfl⟩
  obtain ⟨no, hno⟩ : ∃ n, n = t.o.length := ⟨_, rfl⟩
  obtain ⟨ng, hng⟩ : ∃ n, n = t.L.length := ⟨_, rfl⟩
  obtain ⟨nO, hnO⟩ : ∃ n, n = t.O.length := ⟨_, rfl⟩
  rw [← hnh] at eh
  rw [← hno] at eb
  rw [← hng] at eg
  rw [← hnO] at eo
  obtain ⟨last, hla⟩ : ∃ x, x = t.last := ⟨_, rfl⟩
  obtain ⟨next, hne⟩ : ∃ x, x = t.next := ⟨_, rfl⟩
  obtain ⟨first, hfi⟩ : ∃ x, x = t.first := ⟨_, rfl⟩
  rw [← hla] at HL0 HLB HUW
  rw [← hla, ← hne, ← hfi] at HGO
  rw [← hla, ← hne, ← hfi]
  obtain ⟨V, hV⟩ : ∃ V, V = (w.alloc (.cells #[.int .i64 last, .int .i64 next, .slice ha nh hc, .slice ba0 no bc, .int .i64 first, .slice ga ng gc, .slice oa nO oc] 61)).alloc (.cells #[.int .i64 0, .int .i64 0, .slice none 0 0, .slice none 0 0, .int .i64 0, .slice none 0 0, .slice none 0 0] 61) := ⟨_, rfl⟩
  have HBV : Hid (Below M w V) := by show Below M w V; rw [hV, hM]; exact ((Below.refl _ w).alloc (Nat.le_refl _) _).alloc (by simp) _
  have HMV : Hid (Blk V M #[.int .i64 last, .int .i64 next, .slice ha nh hc, .slice ba0 no bc, .int .i64 first, .slice ga ng gc, .slice oa nO oc] 61) := by
    have := (Blk.new w #[.int .i64 last, .int .i64 next, .slice ha nh hc, .slice ba0 no bc, .int .i64 first, .slice ga ng gc, .slice oa nO oc] 61).alloc (.cells #[.int .i64 0, .int .i64 0, .slice none 0 0, .slice none 0 0, .int .i64 0, .slice none 0 0, .slice none 0 0] 61)
    rw [← hV, ← hM] at this
    exact this
  have HZV : Hid (Blk V (M + 1) #[.int .i64 0, .int .i64 0, .slice none 0 0, .slice none 0 0, .int .i64 0, .slice none 0 0, .slice none 0 0] 61) := by
    have := Blk.new (w.alloc (.cells #[.int .i64 last, .int .i64 next, .slice ha nh hc, .slice ba0 no bc, .int .i64 first, .slice ga ng gc, .slice oa nO oc] 61)) #[.int .i64 0, .int .i64 0, .slice none 0 0, .slice none 0 0, .int .i64 0, .slice none 0 0, .slice none 0 0] 61
    rw [World.size_alloc, ← hV, ← hM] at this
    exact this
  have hMs : M + 2 ≤ V.heap.size := by have := HZV.out.lt; omega
  have HMe : Hid (M = w.heap.size) := hM
  rw [← hM]
  clear hS hS0 mk0 hR hD hp hpc hNE hn hla hne hfi hnh hno hng hnO hr hc0 c1 c2 c3 c4 c5
  subst eh eb eg eo
  go_enter Tryz.func26, Tryz.ntmps26
  go_wp2_with fail
  rw [← hV, ← hM]
  clear hV hM
  refine (HPO.out V).mono ?_
  rintro e w1 ⟨rfl, b1⟩
  obtain ⟨P, hP⟩ : ∃ P, P = w1.heap.size := ⟨_, rfl⟩
  obtain ⟨V1, hV1⟩ : ∃ W, W = w1.alloc (.cells #[.int .i64 ps, .int .i64 pt, .bool pf, .bool pe, .bool pk, .string px] 89) := ⟨_, rfl⟩
  have b2 : Below V.heap.size V V1 := by rw [hV1]; exact b1.alloc b1.size _
  have HB1 : Hid (Below M w V1) := HBV.out.trans (b2.mono (by omega))
  have HM1 : Hid (Blk V1 M #[.int .i64 last, .int .i64 next, .slice ha nh hc, .slice ba0 no bc, .int .i64 first, .slice ga ng gc, .slice oa nO oc] 61) := HMV.out.below b2 HMV.out.lt
  have HZ1 : Hid (Blk V1 (M + 1) #[.int .i64 0, .int .i64 0, .slice none 0 0, .slice none 0 0, .int .i64 0, .slice none 0 0, .slice none 0 0] 61) := HZV.out.below b2 HZV.out.lt
  have HP1 : Hid (Blk V1 P #[.int .i64 ps, .int .i64 pt, .bool pf, .bool pe, .bool pk, .string px] 89) := by show Blk _ _ _ _; rw [hP]; exact Blk.newE hV1
  have hPM : M + 2 ≤ P := by have := b1.size; omega
  clear b1 b2 HPO HBV HMV HZV
  by_cases hD0 : D = 0
  case neg =>
    have HRX' : Hid (R = (Tr.zero, 0, D)) := HBAD1.out hD0
    clear HBAD1 HBAD2 HSEQ HL0 HLB HNB HUW HGO HM1 HP1
    obtain ⟨y0, y1, y2, y3, y4, y5, y6⟩ := HZ1.out.sevenc
    have fM := HZ1.out.free
    have lM := HZ1.out.lt
    obtain ⟨W7, hW7⟩ : ∃ W, W = ((((((V1.setCell ⟨M + 1, 0, none⟩ (.int .i64 0)).setCell ⟨M + 1, 1, none⟩ (.int .i64 0)).setCell ⟨M + 1, 2, none⟩ (.slice none 0 0)).setCell ⟨M + 1, 3, none⟩ (.slice none 0 0)).setCell ⟨M + 1, 4, none⟩ (.int .i64 0)).setCell ⟨M + 1, 5, none⟩ (.slice none 0 0)).setCell ⟨M + 1, 6, none⟩ (.slice none 0 0) := ⟨_, rfl⟩
    have HZ7 : Hid (Blk W7 (M + 1) #[.int .i64 0, .int .i64 0, .slice none 0 0, .slice none 0 0, .int .i64 0, .slice none 0 0, .slice none 0 0] 61) := by
      have := ((((((HZ1.out.set 0 (.int .i64 0)).set 1 (.int .i64 0)).set 2 (.slice none 0 0)).set 3 (.slice none 0 0)).set 4 (.int .i64 0)).set 5 (.slice none 0 0)).set 6 (.slice none 0 0)
      rw [hW7]; simpa [Hid] using this
    have HB7 : Hid (Below M w W7) := by
      show Below _ _ _
      rw [hW7]
      exact seven_belowR HB1.out (by omega) _ _ _ _ _ _ _
    clear HZ1 HB1
    go_upto_region 3 with fail
    rw [← hV1]
    clear hV1
    go_wp2
    rw [← hW7]
    clear hW7 y0 y1 y2 y3 y4 y5 y6 fM lM
    obtain ⟨y0, y1, y2, y3, y4, y5, y6⟩ := HZ7.out.sevenc
    refine bodyPost_ret (v := .tuple #[.agg #[.int .i64 0, .int .i64 0, .slice none 0 0, .slice none 0 0, .int .i64 0, .slice none 0 0, .slice none 0 0], .int .i64 0, .int .i64 D]) (by simp [results, Tryz.results26, go_sem, y0, y1, y2, y3, y4, y5, y6]) rfl ?_
    rw [HRX'.out]
    exact ⟨_, _, _, _, rfl, TrIn.zero _ _, HB7.out⟩
  have hps := HSEQ.out hD0
  clear HBAD1 HSEQ
  have HBAD2' : Hid (¬ NE = 0 → R = (Tr.zero, 0, NE)) := HBAD2.out hD0
  have HNB' : Hid (NE = 0 → 65536 ≤ n ∧ n ≤ 1000000000) := HNB.out hD0
  have HGO' := HGO.out hD0
  have HGO2 : Hid _ := HGO'
  clear HBAD2 HNB HGO HGO'
  subst hD0
  obtain ⟨y0, y1, y2, y3, y4, y5, y6⟩ := HM1.out.sevenc
  obtain ⟨z0, z1, z2, z3, z4, z5⟩ := HP1.out.sixq
  have hw1 : IntKind.i64.wrap (ps + 65536) = ps + 65536 := by rw [IntKind.wrap_i64]; omega
  go_upto_region 5 with fail
  rw [← hV1]
  try rw [← hP]
  clear hV1 hP
  by_cases hl0 : last = 0
  · obtain ⟨e1, e2⟩ := HL0.out hl0
    have hng : ¬ (0 : Int) < last := by omega
    have hnb := HNB'.out e1
    have HG : Hid _ := HGO2.out e1
    clear HL0 HLB HNB' HUW HBAD2' HGO2
    have hgt : last < n := by omega
    rw [← e2]
    clear hl0 e1 e2
    have hmx : max last n = n := by omega
    obtain ⟨N1, h1, o1, HPUT0, HTK0⟩ := HG.out
    rw [hmx] at HTK0
    have fM := HM1.out.free
    have lM := HM1.out.lt
    obtain ⟨V2, hV2⟩ : ∃ W, W = V1.setCell ⟨M, 0, none⟩ (.int .i64 n) := ⟨_, rfl⟩
    have hk2 : Kept [M] V1 V2 := by rw [hV2]; exact (Kept.refl [M] V1).setCell (p := ⟨M, 0, none⟩) (by simp) _
    have HM2 : Hid (Blk V2 M #[.int .i64 n, .int .i64 next, .slice ha nh hc, .slice ba0 no bc, .int .i64 first, .slice ga ng gc, .slice oa nO oc] 61) := by
      have := HM1.out.set 0 (.int .i64 n)
      rw [hV2]; simpa [Hid] using this
    have HZ2 : Hid (Blk V2 (M + 1) #[.int .i64 0, .int .i64 0, .slice none 0 0, .slice none 0 0, .int .i64 0, .slice none 0 0, .slice none 0 0] 61) := HZ1.out.kept hk2 (by simp)
    have HP2 : Hid (Blk V2 P #[.int .i64 ps, .int .i64 pt, .bool pf, .bool pe, .bool pk, .string px] 89) := HP1.out.kept hk2 (by simp; omega)
    have HB2 : Hid (Below M w V2) := HB1.out.trans (hk2.toBelow (by omega) (by simp))
    clear hk2 HM1 HZ1 HP1 HB1
    go_upto_region 11 with fail
    rw [← hV2]
    clear hV2 y0 y1 y2 y3 y4 y5 y6 z0 z1 z2 z3 z4 z5 fM lM
    obtain ⟨V1', hV1'⟩ : ∃ W, W = V2 := ⟨_, rfl⟩
    obtain ⟨y0, y1, y2, y3, y4, y5, y6⟩ := HM2.out.sevenc
    obtain ⟨z0, z1, z2, z3, z4, z5⟩ := HP2.out.sixq
    have HPUT : Hid _ := HPUT0
    have HTK : Hid _ := HTK0
    clear HPUT0 HTK0 HG
    go_wp2_with fail
    refine (HPUT.out V2 HB2.out (by have := HZ2.out.lt; omega)).mono ?_
    rintro e w3 ⟨xa, xn, xc, za, zn, zc, rfl, X1, X2, b3⟩
    have HB3 : Hid (Below M w w3) := HB2.out.trans (b3.mono (by have := HB2.out.size; have := HM2.out.lt; omega))
    have HM3 : Hid (Blk w3 M #[.int .i64 n, .int .i64 next, .slice ha nh hc, .slice ba0 no bc, .int .i64 first, .slice ga ng gc, .slice oa nO oc] 61) := HM2.out.below b3 HM2.out.lt
    have HZ3 : Hid (Blk w3 (M + 1) #[.int .i64 0, .int .i64 0, .slice none 0 0, .slice none 0 0, .int .i64 0, .slice none 0 0, .slice none 0 0] 61) := HZ2.out.below b3 HZ2.out.lt
    clear b3 HB2 HM2 HZ2 HP2 HPUT y0 y1 y2 y3 y4 y5 y6 z0 z1 z2 z3 z4 z5
    obtain ⟨V3, hV3⟩ : ∃ W, W = w3.alloc (.cells #[.int .i64 N1, .slice xa xn xc] 57) := ⟨_, rfl⟩
    have ba3 : Below w3.heap.size w3 V3 := by rw [hV3]; exact (Below.refl _ _).alloc (Nat.le_refl _) _
    have kM := HM3.out.below ba3 HM3.out.lt
    have kB := Blk.newE hV3
    have b0 := kB.cell (j := 0) (u := .int .i64 N1) rfl
    have b1 := kB.cell (j := 1) (u := .slice xa xn xc) rfl
    have kZ := HZ3.out.below ba3 HZ3.out.lt
    obtain ⟨V4, hV4⟩ : ∃ W, W = (V3.setCell ⟨M, 1, none⟩ (.int .i64 N1)).setCell ⟨M, 2, none⟩ (.slice xa xn xc) := ⟨_, rfl⟩
    have hk4 : Kept [M] V3 V4 := by rw [hV4]; exact ((Kept.refl [M] V3).setCell (p := ⟨M, 1, none⟩) (by simp) _).setCell (p := ⟨M, 2, none⟩) (by simp) _
    have HM4 : Hid (Blk V4 M #[.int .i64 n, .int .i64 N1, .slice xa xn xc, .slice ba0 no bc, .int .i64 first, .slice ga ng gc, .slice oa nO oc] 61) := by
      have := (kM.set 1 (.int .i64 N1)).set 2 (.slice xa xn xc)
      rw [hV4]; simpa [Hid] using this
    have HZ4 : Hid (Blk V4 (M + 1) #[.int .i64 0, .int .i64 0, .slice none 0 0, .slice none 0 0, .int .i64 0, .slice none 0 0, .slice none 0 0] 61) := kZ.kept hk4 (by simp)
    have HB4 : Hid (Below M w V4) := (HB3.out.trans (ba3.mono (by have := HM3.out.lt; omega))).trans (hk4.toBelow (by have := kM.lt; omega) (by simp))
    have X1' : Hid (SlsIn S0 V4 (.slice xa xn xc) h1) := (X1.out.below ba3).to (hk4.sameTo (fun g h => by have := HS00.out g h; simp; exact this.2.1)) (fun _ _ h => h)
    have X2' : Hid (SlsIn S0 V4 (.slice za zn zc) o1) := (X2.out.below ba3).to (hk4.sameTo (fun g h => by have := HS00.out g h; simp; exact this.2.1)) (fun _ _ h => h)
    obtain ⟨y0, y1, y2, y3, y4, y5, y6⟩ := kM.sevenc
    have fM := kM.free
    have lM := HM3.out.lt
    clear kB kZ ba3 hk4 kM HM3 HZ3 HB3 X1 X2
    go_upto_region 12 with fail
    rw [← hV3]
    clear hV3
    go_upto_region 13 with fail
    rw [← hV4]
    clear hV4 y0 y1 y2 y3 y4 y5 y6 fM lM b0 b1
    obtain ⟨y0, y1, y2, y3, y4, y5, y6⟩ := HM4.out.sevenc
    go_wp2_with fail
    refine (HTK.out V4 xa xn xc za zn zc HB4.out (by have := HZ4.out.lt; omega) X1'.out X2'.out).mono ?_
    rintro e w5 ⟨la1, ne1, ha1, hn1, hc1, oa1, on1, oc1, fi1, ga1, gn1, gc1, pa1, pn1, pc1, rfl, G1, T1, b5⟩
    have HZ5 : Hid (Blk w5 (M + 1) #[.int .i64 0, .int .i64 0, .slice none 0 0, .slice none 0 0, .int .i64 0, .slice none 0 0, .slice none 0 0] 61) := HZ4.out.below b5 HZ4.out.lt
    have HB5 : Hid (Below M w w5) := HB4.out.trans (b5.mono (by have := HM4.out.lt; omega))
    have T1' : Hid (TrIn S0 w5 (.slice ha1 hn1 hc1) (.slice oa1 on1 oc1) (.slice ga1 gn1 gc1) (.slice pa1 pn1 pc1) R.1) := T1.out
    clear b5 HZ4 HB4 HM4 HTK X1' X2' y0 y1 y2 y3 y4 y5 y6 T1
    obtain ⟨z0, z1, z2, z3, z4, z5, z6⟩ := HZ5.out.sevenc
    have fM := HZ5.out.free
    have lM := HZ5.out.lt
    obtain ⟨W7, hW7⟩ : ∃ W, W = ((((((w5.setCell ⟨M + 1, 0, none⟩ (.int .i64 la1)).setCell ⟨M + 1, 1, none⟩ (.int .i64 ne1)).setCell ⟨M + 1, 2, none⟩ (.slice ha1 hn1 hc1)).setCell ⟨M + 1, 3, none⟩ (.slice oa1 on1 oc1)).setCell ⟨M + 1, 4, none⟩ (.int .i64 fi1)).setCell ⟨M + 1, 5, none⟩ (.slice ga1 gn1 gc1)).setCell ⟨M + 1, 6, none⟩ (.slice pa1 pn1 pc1) := ⟨_, rfl⟩
    have HZ7 : Hid (Blk W7 (M + 1) #[.int .i64 la1, .int .i64 ne1, .slice ha1 hn1 hc1, .slice oa1 on1 oc1, .int .i64 fi1, .slice ga1 gn1 gc1, .slice pa1 pn1 pc1] 61) := by
      have := ((((((HZ5.out.set 0 (.int .i64 la1)).set 1 (.int .i64 ne1)).set 2 (.slice ha1 hn1 hc1)).set 3 (.slice oa1 on1 oc1)).set 4 (.int .i64 fi1)).set 5 (.slice ga1 gn1 gc1)).set 6 (.slice pa1 pn1 pc1)
      rw [hW7]; simpa [Hid] using this
    have HB7 : Hid (Below M w W7) := by
      show Below _ _ _
      rw [hW7]
      exact seven_belowR HB5.out (by omega) _ _ _ _ _ _ _
    have hk7 : Kept [M + 1] w5 W7 := by
      rw [hW7]
      exact (((((((Kept.refl [M + 1] w5).setCell (p := ⟨M + 1, 0, none⟩) (by simp) _).setCell (p := ⟨M + 1, 1, none⟩) (by simp) _).setCell (p := ⟨M + 1, 2, none⟩) (by simp) _).setCell (p := ⟨M + 1, 3, none⟩) (by simp) _).setCell (p := ⟨M + 1, 4, none⟩) (by simp) _).setCell (p := ⟨M + 1, 5, none⟩) (by simp) _).setCell (p := ⟨M + 1, 6, none⟩) (by simp) _
    have HT7 : Hid (TrIn S W7 (.slice ha1 hn1 hc1) (.slice oa1 on1 oc1) (.slice ga1 gn1 gc1) (.slice pa1 pn1 pc1) R.1) := T1'.out.to (hk7.sameTo (fun g h => by have := HS00.out g h; simp; exact this.2.2)) (fun g _ h => (HS00.out g h).1)
    clear HZ5 HB5 T1' hk7
    go_wp2
    rw [← hW7]
    clear hW7 z0 z1 z2 z3 z4 z5 z6 fM lM
    obtain ⟨y0, y1, y2, y3, y4, y5, y6⟩ := HZ7.out.sevenc
    refine bodyPost_ret (v := .tuple #[.agg #[.int .i64 la1, .int .i64 ne1, .slice ha1 hn1 hc1, .slice oa1 on1 oc1, .int .i64 fi1, .slice ga1 gn1 gc1, .slice pa1 pn1 pc1], .int .i64 R.2.1, .int .i64 R.2.2]) (by simp [results, Tryz.results26, go_sem, y0, y1, y2, y3, y4, y5, y6]) rfl ?_
    refine ⟨_, _, _, _, ?_, HT7.out, HB7.out⟩
    rw [G1.out.1, G1.out.2.1, G1.out.2.2.1]
  · have hpos : (0 : Int) < last := by have := HLB.out; omega
    have HUW' := HUW.out hl0
    have HUW2 : Hid (∀ W : World, Calls Tryz.prog 74 #[.int .i64 last, .int .i64 ps] W fun e w' => e = .returned (.tuple #[.int .i64 n, .int .i64 NE]) ∧ W = w') := HUW'
    clear HUW HUW' HL0 HLB
    go_wp2_with fail
    refine (HUW2.out V1).mono ?_
    rintro e _ ⟨rfl, rfl⟩
    by_cases hne0 : NE = 0
    case neg =>
      have HRX' : Hid (R = (Tr.zero, 0, NE)) := HBAD2'.out hne0
      clear HBAD2' HNB' HUW2 HGO2 HM1 HP1 y0 y1 y2 y3 y4 y5 y6 z0 z1 z2 z3 z4 z5
      obtain ⟨y0, y1, y2, y3, y4, y5, y6⟩ := HZ1.out.sevenc
      have fM := HZ1.out.free
      have lM := HZ1.out.lt
      obtain ⟨W7, hW7⟩ : ∃ W, W = ((((((V1.setCell ⟨M + 1, 0, none⟩ (.int .i64 0)).setCell ⟨M + 1, 1, none⟩ (.int .i64 0)).setCell ⟨M + 1, 2, none⟩ (.slice none 0 0)).setCell ⟨M + 1, 3, none⟩ (.slice none 0 0)).setCell ⟨M + 1, 4, none⟩ (.int .i64 0)).setCell ⟨M + 1, 5, none⟩ (.slice none 0 0)).setCell ⟨M + 1, 6, none⟩ (.slice none 0 0) := ⟨_, rfl⟩
      have HZ7 : Hid (Blk W7 (M + 1) #[.int .i64 0, .int .i64 0, .slice none 0 0, .slice none 0 0, .int .i64 0, .slice none 0 0, .slice none 0 0] 61) := by
        have := ((((((HZ1.out.set 0 (.int .i64 0)).set 1 (.int .i64 0)).set 2 (.slice none 0 0)).set 3 (.slice none 0 0)).set 4 (.int .i64 0)).set 5 (.slice none 0 0)).set 6 (.slice none 0 0)
        rw [hW7]; simpa [Hid] using this
      have HB7 : Hid (Below M w W7) := by
        show Below _ _ _
        rw [hW7]
        exact seven_belowR HB1.out (by omega) _ _ _ _ _ _ _
      clear HZ1 HB1
      go_upto_region 8 with fail
      skip
      skip
      go_wp2
      rw [← hW7]
      clear hW7 y0 y1 y2 y3 y4 y5 y6 fM lM
      obtain ⟨y0, y1, y2, y3, y4, y5, y6⟩ := HZ7.out.sevenc
      refine bodyPost_ret (v := .tuple #[.agg #[.int .i64 0, .int .i64 0, .slice none 0 0, .slice none 0 0, .int .i64 0, .slice none 0 0, .slice none 0 0], .int .i64 0, .int .i64 NE]) (by simp [results, Tryz.results26, go_sem, y0, y1, y2, y3, y4, y5, y6]) rfl ?_
      rw [HRX'.out]
      exact ⟨_, _, _, _, rfl, TrIn.zero _ _, HB7.out⟩
    have hnb := HNB'.out hne0
    have HG : Hid _ := HGO2.out hne0
    clear HNB' HUW2 HBAD2' HGO2
    subst hne0
    by_cases hgt : last < n
    · skip
      have hmx : max last n = n := by omega
      obtain ⟨N1, h1, o1, HPUT0, HTK0⟩ := HG.out
      rw [hmx] at HTK0
      have fM := HM1.out.free
      have lM := HM1.out.lt
      obtain ⟨V2, hV2⟩ : ∃ W, W = V1.setCell ⟨M, 0, none⟩ (.int .i64 n) := ⟨_, rfl⟩
      have hk2 : Kept [M] V1 V2 := by rw [hV2]; exact (Kept.refl [M] V1).setCell (p := ⟨M, 0, none⟩) (by simp) _
      have HM2 : Hid (Blk V2 M #[.int .i64 n, .int .i64 next, .slice ha nh hc, .slice ba0 no bc, .int .i64 first, .slice ga ng gc, .slice oa nO oc] 61) := by
        have := HM1.out.set 0 (.int .i64 n)
        rw [hV2]; simpa [Hid] using this
      have HZ2 : Hid (Blk V2 (M + 1) #[.int .i64 0, .int .i64 0, .slice none 0 0, .slice none 0 0, .int .i64 0, .slice none 0 0, .slice none 0 0] 61) := HZ1.out.kept hk2 (by simp)
      have HP2 : Hid (Blk V2 P #[.int .i64 ps, .int .i64 pt, .bool pf, .bool pe, .bool pk, .string px] 89) := HP1.out.kept hk2 (by simp; omega)
      have HB2 : Hid (Below M w V2) := HB1.out.trans (hk2.toBelow (by omega) (by simp))
      clear hk2 HM1 HZ1 HP1 HB1
      go_upto_region 11 with fail
      rw [← hV2]
      clear hV2 y0 y1 y2 y3 y4 y5 y6 z0 z1 z2 z3 z4 z5 fM lM
      obtain ⟨V1', hV1'⟩ : ∃ W, W = V2 := ⟨_, rfl⟩
      obtain ⟨y0, y1, y2, y3, y4, y5, y6⟩ := HM2.out.sevenc
      obtain ⟨z0, z1, z2, z3, z4, z5⟩ := HP2.out.sixq
      have HPUT : Hid _ := HPUT0
      have HTK : Hid _ := HTK0
      clear HPUT0 HTK0 HG
      go_wp2_with fail
      refine (HPUT.out V2 HB2.out (by have := HZ2.out.lt; omega)).mono ?_
      rintro e w3 ⟨xa, xn, xc, za, zn, zc, rfl, X1, X2, b3⟩
      have HB3 : Hid (Below M w w3) := HB2.out.trans (b3.mono (by have := HB2.out.size; have := HM2.out.lt; omega))
      have HM3 : Hid (Blk w3 M #[.int .i64 n, .int .i64 next, .slice ha nh hc, .slice ba0 no bc, .int .i64 first, .slice ga ng gc, .slice oa nO oc] 61) := HM2.out.below b3 HM2.out.lt
      have HZ3 : Hid (Blk w3 (M + 1) #[.int .i64 0, .int .i64 0, .slice none 0 0, .slice none 0 0, .int .i64 0, .slice none 0 0, .slice none 0 0] 61) := HZ2.out.below b3 HZ2.out.lt
      clear b3 HB2 HM2 HZ2 HP2 HPUT y0 y1 y2 y3 y4 y5 y6 z0 z1 z2 z3 z4 z5
      obtain ⟨V3, hV3⟩ : ∃ W, W = w3.alloc (.cells #[.int .i64 N1, .slice xa xn xc] 57) := ⟨_, rfl⟩
      have ba3 : Below w3.heap.size w3 V3 := by rw [hV3]; exact (Below.refl _ _).alloc (Nat.le_refl _) _
      have kM := HM3.out.below ba3 HM3.out.lt
      have kB := Blk.newE hV3
      have b0 := kB.cell (j := 0) (u := .int .i64 N1) rfl
      have b1 := kB.cell (j := 1) (u := .slice xa xn xc) rfl
      have kZ := HZ3.out.below ba3 HZ3.out.lt
      obtain ⟨V4, hV4⟩ : ∃ W, W = (V3.setCell ⟨M, 1, none⟩ (.int .i64 N1)).setCell ⟨M, 2, none⟩ (.slice xa xn xc) := ⟨_, rfl⟩
      have hk4 : Kept [M] V3 V4 := by rw [hV4]; exact ((Kept.refl [M] V3).setCell (p := ⟨M, 1, none⟩) (by simp) _).setCell (p := ⟨M, 2, none⟩) (by simp) _
      have HM4 : Hid (Blk V4 M #[.int .i64 n, .int .i64 N1, .slice xa xn xc, .slice ba0 no bc, .int .i64 first, .slice ga ng gc, .slice oa nO oc] 61) := by
        have := (kM.set 1 (.int .i64 N1)).set 2 (.slice xa xn xc)
        rw [hV4]; simpa [Hid] using this
      have HZ4 : Hid (Blk V4 (M + 1) #[.int .i64 0, .int .i64 0, .slice none 0 0, .slice none 0 0, .int .i64 0, .slice none 0 0, .slice none 0 0] 61) := kZ.kept hk4 (by simp)
      have HB4 : Hid (Below M w V4) := (HB3.out.trans (ba3.mono (by have := HM3.out.lt; omega))).trans (hk4.toBelow (by have := kM.lt; omega) (by simp))
      have X1' : Hid (SlsIn S0 V4 (.slice xa xn xc) h1) := (X1.out.below ba3).to (hk4.sameTo (fun g h => by have := HS00.out g h; simp; exact this.2.1)) (fun _ _ h => h)
      have X2' : Hid (SlsIn S0 V4 (.slice za zn zc) o1) := (X2.out.below ba3).to (hk4.sameTo (fun g h => by have := HS00.out g h; simp; exact this.2.1)) (fun _ _ h => h)
      obtain ⟨y0, y1, y2, y3, y4, y5, y6⟩ := kM.sevenc
      have fM := kM.free
      have lM := HM3.out.lt
      clear kB kZ ba3 hk4 kM HM3 HZ3 HB3 X1 X2
      go_upto_region 12 with fail
      rw [← hV3]
      clear hV3
      go_upto_region 13 with fail
      rw [← hV4]
      clear hV4 y0 y1 y2 y3 y4 y5 y6 fM lM b0 b1
      obtain ⟨y0, y1, y2, y3, y4, y5, y6⟩ := HM4.out.sevenc
      go_wp2_with fail
      refine (HTK.out V4 xa xn xc za zn zc HB4.out (by have := HZ4.out.lt; omega) X1'.out X2'.out).mono ?_
      rintro e w5 ⟨la1, ne1, ha1, hn1, hc1, oa1, on1, oc1, fi1, ga1, gn1, gc1, pa1, pn1, pc1, rfl, G1, T1, b5⟩
      have HZ5 : Hid (Blk w5 (M + 1) #[.int .i64 0, .int .i64 0, .slice none 0 0, .slice none 0 0, .int .i64 0, .slice none 0 0, .slice none 0 0] 61) := HZ4.out.below b5 HZ4.out.lt
      have HB5 : Hid (Below M w w5) := HB4.out.trans (b5.mono (by have := HM4.out.lt; omega))
      have T1' : Hid (TrIn S0 w5 (.slice ha1 hn1 hc1) (.slice oa1 on1 oc1) (.slice ga1 gn1 gc1) (.slice pa1 pn1 pc1) R.1) := T1.out
      clear b5 HZ4 HB4 HM4 HTK X1' X2' y0 y1 y2 y3 y4 y5 y6 T1
      obtain ⟨z0, z1, z2, z3, z4, z5, z6⟩ := HZ5.out.sevenc
      have fM := HZ5.out.free
      have lM := HZ5.out.lt
      obtain ⟨W7, hW7⟩ : ∃ W, W = ((((((w5.setCell ⟨M + 1, 0, none⟩ (.int .i64 la1)).setCell ⟨M + 1, 1, none⟩ (.int .i64 ne1)).setCell ⟨M + 1, 2, none⟩ (.slice ha1 hn1 hc1)).setCell ⟨M + 1, 3, none⟩ (.slice oa1 on1 oc1)).setCell ⟨M + 1, 4, none⟩ (.int .i64 fi1)).setCell ⟨M + 1, 5, none⟩ (.slice ga1 gn1 gc1)).setCell ⟨M + 1, 6, none⟩ (.slice pa1 pn1 pc1) := ⟨_, rfl⟩
      have HZ7 : Hid (Blk W7 (M + 1) #[.int .i64 la1, .int .i64 ne1, .slice ha1 hn1 hc1, .slice oa1 on1 oc1, .int .i64 fi1, .slice ga1 gn1 gc1, .slice pa1 pn1 pc1] 61) := by
        have := ((((((HZ5.out.set 0 (.int .i64 la1)).set 1 (.int .i64 ne1)).set 2 (.slice ha1 hn1 hc1)).set 3 (.slice oa1 on1 oc1)).set 4 (.int .i64 fi1)).set 5 (.slice ga1 gn1 gc1)).set 6 (.slice pa1 pn1 pc1)
        rw [hW7]; simpa [Hid] using this
      have HB7 : Hid (Below M w W7) := by
        show Below _ _ _
        rw [hW7]
        exact seven_belowR HB5.out (by omega) _ _ _ _ _ _ _
      have hk7 : Kept [M + 1] w5 W7 := by
        rw [hW7]
        exact (((((((Kept.refl [M + 1] w5).setCell (p := ⟨M + 1, 0, none⟩) (by simp) _).setCell (p := ⟨M + 1, 1, none⟩) (by simp) _).setCell (p := ⟨M + 1, 2, none⟩) (by simp) _).setCell (p := ⟨M + 1, 3, none⟩) (by simp) _).setCell (p := ⟨M + 1, 4, none⟩) (by simp) _).setCell (p := ⟨M + 1, 5, none⟩) (by simp) _).setCell (p := ⟨M + 1, 6, none⟩) (by simp) _
      have HT7 : Hid (TrIn S W7 (.slice ha1 hn1 hc1) (.slice oa1 on1 oc1) (.slice ga1 gn1 gc1) (.slice pa1 pn1 pc1) R.1) := T1'.out.to (hk7.sameTo (fun g h => by have := HS00.out g h; simp; exact this.2.2)) (fun g _ h => (HS00.out g h).1)
      clear HZ5 HB5 T1' hk7
      go_wp2
      rw [← hW7]
      clear hW7 z0 z1 z2 z3 z4 z5 z6 fM lM
      obtain ⟨y0, y1, y2, y3, y4, y5, y6⟩ := HZ7.out.sevenc
      refine bodyPost_ret (v := .tuple #[.agg #[.int .i64 la1, .int .i64 ne1, .slice ha1 hn1 hc1, .slice oa1 on1 oc1, .int .i64 fi1, .slice ga1 gn1 gc1, .slice pa1 pn1 pc1], .int .i64 R.2.1, .int .i64 R.2.2]) (by simp [results, Tryz.results26, go_sem, y0, y1, y2, y3, y4, y5, y6]) rfl ?_
      refine ⟨_, _, _, _, ?_, HT7.out, HB7.out⟩
      rw [G1.out.1, G1.out.2.1, G1.out.2.2.1]
    · have hmx : max last n = last := by omega
      obtain ⟨N1, h1, o1, HPUT0, HTK0⟩ := HG.out
      rw [hmx] at HTK0
      have HPUT : Hid _ := HPUT0
      have HTK : Hid _ := HTK0
      clear HPUT0 HTK0 HG
      go_wp2_with fail
      refine (HPUT.out V1 HB1.out (by have := HZ1.out.lt; omega)).mono ?_
      rintro e w3 ⟨xa, xn, xc, za, zn, zc, rfl, X1, X2, b3⟩
      have HB3 : Hid (Below M w w3) := HB1.out.trans (b3.mono (by have := HB1.out.size; have := HM1.out.lt; omega))
      have HM3 : Hid (Blk w3 M #[.int .i64 last, .int .i64 next, .slice ha nh hc, .slice ba0 no bc, .int .i64 first, .slice ga ng gc, .slice oa nO oc] 61) := HM1.out.below b3 HM1.out.lt
      have HZ3 : Hid (Blk w3 (M + 1) #[.int .i64 0, .int .i64 0, .slice none 0 0, .slice none 0 0, .int .i64 0, .slice none 0 0, .slice none 0 0] 61) := HZ1.out.below b3 HZ1.out.lt
      clear b3 HB1 HM1 HZ1 HP1 HPUT y0 y1 y2 y3 y4 y5 y6 z0 z1 z2 z3 z4 z5
      obtain ⟨V3, hV3⟩ : ∃ W, W = w3.alloc (.cells #[.int .i64 N1, .slice xa xn xc] 57) := ⟨_, rfl⟩
      have ba3 : Below w3.heap.size w3 V3 := by rw [hV3]; exact (Below.refl _ _).alloc (Nat.le_refl _) _
      have kM := HM3.out.below ba3 HM3.out.lt
      have kB := Blk.newE hV3
      have b0 := kB.cell (j := 0) (u := .int .i64 N1) rfl
      have b1 := kB.cell (j := 1) (u := .slice xa xn xc) rfl
      have kZ := HZ3.out.below ba3 HZ3.out.lt
      obtain ⟨V4, hV4⟩ : ∃ W, W = (V3.setCell ⟨M, 1, none⟩ (.int .i64 N1)).setCell ⟨M, 2, none⟩ (.slice xa xn xc) := ⟨_, rfl⟩
      have hk4 : Kept [M] V3 V4 := by rw [hV4]; exact ((Kept.refl [M] V3).setCell (p := ⟨M, 1, none⟩) (by simp) _).setCell (p := ⟨M, 2, none⟩) (by simp) _
      have HM4 : Hid (Blk V4 M #[.int .i64 last, .int .i64 N1, .slice xa xn xc, .slice ba0 no bc, .int .i64 first, .slice ga ng gc, .slice oa nO oc] 61) := by
        have := (kM.set 1 (.int .i64 N1)).set 2 (.slice xa xn xc)
        rw [hV4]; simpa [Hid] using this
      have HZ4 : Hid (Blk V4 (M + 1) #[.int .i64 0, .int .i64 0, .slice none 0 0, .slice none 0 0, .int .i64 0, .slice none 0 0, .slice none 0 0] 61) := kZ.kept hk4 (by simp)
      have HB4 : Hid (Below M w V4) := (HB3.out.trans (ba3.mono (by have := HM3.out.lt; omega))).trans (hk4.toBelow (by have := kM.lt; omega) (by simp))
      have X1' : Hid (SlsIn S0 V4 (.slice xa xn xc) h1) := (X1.out.below ba3).to (hk4.sameTo (fun g h => by have := HS00.out g h; simp; exact this.2.1)) (fun _ _ h => h)
      have X2' : Hid (SlsIn S0 V4 (.slice za zn zc) o1) := (X2.out.below ba3).to (hk4.sameTo (fun g h => by have := HS00.out g h; simp; exact this.2.1)) (fun _ _ h => h)
      obtain ⟨y0, y1, y2, y3, y4, y5, y6⟩ := kM.sevenc
      have fM := kM.free
      have lM := HM3.out.lt
      clear kB kZ ba3 hk4 kM HM3 HZ3 HB3 X1 X2
      go_upto_region 12 with fail
      rw [← hV3]
      clear hV3
      go_upto_region 13 with fail
      rw [← hV4]
      clear hV4 y0 y1 y2 y3 y4 y5 y6 fM lM b0 b1
      obtain ⟨y0, y1, y2, y3, y4, y5, y6⟩ := HM4.out.sevenc
      go_wp2_with fail
      refine (HTK.out V4 xa xn xc za zn zc HB4.out (by have := HZ4.out.lt; omega) X1'.out X2'.out).mono ?_
      rintro e w5 ⟨la1, ne1, ha1, hn1, hc1, oa1, on1, oc1, fi1, ga1, gn1, gc1, pa1, pn1, pc1, rfl, G1, T1, b5⟩
      have HZ5 : Hid (Blk w5 (M + 1) #[.int .i64 0, .int .i64 0, .slice none 0 0, .slice none 0 0, .int .i64 0, .slice none 0 0, .slice none 0 0] 61) := HZ4.out.below b5 HZ4.out.lt
      have HB5 : Hid (Below M w w5) := HB4.out.trans (b5.mono (by have := HM4.out.lt; omega))
      have T1' : Hid (TrIn S0 w5 (.slice ha1 hn1 hc1) (.slice oa1 on1 oc1) (.slice ga1 gn1 gc1) (.slice pa1 pn1 pc1) R.1) := T1.out
      clear b5 HZ4 HB4 HM4 HTK X1' X2' y0 y1 y2 y3 y4 y5 y6 T1
      obtain ⟨z0, z1, z2, z3, z4, z5, z6⟩ := HZ5.out.sevenc
      have fM := HZ5.out.free
      have lM := HZ5.out.lt
      obtain ⟨W7, hW7⟩ : ∃ W, W = ((((((w5.setCell ⟨M + 1, 0, none⟩ (.int .i64 la1)).setCell ⟨M + 1, 1, none⟩ (.int .i64 ne1)).setCell ⟨M + 1, 2, none⟩ (.slice ha1 hn1 hc1)).setCell ⟨M + 1, 3, none⟩ (.slice oa1 on1 oc1)).setCell ⟨M + 1, 4, none⟩ (.int .i64 fi1)).setCell ⟨M + 1, 5, none⟩ (.slice ga1 gn1 gc1)).setCell ⟨M + 1, 6, none⟩ (.slice pa1 pn1 pc1) := ⟨_, rfl⟩
      have HZ7 : Hid (Blk W7 (M + 1) #[.int .i64 la1, .int .i64 ne1, .slice ha1 hn1 hc1, .slice oa1 on1 oc1, .int .i64 fi1, .slice ga1 gn1 gc1, .slice pa1 pn1 pc1] 61) := by
        have := ((((((HZ5.out.set 0 (.int .i64 la1)).set 1 (.int .i64 ne1)).set 2 (.slice ha1 hn1 hc1)).set 3 (.slice oa1 on1 oc1)).set 4 (.int .i64 fi1)).set 5 (.slice ga1 gn1 gc1)).set 6 (.slice pa1 pn1 pc1)
        rw [hW7]; simpa [Hid] using this
      have HB7 : Hid (Below M w W7) := by
        show Below _ _ _
        rw [hW7]
        exact seven_belowR HB5.out (by omega) _ _ _ _ _ _ _
      have hk7 : Kept [M + 1] w5 W7 := by
        rw [hW7]
        exact (((((((Kept.refl [M + 1] w5).setCell (p := ⟨M + 1, 0, none⟩) (by simp) _).setCell (p := ⟨M + 1, 1, none⟩) (by simp) _).setCell (p := ⟨M + 1, 2, none⟩) (by simp) _).setCell (p := ⟨M + 1, 3, none⟩) (by simp) _).setCell (p := ⟨M + 1, 4, none⟩) (by simp) _).setCell (p := ⟨M + 1, 5, none⟩) (by simp) _).setCell (p := ⟨M + 1, 6, none⟩) (by simp) _
      have HT7 : Hid (TrIn S W7 (.slice ha1 hn1 hc1) (.slice oa1 on1 oc1) (.slice ga1 gn1 gc1) (.slice pa1 pn1 pc1) R.1) := T1'.out.to (hk7.sameTo (fun g h => by have := HS00.out g h; simp; exact this.2.2)) (fun g _ h => (HS00.out g h).1)
      clear HZ5 HB5 T1' hk7
      go_wp2
      rw [← hW7]
      clear hW7 z0 z1 z2 z3 z4 z5 z6 fM lM
      obtain ⟨y0, y1, y2, y3, y4, y5, y6⟩ := HZ7.out.sevenc
      refine bodyPost_ret (v := .tuple #[.agg #[.int .i64 la1, .int .i64 ne1, .slice ha1 hn1 hc1, .slice oa1 on1 oc1, .int .i64 fi1, .slice ga1 gn1 gc1, .slice pa1 pn1 pc1], .int .i64 R.2.1, .int .i64 R.2.2]) (by simp [results, Tryz.results26, go_sem, y0, y1, y2, y3, y4, y5, y6]) rfl ?_
      refine ⟨_, _, _, _, ?_, HT7.out, HB7.out⟩
      rw [G1.out.1, G1.out.2.1, G1.out.2.2.1]

set_option maxHeartbeats 16000000 in
set_option maxRecDepth 100000 in
theorem refDrainOf_in (S : Nat → Prop) (t : Tr) (hv bv gv ov : Value) (w : World) (hr : TrIn S w hv bv gv ov t) (hS : ∀ g, w.heap.size ≤ g → S g) (hc0 : t.chk = 0) (hcap : ∀ a n c, hv = .slice a n c → n ≤ c) :
    Calls Tryz.prog 27 #[.agg #[.int .i64 t.last, .int .i64 t.next, hv, bv, .int .i64 t.first, gv, ov]] w fun e w' => ∃ hv' bv' gv' ov', e = .returned (.tuple #[.agg #[.int .i64 (drainR t).1.last, .int .i64 (drainR t).1.next, hv', bv', .int .i64 (drainR t).1.first, gv', ov'], .int .i64 (drainR t).2.1, .int .i64 (drainR t).2.2]) ∧ TrIn S w' hv' bv' gv' ov' (drainR t).1 ∧ Below w.heap.size w w' := by
  obtain ⟨c1, c2, c3, c4, c5⟩ := Tr.chk_zero.1 hc0
  obtain ⟨M, hM⟩ : ∃ x, x = w.heap.size := ⟨_, rfl⟩
  obtain ⟨S0, hS0⟩ : ∃ P : Nat → Prop, P = fun g => S g ∧ g ≠ M ∧ g ≠ M + 1 := ⟨_, rfl⟩
  have mk0 : ∀ g, S g → g ≠ M → g ≠ M + 1 → S0 g := fun g h1 h2 h3 => by rw [hS0]; exact ⟨h1, h2, h3⟩
  have HS00 : Hid (∀ g, S0 g → S g ∧ g ≠ M ∧ g ≠ M + 1) := fun g h => by rw [hS0] at h; exact h
  obtain ⟨R, hR⟩ : ∃ R, R = drainR t := ⟨_, rfl⟩
  have HG : Hid (∃ N1 h1 o1, (∀ W : World, Below M w W → M + 2 ≤ W.heap.size → Calls Tryz.prog 77 #[.agg #[.int .i64 t.next, hv]] W fun e w' => ∃ xa xn xc za zn zc, e = .returned (.tuple #[.agg #[.int .i64 N1, .slice xa xn xc], .slice za zn zc]) ∧ Hid (SlsIn S0 w' (.slice xa xn xc) h1) ∧ Hid (SlsIn S0 w' (.slice za zn zc) o1) ∧ Below W.heap.size W w') ∧
      (∀ (W : World) (xa : Option Addr) (xn xc : Nat) (za : Option Addr) (zn zc : Nat), Below M w W → M + 2 ≤ W.heap.size → SlsIn S0 W (.slice xa xn xc) h1 → SlsIn S0 W (.slice za zn zc) o1 → Calls Tryz.prog 76 #[.agg #[.int .i64 t.last, .int .i64 N1, .slice xa xn xc, bv, .int .i64 t.first, gv, ov], .slice za zn zc] W fun e w' => ∃ la1 ne1 ha1 hn1 hc1 oa1 on1 oc1 fi1 ga1 gn1 gc1 pa1 pn1 pc1, e = .returned (.tuple #[.agg #[.int .i64 la1, .int .i64 ne1, .slice ha1 hn1 hc1, .slice oa1 on1 oc1, .int .i64 fi1, .slice ga1 gn1 gc1, .slice pa1 pn1 pc1], .int .i64 R.2.1, .int .i64 R.2.2]) ∧ Hid (la1 = R.1.last ∧ ne1 = R.1.next ∧ fi1 = R.1.first ∧ gn1 = R.1.L.length) ∧ Hid (TrIn S0 w' (.slice ha1 hn1 hc1) (.slice oa1 on1 oc1) (.slice ga1 gn1 gc1) (.slice pa1 pn1 pc1) R.1) ∧ Below W.heap.size W w')) := by
    obtain ⟨i1, i2, i3, i4, i5⟩ := flush_inv c2
    have hRe : R = tkN (relF 0 t.next t.h []).2.2 (t.buf t.last (relF 0 t.next t.h []).1 (relF 0 t.next t.h []).2.1, 0) := hR
    have hlo : (relF 0 t.next t.h []).2.2.length ≤ 100 := by
      have := rel_olen 0 t.h t.next []
      have := c2.2.1
      simp only [List.length_nil] at *
      omega
    have hnums : Nums t.h := fun y hy => by
      have := Sk.chk_zero (c2.2.2.1 y hy)
      exact ⟨this.1, this.2.1⟩
    refine ⟨(relF 0 t.next t.h []).1, (relF 0 t.next t.h []).2.1, (relF 0 t.next t.h []).2.2, fun W hW hWs => ?_, fun W xa xn xc za zn zc hW hWs q1 q2 => ?_⟩
    · refine (flushOf_any t.next hv t.h W (hr.1.below (by rw [← hM]; exact hW)).1 hcap hnums (by rcases c2.1 with ⟨h, _⟩ | h <;> omega) (by have := c2.2.1; omega)).mono ?_
      rintro e w' ⟨hv', ov', rfl, f1, f2, f3, f4, f5⟩
      obtain ⟨pa, pc, e2⟩ := f1.len
      obtain ⟨qa, qc, e3⟩ := f2.len
      have l1 : (relF 0 t.next t.h []).2.1.length = 0 := by rw [i5]; rfl
      refine ⟨pa, _, pc, qa, _, qc, by rw [e2, e3], ?_, ?_, f3⟩
      · rw [← e2]
        exact SlsIn.of f1 (by omega) fun g hg h0 => absurd h0 (by omega)
      · rw [← e3]
        refine SlsIn.of f2 (by omega) fun g hg _ => ?_
        have := f5 g hg
        exact mk0 g (hS g (by omega)) (by omega) (by omega)
    · have hrW : TrIn S0 W hv bv gv ov t := ((hr.mono (S' := fun g => S g ∧ g < M) fun g h hs => ⟨hs, by rw [hM]; exact h⟩).below (by rw [← hM]; exact hW)).mono fun g _ h => mk0 g h.1 (Nat.ne_of_lt h.2) (by have := h.2; omega)
      refine (taken_in S0 (t.buf t.last _ _) _ bv gv ov _ _ W ⟨q1, hrW.2.1, hrW.2.2.1, hrW.2.2.2⟩ (fun g hg => mk0 g (hS g (by omega)) (by omega) (by omega)) ⟨c3, c4⟩ (q2.mono fun _ _ _ => trivial) (fun y hy => c2.2.2.1 y (i3 y hy).1) hlo).mono ?_
      rintro e w' ⟨x1, x2, x3, x4, rfl, q, b⟩
      rw [← hRe] at q ⊢
      obtain ⟨a1, c1, a2, c2, a3, c3, a4, c4, e1, e2, e3, e4⟩ := q.slices
      subst e1 e2 e3 e4
      exact ⟨_, _, _, _, _, _, _, _, _, _, _, _, _, _, _, rfl, ⟨rfl, rfl, rfl, rfl⟩, q, b⟩
  rw [← hR]
  obtain ⟨ha, hc, ba0, bc, ga, gc, oa, oc, eh, eb, eg, eo⟩ := hr.slices
  obtain ⟨nh, hnh⟩ : ∃ n, n = t.h.length := ⟨_, rfl⟩
  obtain ⟨no, hno⟩ : ∃ n, n = t.o.length := ⟨_, rfl⟩
  obtain ⟨ng, hng⟩ : ∃ n, n = t.L.length := ⟨_, rfl⟩
  obtain ⟨nO, hnO⟩ : ∃ n, n = t.O.length := ⟨_, rfl⟩
  rw [← hnh] at eh
  rw [← hno] at eb
  rw [← hng] at eg
  rw [← hnO] at eo
  obtain ⟨last, hla⟩ : ∃ x, x = t.last := ⟨_, rfl⟩
  obtain ⟨next, hne⟩ : ∃ x, x = t.next := ⟨_, rfl⟩
  obtain ⟨first, hfi⟩ : ∃ x, x = t.first := ⟨_, rfl⟩
  rw [← hla, ← hne, ← hfi] at HG
  rw [← hla, ← hne, ← hfi]
  obtain ⟨V1, hV⟩ : ∃ V, V = (w.alloc (.cells #[.int .i64 last, .int .i64 next, .slice ha nh hc, .slice ba0 no bc, .int .i64 first, .slice ga ng gc, .slice oa nO oc] 61)).alloc (.cells #[.int .i64 0, .int .i64 0, .slice none 0 0, .slice none 0 0, .int .i64 0, .slice none 0 0, .slice none 0 0] 61) := ⟨_, rfl⟩
  have HB1 : Hid (Below M w V1) := by show Below M w V1; rw [hV, hM]; exact ((Below.refl _ w).alloc (Nat.le_refl _) _).alloc (by simp) _
  have HM1 : Hid (Blk V1 M #[.int .i64 last, .int .i64 next, .slice ha nh hc, .slice ba0 no bc, .int .i64 first, .slice ga ng gc, .slice oa nO oc] 61) := by
    have := (Blk.new w #[.int .i64 last, .int .i64 next, .slice ha nh hc, .slice ba0 no bc, .int .i64 first, .slice ga ng gc, .slice oa nO oc] 61).alloc (.cells #[.int .i64 0, .int .i64 0, .slice none 0 0, .slice none 0 0, .int .i64 0, .slice none 0 0, .slice none 0 0] 61)
    rw [← hV, ← hM] at this
    exact this
  have HZ1 : Hid (Blk V1 (M + 1) #[.int .i64 0, .int .i64 0, .slice none 0 0, .slice none 0 0, .int .i64 0, .slice none 0 0, .slice none 0 0] 61) := by
    have := Blk.new (w.alloc (.cells #[.int .i64 last, .int .i64 next, .slice ha nh hc, .slice ba0 no bc, .int .i64 first, .slice ga ng gc, .slice oa nO oc] 61)) #[.int .i64 0, .int .i64 0, .slice none 0 0, .slice none 0 0, .int .i64 0, .slice none 0 0, .slice none 0 0] 61
    rw [World.size_alloc, ← hV, ← hM] at this
    exact this
  have HP1 : Hid True := trivial
  obtain ⟨y0, y1, y2, y3, y4, y5, y6⟩ := HM1.out.sevenc
  have HMe : Hid (M = w.heap.size) := hM
  rw [← hM]
  clear hS hS0 mk0 hR hla hne hfi hnh hno hng hnO hr hc0 c1 c2 c3 c4 c5 hcap
  subst eh eb eg eo
  go_enter Tryz.func27, Tryz.ntmps27
  go_upto_region 1 with fail
  rw [← hV]
  try rw [← hM]
  clear hV hM
  obtain ⟨N1, h1, o1, HPUT0, HTK0⟩ := HG.out
  have HPUT : Hid _ := HPUT0
  have HTK : Hid _ := HTK0
  clear HPUT0 HTK0 HG
  go_wp2_with fail
  refine (HPUT.out V1 HB1.out (by have := HZ1.out.lt; omega)).mono ?_
  rintro e w3 ⟨xa, xn, xc, za, zn, zc, rfl, X1, X2, b3⟩
  have HB3 : Hid (Below M w w3) := HB1.out.trans (b3.mono (by have := HB1.out.size; have := HM1.out.lt; omega))
  have HM3 : Hid (Blk w3 M #[.int .i64 last, .int .i64 next, .slice ha nh hc, .slice ba0 no bc, .int .i64 first, .slice ga ng gc, .slice oa nO oc] 61) := HM1.out.below b3 HM1.out.lt
  have HZ3 : Hid (Blk w3 (M + 1) #[.int .i64 0, .int .i64 0, .slice none 0 0, .slice none 0 0, .int .i64 0, .slice none 0 0, .slice none 0 0] 61) := HZ1.out.below b3 HZ1.out.lt
  clear b3 HB1 HM1 HZ1 HP1 HPUT y0 y1 y2 y3 y4 y5 y6
  obtain ⟨V3, hV3⟩ : ∃ W, W = w3.alloc (.cells #[.int .i64 N1, .slice xa xn xc] 57) := ⟨_, rfl⟩
  have ba3 : Below w3.heap.size w3 V3 := by rw [hV3]; exact (Below.refl _ _).alloc (Nat.le_refl _) _
  have kM := HM3.out.below ba3 HM3.out.lt
  have kB := Blk.newE hV3
  have b0 := kB.cell (j := 0) (u := .int .i64 N1) rfl
  have b1 := kB.cell (j := 1) (u := .slice xa xn xc) rfl
  have kZ := HZ3.out.below ba3 HZ3.out.lt
  obtain ⟨V4, hV4⟩ : ∃ W, W = (V3.setCell ⟨M, 1, none⟩ (.int .i64 N1)).setCell ⟨M, 2, none⟩ (.slice xa xn xc) := ⟨_, rfl⟩
  have hk4 : Kept [M] V3 V4 := by rw [hV4]; exact ((Kept.refl [M] V3).setCell (p := ⟨M, 1, none⟩) (by simp) _).setCell (p := ⟨M, 2, none⟩) (by simp) _
  have HM4 : Hid (Blk V4 M #[.int .i64 last, .int .i64 N1, .slice xa xn xc, .slice ba0 no bc, .int .i64 first, .slice ga ng gc, .slice oa nO oc] 61) := by
    have := (kM.set 1 (.int .i64 N1)).set 2 (.slice xa xn xc)
    rw [hV4]; simpa [Hid] using this
  have HZ4 : Hid (Blk V4 (M + 1) #[.int .i64 0, .int .i64 0, .slice none 0 0, .slice none 0 0, .int .i64 0, .slice none 0 0, .slice none 0 0] 61) := kZ.kept hk4 (by simp)
  have HB4 : Hid (Below M w V4) := (HB3.out.trans (ba3.mono (by have := HM3.out.lt; omega))).trans (hk4.toBelow (by have := kM.lt; omega) (by simp))
  have X1' : Hid (SlsIn S0 V4 (.slice xa xn xc) h1) := (X1.out.below ba3).to (hk4.sameTo (fun g h => by have := HS00.out g h; simp; exact this.2.1)) (fun _ _ h => h)
  have X2' : Hid (SlsIn S0 V4 (.slice za zn zc) o1) := (X2.out.below ba3).to (hk4.sameTo (fun g h => by have := HS00.out g h; simp; exact this.2.1)) (fun _ _ h => h)
  obtain ⟨y0, y1, y2, y3, y4, y5, y6⟩ := kM.sevenc
  have fM := kM.free
  have lM := HM3.out.lt
  clear kB kZ ba3 hk4 kM HM3 HZ3 HB3 X1 X2
  go_upto_region 2 with fail
  rw [← hV3]
  clear hV3
  go_upto_region 3 with fail
  rw [← hV4]
  clear hV4 y0 y1 y2 y3 y4 y5 y6 fM lM b0 b1
  obtain ⟨y0, y1, y2, y3, y4, y5, y6⟩ := HM4.out.sevenc
  go_wp2_with fail
  refine (HTK.out V4 xa xn xc za zn zc HB4.out (by have := HZ4.out.lt; omega) X1'.out X2'.out).mono ?_
  rintro e w5 ⟨la1, ne1, ha1, hn1, hc1, oa1, on1, oc1, fi1, ga1, gn1, gc1, pa1, pn1, pc1, rfl, G1, T1, b5⟩
  have HZ5 : Hid (Blk w5 (M + 1) #[.int .i64 0, .int .i64 0, .slice none 0 0, .slice none 0 0, .int .i64 0, .slice none 0 0, .slice none 0 0] 61) := HZ4.out.below b5 HZ4.out.lt
  have HB5 : Hid (Below M w w5) := HB4.out.trans (b5.mono (by have := HM4.out.lt; omega))
  have T1' : Hid (TrIn S0 w5 (.slice ha1 hn1 hc1) (.slice oa1 on1 oc1) (.slice ga1 gn1 gc1) (.slice pa1 pn1 pc1) R.1) := T1.out
  clear b5 HZ4 HB4 HM4 HTK X1' X2' y0 y1 y2 y3 y4 y5 y6 T1
  obtain ⟨z0, z1, z2, z3, z4, z5, z6⟩ := HZ5.out.sevenc
  have fM := HZ5.out.free
  have lM := HZ5.out.lt
  obtain ⟨W7, hW7⟩ : ∃ W, W = ((((((w5.setCell ⟨M + 1, 0, none⟩ (.int .i64 la1)).setCell ⟨M + 1, 1, none⟩ (.int .i64 ne1)).setCell ⟨M + 1, 2, none⟩ (.slice ha1 hn1 hc1)).setCell ⟨M + 1, 3, none⟩ (.slice oa1 on1 oc1)).setCell ⟨M + 1, 4, none⟩ (.int .i64 fi1)).setCell ⟨M + 1, 5, none⟩ (.slice ga1 gn1 gc1)).setCell ⟨M + 1, 6, none⟩ (.slice pa1 pn1 pc1) := ⟨_, rfl⟩
  have HZ7 : Hid (Blk W7 (M + 1) #[.int .i64 la1, .int .i64 ne1, .slice ha1 hn1 hc1, .slice oa1 on1 oc1, .int .i64 fi1, .slice ga1 gn1 gc1, .slice pa1 pn1 pc1] 61) := by
    have := ((((((HZ5.out.set 0 (.int .i64 la1)).set 1 (.int .i64 ne1)).set 2 (.slice ha1 hn1 hc1)).set 3 (.slice oa1 on1 oc1)).set 4 (.int .i64 fi1)).set 5 (.slice ga1 gn1 gc1)).set 6 (.slice pa1 pn1 pc1)
    rw [hW7]; simpa [Hid] using this
  have HB7 : Hid (Below M w W7) := by
    show Below _ _ _
    rw [hW7]
    exact seven_belowR HB5.out (by omega) _ _ _ _ _ _ _
  have hk7 : Kept [M + 1] w5 W7 := by
    rw [hW7]
    exact (((((((Kept.refl [M + 1] w5).setCell (p := ⟨M + 1, 0, none⟩) (by simp) _).setCell (p := ⟨M + 1, 1, none⟩) (by simp) _).setCell (p := ⟨M + 1, 2, none⟩) (by simp) _).setCell (p := ⟨M + 1, 3, none⟩) (by simp) _).setCell (p := ⟨M + 1, 4, none⟩) (by simp) _).setCell (p := ⟨M + 1, 5, none⟩) (by simp) _).setCell (p := ⟨M + 1, 6, none⟩) (by simp) _
  have HT7 : Hid (TrIn S W7 (.slice ha1 hn1 hc1) (.slice oa1 on1 oc1) (.slice ga1 gn1 gc1) (.slice pa1 pn1 pc1) R.1) := T1'.out.to (hk7.sameTo (fun g h => by have := HS00.out g h; simp; exact this.2.2)) (fun g _ h => (HS00.out g h).1)
  clear HZ5 HB5 T1' hk7
  go_wp2
  rw [← hW7]
  clear hW7 z0 z1 z2 z3 z4 z5 z6 fM lM
  obtain ⟨y0, y1, y2, y3, y4, y5, y6⟩ := HZ7.out.sevenc
  refine bodyPost_ret (v := .tuple #[.agg #[.int .i64 la1, .int .i64 ne1, .slice ha1 hn1 hc1, .slice oa1 on1 oc1, .int .i64 fi1, .slice ga1 gn1 gc1, .slice pa1 pn1 pc1], .int .i64 R.2.1, .int .i64 R.2.2]) (by simp [results, Tryz.results27, go_sem, y0, y1, y2, y3, y4, y5, y6]) rfl ?_
  refine ⟨_, _, _, _, ?_, HT7.out, HB7.out⟩
  rw [G1.out.1, G1.out.2.1, G1.out.2.2.1]

end Go.Proofs.YtnpaejknoipicafGreat

namespace Go.Proofs.YtnpaejknoipicafGreat
open Go.RowKit

def sameSt (f f' : Int) (L L' : List (List Fr)) (O O' : List Fr) : Bool := decide (f = f') && (sameGs L L' && sameFs O O')
theorem sameSt_self (f : Int) (L : List (List Fr)) (O : List Fr) : sameSt f f L L O O = true := by simp [sameSt, sameGs, sameFs]

set_option maxHeartbeats 2000000 in
set_option maxRecDepth 100000 in
theorem sameStore_any (f f' : Int) (gv ov gv' ov' : Value) (L L' : List (List Fr)) (O O' : List Fr) (w : World) (hg : GrsIn (fun _ => True) w gv L) (ho : FrsIn (fun _ => True) w ov O) (hg' : GrsIn (fun _ => True) w gv' L') (ho' : FrsIn (fun _ => True) w ov' O') :
    Calls Tryz.prog 19 #[.agg #[.int .i64 f, gv, ov], .agg #[.int .i64 f', gv', ov']] w fun e w' => e = .returned (.bool (sameSt f f' L L' O O')) ∧ Below w.heap.size w w' := by
  obtain ⟨ga, gc, eg, _, _⟩ := hg.len
  obtain ⟨oa, oc, eo, _, hol⟩ := ho.len
  obtain ⟨ga', gc', eg', _, _⟩ := hg'.len
  obtain ⟨oa', oc', eo', _, _⟩ := ho'.len
  obtain ⟨ln, hln⟩ : ∃ n, n = L.length := ⟨_, rfl⟩
  obtain ⟨lo, hlo⟩ : ∃ n, n = O.length := ⟨_, rfl⟩
  obtain ⟨ln', hln'⟩ : ∃ n, n = L'.length := ⟨_, rfl⟩
  obtain ⟨lo', hlo'⟩ : ∃ n, n = O'.length := ⟨_, rfl⟩
  rw [← hln] at eg
  rw [← hlo] at eo
  rw [← hln'] at eg'
  rw [← hlo'] at eo'
  obtain ⟨X, hX⟩ : ∃ X, X = sameGs L L' := ⟨_, rfl⟩
  obtain ⟨Y, hY⟩ : ∃ Y, Y = sameFs O O' := ⟨_, rfl⟩
  obtain ⟨R, hR⟩ : ∃ R, R = sameSt f f' L L' O O' := ⟨_, rfl⟩
  have HR : Hid (R = (decide (f = f') && (X && Y))) := by show _ = _; rw [hR, hX, hY]; rfl
  have HX : Hid (∀ U, Below w.heap.size w U → Calls Tryz.prog 64 #[gv, gv'] U fun e w' => e = .returned (.bool X) ∧ Below U.heap.size U w') := fun U hU => by
    rw [hX]; exact sameGroups_any _ _ _ _ _ _ U (hg.below hU) (hg'.below hU)
  have HY : Hid (∀ U, Below w.heap.size w U → Calls Tryz.prog 35 #[ov, ov'] U fun e w' => e = .returned (.bool Y) ∧ Below U.heap.size U w') := fun U hU => by
    rw [hY]; exact sameFrames_any _ _ _ _ U (ho.below hU).frs (ho'.below hU).frs hol
  rw [← hR]
  clear hg ho hg' ho' hX hY hR hln hlo hln' hlo' hol
  subst eg eo eg' eo'
  go_enter Tryz.func19, Tryz.ntmps19
  obtain ⟨W0, hW0⟩ : ∃ W0, W0 = (w.alloc (.cells #[.int .i64 f, .slice ga ln gc, .slice oa lo oc] 27)).alloc (.cells #[.int .i64 f', .slice ga' ln' gc', .slice oa' lo' oc'] 27) := ⟨_, rfl⟩
  have HS0 : Hid (Stay W0 (fun U => Blk U w.heap.size #[.int .i64 f, .slice ga ln gc, .slice oa lo oc] 27 ∧ Blk U (w.heap.size + 1) #[.int .i64 f', .slice ga' ln' gc', .slice oa' lo' oc'] 27 ∧ Below w.heap.size w U)) := by
    have k2 := Blk.newE hW0
    simp only [World.size_alloc] at k2
    have hb : Below w.heap.size w W0 := by rw [hW0]; exact ((Below.refl _ _).alloc (Nat.le_refl _) _).alloc (by simp) _
    exact (show Blk W0 w.heap.size _ _ by rw [hW0]; exact (Blk.new _ _ _).alloc _).stay.and (k2.stay.and (below_stay hb hb.size))
  by_cases hf : f = f'
  · subst hf
    have HR2 : Hid (R = (X && Y)) := by show _ = _; rw [HR.out]; simp
    go_wp2_with fail
    rw [← hW0]
    clear hW0
    refine (HX.out _ HS0.out.now.2.2).mono ?_
    rintro e w1 ⟨rfl, b1⟩
    have HS1 := Stay.go HS0 b1
    obtain ⟨k0, k1, k2⟩ := HS1.out.now.1.three
    obtain ⟨j0, j1, j2⟩ := HS1.out.now.2.1.three
    clear b1 HS0
    cases X
    · have hr : R = false := HR2.out
      subst hr
      go_wp2_with fail
      go_ret
      exact ⟨rfl, HS1.out.now.2.2⟩
    · have hr : R = Y := by rw [HR2.out]; rfl
      subst hr
      go_wp2_with fail
      refine (HY.out _ HS1.out.now.2.2).mono ?_
      rintro e w2 ⟨rfl, b2⟩
      have HS2 := Stay.go HS1 b2
      clear b2 HS1
      go_wp2_with fail
      go_ret
      exact ⟨rfl, HS2.out.now.2.2⟩
  · have hr : R = false := by rw [HR.out]; simp [hf]
    subst hr
    have hb := HS0.out.now.2.2
    subst hW0
    go_wp2_with fail
    go_ret
    exact ⟨rfl, hb⟩

set_option maxHeartbeats 2000000 in
set_option maxRecDepth 100000 in
theorem storeIs_any (E f f' : Int) (gv ov gv' ov' : Value) (L L' : List (List Fr)) (O O' : List Fr) (w : World) (hg : GrsIn (fun _ => True) w gv L) (ho : FrsIn (fun _ => True) w ov O) (hg' : GrsIn (fun _ => True) w gv' L') (ho' : FrsIn (fun _ => True) w ov' O')
    (h0 : E = 0 → f = f' ∧ L = L' ∧ O = O') (h1 : ¬ E = 0 → f = 0 ∧ L = [] ∧ O = []) :
    Calls Tryz.prog 15 #[.agg #[.int .i64 f, gv, ov], .int .i64 E, .int .i64 E, .agg #[.int .i64 f', gv', ov']] w fun e w' => e = .returned (.bool true) ∧ Below w.heap.size w w' := by
  obtain ⟨ga, gc, eg, _, _⟩ := hg.len
  obtain ⟨oa, oc, eo, _, _⟩ := ho.len
  obtain ⟨ga', gc', eg', _, _⟩ := hg'.len
  obtain ⟨oa', oc', eo', _, _⟩ := ho'.len
  obtain ⟨ln, hln⟩ : ∃ n, n = L.length := ⟨_, rfl⟩
  obtain ⟨lo, hlo⟩ : ∃ n, n = O.length := ⟨_, rfl⟩
  obtain ⟨ln', hln'⟩ : ∃ n, n = L'.length := ⟨_, rfl⟩
  obtain ⟨lo', hlo'⟩ : ∃ n, n = O'.length := ⟨_, rfl⟩
  rw [← hln] at eg
  rw [← hlo] at eo
  rw [← hln'] at eg'
  rw [← hlo'] at eo'
  by_cases hE : E = 0
  · obtain ⟨e1, e2, e3⟩ := h0 hE
    have HS : Hid (∀ U, Below w.heap.size w U → Calls Tryz.prog 19 #[.agg #[.int .i64 f, gv, ov], .agg #[.int .i64 f', gv', ov']] U fun e w' => e = .returned (.bool true) ∧ Below U.heap.size U w') := fun U hU => by
      have := sameStore_any f f' gv ov gv' ov' L L' O O' U (hg.below hU) (ho.below hU) (hg'.below hU) (ho'.below hU)
      rw [e1, e2, e3, sameSt_self] at this
      rw [e1]
      exact this
    have HB : Hid (Below w.heap.size w ((w.alloc (.cells #[.int .i64 f, gv, ov] 27)).alloc (.cells #[.int .i64 f', gv', ov'] 27))) := ((Below.refl _ _).alloc (Nat.le_refl _) _).alloc (by simp) _
    clear hg ho hg' ho' h0 h1 e1 e2 e3 hln hlo hln' hlo'
    subst eg eo eg' eo' hE
    go_enter Tryz.func15, Tryz.ntmps15
    go_wp2_with fail
    refine (HS.out _ HB.out).mono ?_
    rintro e w1 ⟨rfl, b1⟩
    have B1 : Hid (Below w.heap.size w w1) := HB.out.trans (b1.mono HB.out.size)
    clear b1
    go_wp2_with fail
    go_ret
    exact ⟨rfl, B1.out⟩
  · obtain ⟨e1, e2, e3⟩ := h1 hE
    have HS : Hid (∀ U, Below w.heap.size w U → Calls Tryz.prog 19 #[.agg #[.int .i64 f, gv, ov], .agg #[.int .i64 0, .slice none 0 0, .slice none 0 0]] U fun e w' => e = .returned (.bool true) ∧ Below U.heap.size U w') := fun U hU => by
      have := sameStore_any f 0 gv ov (.slice none 0 0) (.slice none 0 0) L [] O [] U (hg.below hU) (ho.below hU) (GrsIn.nil _ _) (FrsIn.nil _ _)
      rw [e1, e2, e3, sameSt_self] at this
      rw [e1]
      exact this
    have HB : Hid (Below w.heap.size w ((w.alloc (.cells #[.int .i64 f, gv, ov] 27)).alloc (.cells #[.int .i64 0, .slice none 0 0, .slice none 0 0] 27))) := ((Below.refl _ _).alloc (Nat.le_refl _) _).alloc (by simp) _
    clear hg ho hg' ho' h0 h1 e1 e2 e3 hln hlo hln' hlo'
    subst eg eo eg' eo'
    go_enter Tryz.func15, Tryz.ntmps15
    go_wp2_with fail
    refine (HS.out _ HB.out).mono ?_
    rintro e w1 ⟨rfl, b1⟩
    have B1 : Hid (Below w.heap.size w w1) := HB.out.trans (b1.mono HB.out.size)
    clear b1
    go_wp2_with fail
    go_ret
    exact ⟨rfl, B1.out⟩

end Go.Proofs.YtnpaejknoipicafGreat

namespace Go.Proofs.YtnpaejknoipicafGreat
open Go.RowKit

def sameTr (t u : Tr) : Bool := (t.last == u.last) && ((t.next == u.next && sameB t.h u.h) && (sameB t.o u.o && sameSt t.first u.first t.L u.L t.O u.O))

set_option maxHeartbeats 8000000 in
set_option maxRecDepth 100000 in
theorem sameTrack_any (t u : Tr) (hv bv gv ov hv' bv' gv' ov' : Value) (w : World) (hr : TrIn (fun _ => True) w hv bv gv ov t) (hr' : TrIn (fun _ => True) w hv' bv' gv' ov' u) :
    Calls Tryz.prog 83 #[.agg #[.int .i64 t.last, .int .i64 t.next, hv, bv, .int .i64 t.first, gv, ov], .agg #[.int .i64 u.last, .int .i64 u.next, hv', bv', .int .i64 u.first, gv', ov']] w fun e w' => e = .returned (.bool (sameTr t u)) ∧ Below w.heap.size w w' := by
  obtain ⟨ha, hc, ba', bc, ga, gc, oa, oc, eh, eb, eg, eo⟩ := hr.slices
  obtain ⟨ha2, hc2, ba2, bc2, ga2, gc2, oa2, oc2, eh2, eb2, eg2, eo2⟩ := hr'.slices
  obtain ⟨B0, hB0⟩ : ∃ b, b = (t.last == u.last) := ⟨_, rfl⟩
  obtain ⟨B1, hB1⟩ : ∃ b, b = (t.next == u.next && sameB t.h u.h) := ⟨_, rfl⟩
  obtain ⟨B2, hB2⟩ : ∃ b, b = sameB t.o u.o := ⟨_, rfl⟩
  obtain ⟨B3, hB3⟩ : ∃ b, b = sameSt t.first u.first t.L u.L t.O u.O := ⟨_, rfl⟩
  have H1 : Hid (∀ U, Below w.heap.size w U → Calls Tryz.prog 126 #[.agg #[.int .i64 t.next, hv], .agg #[.int .i64 u.next, hv']] U fun e w' => e = .returned (.bool B1) ∧ Below U.heap.size U w') := fun U hU => by rw [hB1]; exact sameBuffer_any _ _ hv hv' t.h u.h U (hr.1.1.below hU) (hr'.1.1.below hU) hr.1.2.1
  have H2 : Hid (∀ U, Below w.heap.size w U → Calls Tryz.prog 127 #[bv, bv'] U fun e w' => e = .returned (.bool B2) ∧ Below U.heap.size U w') := fun U hU => by rw [hB2]; exact sameSlots_any bv bv' t.o u.o U (hr.2.1.1.below hU) (hr'.2.1.1.below hU) hr.2.1.2.1
  have H3 : Hid (∀ U, Below w.heap.size w U → Calls Tryz.prog 19 #[.agg #[.int .i64 t.first, gv, ov], .agg #[.int .i64 u.first, gv', ov']] U fun e w' => e = .returned (.bool B3) ∧ Below U.heap.size U w') := fun U hU => by rw [hB3]; exact sameStore_any _ _ gv ov gv' ov' t.L u.L t.O u.O U (hr.2.2.1.below hU) (hr.2.2.2.below hU) (hr'.2.2.1.below hU) (hr'.2.2.2.below hU)
  have HR : Hid (sameTr t u = (B0 && (B1 && (B2 && B3)))) := by show _ = _; rw [hB0, hB1, hB2, hB3]; rfl
  obtain ⟨R, hR⟩ : ∃ R, R = sameTr t u := ⟨_, rfl⟩
  rw [← hR] at HR ⊢
  obtain ⟨nh, hnh⟩ : ∃ n, n = t.h.length := ⟨_, rfl⟩
  obtain ⟨no, hno⟩ : ∃ n, n = t.o.length := ⟨_, rfl⟩
  obtain ⟨ng, hng⟩ : ∃ n, n = t.L.length := ⟨_, rfl⟩
  obtain ⟨nO, hnO⟩ : ∃ n, n = t.O.length := ⟨_, rfl⟩
  obtain ⟨mh, hmh⟩ : ∃ n, n = u.h.length := ⟨_, rfl⟩
  obtain ⟨mo, hmo⟩ : ∃ n, n = u.o.length := ⟨_, rfl⟩
  obtain ⟨mg, hmg⟩ : ∃ n, n = u.L.length := ⟨_, rfl⟩
  obtain ⟨mO, hmO⟩ : ∃ n, n = u.O.length := ⟨_, rfl⟩
  rw [← hnh] at eh
  rw [← hno] at eb
  rw [← hng] at eg
  rw [← hnO] at eo
  rw [← hmh] at eh2
  rw [← hmo] at eb2
  rw [← hmg] at eg2
  rw [← hmO] at eo2
  obtain ⟨last, hla⟩ : ∃ x, x = t.last := ⟨_, rfl⟩
  obtain ⟨next, hne⟩ : ∃ x, x = t.next := ⟨_, rfl⟩
  obtain ⟨first, hfi⟩ : ∃ x, x = t.first := ⟨_, rfl⟩
  obtain ⟨last2, hla2⟩ : ∃ x, x = u.last := ⟨_, rfl⟩
  obtain ⟨next2, hne2⟩ : ∃ x, x = u.next := ⟨_, rfl⟩
  obtain ⟨first2, hfi2⟩ : ∃ x, x = u.first := ⟨_, rfl⟩
  rw [← hla, ← hla2] at hB0
  rw [← hla, ← hne, ← hfi, ← hla2, ← hne2, ← hfi2]
  rw [← hne, ← hne2] at H1
  rw [← hfi, ← hfi2] at H3
  have hq : (last == last2) = B0 := hB0.symm
  clear hB0 hB1 hB2 hB3 hR hr hr' hla hne hfi hla2 hne2 hfi2 hnh hno hng hnO hmh hmo hmg hmO
  subst eh eb eg eo eh2 eb2 eg2 eo2
  go_enter Tryz.func83, Tryz.ntmps83
  obtain ⟨W, hW⟩ : ∃ W, W = (w.alloc (.cells #[.int .i64 last, .int .i64 next, .slice ha nh hc, .slice ba' no bc, .int .i64 first, .slice ga ng gc, .slice oa nO oc] 61)).alloc (.cells #[.int .i64 last2, .int .i64 next2, .slice ha2 mh hc2, .slice ba2 mo bc2, .int .i64 first2, .slice ga2 mg gc2, .slice oa2 mO oc2] 61) := ⟨_, rfl⟩
  have HS0 : Hid (Stay W (fun U => (Blk U w.heap.size #[.int .i64 last, .int .i64 next, .slice ha nh hc, .slice ba' no bc, .int .i64 first, .slice ga ng gc, .slice oa nO oc] 61 ∧ Blk U (w.heap.size + 1) #[.int .i64 last2, .int .i64 next2, .slice ha2 mh hc2, .slice ba2 mo bc2, .int .i64 first2, .slice ga2 mg gc2, .slice oa2 mO oc2] 61) ∧ Below w.heap.size w U)) := by
    have k1 := (Blk.new w #[.int .i64 last, .int .i64 next, .slice ha nh hc, .slice ba' no bc, .int .i64 first, .slice ga ng gc, .slice oa nO oc] 61)
    have k2 := Blk.new (w.alloc (.cells #[.int .i64 last, .int .i64 next, .slice ha nh hc, .slice ba' no bc, .int .i64 first, .slice ga ng gc, .slice oa nO oc] 61)) #[.int .i64 last2, .int .i64 next2, .slice ha2 mh hc2, .slice ba2 mo bc2, .int .i64 first2, .slice ga2 mg gc2, .slice oa2 mO oc2] 61
    rw [← hW] at k2
    have k1' := k1.below ((Below.refl _ _).alloc (Nat.le_refl _) (.cells #[.int .i64 last2, .int .i64 next2, .slice ha2 mh hc2, .slice ba2 mo bc2, .int .i64 first2, .slice ga2 mg gc2, .slice oa2 mO oc2] 61)) k1.lt
    rw [← hW] at k1'
    simp only [World.size_alloc] at k2
    have b : Below w.heap.size w W := by rw [hW]; exact ((Below.refl _ _).alloc (Nat.le_refl _) _).alloc (by simp) _
    exact ((k1'.stay.and k2.stay).and (below_stay b b.size))
  cases hb0 : B0
  case false =>
    rw [hb0] at hq HR
    have BW := HS0.out.now.2
    rw [hW] at BW
    clear H1 H2 H3 HS0
    go_wp2
    go_ret
    rw [HR.out]
    exact ⟨rfl, BW⟩
  rw [hb0] at hq HR
  have BW : Hid (Below w.heap.size w W) := HS0.out.now.2
  go_wp2_with fail
  rw [← hW]
  clear hW
  refine (H1.out W BW.out).mono ?_
  rintro e w1 ⟨rfl, b1⟩
  have HS1 := Stay.go HS0 b1
  clear b1 HS0 BW H1
  have BW : Hid (Below w.heap.size w w1) := HS1.out.now.2
  cases hb1 : B1
  case false =>
    rw [hb1] at HR
    clear HS1 H2 H3
    go_wp2
    go_ret
    rw [HR.out]
    exact ⟨rfl, BW.out⟩
  rw [hb1] at HR
  obtain ⟨y0, y1, y2, y3, y4, y5, y6⟩ := HS1.out.now.1.1.sevenc
  obtain ⟨z0, z1, z2, z3, z4, z5, z6⟩ := HS1.out.now.1.2.sevenc
  go_wp2_with fail
  refine (H2.out w1 BW.out).mono ?_
  rintro e w2 ⟨rfl, b1⟩
  have HS2 := Stay.go HS1 b1
  clear b1 HS1 BW H2 y0 y1 y2 y3 y4 y5 y6 z0 z1 z2 z3 z4 z5 z6
  have BW : Hid (Below w.heap.size w w2) := HS2.out.now.2
  cases hb2 : B2
  case false =>
    rw [hb2] at HR
    clear HS2 H3
    go_wp2
    go_ret
    rw [HR.out]
    exact ⟨rfl, BW.out⟩
  rw [hb2] at HR
  obtain ⟨y0, y1, y2, y3, y4, y5, y6⟩ := HS2.out.now.1.1.sevenc
  obtain ⟨z0, z1, z2, z3, z4, z5, z6⟩ := HS2.out.now.1.2.sevenc
  go_wp2_with fail
  refine (H3.out w2 BW.out).mono ?_
  rintro e w3 ⟨rfl, b1⟩
  have BW3 : Hid (Below w.heap.size w w3) := BW.out.trans (b1.mono BW.out.size)
  clear b1 BW HS2 H3 y0 y1 y2 y3 y4 y5 y6 z0 z1 z2 z3 z4 z5 z6
  go_wp2
  go_ret
  rw [HR.out]
  exact ⟨by cases B3 <;> rfl, BW3.out⟩

end Go.Proofs.YtnpaejknoipicafGreat

namespace Go.Proofs.YtnpaejknoipicafGreat
open Go.RowKit Go.Sort

theorem sameTr_same (t : Tr) : sameTr t t = true := by simp [sameTr, (sameB_iff _ _).2 rfl, sameSt_self]

set_option maxHeartbeats 8000000 in
set_option maxRecDepth 100000 in
theorem trackIs_true (A B : Tr) (cl k : Nat) (E : Int) (la1 ne1 : Int) (ha1 : Option Addr) (hn1 hc1 : Nat) (oa1 : Option Addr) (on1 oc1 : Nat) (fi1 : Int) (ga1 : Option Addr) (gn1 gc1 : Nat) (pa1 : Option Addr) (pn1 pc1 : Nat) (la2 ne2 : Int) (ha2 : Option Addr) (hn2 hc2 : Nat) (oa2 : Option Addr) (on2 oc2 : Nat) (fi2 : Int) (ga2 : Option Addr) (gn2 gc2 : Nat) (pa2 : Option Addr) (pn2 pc2 : Nat) (w : World)
    (hA : (la1 = A.last ∧ ne1 = A.next ∧ fi1 = A.first ∧ gn1 = A.L.length)) (hB : (la2 = B.last ∧ ne2 = B.next ∧ fi2 = B.first ∧ gn2 = B.L.length)) (h1 : TrIn (fun _ => True) w (.slice ha1 hn1 hc1) (.slice oa1 on1 oc1) (.slice ga1 gn1 gc1) (.slice pa1 pn1 pc1) A) (h2 : TrIn (fun _ => True) w (.slice ha2 hn2 hc2) (.slice oa2 on2 oc2) (.slice ga2 gn2 gc2) (.slice pa2 pn2 pc2) B) (hgood : E = 0 → B = A ∧ k = cl) (hbad : ¬ E = 0 → A = Tr.zero ∧ cl = 0) :
    Calls Tryz.prog 30 #[.agg #[.int .i64 la1, .int .i64 ne1, .slice ha1 hn1 hc1, .slice oa1 on1 oc1, .int .i64 fi1, .slice ga1 gn1 gc1, .slice pa1 pn1 pc1], .int .i64 cl, .int .i64 E, .int .i64 E, .agg #[.int .i64 la2, .int .i64 ne2, .slice ha2 hn2 hc2, .slice oa2 on2 oc2, .int .i64 fi2, .slice ga2 gn2 gc2, .slice pa2 pn2 pc2], .int .i64 k] w fun e w' => e = .returned (.bool true) ∧ Below w.heap.size w w' := by
  obtain ⟨M, hM⟩ : ∃ x, x = w.heap.size := ⟨_, rfl⟩
  obtain ⟨V, hV⟩ : ∃ V, V = (w.alloc (.cells #[.int .i64 la1, .int .i64 ne1, .slice ha1 hn1 hc1, .slice oa1 on1 oc1, .int .i64 fi1, .slice ga1 gn1 gc1, .slice pa1 pn1 pc1] 61)).alloc (.cells #[.int .i64 la2, .int .i64 ne2, .slice ha2 hn2 hc2, .slice oa2 on2 oc2, .int .i64 fi2, .slice ga2 gn2 gc2, .slice pa2 pn2 pc2] 61) := ⟨_, rfl⟩
  have HB : Hid (Below M w V) := by show Below M w V; rw [hV, hM]; exact ((Below.refl _ w).alloc (Nat.le_refl _) _).alloc (by simp) _
  have HM1 : Hid (Blk V M #[.int .i64 la1, .int .i64 ne1, .slice ha1 hn1 hc1, .slice oa1 on1 oc1, .int .i64 fi1, .slice ga1 gn1 gc1, .slice pa1 pn1 pc1] 61) := by
    have := (Blk.new w #[.int .i64 la1, .int .i64 ne1, .slice ha1 hn1 hc1, .slice oa1 on1 oc1, .int .i64 fi1, .slice ga1 gn1 gc1, .slice pa1 pn1 pc1] 61).alloc (.cells #[.int .i64 la2, .int .i64 ne2, .slice ha2 hn2 hc2, .slice oa2 on2 oc2, .int .i64 fi2, .slice ga2 gn2 gc2, .slice pa2 pn2 pc2] 61)
    rw [← hV, ← hM] at this
    exact this
  have HM2 : Hid (Blk V (M + 1) #[.int .i64 la2, .int .i64 ne2, .slice ha2 hn2 hc2, .slice oa2 on2 oc2, .int .i64 fi2, .slice ga2 gn2 gc2, .slice pa2 pn2 pc2] 61) := by
    have := Blk.new (w.alloc (.cells #[.int .i64 la1, .int .i64 ne1, .slice ha1 hn1 hc1, .slice oa1 on1 oc1, .int .i64 fi1, .slice ga1 gn1 gc1, .slice pa1 pn1 pc1] 61)) #[.int .i64 la2, .int .i64 ne2, .slice ha2 hn2 hc2, .slice oa2 on2 oc2, .int .i64 fi2, .slice ga2 gn2 gc2, .slice pa2 pn2 pc2] 61
    rw [World.size_alloc, ← hV, ← hM] at this
    exact this
  have h1' : TrIn (fun g => g < M) w (.slice ha1 hn1 hc1) (.slice oa1 on1 oc1) (.slice ga1 gn1 gc1) (.slice pa1 pn1 pc1) A := h1.mono fun g h _ => by rw [hM]; exact h
  have h2' : TrIn (fun g => g < M) w (.slice ha2 hn2 hc2) (.slice oa2 on2 oc2) (.slice ga2 gn2 gc2) (.slice pa2 pn2 pc2) B := h2.mono fun g h _ => by rw [hM]; exact h
  have hBB : Below w.heap.size w V := by rw [← hM]; exact HB.out
  have H1 : Hid (TrIn (fun g => g < M) V (.slice ha1 hn1 hc1) (.slice oa1 on1 oc1) (.slice ga1 gn1 gc1) (.slice pa1 pn1 pc1) A) := h1'.below hBB
  have H2 : Hid (TrIn (fun g => g < M) V (.slice ha2 hn2 hc2) (.slice oa2 on2 oc2) (.slice ga2 gn2 gc2) (.slice pa2 pn2 pc2) B) := h2'.below hBB
  rw [← hM]
  have HA : Hid (la1 = A.last ∧ ne1 = A.next ∧ fi1 = A.first ∧ gn1 = A.L.length) := hA
  have HB2 : Hid (la2 = B.last ∧ ne2 = B.next ∧ fi2 = B.first ∧ gn2 = B.L.length) := hB
  have HGD : Hid (E = 0 → B = A ∧ k = cl) := hgood
  have HBD : Hid (¬ E = 0 → A = Tr.zero ∧ cl = 0) := hbad
  clear h1 h2 h1' h2' hBB hA hB hgood hbad
  obtain ⟨y0, y1, y2, y3, y4, y5, y6⟩ := HM1.out.sevenc
  obtain ⟨z0, z1, z2, z3, z4, z5, z6⟩ := HM2.out.sevenc
  have fM := HM2.out.free
  have lM := HM2.out.lt
  go_enter Tryz.func30, Tryz.ntmps30
  go_upto_region 1 with fail
  rw [← hV]
  try rw [← hM]
  clear hV hM
  by_cases hE : E = 0
  · obtain ⟨e1, e2⟩ := HGD.out hE
    have HSAME : Hid (Calls Tryz.prog 83 #[.agg #[.int .i64 la1, .int .i64 ne1, .slice ha1 hn1 hc1, .slice oa1 on1 oc1, .int .i64 fi1, .slice ga1 gn1 gc1, .slice pa1 pn1 pc1], .agg #[.int .i64 la2, .int .i64 ne2, .slice ha2 hn2 hc2, .slice oa2 on2 oc2, .int .i64 fi2, .slice ga2 gn2 gc2, .slice pa2 pn2 pc2]] V fun e w' => e = .returned (.bool true) ∧ Below V.heap.size V w') := by
      have q := sameTrack_any A B _ _ _ _ _ _ _ _ V (H1.out.mono fun _ _ _ => trivial) (H2.out.mono fun _ _ _ => trivial)
      have es : sameTr A B = true := by rw [e1]; exact sameTr_same A
      rw [es, ← HA.out.1, ← HA.out.2.1, ← HA.out.2.2.1, ← HB2.out.1, ← HB2.out.2.1, ← HB2.out.2.2.1] at q
      exact q
    subst hE e2
    clear HGD HBD H1 H2 HA HB2 e1 HM1 HM2
    go_wp2_with fail
    refine HSAME.out.mono ?_
    rintro e w9 ⟨rfl, c9⟩
    have BW9 : Hid (Below M w w9) := HB.out.trans (c9.mono (by omega))
    clear c9
    go_wp2
    go_ret
    exact ⟨rfl, BW9.out⟩
  · obtain ⟨e1, e2⟩ := HBD.out hE
    obtain ⟨W7, hW7⟩ : ∃ W, W = ((((((V.setCell ⟨M + 1, 0, none⟩ (.int .i64 0)).setCell ⟨M + 1, 1, none⟩ (.int .i64 0)).setCell ⟨M + 1, 2, none⟩ (.slice none 0 0)).setCell ⟨M + 1, 3, none⟩ (.slice none 0 0)).setCell ⟨M + 1, 4, none⟩ (.int .i64 0)).setCell ⟨M + 1, 5, none⟩ (.slice none 0 0)).setCell ⟨M + 1, 6, none⟩ (.slice none 0 0) := ⟨_, rfl⟩
    have hk7 : Kept [M + 1] V W7 := by
      rw [hW7]
      exact (((((((Kept.refl [M + 1] V).setCell (p := ⟨M + 1, 0, none⟩) (by simp) _).setCell (p := ⟨M + 1, 1, none⟩) (by simp) _).setCell (p := ⟨M + 1, 2, none⟩) (by simp) _).setCell (p := ⟨M + 1, 3, none⟩) (by simp) _).setCell (p := ⟨M + 1, 4, none⟩) (by simp) _).setCell (p := ⟨M + 1, 5, none⟩) (by simp) _).setCell (p := ⟨M + 1, 6, none⟩) (by simp) _
    have HZ7 : Hid (Blk W7 (M + 1) #[.int .i64 0, .int .i64 0, .slice none 0 0, .slice none 0 0, .int .i64 0, .slice none 0 0, .slice none 0 0] 61) := by
      have := ((((((HM2.out.set 0 (.int .i64 0)).set 1 (.int .i64 0)).set 2 (.slice none 0 0)).set 3 (.slice none 0 0)).set 4 (.int .i64 0)).set 5 (.slice none 0 0)).set 6 (.slice none 0 0)
      rw [hW7]; simpa [Hid] using this
    have HM7 : Hid (Blk W7 M #[.int .i64 la1, .int .i64 ne1, .slice ha1 hn1 hc1, .slice oa1 on1 oc1, .int .i64 fi1, .slice ga1 gn1 gc1, .slice pa1 pn1 pc1] 61) := HM1.out.kept hk7 (by simp)
    have HB7 : Hid (Below M w W7) := HB.out.trans (hk7.toBelow (by omega) (by simp))
    have H17 : Hid (TrIn (fun g => g < M) W7 (.slice ha1 hn1 hc1) (.slice oa1 on1 oc1) (.slice ga1 gn1 gc1) (.slice pa1 pn1 pc1) A) := H1.out.to ⟨hk7.size, fun g hg hs => hk7.block g hg (by simp; omega)⟩ (fun _ _ h => h)
    have HSAME : Hid (Calls Tryz.prog 83 #[.agg #[.int .i64 la1, .int .i64 ne1, .slice ha1 hn1 hc1, .slice oa1 on1 oc1, .int .i64 fi1, .slice ga1 gn1 gc1, .slice pa1 pn1 pc1], .agg #[.int .i64 0, .int .i64 0, .slice none 0 0, .slice none 0 0, .int .i64 0, .slice none 0 0, .slice none 0 0]] W7 fun e w' => e = .returned (.bool true) ∧ Below W7.heap.size W7 w') := by
      have q := sameTrack_any A Tr.zero _ _ _ _ _ _ _ _ W7 (H17.out.mono fun _ _ _ => trivial) (TrIn.zero _ W7)
      have es : sameTr A Tr.zero = true := by rw [e1]; exact sameTr_same _
      rw [es, ← HA.out.1, ← HA.out.2.1, ← HA.out.2.2.1] at q
      exact q
    subst e2
    clear HGD HBD H1 H2 HA HB2 e1 HM1 HM2 H17 HB
    go_upto_region 3 with fail
    rw [← hW7]
    clear hW7 y0 y1 y2 y3 y4 y5 y6 z0 z1 z2 z3 z4 z5 z6 fM lM
    obtain ⟨y0, y1, y2, y3, y4, y5, y6⟩ := HM7.out.sevenc
    obtain ⟨z0, z1, z2, z3, z4, z5, z6⟩ := HZ7.out.sevenc
    have hs7 := HZ7.out.lt
    clear hk7
    go_wp2_with fail
    refine HSAME.out.mono ?_
    rintro e w9 ⟨rfl, c9⟩
    have BW9 : Hid (Below M w w9) := HB7.out.trans (c9.mono (by omega))
    clear c9
    go_wp2
    go_ret
    exact ⟨rfl, BW9.out⟩

end Go.Proofs.YtnpaejknoipicafGreat

namespace Go.Proofs.YtnpaejknoipicafGreat
open Go.RowKit Go.Sort

set_option maxHeartbeats 16000000 in
set_option maxRecDepth 100000 in
theorem trackTells_law (t : Tr) (hv bv gv ov : Value) (l : List UInt8) (w : World) (hr0 : TrIn (fun _ => True) w hv bv gv ov t) (hcap : ∀ a n c, hv = .slice a n c → n ≤ c) :
    Calls Tryz.prog 4 #[.agg #[.int .i64 t.last, .int .i64 t.next, hv, bv, .int .i64 t.first, gv, ov], .string (ba l)] w fun e w' => e = .returned (.bool true) ∧ Below w.heap.size w w' := by
  obtain ⟨A, ca, ea, hA⟩ : ∃ A cl er, feedA t l = (A, cl, er) := ⟨_, _, _, rfl⟩
  obtain ⟨B, cb, eb, hB⟩ : ∃ A cl er, drainA t = (A, cl, er) := ⟨_, _, _, rfl⟩
  obtain ⟨C, cc, ec, hC⟩ : ∃ A cl er, feedR t l = (A, cl, er) := ⟨_, _, _, rfl⟩
  obtain ⟨D, cd, ed, hD⟩ : ∃ A cl er, drainR t = (A, cl, er) := ⟨_, _, _, rfl⟩
  obtain ⟨E, hE⟩ : ∃ E, E = t.chk := ⟨_, rfl⟩
  have HABad : Hid (¬ ea = 0 → A = Tr.zero ∧ ca = 0) := fun h => by
    have q := feedA_bad (t := t) (s := l)
    rw [hA] at q; exact q h
  have HBBad : Hid (¬ eb = 0 → B = Tr.zero ∧ cb = 0) := fun h => by
    have q := drainA_bad (t := t)
    rw [hB] at q; exact q h
  have HE0 : Hid (E = 0 → C = A ∧ cc = ca ∧ ec = ea ∧ D = B ∧ cd = cb ∧ ed = eb) := fun h => by
    have h1 : feedA t l = feedR t l := by unfold feedA; rw [if_pos (hE.symm.trans h)]
    have h2 : drainA t = drainR t := by unfold drainA; rw [if_pos (hE.symm.trans h)]
    rw [hA, hC] at h1
    rw [hB, hD] at h2
    injection h1 with a1 a2
    injection a2 with a2 a3
    injection h2 with b1 b2
    injection b2 with b2 b3
    exact ⟨a1.symm, a2.symm, a3.symm, b1.symm, b2.symm, b3.symm⟩
  have HE1 : Hid (¬ E = 0 → ea = E ∧ eb = E) := fun h => by
    have h1 : feedA t l = (Tr.zero, 0, t.chk) := by unfold feedA; rw [if_neg (by rw [← hE]; exact h)]
    have h2 : drainA t = (Tr.zero, 0, t.chk) := by unfold drainA; rw [if_neg (by rw [← hE]; exact h)]
    rw [hA] at h1
    rw [hB] at h2
    injection h1 with a1 a2
    injection a2 with a2 a3
    injection h2 with b1 b2
    injection b2 with b2 b3
    rw [hE]; exact ⟨a3, b3⟩
  obtain ⟨X, hX⟩ : ∃ X, X = w.heap.size := ⟨_, rfl⟩
  have hr : TrIn (fun g => g < X) w hv bv gv ov t := hr0.mono fun g h _ => by rw [hX]; exact h
  have HF1 : Hid (∀ U, Below X w U → Calls Tryz.prog 23 #[.agg #[.int .i64 t.last, .int .i64 t.next, hv, bv, .int .i64 t.first, gv, ov], .string (ba l)] U fun e w' => ∃ la1 ne1 ha1 hn1 hc1 oa1 on1 oc1 fi1 ga1 gn1 gc1 pa1 pn1 pc1, e = .returned (.tuple #[.agg #[.int .i64 la1, .int .i64 ne1, .slice ha1 hn1 hc1, .slice oa1 on1 oc1, .int .i64 fi1, .slice ga1 gn1 gc1, .slice pa1 pn1 pc1], .int .i64 ca, .int .i64 ea]) ∧ Hid (la1 = A.last ∧ ne1 = A.next ∧ fi1 = A.first ∧ gn1 = A.L.length) ∧ Hid (TrIn (fun g => U.heap.size ≤ g) w' (.slice ha1 hn1 hc1) (.slice oa1 on1 oc1) (.slice ga1 gn1 gc1) (.slice pa1 pn1 pc1) A) ∧ Below U.heap.size U w') := fun U hU => begFeed t A l ca ea _ _ _ _ _ _ _ _ U hA rfl rfl rfl (hr.below (by rw [← hX]; exact hU))
  have HF2 : Hid (∀ U, Below X w U → Calls Tryz.prog 24 #[.agg #[.int .i64 t.last, .int .i64 t.next, hv, bv, .int .i64 t.first, gv, ov]] U fun e w' => ∃ la2 ne2 ha2 hn2 hc2 oa2 on2 oc2 fi2 ga2 gn2 gc2 pa2 pn2 pc2, e = .returned (.tuple #[.agg #[.int .i64 la2, .int .i64 ne2, .slice ha2 hn2 hc2, .slice oa2 on2 oc2, .int .i64 fi2, .slice ga2 gn2 gc2, .slice pa2 pn2 pc2], .int .i64 cb, .int .i64 eb]) ∧ Hid (la2 = B.last ∧ ne2 = B.next ∧ fi2 = B.first ∧ gn2 = B.L.length) ∧ Hid (TrIn (fun g => U.heap.size ≤ g) w' (.slice ha2 hn2 hc2) (.slice oa2 on2 oc2) (.slice ga2 gn2 gc2) (.slice pa2 pn2 pc2) B) ∧ Below U.heap.size U w') := fun U hU => begDrain t B cb eb _ _ _ _ _ _ _ _ U hB rfl rfl rfl (hr.below (by rw [← hX]; exact hU))
  have HCR : Hid (∀ U, Below X w U → Calls Tryz.prog 25 #[.agg #[.int .i64 t.last, .int .i64 t.next, hv, bv, .int .i64 t.first, gv, ov]] U fun e w' => e = .returned (.int .i64 E) ∧ Below U.heap.size U w') := fun U hU => by
    rw [hE]; exact refCheckTrack_any t _ _ _ _ U ((hr.below (by rw [← hX]; exact hU)).mono fun _ _ _ => trivial)
  have HCP : Hid (∀ U, Below X w U → Calls Tryz.prog 29 #[.agg #[.int .i64 t.last, .int .i64 t.next, hv, bv, .int .i64 t.first, gv, ov]] U fun e w' => e = .returned (.int .i64 E) ∧ Below U.heap.size U w') := fun U hU => by
    rw [hE]; exact trkCheck_any (fun _ => True) t _ _ _ _ U ((hr.below (by rw [← hX]; exact hU)).mono fun _ _ _ => trivial)
  have HF3 : Hid (E = 0 → ∀ (Z : Nat) U, Below X w U → X ≤ Z → Z + 2 ≤ U.heap.size → Calls Tryz.prog 26 #[.agg #[.int .i64 t.last, .int .i64 t.next, hv, bv, .int .i64 t.first, gv, ov], .string (ba l)] U fun e w' => ∃ la3 ne3 ha3 hn3 hc3 oa3 on3 oc3 fi3 ga3 gn3 gc3 pa3 pn3 pc3, e = .returned (.tuple #[.agg #[.int .i64 la3, .int .i64 ne3, .slice ha3 hn3 hc3, .slice oa3 on3 oc3, .int .i64 fi3, .slice ga3 gn3 gc3, .slice pa3 pn3 pc3], .int .i64 cc, .int .i64 ec]) ∧ Hid (la3 = C.last ∧ ne3 = C.next ∧ fi3 = C.first ∧ gn3 = C.L.length) ∧ Hid (TrIn (fun g => g ≠ Z ∧ g ≠ Z + 1) w' (.slice ha3 hn3 hc3) (.slice oa3 on3 oc3) (.slice ga3 gn3 gc3) (.slice pa3 pn3 pc3) C) ∧ Below U.heap.size U w') := fun h Z U hU hZ hZ2 => by
    refine (refFeedOf_in (fun g => g ≠ Z ∧ g ≠ Z + 1) t l _ _ _ _ U ((hr.below (by rw [← hX]; exact hU)).mono fun g _ h => ⟨by omega, by omega⟩) (fun g hg => ⟨by omega, by omega⟩) (hE.symm.trans h)).mono ?_
    rw [hC]
    rintro e w' ⟨x1, x2, x3, x4, rfl, q, b⟩
    obtain ⟨a1, c1, a2, c2, a3, c3, a4, c4, e1, e2, e3, e4⟩ := q.slices
    subst e1 e2 e3 e4
    exact ⟨_, _, _, _, _, _, _, _, _, _, _, _, _, _, _, rfl, ⟨rfl, rfl, rfl, rfl⟩, q, b⟩
  have HF4 : Hid (E = 0 → ∀ (Z : Nat) U, Below X w U → X ≤ Z → Z + 2 ≤ U.heap.size → Calls Tryz.prog 27 #[.agg #[.int .i64 t.last, .int .i64 t.next, hv, bv, .int .i64 t.first, gv, ov]] U fun e w' => ∃ la4 ne4 ha4 hn4 hc4 oa4 on4 oc4 fi4 ga4 gn4 gc4 pa4 pn4 pc4, e = .returned (.tuple #[.agg #[.int .i64 la4, .int .i64 ne4, .slice ha4 hn4 hc4, .slice oa4 on4 oc4, .int .i64 fi4, .slice ga4 gn4 gc4, .slice pa4 pn4 pc4], .int .i64 cd, .int .i64 ed]) ∧ Hid (la4 = D.last ∧ ne4 = D.next ∧ fi4 = D.first ∧ gn4 = D.L.length) ∧ Hid (TrIn (fun g => g ≠ Z ∧ g ≠ Z + 1) w' (.slice ha4 hn4 hc4) (.slice oa4 on4 oc4) (.slice ga4 gn4 gc4) (.slice pa4 pn4 pc4) D) ∧ Below U.heap.size U w') := fun h Z U hU hZ hZ2 => by
    refine (refDrainOf_in (fun g => g ≠ Z ∧ g ≠ Z + 1) t _ _ _ _ U ((hr.below (by rw [← hX]; exact hU)).mono fun g _ h => ⟨by omega, by omega⟩) (fun g hg => ⟨by omega, by omega⟩) (hE.symm.trans h) hcap).mono ?_
    rw [hD]
    rintro e w' ⟨x1, x2, x3, x4, rfl, q, b⟩
    obtain ⟨a1, c1, a2, c2, a3, c3, a4, c4, e1, e2, e3, e4⟩ := q.slices
    subst e1 e2 e3 e4
    exact ⟨_, _, _, _, _, _, _, _, _, _, _, _, _, _, _, rfl, ⟨rfl, rfl, rfl, rfl⟩, q, b⟩
  obtain ⟨ha, hc, ba0, bc, ga, gc, oa, oc, eh, eb0, eg, eo⟩ := hr.slices
  obtain ⟨nh, hnh⟩ : ∃ n, n = t.h.length := ⟨_, rfl⟩
  obtain ⟨no, hno⟩ : ∃ n, n = t.o.length := ⟨_, rfl⟩
  obtain ⟨ng, hng⟩ : ∃ n, n = t.L.length := ⟨_, rfl⟩
  obtain ⟨nO, hnO⟩ : ∃ n, n = t.O.length := ⟨_, rfl⟩
  rw [← hnh] at eh
  rw [← hno] at eb0
  rw [← hng] at eg
  rw [← hnO] at eo
  obtain ⟨last, hla⟩ : ∃ x, x = t.last := ⟨_, rfl⟩
  obtain ⟨next, hne⟩ : ∃ x, x = t.next := ⟨_, rfl⟩
  obtain ⟨first, hfi⟩ : ∃ x, x = t.first := ⟨_, rfl⟩
  rw [← hla, ← hne, ← hfi] at HF1 HF2 HF3 HF4 HCR HCP ⊢
  obtain ⟨W0, hW0⟩ : ∃ V, V = w.alloc (.cells #[.int .i64 last, .int .i64 next, hv, bv, .int .i64 first, gv, ov] 61) := ⟨_, rfl⟩
  have HS0 : Hid (Stay W0 (fun U => (Blk U X #[.int .i64 last, .int .i64 next, hv, bv, .int .i64 first, gv, ov] 61 ∧ TrIn (fun g => g < X) U hv bv gv ov t) ∧ Below X w U)) := by
    have k0 := Blk.newE hW0
    have b : Below w.heap.size w W0 := by rw [hW0]; exact (Below.refl _ w).alloc (Nat.le_refl _) _
    have ht := hr.below b
    rw [← hX] at k0 b
    exact (k0.stay.and ht.stay).and (below_stay b (by rw [hX] at b ⊢; exact b.size))
  have HXe : Hid (X = w.heap.size) := hX
  rw [← hX]
  clear hr hr0 hA hB hC hD hE hla hne hfi hnh hno hng hnO hcap
  subst eh eb0 eg eo
  go_enter Tryz.func4, Tryz.ntmps4
  obtain ⟨y0, y1, y2, y3, y4, y5, y6⟩ := HS0.out.now.1.1.sevenc
  go_upto_region 1 with fail
  rw [← hW0]
  rw [← hX]
  clear hW0 hX
  go_wp2_with fail
  refine (HF1.out W0 HS0.out.now.2).mono ?_
  rintro e w1 ⟨la1, ne1, ha1, hn1, hc1, oa1, on1, oc1, fi1, ga1, gn1, gc1, pa1, pn1, pc1, rfl, G1, T1, c1⟩
  have HS1 := Stay.go HS0 c1
  clear c1 HS0 HF1 y0 y1 y2 y3 y4 y5 y6
  obtain ⟨bA, hbA⟩ : ∃ x, x = w1.heap.size := ⟨_, rfl⟩
  obtain ⟨V1, hV1⟩ : ∃ V, V = w1.alloc (.cells #[.int .i64 la1, .int .i64 ne1, .slice ha1 hn1 hc1, .slice oa1 on1 oc1, .int .i64 fi1, .slice ga1 gn1 gc1, .slice pa1 pn1 pc1] 61) := ⟨_, rfl⟩
  have HS2 : Hid (Stay V1 (fun U => ((Blk U X #[.int .i64 last, .int .i64 next, .slice ha nh hc, .slice ba0 no bc, .int .i64 first, .slice ga ng gc, .slice oa nO oc] 61 ∧ TrIn (fun g => g < X) U (.slice ha nh hc) (.slice ba0 no bc) (.slice ga ng gc) (.slice oa nO oc) t) ∧ Below X w U) ∧ (Blk U bA #[.int .i64 la1, .int .i64 ne1, .slice ha1 hn1 hc1, .slice oa1 on1 oc1, .int .i64 fi1, .slice ga1 gn1 gc1, .slice pa1 pn1 pc1] 61 ∧ TrIn (fun g => g < bA) U (.slice ha1 hn1 hc1) (.slice oa1 on1 oc1) (.slice ga1 gn1 gc1) (.slice pa1 pn1 pc1) A))) := by
    have q : TrIn (fun g => g < bA) V1 (.slice ha1 hn1 hc1) (.slice oa1 on1 oc1) (.slice ga1 gn1 gc1) (.slice pa1 pn1 pc1) A := by rw [hV1]; exact (T1.out.mono (S' := fun g => g < bA) fun g h _ => by rw [hbA]; exact h).to (SameOn.alloc _) fun _ _ h => h
    have k := Blk.newE hV1
    rw [← hbA] at k
    exact (Stay.allocE HS1.out hV1).out.and (k.stay.and q.stay)
  clear T1 HS1
  obtain ⟨y0, y1, y2, y3, y4, y5, y6⟩ := HS2.out.now.1.1.1.sevenc
  go_upto_region 2 with fail
  rw [← hV1]
  try rw [← hbA]
  clear hV1 hbA
  go_wp2_with fail
  refine (HF2.out V1 HS2.out.now.1.2).mono ?_
  rintro e w2 ⟨la2, ne2, ha2, hn2, hc2, oa2, on2, oc2, fi2, ga2, gn2, gc2, pa2, pn2, pc2, rfl, G2, T2, c2⟩
  have HS3 := Stay.go HS2 c2
  clear c2 HS2 HF2 y0 y1 y2 y3 y4 y5 y6
  obtain ⟨bB, hbB⟩ : ∃ x, x = w2.heap.size := ⟨_, rfl⟩
  obtain ⟨V2, hV2⟩ : ∃ V, V = w2.alloc (.cells #[.int .i64 la2, .int .i64 ne2, .slice ha2 hn2 hc2, .slice oa2 on2 oc2, .int .i64 fi2, .slice ga2 gn2 gc2, .slice pa2 pn2 pc2] 61) := ⟨_, rfl⟩
  have HS4 : Hid (Stay V2 (fun U => (((Blk U X #[.int .i64 last, .int .i64 next, .slice ha nh hc, .slice ba0 no bc, .int .i64 first, .slice ga ng gc, .slice oa nO oc] 61 ∧ TrIn (fun g => g < X) U (.slice ha nh hc) (.slice ba0 no bc) (.slice ga ng gc) (.slice oa nO oc) t) ∧ Below X w U) ∧ (Blk U bA #[.int .i64 la1, .int .i64 ne1, .slice ha1 hn1 hc1, .slice oa1 on1 oc1, .int .i64 fi1, .slice ga1 gn1 gc1, .slice pa1 pn1 pc1] 61 ∧ TrIn (fun g => g < bA) U (.slice ha1 hn1 hc1) (.slice oa1 on1 oc1) (.slice ga1 gn1 gc1) (.slice pa1 pn1 pc1) A)) ∧ (Blk U bB #[.int .i64 la2, .int .i64 ne2, .slice ha2 hn2 hc2, .slice oa2 on2 oc2, .int .i64 fi2, .slice ga2 gn2 gc2, .slice pa2 pn2 pc2] 61 ∧ TrIn (fun g => g < bB) U (.slice ha2 hn2 hc2) (.slice oa2 on2 oc2) (.slice ga2 gn2 gc2) (.slice pa2 pn2 pc2) B))) := by
    have q : TrIn (fun g => g < bB) V2 (.slice ha2 hn2 hc2) (.slice oa2 on2 oc2) (.slice ga2 gn2 gc2) (.slice pa2 pn2 pc2) B := by rw [hV2]; exact (T2.out.mono (S' := fun g => g < bB) fun g h _ => by rw [hbB]; exact h).to (SameOn.alloc _) fun _ _ h => h
    have k := Blk.newE hV2
    rw [← hbB] at k
    exact (Stay.allocE HS3.out hV2).out.and (k.stay.and q.stay)
  clear T2 HS3
  obtain ⟨y0, y1, y2, y3, y4, y5, y6⟩ := HS4.out.now.1.1.1.1.sevenc
  go_upto_region 3 with fail
  rw [← hV2]
  try rw [← hbB]
  clear hV2 hbB
  go_wp2_with fail
  refine (HCR.out V2 HS4.out.now.1.1.2).mono ?_
  rintro e w3 ⟨rfl, c3⟩
  have HS5 := Stay.go HS4 c3
  clear c3 HS4 y0 y1 y2 y3 y4 y5 y6
  obtain ⟨Z, hZ⟩ : ∃ x, x = w3.heap.size := ⟨_, rfl⟩
  obtain ⟨V3, hV3⟩ : ∃ V, V = (w3.alloc (.cells #[.int .i64 0, .int .i64 0, .slice none 0 0, .slice none 0 0, .int .i64 0, .slice none 0 0, .slice none 0 0] 61)).alloc (.cells #[.int .i64 0, .int .i64 0, .slice none 0 0, .slice none 0 0, .int .i64 0, .slice none 0 0, .slice none 0 0] 61) := ⟨_, rfl⟩
  have hbV3 : Below w3.heap.size w3 V3 := by rw [hV3]; exact ((Below.refl _ w3).alloc (Nat.le_refl _) _).alloc (by simp) _
  have HZ1 : Hid (Blk V3 Z #[.int .i64 0, .int .i64 0, .slice none 0 0, .slice none 0 0, .int .i64 0, .slice none 0 0, .slice none 0 0] 61) := by
    have := (Blk.new w3 #[.int .i64 0, .int .i64 0, .slice none 0 0, .slice none 0 0, .int .i64 0, .slice none 0 0, .slice none 0 0] 61).alloc (.cells #[.int .i64 0, .int .i64 0, .slice none 0 0, .slice none 0 0, .int .i64 0, .slice none 0 0, .slice none 0 0] 61)
    rw [← hV3, ← hZ] at this
    exact this
  have HZ2 : Hid (Blk V3 (Z + 1) #[.int .i64 0, .int .i64 0, .slice none 0 0, .slice none 0 0, .int .i64 0, .slice none 0 0, .slice none 0 0] 61) := by
    have := Blk.new (w3.alloc (.cells #[.int .i64 0, .int .i64 0, .slice none 0 0, .slice none 0 0, .int .i64 0, .slice none 0 0, .slice none 0 0] 61)) #[.int .i64 0, .int .i64 0, .slice none 0 0, .slice none 0 0, .int .i64 0, .slice none 0 0, .slice none 0 0] 61
    rw [World.size_alloc, ← hV3, ← hZ] at this
    exact this
  have hXl := HS5.out.now.1.1.1.1.lt
  have hAl := HS5.out.now.1.2.1.lt
  have hBl := HS5.out.now.2.1.lt
  have HLT : Hid (X < Z ∧ bA < Z ∧ bB < Z) := by rw [hZ]; exact ⟨hXl, hAl, hBl⟩
  clear hXl hAl hBl
  have HS6 : Hid (StayK [Z, Z + 1] V3 (fun U => (((Blk U X #[.int .i64 last, .int .i64 next, .slice ha nh hc, .slice ba0 no bc, .int .i64 first, .slice ga ng gc, .slice oa nO oc] 61 ∧ TrIn (fun g => g < X) U (.slice ha nh hc) (.slice ba0 no bc) (.slice ga ng gc) (.slice oa nO oc) t) ∧ Below X w U) ∧ (Blk U bA #[.int .i64 la1, .int .i64 ne1, .slice ha1 hn1 hc1, .slice oa1 on1 oc1, .int .i64 fi1, .slice ga1 gn1 gc1, .slice pa1 pn1 pc1] 61 ∧ TrIn (fun g => g < bA) U (.slice ha1 hn1 hc1) (.slice oa1 on1 oc1) (.slice ga1 gn1 gc1) (.slice pa1 pn1 pc1) A)) ∧ (Blk U bB #[.int .i64 la2, .int .i64 ne2, .slice ha2 hn2 hc2, .slice oa2 on2 oc2, .int .i64 fi2, .slice ga2 gn2 gc2, .slice pa2 pn2 pc2] 61 ∧ TrIn (fun g => g < bB) U (.slice ha2 hn2 hc2) (.slice oa2 on2 oc2) (.slice ga2 gn2 gc2) (.slice pa2 pn2 pc2) B))) := fun Q hQ => HS5.out Q (hbV3.trans (hQ.toBelow hbV3.size (fun k hk => by simp at hk; omega)))
  clear HS5 hbV3
  go_upto_region 6 with fail
  rw [← hV3]
  try rw [← hZ]
  clear hV3 hZ
  by_cases h0 : E = 0
  case neg =>
    obtain ⟨e1, e2⟩ := HE1.out h0
    have KX : Hid (Blk V3 X #[.int .i64 last, .int .i64 next, .slice ha nh hc, .slice ba0 no bc, .int .i64 first, .slice ga ng gc, .slice oa nO oc] 61) := HS6.out.now.1.1.1.1
    have KA : Hid (Blk V3 bA #[.int .i64 la1, .int .i64 ne1, .slice ha1 hn1 hc1, .slice oa1 on1 oc1, .int .i64 fi1, .slice ga1 gn1 gc1, .slice pa1 pn1 pc1] 61) := HS6.out.now.1.2.1
    have KB : Hid (Blk V3 bB #[.int .i64 la2, .int .i64 ne2, .slice ha2 hn2 hc2, .slice oa2 on2 oc2, .int .i64 fi2, .slice ga2 gn2 gc2, .slice pa2 pn2 pc2] 61) := HS6.out.now.2.1
    have TA : Hid (TrIn (fun _ => True) V3 (.slice ha1 hn1 hc1) (.slice oa1 on1 oc1) (.slice ga1 gn1 gc1) (.slice pa1 pn1 pc1) A) := HS6.out.now.1.2.2.mono fun _ _ _ => trivial
    have TB : Hid (TrIn (fun _ => True) V3 (.slice ha2 hn2 hc2) (.slice oa2 on2 oc2) (.slice ga2 gn2 gc2) (.slice pa2 pn2 pc2) B) := HS6.out.now.2.2.mono fun _ _ _ => trivial
    have BT : Hid (Below X w V3) := HS6.out.now.1.1.2
    have HABad' := HABad.out (by rw [e1]; exact h0)
    have HBBad' := HBBad.out (by rw [e2]; exact h0)
    subst e1
    have e3 : Hid (ea = eb) := e2.symm
    have HI1 : Hid (∀ U, Below V3.heap.size V3 U → Calls Tryz.prog 30 #[.agg #[.int .i64 la1, .int .i64 ne1, .slice ha1 hn1 hc1, .slice oa1 on1 oc1, .int .i64 fi1, .slice ga1 gn1 gc1, .slice pa1 pn1 pc1], .int .i64 ca, .int .i64 ea, .int .i64 ea, .agg #[.int .i64 0, .int .i64 0, .slice none 0 0, .slice none 0 0, .int .i64 0, .slice none 0 0, .slice none 0 0], .int .i64 0] U fun e w' => e = .returned (.bool true) ∧ Below U.heap.size U w') := fun U hU => trackIs_true A Tr.zero ca 0 ea _ _ _ _ _ _ _ _ _ _ _ _ _ _ _ 0 0 none 0 0 none 0 0 0 none 0 0 none 0 0 U G1.out ⟨rfl, rfl, rfl, rfl⟩ (TA.out.below hU) (TrIn.zero _ U) (fun h => absurd h h0) (fun _ => HABad')
    have HI2 : Hid (∀ U, Below V3.heap.size V3 U → Calls Tryz.prog 30 #[.agg #[.int .i64 la2, .int .i64 ne2, .slice ha2 hn2 hc2, .slice oa2 on2 oc2, .int .i64 fi2, .slice ga2 gn2 gc2, .slice pa2 pn2 pc2], .int .i64 cb, .int .i64 eb, .int .i64 ea, .agg #[.int .i64 0, .int .i64 0, .slice none 0 0, .slice none 0 0, .int .i64 0, .slice none 0 0, .slice none 0 0], .int .i64 0] U fun e w' => e = .returned (.bool true) ∧ Below U.heap.size U w') := fun U hU => by
      rw [← e3.out]
      exact trackIs_true B Tr.zero cb 0 ea _ _ _ _ _ _ _ _ _ _ _ _ _ _ _ 0 0 none 0 0 none 0 0 0 none 0 0 none 0 0 U G2.out ⟨rfl, rfl, rfl, rfl⟩ (TB.out.below hU) (TrIn.zero _ U) (fun h => absurd h h0) (fun _ => HBBad')
    clear HS6 HABad HBBad HABad' HBBad' HE0 HE1 HF3 HF4 e2 e3
    go_upto_region 10 with fail
    have hWX := BT.out.size
    have hXW := KX.out.lt
    have cB : ∀ d os, Calls Tryz.prog 28 #[] (grow (redrawn V3 d) os) fun e w'' => e = .returned (.bool true) ∧ ∃ p : Regrown, w'' = grow (redrawn V3 p.d) p.os := fun d os => Calls.regrown_of (trackBegun_any _)
    have cC : ∀ d os, Calls Tryz.prog 29 #[.agg #[.int .i64 last, .int .i64 next, .slice ha nh hc, .slice ba0 no bc, .int .i64 first, .slice ga ng gc, .slice oa nO oc]] (grow (redrawn V3 d) os) fun e w'' => e = .returned (.int .i64 ea) ∧ ∃ p : Regrown, w'' = grow (redrawn V3 p.d) p.os := fun d os => Calls.regrown_of (HCP.out _ (BT.out.trans ((below_regrown V3 d os).mono (by omega))))
    have cR : ∀ d os, Calls Tryz.prog 25 #[.agg #[.int .i64 last, .int .i64 next, .slice ha nh hc, .slice ba0 no bc, .int .i64 first, .slice ga ng gc, .slice oa nO oc]] (grow (redrawn V3 d) os) fun e w'' => e = .returned (.int .i64 ea) ∧ ∃ p : Regrown, w'' = grow (redrawn V3 p.d) p.os := fun d os => Calls.regrown_of (HCR.out _ (BT.out.trans ((below_regrown V3 d os).mono (by omega))))
    have cS : ∀ d os, Calls Tryz.prog 30 #[.agg #[.int .i64 la1, .int .i64 ne1, .slice ha1 hn1 hc1, .slice oa1 on1 oc1, .int .i64 fi1, .slice ga1 gn1 gc1, .slice pa1 pn1 pc1], .int .i64 ca, .int .i64 ea, .int .i64 ea, .agg #[.int .i64 0, .int .i64 0, .slice none 0 0, .slice none 0 0, .int .i64 0, .slice none 0 0, .slice none 0 0], .int .i64 0] (grow (redrawn V3 d) os) fun e w'' => e = .returned (.bool true) ∧ ∃ p : Regrown, w'' = grow (redrawn V3 p.d) p.os := fun d os => Calls.regrown_of (HI1.out _ (below_regrown V3 d os))
    have cT : ∀ d os, Calls Tryz.prog 30 #[.agg #[.int .i64 la2, .int .i64 ne2, .slice ha2 hn2 hc2, .slice oa2 on2 oc2, .int .i64 fi2, .slice ga2 gn2 gc2, .slice pa2 pn2 pc2], .int .i64 cb, .int .i64 eb, .int .i64 ea, .agg #[.int .i64 0, .int .i64 0, .slice none 0 0, .slice none 0 0, .int .i64 0, .slice none 0 0, .slice none 0 0], .int .i64 0] (grow (redrawn V3 d) os) fun e w'' => e = .returned (.bool true) ∧ ∃ p : Regrown, w'' = grow (redrawn V3 p.d) p.os := fun d os => Calls.regrown_of (HI2.out _ (below_regrown V3 d os))
    obtain ⟨k0, k1, k2, k3, k4, k5, k6⟩ := KX.out.sevenc
    obtain ⟨a0, a1, a2, a3, a4, a5, a6⟩ := KA.out.sevenc
    obtain ⟨b0, b1, b2, b3, b4, b5, b6⟩ := KB.out.sevenc
    obtain ⟨f0, f1, f2, f3, f4, f5, f6⟩ := HZ1.out.sevenc
    obtain ⟨g0, g1, g2, g3, g4, g5, g6⟩ := HZ2.out.sevenc
    have k0' := cell_regrown k0
    have k1' := cell_regrown k1
    have k2' := cell_regrown k2
    have k3' := cell_regrown k3
    have k4' := cell_regrown k4
    have k5' := cell_regrown k5
    have k6' := cell_regrown k6
    have a0' := cell_regrown a0
    have a1' := cell_regrown a1
    have a2' := cell_regrown a2
    have a3' := cell_regrown a3
    have a4' := cell_regrown a4
    have a5' := cell_regrown a5
    have a6' := cell_regrown a6
    have b0' := cell_regrown b0
    have b1' := cell_regrown b1
    have b2' := cell_regrown b2
    have b3' := cell_regrown b3
    have b4' := cell_regrown b4
    have b5' := cell_regrown b5
    have b6' := cell_regrown b6
    have f0' := cell_regrown f0
    have f1' := cell_regrown f1
    have f2' := cell_regrown f2
    have f3' := cell_regrown f3
    have f4' := cell_regrown f4
    have f5' := cell_regrown f5
    have f6' := cell_regrown f6
    have g0' := cell_regrown g0
    have g1' := cell_regrown g1
    have g2' := cell_regrown g2
    have g3' := cell_regrown g3
    have g4' := cell_regrown g4
    have g5' := cell_regrown g5
    have g6' := cell_regrown g6
    clear k0 k1 k2 k3 k4 k5 k6 a0 a1 a2 a3 a4 a5 a6 b0 b1 b2 b3 b4 b5 b6 f0 f1 f2 f3 f4 f5 f6 g0 g1 g2 g3 g4 g5 g6 KX KA KB HZ1 HZ2 TA TB HI1 HI2 HCP HCR
    refine wp_region_quiet_below (by kernel_rfl) (by kernel_rfl) ?_
    iterate 2 (quiet_step (exact cB _ _))
    iterate 2 (quiet_step (exact cC _ _))
    iterate 2 (quiet_step (exact cR _ _))
    iterate 10 (quiet_step (exact cS _ _))
    iterate 11 (quiet_step (exact cT _ _))
    refine wpQuiet_nil ?_
    intro _ hw'
    obtain ⟨⟨dq, osq⟩, hw''⟩ := hw'
    subst hw''
    have bR := below_regrown V3 dq osq
    obtain ⟨V, hV⟩ : ∃ V, V = grow (redrawn V3 dq) osq := ⟨_, rfl⟩
    rw [← hV] at bR
    rw [← hV]
    have BV : Hid (Below X w V) := BT.out.trans (bR.mono (by omega))
    clear hV cB cC cR cS cT bR k0' k1' k2' k3' k4' k5' k6' a0' a1' a2' a3' a4' a5' a6' b0' b1' b2' b3' b4' b5' b6' f0' f1' f2' f3' f4' f5' f6' g0' g1' g2' g3' g4' g5' g6'
    go_wp2
    go_ret
    exact ⟨rfl, BV.out⟩
  have HEE : Hid (C = A ∧ cc = ca ∧ ec = ea ∧ D = B ∧ cd = cb ∧ ed = eb) := HE0.out h0
  have HC3 : Hid _ := HF3.out h0
  have HC4 : Hid _ := HF4.out h0
  clear HE0 HE1 HF3 HF4
  subst h0
  obtain ⟨y0, y1, y2, y3, y4, y5, y6⟩ := HS6.out.now.1.1.1.1.sevenc
  go_upto_region 8 with fail
  go_wp2_with fail
  refine (HC3.out Z V3 HS6.out.now.1.1.2 (Nat.le_of_lt HLT.out.1) (by have := HZ2.out.lt; omega)).mono ?_
  rintro e w4 ⟨la3, ne3, ha3, hn3, hc3, oa3, on3, oc3, fi3, ga3, gn3, gc3, pa3, pn3, pc3, rfl, G3, T3, c4⟩
  have HS7 := StayK.go HS6 c4
  have HZ14 : Hid (Blk w4 Z #[.int .i64 0, .int .i64 0, .slice none 0 0, .slice none 0 0, .int .i64 0, .slice none 0 0, .slice none 0 0] 61) := HZ1.out.below c4 HZ1.out.lt
  have HZ24 : Hid (Blk w4 (Z + 1) #[.int .i64 0, .int .i64 0, .slice none 0 0, .slice none 0 0, .int .i64 0, .slice none 0 0, .slice none 0 0] 61) := HZ2.out.below c4 HZ2.out.lt
  clear c4 HS6 HZ1 HZ2 HC3 y0 y1 y2 y3 y4 y5 y6
  obtain ⟨z0, z1, z2, z3, z4, z5, z6⟩ := HZ14.out.sevenc
  have fM := HZ14.out.free
  have lM := HZ14.out.lt
  obtain ⟨V5, hV5⟩ : ∃ V, V = ((((((w4.setCell ⟨Z, 0, none⟩ (.int .i64 la3)).setCell ⟨Z, 1, none⟩ (.int .i64 ne3)).setCell ⟨Z, 2, none⟩ (.slice ha3 hn3 hc3)).setCell ⟨Z, 3, none⟩ (.slice oa3 on3 oc3)).setCell ⟨Z, 4, none⟩ (.int .i64 fi3)).setCell ⟨Z, 5, none⟩ (.slice ga3 gn3 gc3)).setCell ⟨Z, 6, none⟩ (.slice pa3 pn3 pc3) := ⟨_, rfl⟩
  have hk5 : Kept [Z] w4 V5 := by rw [hV5]; exact ((((((((Kept.refl [Z] w4).setCell (p := ⟨Z, 0, none⟩) (by simp) _).setCell (p := ⟨Z, 1, none⟩) (by simp) _).setCell (p := ⟨Z, 2, none⟩) (by simp) _).setCell (p := ⟨Z, 3, none⟩) (by simp) _).setCell (p := ⟨Z, 4, none⟩) (by simp) _).setCell (p := ⟨Z, 5, none⟩) (by simp) _).setCell (p := ⟨Z, 6, none⟩) (by simp) _)
  have hk5' : Kept [Z, Z + 1] w4 V5 := ⟨hk5.os, hk5.tape, hk5.output, hk5.size, fun k hk hS => hk5.block k hk (by simp at hS ⊢; exact hS.1)⟩
  have HZ15 : Hid (Blk V5 Z #[.int .i64 la3, .int .i64 ne3, .slice ha3 hn3 hc3, .slice oa3 on3 oc3, .int .i64 fi3, .slice ga3 gn3 gc3, .slice pa3 pn3 pc3] 61) := by
    have := (((((((HZ14.out.set 0 (.int .i64 la3)).set 1 (.int .i64 ne3)).set 2 (.slice ha3 hn3 hc3)).set 3 (.slice oa3 on3 oc3)).set 4 (.int .i64 fi3)).set 5 (.slice ga3 gn3 gc3)).set 6 (.slice pa3 pn3 pc3))
    rw [hV5]; simpa [Hid] using this
  have HZ25 : Hid (Blk V5 (Z + 1) #[.int .i64 0, .int .i64 0, .slice none 0 0, .slice none 0 0, .int .i64 0, .slice none 0 0, .slice none 0 0] 61) := HZ24.out.kept hk5 (by simp)
  have T35 : Hid (TrIn (fun g => g ≠ Z ∧ g ≠ Z + 1) V5 (.slice ha3 hn3 hc3) (.slice oa3 on3 oc3) (.slice ga3 gn3 gc3) (.slice pa3 pn3 pc3) C) := T3.out.to ⟨hk5.size, fun g hg hs => hk5.block g hg (by simp; exact hs.1)⟩ (fun _ _ h => h)
  have HS8 := StayK.goK HS7 hk5'
  clear hk5 hk5' HS7 HZ14 HZ24 T3
  go_upto_region 9 with fail
  rw [← hV5]
  clear hV5 z0 z1 z2 z3 z4 z5 z6 fM lM
  obtain ⟨y0, y1, y2, y3, y4, y5, y6⟩ := HS8.out.now.1.1.1.1.sevenc
  go_wp2_with fail
  refine (HC4.out Z V5 HS8.out.now.1.1.2 (Nat.le_of_lt HLT.out.1) (by have := HZ25.out.lt; omega)).mono ?_
  rintro e w6 ⟨la4, ne4, ha4, hn4, hc4, oa4, on4, oc4, fi4, ga4, gn4, gc4, pa4, pn4, pc4, rfl, G4, T4, c6⟩
  have HS9 := StayK.go HS8 c6
  have HZ16 : Hid (Blk w6 Z #[.int .i64 la3, .int .i64 ne3, .slice ha3 hn3 hc3, .slice oa3 on3 oc3, .int .i64 fi3, .slice ga3 gn3 gc3, .slice pa3 pn3 pc3] 61) := HZ15.out.below c6 HZ15.out.lt
  have HZ26 : Hid (Blk w6 (Z + 1) #[.int .i64 0, .int .i64 0, .slice none 0 0, .slice none 0 0, .int .i64 0, .slice none 0 0, .slice none 0 0] 61) := HZ25.out.below c6 HZ25.out.lt
  have T36 := T35.out.below c6
  clear c6 HS8 HZ15 HZ25 HC4 y0 y1 y2 y3 y4 y5 y6 T35
  obtain ⟨z0, z1, z2, z3, z4, z5, z6⟩ := HZ26.out.sevenc
  have fM := HZ26.out.free
  have lM := HZ26.out.lt
  obtain ⟨V7, hV7⟩ : ∃ V, V = ((((((w6.setCell ⟨Z + 1, 0, none⟩ (.int .i64 la4)).setCell ⟨Z + 1, 1, none⟩ (.int .i64 ne4)).setCell ⟨Z + 1, 2, none⟩ (.slice ha4 hn4 hc4)).setCell ⟨Z + 1, 3, none⟩ (.slice oa4 on4 oc4)).setCell ⟨Z + 1, 4, none⟩ (.int .i64 fi4)).setCell ⟨Z + 1, 5, none⟩ (.slice ga4 gn4 gc4)).setCell ⟨Z + 1, 6, none⟩ (.slice pa4 pn4 pc4) := ⟨_, rfl⟩
  have hk7 : Kept [Z + 1] w6 V7 := by rw [hV7]; exact ((((((((Kept.refl [Z + 1] w6).setCell (p := ⟨Z + 1, 0, none⟩) (by simp) _).setCell (p := ⟨Z + 1, 1, none⟩) (by simp) _).setCell (p := ⟨Z + 1, 2, none⟩) (by simp) _).setCell (p := ⟨Z + 1, 3, none⟩) (by simp) _).setCell (p := ⟨Z + 1, 4, none⟩) (by simp) _).setCell (p := ⟨Z + 1, 5, none⟩) (by simp) _).setCell (p := ⟨Z + 1, 6, none⟩) (by simp) _)
  have hk7' : Kept [Z, Z + 1] w6 V7 := ⟨hk7.os, hk7.tape, hk7.output, hk7.size, fun k hk hS => hk7.block k hk (by simp at hS ⊢; exact hS.2)⟩
  have HZ27 : Hid (Blk V7 (Z + 1) #[.int .i64 la4, .int .i64 ne4, .slice ha4 hn4 hc4, .slice oa4 on4 oc4, .int .i64 fi4, .slice ga4 gn4 gc4, .slice pa4 pn4 pc4] 61) := by
    have := (((((((HZ26.out.set 0 (.int .i64 la4)).set 1 (.int .i64 ne4)).set 2 (.slice ha4 hn4 hc4)).set 3 (.slice oa4 on4 oc4)).set 4 (.int .i64 fi4)).set 5 (.slice ga4 gn4 gc4)).set 6 (.slice pa4 pn4 pc4))
    rw [hV7]; simpa [Hid] using this
  have HZ17 : Hid (Blk V7 Z #[.int .i64 la3, .int .i64 ne3, .slice ha3 hn3 hc3, .slice oa3 on3 oc3, .int .i64 fi3, .slice ga3 gn3 gc3, .slice pa3 pn3 pc3] 61) := HZ16.out.kept hk7 (by simp)
  have TC : Hid (TrIn (fun _ => True) V7 (.slice ha3 hn3 hc3) (.slice oa3 on3 oc3) (.slice ga3 gn3 gc3) (.slice pa3 pn3 pc3) C) := T36.to ⟨hk7.size, fun g hg hs => hk7.block g hg (by simp; exact hs.2)⟩ (fun _ _ _ => trivial)
  have TD : Hid (TrIn (fun _ => True) V7 (.slice ha4 hn4 hc4) (.slice oa4 on4 oc4) (.slice ga4 gn4 gc4) (.slice pa4 pn4 pc4) D) := T4.out.to ⟨hk7.size, fun g hg hs => hk7.block g hg (by simp; exact hs.2)⟩ (fun _ _ _ => trivial)
  have HS10 := StayK.goK HS9 hk7'
  clear hk7 hk7' HS9 HZ16 HZ26 T4 T36
  have KX : Hid (Blk V7 X #[.int .i64 last, .int .i64 next, .slice ha nh hc, .slice ba0 no bc, .int .i64 first, .slice ga ng gc, .slice oa nO oc] 61) := HS10.out.now.1.1.1.1
  have KA : Hid (Blk V7 bA #[.int .i64 la1, .int .i64 ne1, .slice ha1 hn1 hc1, .slice oa1 on1 oc1, .int .i64 fi1, .slice ga1 gn1 gc1, .slice pa1 pn1 pc1] 61) := HS10.out.now.1.2.1
  have KB : Hid (Blk V7 bB #[.int .i64 la2, .int .i64 ne2, .slice ha2 hn2 hc2, .slice oa2 on2 oc2, .int .i64 fi2, .slice ga2 gn2 gc2, .slice pa2 pn2 pc2] 61) := HS10.out.now.2.1
  have TA : Hid (TrIn (fun _ => True) V7 (.slice ha1 hn1 hc1) (.slice oa1 on1 oc1) (.slice ga1 gn1 gc1) (.slice pa1 pn1 pc1) A) := HS10.out.now.1.2.2.mono fun _ _ _ => trivial
  have TB : Hid (TrIn (fun _ => True) V7 (.slice ha2 hn2 hc2) (.slice oa2 on2 oc2) (.slice ga2 gn2 gc2) (.slice pa2 pn2 pc2) B) := HS10.out.now.2.2.mono fun _ _ _ => trivial
  have BT : Hid (Below X w V7) := HS10.out.now.1.1.2
  obtain ⟨e1, e2, e3, e4, e5, e6⟩ := HEE.out
  subst e3 e6
  have HI1 : Hid (∀ U, Below V7.heap.size V7 U → Calls Tryz.prog 30 #[.agg #[.int .i64 la1, .int .i64 ne1, .slice ha1 hn1 hc1, .slice oa1 on1 oc1, .int .i64 fi1, .slice ga1 gn1 gc1, .slice pa1 pn1 pc1], .int .i64 ca, .int .i64 ec, .int .i64 ec, .agg #[.int .i64 la3, .int .i64 ne3, .slice ha3 hn3 hc3, .slice oa3 on3 oc3, .int .i64 fi3, .slice ga3 gn3 gc3, .slice pa3 pn3 pc3], .int .i64 cc] U fun e w' => e = .returned (.bool true) ∧ Below U.heap.size U w') := fun U hU => trackIs_true A C ca cc ec _ _ _ _ _ _ _ _ _ _ _ _ _ _ _ _ _ _ _ _ _ _ _ _ _ _ _ _ _ _ U G1.out G3.out (TA.out.below hU) (TC.out.below hU) (fun _ => ⟨e1, e2⟩) HABad.out
  have HI2 : Hid (∀ U, Below V7.heap.size V7 U → Calls Tryz.prog 30 #[.agg #[.int .i64 la2, .int .i64 ne2, .slice ha2 hn2 hc2, .slice oa2 on2 oc2, .int .i64 fi2, .slice ga2 gn2 gc2, .slice pa2 pn2 pc2], .int .i64 cb, .int .i64 ed, .int .i64 ed, .agg #[.int .i64 la4, .int .i64 ne4, .slice ha4 hn4 hc4, .slice oa4 on4 oc4, .int .i64 fi4, .slice ga4 gn4 gc4, .slice pa4 pn4 pc4], .int .i64 cd] U fun e w' => e = .returned (.bool true) ∧ Below U.heap.size U w') := fun U hU => trackIs_true B D cb cd ed _ _ _ _ _ _ _ _ _ _ _ _ _ _ _ _ _ _ _ _ _ _ _ _ _ _ _ _ _ _ U G2.out G4.out (TB.out.below hU) (TD.out.below hU) (fun _ => ⟨e4, e5⟩) HBBad.out
  have HZ1 : Hid (Blk V7 Z #[.int .i64 la3, .int .i64 ne3, .slice ha3 hn3 hc3, .slice oa3 on3 oc3, .int .i64 fi3, .slice ga3 gn3 gc3, .slice pa3 pn3 pc3] 61) := HZ17
  have HZ2 : Hid (Blk V7 (Z + 1) #[.int .i64 la4, .int .i64 ne4, .slice ha4 hn4 hc4, .slice oa4 on4 oc4, .int .i64 fi4, .slice ga4 gn4 gc4, .slice pa4 pn4 pc4] 61) := HZ27
  clear HS10 HABad HBBad HZ17 HZ27 e1 e2 e4 e5 HEE
  go_upto_region 10 with fail
  rw [← hV7]
  clear hV7 z0 z1 z2 z3 z4 z5 z6 fM lM
  skip
  have hWX := BT.out.size
  have hXW := KX.out.lt
  have cB : ∀ d os, Calls Tryz.prog 28 #[] (grow (redrawn V7 d) os) fun e w'' => e = .returned (.bool true) ∧ ∃ p : Regrown, w'' = grow (redrawn V7 p.d) p.os := fun d os => Calls.regrown_of (trackBegun_any _)
  have cC : ∀ d os, Calls Tryz.prog 29 #[.agg #[.int .i64 last, .int .i64 next, .slice ha nh hc, .slice ba0 no bc, .int .i64 first, .slice ga ng gc, .slice oa nO oc]] (grow (redrawn V7 d) os) fun e w'' => e = .returned (.int .i64 0) ∧ ∃ p : Regrown, w'' = grow (redrawn V7 p.d) p.os := fun d os => Calls.regrown_of (HCP.out _ (BT.out.trans ((below_regrown V7 d os).mono (by omega))))
  have cR : ∀ d os, Calls Tryz.prog 25 #[.agg #[.int .i64 last, .int .i64 next, .slice ha nh hc, .slice ba0 no bc, .int .i64 first, .slice ga ng gc, .slice oa nO oc]] (grow (redrawn V7 d) os) fun e w'' => e = .returned (.int .i64 0) ∧ ∃ p : Regrown, w'' = grow (redrawn V7 p.d) p.os := fun d os => Calls.regrown_of (HCR.out _ (BT.out.trans ((below_regrown V7 d os).mono (by omega))))
  have cS : ∀ d os, Calls Tryz.prog 30 #[.agg #[.int .i64 la1, .int .i64 ne1, .slice ha1 hn1 hc1, .slice oa1 on1 oc1, .int .i64 fi1, .slice ga1 gn1 gc1, .slice pa1 pn1 pc1], .int .i64 ca, .int .i64 ec, .int .i64 ec, .agg #[.int .i64 la3, .int .i64 ne3, .slice ha3 hn3 hc3, .slice oa3 on3 oc3, .int .i64 fi3, .slice ga3 gn3 gc3, .slice pa3 pn3 pc3], .int .i64 cc] (grow (redrawn V7 d) os) fun e w'' => e = .returned (.bool true) ∧ ∃ p : Regrown, w'' = grow (redrawn V7 p.d) p.os := fun d os => Calls.regrown_of (HI1.out _ (below_regrown V7 d os))
  have cT : ∀ d os, Calls Tryz.prog 30 #[.agg #[.int .i64 la2, .int .i64 ne2, .slice ha2 hn2 hc2, .slice oa2 on2 oc2, .int .i64 fi2, .slice ga2 gn2 gc2, .slice pa2 pn2 pc2], .int .i64 cb, .int .i64 ed, .int .i64 ed, .agg #[.int .i64 la4, .int .i64 ne4, .slice ha4 hn4 hc4, .slice oa4 on4 oc4, .int .i64 fi4, .slice ga4 gn4 gc4, .slice pa4 pn4 pc4], .int .i64 cd] (grow (redrawn V7 d) os) fun e w'' => e = .returned (.bool true) ∧ ∃ p : Regrown, w'' = grow (redrawn V7 p.d) p.os := fun d os => Calls.regrown_of (HI2.out _ (below_regrown V7 d os))
  obtain ⟨k0, k1, k2, k3, k4, k5, k6⟩ := KX.out.sevenc
  obtain ⟨a0, a1, a2, a3, a4, a5, a6⟩ := KA.out.sevenc
  obtain ⟨b0, b1, b2, b3, b4, b5, b6⟩ := KB.out.sevenc
  obtain ⟨f0, f1, f2, f3, f4, f5, f6⟩ := HZ1.out.sevenc
  obtain ⟨g0, g1, g2, g3, g4, g5, g6⟩ := HZ2.out.sevenc
  have k0' := cell_regrown k0
  have k1' := cell_regrown k1
  have k2' := cell_regrown k2
  have k3' := cell_regrown k3
  have k4' := cell_regrown k4
  have k5' := cell_regrown k5
  have k6' := cell_regrown k6
  have a0' := cell_regrown a0
  have a1' := cell_regrown a1
  have a2' := cell_regrown a2
  have a3' := cell_regrown a3
  have a4' := cell_regrown a4
  have a5' := cell_regrown a5
  have a6' := cell_regrown a6
  have b0' := cell_regrown b0
  have b1' := cell_regrown b1
  have b2' := cell_regrown b2
  have b3' := cell_regrown b3
  have b4' := cell_regrown b4
  have b5' := cell_regrown b5
  have b6' := cell_regrown b6
  have f0' := cell_regrown f0
  have f1' := cell_regrown f1
  have f2' := cell_regrown f2
  have f3' := cell_regrown f3
  have f4' := cell_regrown f4
  have f5' := cell_regrown f5
  have f6' := cell_regrown f6
  have g0' := cell_regrown g0
  have g1' := cell_regrown g1
  have g2' := cell_regrown g2
  have g3' := cell_regrown g3
  have g4' := cell_regrown g4
  have g5' := cell_regrown g5
  have g6' := cell_regrown g6
  clear k0 k1 k2 k3 k4 k5 k6 a0 a1 a2 a3 a4 a5 a6 b0 b1 b2 b3 b4 b5 b6 f0 f1 f2 f3 f4 f5 f6 g0 g1 g2 g3 g4 g5 g6 KX KA KB HZ1 HZ2 TA TB HI1 HI2 HCP HCR
  refine wp_region_quiet_below (by kernel_rfl) (by kernel_rfl) ?_
  iterate 2 (quiet_step (exact cB _ _))
  iterate 2 (quiet_step (exact cC _ _))
  iterate 2 (quiet_step (exact cR _ _))
  iterate 10 (quiet_step (exact cS _ _))
  iterate 11 (quiet_step (exact cT _ _))
  refine wpQuiet_nil ?_
  intro _ hw'
  obtain ⟨⟨dq, osq⟩, hw''⟩ := hw'
  subst hw''
  have bR := below_regrown V7 dq osq
  obtain ⟨V, hV⟩ : ∃ V, V = grow (redrawn V7 dq) osq := ⟨_, rfl⟩
  rw [← hV] at bR
  rw [← hV]
  have BV : Hid (Below X w V) := BT.out.trans (bR.mono (by omega))
  clear hV cB cC cR cS cT bR k0' k1' k2' k3' k4' k5' k6' a0' a1' a2' a3' a4' a5' a6' b0' b1' b2' b3' b4' b5' b6' f0' f1' f2' f3' f4' f5' f6' g0' g1' g2' g3' g4' g5' g6'
  go_wp2
  go_ret
  exact ⟨rfl, BV.out⟩

end Go.Proofs.YtnpaejknoipicafGreat

namespace Go.Proofs.YtnpaejknoipicafGreat
namespace trackTells
open Go.ChangeShapes Go.WideShapes Go.ChangeAt Go.RowKit

set_option maxRecDepth 100000 in
theorem lifted (os : Os) (started : os.Started) (H : Type) (enc : TypeId × Value → H) :
    ReturnsInHanded {} Tryz.checked os 4 .any (Rows.trackTellsSpec.pre6 enc Tryz.prog Tryz.f4 Rows.trackTellsRow.domain false) (Rows.trackTellsSpec.post enc Tryz.prog Tryz.f4 false true false false) := by
  refine returnsInHanded_of_change_sized (C := Tryz.checked) own started (by kernel_rfl) Tryz.func4
    (ChangeSpec.witness6 (enc := enc) (C := Tryz.checked) false ⟨#[], #[.agg #[.int .i64 0, .int .i64 0, .slice none 0 0, .slice none 0 0, .int .i64 0, .slice none 0 0, .slice none 0 0], .string ByteArray.empty], []⟩ 8 (by kernel_rfl) (by kernel_rfl) (by kernel_rfl) (by kernel_rfl)) ?_
  intro W base args ds gs before hval0 hW _ hsz0 _
  have hsz : (DataW.weightsEach Tryz.prog (Tryz.f4.params.toList ++ Rows.trackTellsSpec.plain.varTypes Tryz.prog) (ds ++ gs)).all (· ≤ reachBytes) = true := hsz0
  clear hsz0
  have hval : ∀ (j : Nat) t v, Tryz.f4.params[j]? = some t → args[j]? = some v → Value.okWide Tryz.prog W .any base t v := hval0
  have hW' := hW
  obtain ⟨p, q, hA0, hV, rfl, _, _⟩ := hW
  have hA : DataW.TrodAll enc Tryz.prog W 0 (fun _ => true) true Tryz.f4.params.toList args.toList ds p := hA0
  rw [Tryz.params4] at hA hval hsz
  obtain ⟨v0, vs0, d0, ds0, p0, q0, hargs, rfl, rfl, h0, r0⟩ := trodAll_cons hA
  obtain ⟨v1, vs1, d1, ds1, p1, q1, rfl, rfl, rfl, h1, r1⟩ := trodAll_cons r0
  obtain ⟨rfl, rfl, rfl⟩ := trodAll_nil r1
  obtain rfl : args = #[v0, v1] := by cases args; simp_all
  obtain ⟨rfl, rfl⟩ := trodVars_none hV
  have lt0 : ∀ x ∈ p0, x.block < W.heap.size := by obtain ⟨m, hm⟩ := h0; exact DataW.trod_lt m _ _ _ hm
  have lt1 : ∀ x ∈ p1, x.block < W.heap.size := by obtain ⟨m, hm⟩ := h1; exact DataW.trod_lt m _ _ _ hm
  obtain ⟨t0, hv0, bv0, gv0, ov0, ev0, tr0, wl0, wn0, wi0, fh0, fo0⟩ := op_track (hval 0 61 v0 rfl rfl) h0
  obtain ⟨a1, ev1, b1⟩ := op_str Tryz.underlying9 (hval 1 9 v1 rfl rfl) h1
  clear hA0 hval0
  subst ev0
  subst ev1
  refine (trackTells_law t0 hv0 bv0 gv0 ov0 a1 W tr0 fo0.2).mono fun e W1 ⟨he, bel⟩ => ?_
  subst he
  exact ⟨_, rfl, _, _, _, [], _, [], hW', trodAll_mk1 (shut_bool Tryz.underlying4 _), (trodAll_cons_mk (Below.trod laidOut (by kernel_rfl) (of_decide_eq_true (by kernel_rfl)) h0 bel lt0) (trodAll_cons_mk (Below.trod laidOut (by kernel_rfl) (of_decide_eq_true (by kernel_rfl)) h1 bel lt1) trodAll_mk0)), rfl, bel.frame _, fun h => by cases h⟩

theorem proved : Rows.TrackTellsSaid :=
  OpenClaim.holds_of_wide 4 Tryz.f4 rfl rfl rfl rfl rfl rfl rfl ⟨rfl, rfl, rfl, rfl, rfl⟩ rfl rfl rfl rfl rfl (by kernel_rfl) Tryz.func4 (by kernel_rfl)
    (of_decide_eq_true (by kernel_rfl)) (by unfold Func.isWrapper; first | (rw [if_pos (by decide +kernel)]; kernel_rfl) | (rw [if_neg (by decide +kernel)]; exact ⟨rfl, rfl⟩))
    (fun os started H enc _ => lifted os started H enc)
end trackTells

theorem trackTells_holds : Rows.TrackTellsSaid := trackTells.proved
#print axioms trackTells_holds
end Go.Proofs.YtnpaejknoipicafGreat
