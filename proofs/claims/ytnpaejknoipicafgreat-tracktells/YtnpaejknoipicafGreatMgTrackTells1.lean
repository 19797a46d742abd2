/-
  A region that draws its order, whose last operations each wait for all that stand ahead of them (stores and assigns behind what is reckoned): the first part by one invariant, the last ones in the text's order.
-/
import Derived.Test.YtnpaejknoipicafGreatRows
import Derived.Test.YtnpaejknoipicafGreatSlices
import Derived.ProofKit
import Derived.OpenShut
import Derived.ShutString
import Derived.ChangeOld
import Derived.Below
import Derived.SizedLaws
import Derived.Test.YtnpaejknoipicafGreatSlotRows
import Derived.Deep.Slices
import Derived.Test.YtnpaejknoipicafGreatFrameCheck
import Derived.Test.YtnpaejknoipicafGreatFrameAll
import Derived.Test.YtnpaejknoipicafGreatWireNum
import Derived.Test.YtnpaejknoipicafGreatAppAny
import Derived.Test.YtnpaejknoipicafGreatButB
import Derived.Lib.AppendStr
import Derived.Recover
import Derived.Defers
import Derived.Test.YtnpaejknoipicafGreatBlocks
import Derived.Lib.BufferWrite
import Derived.Lib.UnsafeStr
import Derived.Laws.MakeOwn
import Derived.Test.YtnpaejknoipicafGreatBufPut
import Derived.BigQuiet
import Derived.Test.YtnpaejknoipicafGreatStrClone
import Derived.Test.YtnpaejknoipicafGreatRegApp
import Derived.Test.YtnpaejknoipicafGreatCopyMany
import Derived.Lib.AppendZeros
import Derived.Test.YtnpaejknoipicafGreatRegInv

namespace Go.Proofs.YtnpaejknoipicafGreat
open Go.ChangeShapes Go.WideShapes Go.ChangeAt Go.RowKit
open Go.ChangeMaps (open_string shut_string)

theorem own : ownKnob Tryz.prog.godebug = none := by kernel_rfl
theorem laidOut : laidOutB Tryz.prog = true := by kernel_rfl

section
variable {H : Type} {enc : TypeId × Value → H} {P : Program} {W : World} {r : Reach} {b0 : Nat} {t e : TypeId} {v : Value} {d : DataW H} {p : List MemPlace}

theorem op_int (ht : P.underlying t = some (.int .i64)) (hval : Value.okWide P W r b0 t v) (h : DataW.Trod enc P W 0 (fun _ => true) true t v d p) :
    ∃ a, v = .int .i64 a ∧ (Lit.int .i64 a).wf = true := by
  obtain ⟨a, rfl, _, _, w0⟩ := open_int ht hval h
  exact ⟨a, rfl, w0⟩

theorem op_ints (ht : P.underlying t = some (.slice e)) (he : P.underlying e = some (.int .i64)) (hc : P.cellsOf e = 1) (hval : Value.okWide P W r b0 t v) (h : DataW.Trod enc P W 0 (fun _ => true) true t v d p)
    (hsz : ∀ elems spare, d = .slice elems spare → (elems.length + spare.length) * 8 ≤ 140737488351232) :
    ∃ zs : List Int, Sl W v zs.length 1 (zs.map (Value.int .i64)) ∧ (∀ n ∈ zs, (Lit.int .i64 n).wf = true) ∧ zs.length * 8 ≤ 140737488351232 := by
  obtain ⟨a, len, cap, rfl⟩ := okWide_slice ht hval
  obtain ⟨fuel, hf⟩ := h
  rcases open_ints ht he hc hf with ⟨hcs, hx⟩ | ⟨x, l, c, zs, hcs, _, hl, hm, hz, hx, hcell, hwz⟩
  · simp [Value.cells] at hcs
    obtain ⟨rfl, rfl, rfl⟩ := hcs
    exact ⟨[], ⟨by simp, .inl ⟨rfl, none, 0, rfl⟩⟩, by simp, by simp⟩
  · simp [Value.cells] at hcs
    obtain ⟨rfl, rfl, rfl⟩ := hcs
    simp only [if_true] at hz
    simp only [Prod.mk.injEq] at hx
    have hb := hsz _ _ hx.1
    simp only [lits, List.length_map, List.length_take, List.length_drop] at hb
    obtain ⟨hs, hw⟩ := Sl.of_row (w := W) (a := some x) (len := len) (cap := cap) (zs := zs) (k := .i64) (.inr ⟨x, rfl, hl, hm, hz, hcell, hwz⟩)
    have hlen : (zs.take len).length = len := by simp; omega
    refine ⟨zs.take len, ?_, hw, by omega⟩
    rw [hlen]
    exact hs
end

theorem wf_i64 {a : Int} (h : (Lit.int .i64 a).wf = true) : -9223372036854775808 ≤ a ∧ a ≤ 9223372036854775807 := by
  have h1 : IntKind.i64.min = -9223372036854775808 := rfl
  have h2 : IntKind.i64.max = 9223372036854775807 := rfl
  simp only [Lit.wf, Bool.and_eq_true, decide_eq_true_eq] at h
  omega

end Go.Proofs.YtnpaejknoipicafGreat

namespace Go.Proofs.YtnpaejknoipicafGreat
open Go.ChangeShapes Go.WideShapes Go.ChangeAt Go.RowKit
open Go.ChangeMaps (open_string shut_string)

section
variable {H : Type} {enc : TypeId × Value → H} {W : World} {r : Reach} {b0 base : Nat} {spare : Nat → Bool} {held : Bool} {v : Value} {d : DataW H} {p : List MemPlace}

theorem Tryz.cellsPk : Tryz.prog.cellsOf 89 = 6 := by kernel_rfl
theorem Tryz.cellsSk : Tryz.prog.cellsOf 91 = 7 := by kernel_rfl
theorem Tryz.cellsI : Tryz.prog.cellsOf 3 = 1 := by kernel_rfl
theorem Tryz.cellsB : Tryz.prog.cellsOf 4 = 1 := by kernel_rfl
theorem Tryz.cellsS : Tryz.prog.cellsOf 9 = 1 := by kernel_rfl
theorem Tryz.cellsSl : Tryz.prog.cellsOf 55 = 1 := by kernel_rfl
theorem Tryz.cellsBuf : Tryz.prog.cellsOf 57 = 2 := by kernel_rfl

theorem list7 {α : Type} {l : List α} (h : l.length = 7) : ∃ c0 c1 c2 c3 c4 c5 c6, l = [c0, c1, c2, c3, c4, c5, c6] := by
  match l, h with
  | [c0, c1, c2, c3, c4, c5, c6], _ => exact ⟨c0, c1, c2, c3, c4, c5, c6, rfl⟩
theorem list6' {α : Type} {l : List α} (h : l.length = 6) : ∃ c0 c1 c2 c3 c4 c5, l = [c0, c1, c2, c3, c4, c5] := by
  match l, h with
  | [c0, c1, c2, c3, c4, c5], _ => exact ⟨c0, c1, c2, c3, c4, c5, rfl⟩
theorem list2 {α : Type} {l : List α} (h : l.length = 2) : ∃ c0 c1, l = [c0, c1] := by
  match l, h with
  | [c0, c1], _ => exact ⟨c0, c1, rfl⟩

/-- within what an input can be -/
def Sk.fits (x : Sk) : Prop := (Lit.int .i64 x.n).wf = true ∧ (Lit.int .i64 x.p.seq).wf = true ∧ (Lit.int .i64 x.p.time).wf = true ∧ x.p.t.size ≤ maxLen

theorem trod_slot {fuel : Nat} {cs : List Value} {x : DataW H × List MemPlace} (h : DataW.trod enc Tryz.prog W base spare held fuel 91 cs = some x) :
    ∃ s : Sk, cs = s.cells.toList ∧ s.fits := by
  obtain ⟨xs, n, _, _, hl, hxl, hf⟩ := DataW.trod_struct Tryz.underlying91 h
  rw [Tryz.cellsSk] at hl
  obtain ⟨c0, c1, c2, c3, c4, c5, c6, rfl⟩ := list7 hl
  obtain ⟨x0, x1, rfl⟩ := list2 (show xs.length = 2 from hxl)
  have h0 : DataW.trod enc Tryz.prog W base spare held n 3 (([c0, c1, c2, c3, c4, c5, c6].drop 0).take (Tryz.prog.cellsOf 3)) = some x0 := hf 0 _ rfl
  have h1 : DataW.trod enc Tryz.prog W base spare held n 89 (([c0, c1, c2, c3, c4, c5, c6].drop 1).take (Tryz.prog.cellsOf 89)) = some x1 := hf 1 _ rfl
  rw [Tryz.cellsI] at h0
  rw [Tryz.cellsPk] at h1
  obtain ⟨a, ea, _, wa⟩ := DataW.trod_int Tryz.underlying3 h0
  obtain ⟨ys, m, _, _, hl2, hyl, hg⟩ := DataW.trod_struct Tryz.underlying89 h1
  obtain ⟨y0, y1, y2, y3, y4, y5, rfl⟩ := list6' (show ys.length = 6 from hyl)
  have g0 : DataW.trod enc Tryz.prog W base spare held m 3 (([c1, c2, c3, c4, c5, c6].drop 0).take (Tryz.prog.cellsOf 3)) = some y0 := hg 0 _ rfl
  have g1 : DataW.trod enc Tryz.prog W base spare held m 3 (([c1, c2, c3, c4, c5, c6].drop 1).take (Tryz.prog.cellsOf 3)) = some y1 := hg 1 _ rfl
  have g2 : DataW.trod enc Tryz.prog W base spare held m 4 (([c1, c2, c3, c4, c5, c6].drop 2).take (Tryz.prog.cellsOf 4)) = some y2 := hg 2 _ rfl
  have g3 : DataW.trod enc Tryz.prog W base spare held m 4 (([c1, c2, c3, c4, c5, c6].drop 3).take (Tryz.prog.cellsOf 4)) = some y3 := hg 3 _ rfl
  have g4 : DataW.trod enc Tryz.prog W base spare held m 4 (([c1, c2, c3, c4, c5, c6].drop 4).take (Tryz.prog.cellsOf 4)) = some y4 := hg 4 _ rfl
  have g5 : DataW.trod enc Tryz.prog W base spare held m 9 (([c1, c2, c3, c4, c5, c6].drop 5).take (Tryz.prog.cellsOf 9)) = some y5 := hg 5 _ rfl
  rw [Tryz.cellsI] at g0 g1
  rw [Tryz.cellsB] at g2 g3 g4
  rw [Tryz.cellsS] at g5
  obtain ⟨a0, e0, _, w0⟩ := DataW.trod_int Tryz.underlying3 g0
  obtain ⟨a1, e1, _, w1⟩ := DataW.trod_int Tryz.underlying3 g1
  obtain ⟨a2, e2, _⟩ := DataW.trod_bool Tryz.underlying4 g2
  obtain ⟨a3, e3, _⟩ := DataW.trod_bool Tryz.underlying4 g3
  obtain ⟨a4, e4, _⟩ := DataW.trod_bool Tryz.underlying4 g4
  obtain ⟨a5, e5, _, w5⟩ := DataW.trod_string Tryz.underlying9 g5
  simp at ea e0 e1 e2 e3 e4 e5
  subst ea e0 e1 e2 e3 e4 e5
  exact ⟨⟨a, ⟨a0, a1, a2, a3, a4, a5⟩⟩, rfl, wa, w0, w1, w5⟩

set_option maxRecDepth 100000 in
theorem op_slot (hval : Value.okWide Tryz.prog W r b0 91 v) (h : DataW.Trod enc Tryz.prog W base spare held 91 v d p) :
    ∃ s : Sk, v = s.val ∧ s.fits := by
  obtain ⟨cs, rfl, _⟩ := okWide_struct Tryz.underlying91 hval
  obtain ⟨fuel, hf⟩ := h
  obtain ⟨s, hs, hw⟩ := trod_slot hf
  refine ⟨s, ?_, hw⟩
  have : cs = s.cells := by
    apply Array.ext'
    simpa [Value.cells] using hs
  rw [this]
  rfl

theorem trod_slots {fuel : Nat} {cs : List Value} {x : DataW H × List MemPlace} (h : DataW.trod enc Tryz.prog W base spare held fuel 55 cs = some x) :
    ∃ (u : Value) (l : List Sk), cs = [u] ∧ Sls W u l ∧ (∀ s ∈ l, s.fits) ∧ l.length ≤ maxLen ∧ (∀ a n c, u = .slice a n c → n ≤ c) ∧ (∀ elems sp, x.1 = .slice elems sp → l.length ≤ elems.length + sp.length) ∧ (x.1 = .nil → l = []) ∧ (x.1 = .nil ∨ ∃ elems sp, x.1 = .slice elems sp) := by
  rcases Go.Deep.open_slice Tryz.underlying55 h with ⟨rfl, rfl⟩ | ⟨a, len, cap, m, n, D, Pl, rfl, hb, hl, hm, hmm, rfl, hx⟩
  · exact ⟨_, [], rfl, Sls.nil W, by simp, by simp, fun a n c e => by cases e; exact Nat.le_refl _, by simp, fun _ => rfl, .inl rfl⟩
  · have hlm : len ≤ m := by rw [hmm]; split <;> omega
    rw [Tryz.cellsSk] at hx
    have each : ∀ i, i < len → ∃ s : Sk, s.fits ∧ ∀ j u, s.cells[j]? = some u → W.cell? (a.add (i * 7 + j)) = some u := fun i hi => by
      obtain ⟨cs', h1, h2⟩ := hx i (by omega)
      obtain ⟨s, hs, hw⟩ := trod_slot h2
      refine ⟨s, hw, fun j u hj => ?_⟩
      obtain ⟨_, hl7, hc⟩ := World.cells?_some h1
      have hj7 : j < 7 := by
        have := (Array.getElem?_eq_some_iff.1 hj).1
        exact this
      rw [← Go.Deep.add_add, hc j hj7, hs]
      simpa using hj
    obtain ⟨f, hf⟩ := Go.Deep.choose_lt each
    have hll : ((List.range len).map f).length = len := by simp
    refine ⟨_, (List.range len).map f, rfl, ⟨?_, ?_⟩, ?_, by rw [hll]; omega, fun a' n' c' e => by cases e; exact hl, ?_, fun e => by simp at e, .inr ⟨_, _, rfl⟩⟩
    · rw [skCells_len, hll]
    · rw [hll]
      by_cases h0 : len = 0
      · subst h0
        exact .inl ⟨rfl, _, _, rfl⟩
      · right
        obtain ⟨b, off, spot⟩ := a
        have hc0 := (hf 0 (by omega)).2 0 _ rfl
        have hspot : spot = none := by simpa [Addr.add] using World.cell?_spot hc0
        subst hspot
        refine ⟨b, off, cap, rfl, by simpa [Addr.add] using World.block_lt_of_cell? W _ hc0, fun j u hj => ?_⟩
        have hjl : j < len * 7 := by
          have := (List.getElem?_eq_some_iff.1 hj).1
          rwa [skCells_len, hll] at this
        have hjk : j = j / 7 * 7 + j % 7 := by omega
        rw [hjk, skCells_at _ (j / 7) (j % 7) (by omega) (by rw [hll]; omega)] at hj
        have hel : ((List.range len).map f)[j / 7]?.getD Sk.zero = f (j / 7) := by
          rw [List.getElem?_map, List.getElem?_range (by omega)]; rfl
        rw [hel] at hj
        have := (hf (j / 7) (by omega)).2 (j % 7) u hj
        rw [← hjk, Addr.add_lit] at this
        exact this
    · intro s hs
      obtain ⟨i, hi, rfl⟩ := List.mem_map.1 hs
      exact (hf i (by simpa using hi)).1
    · intro elems sp e
      simp only [DataW.slice.injEq] at e
      rw [hll, ← e.1]
      simp

set_option maxRecDepth 100000 in
theorem op_buf (hval : Value.okWide Tryz.prog W r b0 57 v) (h : DataW.Trod enc Tryz.prog W base spare held 57 v d p) :
    ∃ (next : Int) (u : Value) (l : List Sk), v = .agg #[.int .i64 next, u] ∧ (Lit.int .i64 next).wf = true ∧ Sls W u l ∧ (∀ s ∈ l, s.fits) ∧ l.length ≤ maxLen ∧ (∀ a n c, u = .slice a n c → n ≤ c) := by
  obtain ⟨cs, rfl, _⟩ := okWide_struct Tryz.underlying57 hval
  obtain ⟨fuel, hf⟩ := h
  obtain ⟨xs, n, _, _, hl, hxl, hg⟩ := DataW.trod_struct Tryz.underlying57 hf
  rw [Tryz.cellsBuf] at hl
  obtain ⟨c0, c1, hcs⟩ := list2 hl
  obtain ⟨x0, x1, rfl⟩ := list2 (show xs.length = 2 from hxl)
  rw [hcs] at hg
  have h0 : DataW.trod enc Tryz.prog W base spare held n 3 (([c0, c1].drop 0).take (Tryz.prog.cellsOf 3)) = some x0 := hg 0 _ rfl
  have h1 : DataW.trod enc Tryz.prog W base spare held n 55 (([c0, c1].drop 1).take (Tryz.prog.cellsOf 55)) = some x1 := hg 1 _ rfl
  rw [Tryz.cellsI] at h0
  rw [Tryz.cellsSl] at h1
  obtain ⟨a, ea, _, wa⟩ := DataW.trod_int Tryz.underlying3 h0
  obtain ⟨u, l, eu, hS, hfit, hlen, hcap, _⟩ := trod_slots h1
  simp at ea eu
  subst ea eu
  refine ⟨a, c1, l, ?_, wa, hS, hfit, hlen, hcap⟩
  have : cs = #[.int .i64 a, c1] := by
    apply Array.ext'
    simpa [Value.cells] using hcs
  rw [this]

end
end Go.Proofs.YtnpaejknoipicafGreat

namespace Go.Proofs.YtnpaejknoipicafGreat
open Go.ChangeShapes Go.WideShapes Go.ChangeAt Go.RowKit

section
variable {H : Type} {enc : TypeId × Value → H} {W : World} {r : Reach} {b0 base : Nat} {spare : Nat → Bool} {held : Bool} {v : Value} {d : DataW H} {p : List MemPlace}

theorem Tryz.cellsBld : Tryz.prog.cellsOf 59 = 1 := by kernel_rfl
theorem Tryz.cellsFrm : Tryz.prog.cellsOf 30 = 3 := by kernel_rfl
theorem Tryz.cellsStrs : Tryz.prog.cellsOf 28 = 1 := by kernel_rfl

theorem list1 {α : Type} {l : List α} (h : l.length = 1) : ∃ c0, l = [c0] := by
  match l, h with
  | [c0], _ => exact ⟨c0, rfl⟩
theorem list3 {α : Type} {l : List α} (h : l.length = 3) : ∃ c0 c1 c2, l = [c0, c1, c2] := by
  match l, h with
  | [c0, c1, c2], _ => exact ⟨c0, c1, c2, rfl⟩

set_option maxRecDepth 100000 in
theorem op_slots (hval : Value.okWide Tryz.prog W r b0 55 v) (h : DataW.Trod enc Tryz.prog W base spare held 55 v d p)
    (hsz : ∀ elems sp, d = .slice elems sp → (elems.length + sp.length) * 48 ≤ 140737488351232) :
    ∃ l : List Sk, Sls W v l ∧ (∀ s ∈ l, s.fits) ∧ l.length * 48 ≤ 140737488351232 ∧ (∀ a n c, v = .slice a n c → n ≤ c) := by
  obtain ⟨a, len, cap, rfl⟩ := okWide_slice Tryz.underlying55 hval
  obtain ⟨fuel, hf⟩ := h
  obtain ⟨u, l, eu, hS, hfit, _, hcap, hb, hnil, hor⟩ := trod_slots hf
  simp [Value.cells] at eu
  subst eu
  refine ⟨l, hS, hfit, ?_, hcap⟩
  rcases hor with hn | ⟨elems, sp, he⟩
  · rw [hnil hn]; simp
  · have h1 := hb elems sp he
    have h2 := hsz elems sp he
    have : l.length * 48 ≤ (elems.length + sp.length) * 48 := Nat.mul_le_mul_right _ h1
    omega

set_option maxRecDepth 100000 in
theorem op_bld (hval : Value.okWide Tryz.prog W r b0 59 v) (h : DataW.Trod enc Tryz.prog W base spare held 59 v d p) :
    ∃ (u : Value) (l : List Sk), v = .agg #[u] ∧ Sls W u l ∧ (∀ s ∈ l, s.fits) ∧ l.length ≤ maxLen ∧ (∀ a n c, u = .slice a n c → n ≤ c) := by
  obtain ⟨cs, rfl, _⟩ := okWide_struct Tryz.underlying59 hval
  obtain ⟨fuel, hf⟩ := h
  obtain ⟨xs, n, _, _, hl, hxl, hg⟩ := DataW.trod_struct Tryz.underlying59 hf
  rw [Tryz.cellsBld] at hl
  obtain ⟨c0, hcs⟩ := list1 hl
  obtain ⟨x0, rfl⟩ := list1 (show xs.length = 1 from hxl)
  rw [hcs] at hg
  have h0 : DataW.trod enc Tryz.prog W base spare held n 55 (([c0].drop 0).take (Tryz.prog.cellsOf 55)) = some x0 := hg 0 _ rfl
  rw [Tryz.cellsSl] at h0
  obtain ⟨u, l, eu, hS, hfit, hlen, hcap, _⟩ := trod_slots h0
  simp at eu
  subst eu
  refine ⟨c0, l, ?_, hS, hfit, hlen, hcap⟩
  have : cs = #[c0] := by
    apply Array.ext'
    simpa [Value.cells] using hcs
  rw [this]

set_option maxRecDepth 100000 in
theorem trod_strs {fuel : Nat} {cs : List Value} {x : DataW H × List MemPlace} (h : DataW.trod enc Tryz.prog W base spare held fuel 28 cs = some x) :
    ∃ (u : Value) (l : List ByteArray), cs = [u] ∧ Strs W u l ∧ (∀ s ∈ l, s.size ≤ maxLen) ∧ l.length ≤ maxLen ∧ (∀ a n c, u = .slice a n c → n ≤ c) := by
  rcases Go.Deep.open_slice Tryz.underlying28 h with ⟨rfl, rfl⟩ | ⟨a, len, cap, m, n, D, Pl, rfl, hb, hl, hm, hmm, rfl, hx⟩
  · exact ⟨_, [], rfl, Strs.nil W, by simp, by simp, fun a n c e => by cases e; exact Nat.le_refl _⟩
  · have hlm : len ≤ m := by rw [hmm]; split <;> omega
    rw [Tryz.cellsS] at hx
    have each : ∀ i, i < len → ∃ s : ByteArray, s.size ≤ maxLen ∧ W.cell? (a.add i) = some (.string s) := fun i hi => by
      obtain ⟨cs', h1, h2⟩ := hx i (by omega)
      obtain ⟨s, hs, _, hw⟩ := DataW.trod_string Tryz.underlying9 h2
      obtain ⟨_, hl1, hc⟩ := World.cells?_some h1
      refine ⟨s, hw, ?_⟩
      have := hc 0 (by omega)
      rw [hs, Go.Deep.add_add] at this
      simpa using this
    obtain ⟨f, hf⟩ := Go.Deep.choose_lt each
    have hll : ((List.range len).map f).length = len := by simp
    refine ⟨_, (List.range len).map f, rfl, ?_, ?_, by rw [hll]; omega, fun a' n' c' e => by cases e; exact hl⟩
    · show Sl W _ _ 1 _
      rw [hll]
      refine ⟨by simp, ?_⟩
      by_cases h0 : len = 0
      · subst h0
        exact .inl ⟨rfl, _, _, rfl⟩
      · right
        obtain ⟨b, off, spot⟩ := a
        have hc0 := (hf 0 (by omega)).2
        have hspot : spot = none := by simpa [Addr.add] using World.cell?_spot hc0
        subst hspot
        refine ⟨b, off, cap, rfl, by simpa [Addr.add] using World.block_lt_of_cell? W _ hc0, fun j u hj => ?_⟩
        have hjl : j < len := by
          have := (List.getElem?_eq_some_iff.1 hj).1
          simpa using this
        rw [List.getElem?_map, List.getElem?_map, List.getElem?_range hjl] at hj
        simp at hj
        subst hj
        have := (hf j hjl).2
        rw [Addr.add_lit] at this
        exact this
    · intro s hs
      obtain ⟨i, hi, rfl⟩ := List.mem_map.1 hs
      exact (hf i (by simpa using hi)).1

set_option maxRecDepth 100000 in
theorem op_frm (hval : Value.okWide Tryz.prog W r b0 30 v) (h : DataW.Trod enc Tryz.prog W base spare held 30 v d p) :
    ∃ (time : Int) (key : Bool) (u : Value) (l : List ByteArray), v = .agg #[.int .i64 time, .bool key, u] ∧ (Lit.int .i64 time).wf = true ∧ Strs W u l ∧ (∀ s ∈ l, s.size ≤ maxLen) ∧ l.length ≤ maxLen := by
  obtain ⟨cs, rfl, _⟩ := okWide_struct Tryz.underlying30 hval
  obtain ⟨fuel, hf⟩ := h
  obtain ⟨xs, n, _, _, hl, hxl, hg⟩ := DataW.trod_struct Tryz.underlying30 hf
  rw [Tryz.cellsFrm] at hl
  obtain ⟨c0, c1, c2, hcs⟩ := list3 hl
  obtain ⟨x0, x1, x2, rfl⟩ := list3 (show xs.length = 3 from hxl)
  rw [hcs] at hg
  have h0 : DataW.trod enc Tryz.prog W base spare held n 3 (([c0, c1, c2].drop 0).take (Tryz.prog.cellsOf 3)) = some x0 := hg 0 _ rfl
  have h1 : DataW.trod enc Tryz.prog W base spare held n 4 (([c0, c1, c2].drop 1).take (Tryz.prog.cellsOf 4)) = some x1 := hg 1 _ rfl
  have h2 : DataW.trod enc Tryz.prog W base spare held n 28 (([c0, c1, c2].drop 2).take (Tryz.prog.cellsOf 28)) = some x2 := hg 2 _ rfl
  rw [Tryz.cellsI] at h0
  rw [Tryz.cellsB] at h1
  rw [Tryz.cellsStrs] at h2
  obtain ⟨a, ea, _, wa⟩ := DataW.trod_int Tryz.underlying3 h0
  obtain ⟨k, ek, _⟩ := DataW.trod_bool Tryz.underlying4 h1
  obtain ⟨u, l, eu, hS, hfit, hlen, _⟩ := trod_strs h2
  simp at ea ek eu
  subst ea ek eu
  refine ⟨a, k, c2, l, ?_, wa, hS, hfit, hlen⟩
  have : cs = #[.int .i64 a, .bool k, c2] := by
    apply Array.ext'
    simpa [Value.cells] using hcs
  rw [this]

end
end Go.Proofs.YtnpaejknoipicafGreat

namespace Go.Proofs.YtnpaejknoipicafGreat
open Go.RowKit

/-- blocks of S that were there are as they were -/
def SameOn (S : Nat → Prop) (w w' : World) : Prop := w.heap.size ≤ w'.heap.size ∧ ∀ g, g < w.heap.size → S g → w'.heap[g]? = w.heap[g]?
theorem SameOn.of_below {S : Nat → Prop} {w w' : World} (h : Below w.heap.size w w') : SameOn S w w' := ⟨h.size, fun g hg _ => h.block g hg⟩
theorem SameOn.trans {S : Nat → Prop} {a b c : World} (h : SameOn S a b) (k : SameOn S b c) : SameOn S a c := ⟨Nat.le_trans h.1 k.1, fun g hg hs => (k.2 g (Nat.lt_of_lt_of_le hg h.1) hs).trans (h.2 g hg hs)⟩
theorem SameOn.grown {S : Nat → Prop} {w w' : World} {row : Option Nat} (h : w.grownBy w' row) (hr : ∀ g, S g → some g ≠ row) : SameOn S w w' := ⟨h.size, fun g hg hs => h.block g hg (hr g hs)⟩
theorem SameOn.setCell {S : Nat → Prop} {w : World} {a : Addr} (h : ∀ g, S g → g ≠ a.block) (v : Value) : SameOn S w (w.setCell a v) := ⟨by simp, fun g _ hs => Below.heap_setCell _ _ _ _ (h g hs)⟩
theorem SameOn.alloc {S : Nat → Prop} {w : World} (o : Obj) : SameOn S w (w.alloc o) := SameOn.of_below ((Below.refl _ w).alloc (Nat.le_refl _) _)
theorem SameOn.mono {S S' : Nat → Prop} {w w' : World} (h : SameOn S w w') (hs : ∀ g, S' g → S g) : SameOn S' w w' := ⟨h.1, fun g hg h2 => h.2 g hg (hs g h2)⟩
theorem SameOn.mono' {S S' : Nat → Prop} {w w' : World} (h : SameOn S w w') (hs : ∀ g, g < w.heap.size → S' g → S g) : SameOn S' w w' := ⟨h.1, fun g hg h2 => h.2 g hg (hs g hg h2)⟩
theorem SameOn.refl (S : Nat → Prop) (w : World) : SameOn S w w := ⟨Nat.le_refl _, fun _ _ _ => rfl⟩

def StrsIn (S : Nat → Prop) (w : World) (v : Value) (l : List ByteArray) : Prop := Strs w v l ∧ l.length ≤ 9223372036854775807 ∧ ∀ g, v.ownBlock = some g → 0 < l.length → S g ∧ g < w.heap.size
def At3In (S : Nat → Prop) (w : World) (b off : Nat) (f : Fr) : Prop := ∃ pv, w.cell? ⟨b, off, none⟩ = some (.int .i64 f.time) ∧ w.cell? ⟨b, off + 1, none⟩ = some (.bool f.key) ∧ w.cell? ⟨b, off + 2, none⟩ = some pv ∧ StrsIn S w pv f.parts
def FrsIn (S : Nat → Prop) (w : World) (v : Value) (l : List Fr) : Prop := ∃ ao c, v = .slice ao l.length c ∧ l.length ≤ c ∧ c ≤ 9223372036854775807 ∧ ∀ k, k < l.length → ∃ b off, ao = some ⟨b, off, none⟩ ∧ b < w.heap.size ∧ S b ∧ At3In S w b (off + k * 3) (l[k]?.getD Fr.zero)
def GrsIn (S : Nat → Prop) (w : World) (v : Value) (L : List (List Fr)) : Prop := ∃ ao c, v = .slice ao L.length c ∧ L.length ≤ c ∧ c ≤ 9223372036854775807 ∧ ∀ k, k < L.length → ∃ b off, ao = some ⟨b, off, none⟩ ∧ b < w.heap.size ∧ S b ∧ ∃ sv, w.cell? ⟨b, off + k, none⟩ = some sv ∧ FrsIn S w sv (L[k]?.getD [])

theorem StrsIn.to {S S' : Nat → Prop} {w w' : World} {v : Value} {l : List ByteArray} (h : StrsIn S w v l) (hs : SameOn S w w') (hm : ∀ g, g < w.heap.size → S g → S' g) : StrsIn S' w' v l := by
  obtain ⟨⟨h1, h2⟩, h3, h4⟩ := h
  refine ⟨⟨h1, ?_⟩, h3, fun g hg h0 => ⟨hm g (h4 g hg h0).2 (h4 g hg h0).1, Nat.lt_of_lt_of_le (h4 g hg h0).2 hs.1⟩⟩
  rcases h2 with h2 | ⟨b, off, c, rfl, hlt, hc⟩
  · exact .inl h2
  · by_cases h0 : 0 < l.length
    · exact .inr ⟨b, off, c, rfl, Nat.lt_of_lt_of_le hlt hs.1, fun j u hj => (World.cell?_of_block (hs.2 b hlt (h4 b rfl h0).1)).trans (hc j u hj)⟩
    · refine .inl ⟨by omega, some ⟨b, off, none⟩, c, by congr 1; omega⟩
theorem At3In.to {S S' : Nat → Prop} {w w' : World} {b off : Nat} {f : Fr} (h : At3In S w b off f) (hs : SameOn S w w') (hm : ∀ g, g < w.heap.size → S g → S' g) (hb : b < w.heap.size) (hS : S b) : At3In S' w' b off f := by
  obtain ⟨pv, h1, h2, h3, h4⟩ := h
  have g : ∀ j, w'.cell? ⟨b, j, none⟩ = w.cell? ⟨b, j, none⟩ := fun j => World.cell?_of_block (hs.2 b hb hS)
  exact ⟨pv, (g _).trans h1, (g _).trans h2, (g _).trans h3, h4.to hs hm⟩
theorem FrsIn.to {S S' : Nat → Prop} {w w' : World} {v : Value} {l : List Fr} (h : FrsIn S w v l) (hs : SameOn S w w') (hm : ∀ g, g < w.heap.size → S g → S' g) : FrsIn S' w' v l := by
  obtain ⟨ao, c, hv, h1, h2, hc⟩ := h
  refine ⟨ao, c, hv, h1, h2, fun k hk => ?_⟩
  obtain ⟨b, off, e1, e2, e3, e4⟩ := hc k hk
  exact ⟨b, off, e1, Nat.lt_of_lt_of_le e2 hs.1, hm b e2 e3, e4.to hs hm e2 e3⟩
theorem GrsIn.to {S S' : Nat → Prop} {w w' : World} {v : Value} {L : List (List Fr)} (h : GrsIn S w v L) (hs : SameOn S w w') (hm : ∀ g, g < w.heap.size → S g → S' g) : GrsIn S' w' v L := by
  obtain ⟨ao, c, hv, h1, h2, hc⟩ := h
  refine ⟨ao, c, hv, h1, h2, fun k hk => ?_⟩
  obtain ⟨b, off, e1, e2, e3, sv, e4, e5⟩ := hc k hk
  exact ⟨b, off, e1, Nat.lt_of_lt_of_le e2 hs.1, hm b e2 e3, sv, (World.cell?_of_block (hs.2 b e2 e3)).trans e4, e5.to hs hm⟩
theorem StrsIn.below {S : Nat → Prop} {w w' : World} {v : Value} {l : List ByteArray} (h : StrsIn S w v l) (hb : Below w.heap.size w w') : StrsIn S w' v l := h.to (SameOn.of_below hb) fun _ _ h => h
theorem FrsIn.below {S : Nat → Prop} {w w' : World} {v : Value} {l : List Fr} (h : FrsIn S w v l) (hb : Below w.heap.size w w') : FrsIn S w' v l := h.to (SameOn.of_below hb) fun _ _ h => h
theorem GrsIn.below {S : Nat → Prop} {w w' : World} {v : Value} {L : List (List Fr)} (h : GrsIn S w v L) (hb : Below w.heap.size w w') : GrsIn S w' v L := h.to (SameOn.of_below hb) fun _ _ h => h
theorem FrsIn.mono {S S' : Nat → Prop} {w : World} {v : Value} {l : List Fr} (h : FrsIn S w v l) (hm : ∀ g, g < w.heap.size → S g → S' g) : FrsIn S' w v l := h.to (SameOn.refl _ _) hm
theorem StrsIn.mono {S S' : Nat → Prop} {w : World} {v : Value} {l : List ByteArray} (h : StrsIn S w v l) (hm : ∀ g, g < w.heap.size → S g → S' g) : StrsIn S' w v l := h.to (SameOn.refl _ _) hm
theorem GrsIn.mono {S S' : Nat → Prop} {w : World} {v : Value} {L : List (List Fr)} (h : GrsIn S w v L) (hm : ∀ g, g < w.heap.size → S g → S' g) : GrsIn S' w v L := h.to (SameOn.refl _ _) hm
theorem FrsIn.alloc {S : Nat → Prop} {w : World} {v : Value} {l : List Fr} (h : FrsIn S w v l) (o : Obj) : FrsIn S (w.alloc o) v l := h.below ((Below.refl _ w).alloc (Nat.le_refl _) _)
theorem StrsIn.alloc {S : Nat → Prop} {w : World} {v : Value} {l : List ByteArray} (h : StrsIn S w v l) (o : Obj) : StrsIn S (w.alloc o) v l := h.below ((Below.refl _ w).alloc (Nat.le_refl _) _)
theorem GrsIn.alloc {S : Nat → Prop} {w : World} {v : Value} {L : List (List Fr)} (h : GrsIn S w v L) (o : Obj) : GrsIn S (w.alloc o) v L := h.below ((Below.refl _ w).alloc (Nat.le_refl _) _)
theorem StrsIn.nil (S : Nat → Prop) (w : World) : StrsIn S w (.slice none 0 0) [] := ⟨Strs.nil w, Nat.zero_le _, fun g hg => by simp [Value.ownBlock] at hg⟩
theorem FrsIn.nil (S : Nat → Prop) (w : World) : FrsIn S w (.slice none 0 0) [] := ⟨none, 0, rfl, Nat.le_refl _, Nat.zero_le _, fun _ hk => absurd hk (Nat.not_lt_zero _)⟩
theorem GrsIn.nil (S : Nat → Prop) (w : World) : GrsIn S w (.slice none 0 0) [] := ⟨none, 0, rfl, Nat.le_refl _, Nat.zero_le _, fun _ hk => absurd hk (Nat.not_lt_zero _)⟩
theorem FrsIn.len {S : Nat → Prop} {w : World} {v : Value} {l : List Fr} (h : FrsIn S w v l) : ∃ a c, v = .slice a l.length c ∧ l.length ≤ c ∧ l.length ≤ 9223372036854775807 := by
  obtain ⟨ao, c, hv, h1, h2, _⟩ := h
  exact ⟨ao, c, hv, h1, by omega⟩
theorem GrsIn.len {S : Nat → Prop} {w : World} {v : Value} {L : List (List Fr)} (h : GrsIn S w v L) : ∃ a c, v = .slice a L.length c ∧ L.length ≤ c ∧ L.length ≤ 9223372036854775807 := by
  obtain ⟨ao, c, hv, h1, h2, _⟩ := h
  exact ⟨ao, c, hv, h1, by omega⟩
theorem FrsIn.frs {S : Nat → Prop} {w : World} {v : Value} {l : List Fr} (h : FrsIn S w v l) : Frs w v l := by
  obtain ⟨ao, c, hv, _, _, hc⟩ := h
  refine ⟨ao, c, hv, fun k hk => ?_⟩
  obtain ⟨b, off, e1, e2, _, pv, h1, h2, h3, h4, h5, _⟩ := hc k hk
  exact ⟨b, off, e1, e2, pv, h1, h2, h3, h4, h5⟩

/-- rows of the call's own, that may grow: what is in them lies in blocks of S -/
def OwnFrs (base : Nat) (S : Nat → Prop) (w : World) (v : Value) (l : List Fr) : Prop := ∃ ps : List (Fr × Value), ps.map Prod.fst = l ∧ w.ownsRow base 30 3 v ps.length (frCells ps) ∧ ∀ p ∈ ps, StrsIn S w p.2 p.1.parts
def OwnGrs (base : Nat) (S : Nat → Prop) (w : World) (v : Value) (L : List (List Fr)) : Prop := ∃ ps : List (List Fr × Value), ps.map Prod.fst = L ∧ w.ownsRow base 25 1 v ps.length (ps.map Prod.snd) ∧ ∀ p ∈ ps, FrsIn S w p.2 p.1
theorem OwnFrs.to {base : Nat} {S S' : Nat → Prop} {w w' : World} {v : Value} {l : List Fr} (h : OwnFrs base S w v l) (hs : SameOn S w w') (hm : ∀ g, g < w.heap.size → S g → S' g) (ho : ∀ g, v.ownBlock = some g → w'.heap[g]? = w.heap[g]?) : OwnFrs base S' w' v l := by
  obtain ⟨ps, h1, h2, h3⟩ := h
  exact ⟨ps, h1, owns_same h2 ho, fun p hp => (h3 p hp).to hs hm⟩
theorem OwnGrs.to {base : Nat} {S S' : Nat → Prop} {w w' : World} {v : Value} {L : List (List Fr)} (h : OwnGrs base S w v L) (hs : SameOn S w w') (hm : ∀ g, g < w.heap.size → S g → S' g) (ho : ∀ g, v.ownBlock = some g → w'.heap[g]? = w.heap[g]?) : OwnGrs base S' w' v L := by
  obtain ⟨ps, h1, h2, h3⟩ := h
  exact ⟨ps, h1, owns_same h2 ho, fun p hp => (h3 p hp).to hs hm⟩
theorem OwnFrs.below {base : Nat} {S : Nat → Prop} {w w' : World} {v : Value} {l : List Fr} (h : OwnFrs base S w v l) (hb : Below w.heap.size w w') : OwnFrs base S w' v l :=
  h.to (SameOn.of_below hb) (fun _ _ h => h) (fun g hg => by obtain ⟨ps, _, h2, _⟩ := h; exact hb.block g (h2.lt g hg).2)
theorem OwnGrs.below {base : Nat} {S : Nat → Prop} {w w' : World} {v : Value} {L : List (List Fr)} (h : OwnGrs base S w v L) (hb : Below w.heap.size w w') : OwnGrs base S w' v L :=
  h.to (SameOn.of_below hb) (fun _ _ h => h) (fun g hg => by obtain ⟨ps, _, h2, _⟩ := h; exact hb.block g (h2.lt g hg).2)
theorem OwnFrs.nil (base : Nat) (S : Nat → Prop) (w : World) : OwnFrs base S w (.slice none 0 0) [] := ⟨[], rfl, World.ownsRow_nil _ _ _ _, fun _ hp => absurd hp List.not_mem_nil⟩
theorem OwnGrs.nil (base : Nat) (S : Nat → Prop) (w : World) : OwnGrs base S w (.slice none 0 0) [] := ⟨[], rfl, World.ownsRow_nil _ _ _ _, fun _ hp => absurd hp List.not_mem_nil⟩
theorem OwnFrs.lt {base : Nat} {S : Nat → Prop} {w : World} {v : Value} {l : List Fr} (h : OwnFrs base S w v l) : ∀ g, v.ownBlock = some g → base ≤ g ∧ g < w.heap.size := fun g hg => by obtain ⟨ps, _, h2, _⟩ := h; exact h2.lt g hg
theorem OwnGrs.lt {base : Nat} {S : Nat → Prop} {w : World} {v : Value} {L : List (List Fr)} (h : OwnGrs base S w v L) : ∀ g, v.ownBlock = some g → base ≤ g ∧ g < w.heap.size := fun g hg => by obtain ⟨ps, _, h2, _⟩ := h; exact h2.lt g hg
theorem OwnFrs.blk {base : Nat} {S : Nat → Prop} {w : World} {v : Value} {l : List Fr} (h : OwnFrs base S w v l) : ∀ g, v.ownBlock = some g → ∃ cur, Blk w g cur 30 := fun g hg => by obtain ⟨ps, _, h2, _⟩ := h; exact (owns_blk h2 hg).2
theorem OwnGrs.blk {base : Nat} {S : Nat → Prop} {w : World} {v : Value} {L : List (List Fr)} (h : OwnGrs base S w v L) : ∀ g, v.ownBlock = some g → ∃ cur, Blk w g cur 25 := fun g hg => by obtain ⟨ps, _, h2, _⟩ := h; exact (owns_blk h2 hg).2
theorem owns_cap {w : World} {base : Nat} {e : TypeId} {size n : Nat} {v : Value} {xs : List Value} (h : w.ownsRow base e size v n xs) : ∃ a c, v = .slice a n c ∧ n ≤ c ∧ c ≤ 9223372036854775807 := by
  obtain ⟨_, ⟨rfl, rfl⟩ | ⟨g, cap, cur, rfl, _, _, h1, h2, _⟩⟩ := h
  · exact ⟨none, 0, rfl, Nat.le_refl _, Nat.zero_le _⟩
  · exact ⟨_, cap, rfl, h1, by unfold maxLen at h2; omega⟩
theorem OwnFrs.frsIn {base : Nat} {S S' : Nat → Prop} {w : World} {v : Value} {l : List Fr} (h : OwnFrs base S w v l) (hm : ∀ g, g < w.heap.size → S g → S' g) (hv : ∀ g, v.ownBlock = some g → S' g) : FrsIn S' w v l := by
  obtain ⟨ps, hp, ho, hg⟩ := h
  have hll : l.length = ps.length := by rw [← hp, List.length_map]
  obtain ⟨a, c, e, h1, h2⟩ := owns_cap ho
  obtain ⟨_, ⟨h0, a', c', e'⟩ | ⟨b, off, c', e', hb, hc⟩⟩ := Sl.of_owns ho
  · exact ⟨a, c, by rw [hll]; exact e, by omega, h2, fun k hk => by omega⟩
  · rw [e] at e'
    injection e' with q1 q2 q3
    subst q1
    refine ⟨_, c, by rw [hll]; exact e, by omega, h2, fun k hk => ⟨b, off, rfl, hb, hv b (by rw [e]; rfl), ?_⟩⟩
    have hk' : k < ps.length := by omega
    have hpk : ps[k]? = some ps[k] := List.getElem?_eq_getElem hk'
    have hlk : l[k]?.getD Fr.zero = ps[k].1 := by rw [← hp, List.getElem?_map, hpk]; rfl
    have g : ∀ i u, i < 3 → [Value.int .i64 ps[k].1.time, .bool ps[k].1.key, ps[k].2][i]? = some u → w.cell? ⟨b, off + k * 3 + i, none⟩ = some u := fun i u hi hu => by
      rw [Nat.add_assoc]
      exact hc (k * 3 + i) u (by rw [frCells_at ps k i _ hi hpk]; exact hu)
    rw [hlk]
    exact ⟨ps[k].2, g 0 _ (by omega) rfl, g 1 _ (by omega) rfl, g 2 _ (by omega) rfl, (hg ps[k] (List.getElem_mem hk')).mono hm⟩
theorem OwnGrs.grsIn {base : Nat} {S S' : Nat → Prop} {w : World} {v : Value} {L : List (List Fr)} (h : OwnGrs base S w v L) (hm : ∀ g, g < w.heap.size → S g → S' g) (hv : ∀ g, v.ownBlock = some g → S' g) : GrsIn S' w v L := by
  obtain ⟨ps, hp, ho, hg⟩ := h
  have hll : L.length = ps.length := by rw [← hp, List.length_map]
  obtain ⟨a, c, e, h1, h2⟩ := owns_cap ho
  obtain ⟨_, ⟨h0, a', c', e'⟩ | ⟨b, off, c', e', hb, hc⟩⟩ := Sl.of_owns ho
  · exact ⟨a, c, by rw [hll]; exact e, by omega, h2, fun k hk => by omega⟩
  · rw [e] at e'
    injection e' with q1 q2 q3
    subst q1
    refine ⟨_, c, by rw [hll]; exact e, by omega, h2, fun k hk => ⟨b, off, rfl, hb, hv b (by rw [e]; rfl), ?_⟩⟩
    have hk' : k < ps.length := by omega
    have hpk : ps[k]? = some ps[k] := List.getElem?_eq_getElem hk'
    have hlk : L[k]?.getD [] = ps[k].1 := by rw [← hp, List.getElem?_map, hpk]; rfl
    rw [hlk]
    exact ⟨ps[k].2, hc k _ (by rw [List.getElem?_map, hpk]; rfl), (hg ps[k] (List.getElem_mem hk')).mono hm⟩
/-- one more, behind append -/
theorem OwnFrs.snoc {base : Nat} {S : Nat → Prop} {w w' : World} {v v' : Value} {l : List Fr} {f : Fr} {pv : Value} {ps : List (Fr × Value)} (h1 : ps.map Prod.fst = l) (h3 : ∀ p ∈ ps, StrsIn S w p.2 p.1.parts) (hp : StrsIn S w pv f.parts) (ho : w'.ownsRow base 30 3 v' (ps.length + 1) (frCells ps ++ [.int .i64 f.time, .bool f.key, pv])) (hg : w.grownBy w' v.ownBlock) (hv : ∀ g, S g → some g ≠ v.ownBlock) : OwnFrs base S w' v' (l ++ [f]) := by
  have hs : SameOn S w w' := SameOn.grown hg hv
  refine ⟨ps ++ [(f, pv)], by rw [List.map_append, h1]; rfl, by rw [List.length_append, frCells_append]; exact ho, fun p hpp => ?_⟩
  rcases List.mem_append.1 hpp with hpp | hpp
  · exact (h3 p hpp).to hs fun _ _ h => h
  · simp at hpp
    subst hpp
    exact hp.to hs fun _ _ h => h
theorem OwnGrs.snoc {base : Nat} {S : Nat → Prop} {w w' : World} {v v' : Value} {L : List (List Fr)} {l : List Fr} {sv : Value} {ps : List (List Fr × Value)} (h1 : ps.map Prod.fst = L) (h3 : ∀ p ∈ ps, FrsIn S w p.2 p.1) (hp : FrsIn S w sv l) (ho : w'.ownsRow base 25 1 v' (ps.length + 1) (ps.map Prod.snd ++ [sv])) (hg : w.grownBy w' v.ownBlock) (hv : ∀ g, S g → some g ≠ v.ownBlock) : OwnGrs base S w' v' (L ++ [l]) := by
  have hs : SameOn S w w' := SameOn.grown hg hv
  refine ⟨ps ++ [(l, sv)], by rw [List.map_append, h1]; rfl, by rw [List.length_append, List.map_append]; exact ho, fun p hpp => ?_⟩
  rcases List.mem_append.1 hpp with hpp | hpp
  · exact (h3 p hpp).to hs fun _ _ h => h
  · simp at hpp
    subst hpp
    exact hp.to hs fun _ _ h => h
theorem Tryz.infoGrp : (Tryz.prog.info? 25).map (fun i => (i.zero, i.size, i.bytes)) = some (some (.agg #[.slice none 0 0]), 1, 24) := by kernel_rfl

/-- the first error of things, one by one -/
def goN (e : Nat → Int) : Nat → Nat → Int
  | 0, _ => 0
  | n + 1, k => if e k = 0 then goN e n (k + 1) else e k
theorem goN_all {e : Nat → Int} : ∀ (n k : Nat), (∀ j, k ≤ j → j < k + n → e j = 0) → goN e n k = 0
  | 0, _, _ => rfl
  | n + 1, k, h => by
    unfold goN
    rw [if_pos (h k (Nat.le_refl _) (by omega))]
    exact goN_all n (k + 1) (fun j h1 h2 => h j (by omega) (by omega))
theorem goN_hit {e : Nat → Int} : ∀ (n k i : Nat), k ≤ i → i < k + n → (∀ j, k ≤ j → j < i → e j = 0) → ¬ e i = 0 → goN e n k = e i
  | 0, _, _, h1, h2, _, _ => by omega
  | n + 1, k, i, h1, h2, h, hi => by
    unfold goN
    by_cases hk : k = i
    · subst hk; rw [if_neg hi]
    · rw [if_pos (h k (Nat.le_refl _) (by omega))]
      exact goN_hit n (k + 1) i (by omega) (by omega) (fun j h1 h2 => h j (by omega) h2) hi
theorem goN_zero {e : Nat → Int} : ∀ (n k : Nat), goN e n k = 0 → ∀ j, k ≤ j → j < k + n → e j = 0
  | 0, _, _, _, h1, h2 => by omega
  | n + 1, k, h, j, h1, h2 => by
    unfold goN at h
    by_cases hk : e k = 0
    · rw [if_pos hk] at h
      by_cases hj : j = k
      · subst hj; exact hk
      · exact goN_zero n (k + 1) h j (by omega) (by omega)
    · rw [if_neg hk] at h; exact absurd h hk

end Go.Proofs.YtnpaejknoipicafGreat

namespace Go.Proofs.YtnpaejknoipicafGreat
open Go.ChangeShapes Go.WideShapes Go.ChangeAt Go.RowKit

theorem StrsIn.of {w : World} {v : Value} {l : List ByteArray} (h : Strs w v l) (hl : l.length ≤ 9223372036854775807) : StrsIn (fun _ => True) w v l := by
  refine ⟨h, hl, fun g hg h0 => ⟨trivial, ?_⟩⟩
  obtain ⟨_, ⟨h1, _⟩ | ⟨b, off, c, rfl, hb, _⟩⟩ := h
  · omega
  · simp [Value.ownBlock] at hg
    subst hg
    exact hb

instance : Inhabited Fr := ⟨Fr.zero⟩

section
variable {H : Type} {enc : TypeId × Value → H} {W : World} {r : Reach} {b0 base : Nat} {spare : Nat → Bool} {held : Bool} {v : Value} {d : DataW H} {p : List MemPlace}

theorem Tryz.cellsFrs : Tryz.prog.cellsOf 23 = 1 := by kernel_rfl
theorem Tryz.cellsGrp : Tryz.prog.cellsOf 25 = 1 := by kernel_rfl

set_option maxRecDepth 100000 in
theorem trod_frm {fuel : Nat} {cs : List Value} {x : DataW H × List MemPlace} (h : DataW.trod enc Tryz.prog W base spare held fuel 30 cs = some x) :
    ∃ (f : Fr) (u : Value), cs = [.int .i64 f.time, .bool f.key, u] ∧ StrsIn (fun _ => True) W u f.parts := by
  obtain ⟨xs, n, _, _, hl, hxl, hg⟩ := DataW.trod_struct Tryz.underlying30 h
  rw [Tryz.cellsFrm] at hl
  obtain ⟨c0, c1, c2, hcs⟩ := list3 hl
  obtain ⟨x0, x1, x2, rfl⟩ := list3 (show xs.length = 3 from hxl)
  rw [hcs] at hg
  have h0 : DataW.trod enc Tryz.prog W base spare held n 3 (([c0, c1, c2].drop 0).take (Tryz.prog.cellsOf 3)) = some x0 := hg 0 _ rfl
  have h1 : DataW.trod enc Tryz.prog W base spare held n 4 (([c0, c1, c2].drop 1).take (Tryz.prog.cellsOf 4)) = some x1 := hg 1 _ rfl
  have h2 : DataW.trod enc Tryz.prog W base spare held n 28 (([c0, c1, c2].drop 2).take (Tryz.prog.cellsOf 28)) = some x2 := hg 2 _ rfl
  rw [Tryz.cellsI] at h0
  rw [Tryz.cellsB] at h1
  rw [Tryz.cellsStrs] at h2
  obtain ⟨a, ea, _, wa⟩ := DataW.trod_int Tryz.underlying3 h0
  obtain ⟨k, ek, _⟩ := DataW.trod_bool Tryz.underlying4 h1
  obtain ⟨u, l, eu, hS, hfit, hlen, _⟩ := trod_strs h2
  simp at ea ek eu
  subst ea ek eu
  exact ⟨⟨a, k, l⟩, c2, hcs, StrsIn.of hS (by unfold maxLen at hlen; omega)⟩

set_option maxRecDepth 100000 in
theorem trod_frs {fuel : Nat} {cs : List Value} {x : DataW H × List MemPlace} (h : DataW.trod enc Tryz.prog W base spare held fuel 23 cs = some x) :
    ∃ (u : Value) (l : List Fr), cs = [u] ∧ FrsIn (fun _ => True) W u l := by
  rcases Go.Deep.open_slice Tryz.underlying23 h with ⟨rfl, rfl⟩ | ⟨a, len, cap, m, n, D, Pl, rfl, hb, hl, hm, hmm, rfl, hx⟩
  · exact ⟨_, [], rfl, FrsIn.nil _ W⟩
  · have hlm : len ≤ m := by rw [hmm]; split <;> omega
    rw [Tryz.cellsFrm] at hx
    have each : ∀ i, i < len → ∃ q : Fr × Value, StrsIn (fun _ => True) W q.2 q.1.parts ∧ ∀ j u, [Value.int .i64 q.1.time, .bool q.1.key, q.2][j]? = some u → W.cell? (a.add (i * 3 + j)) = some u := fun i hi => by
      obtain ⟨cs', h1, h2⟩ := hx i (by omega)
      obtain ⟨f, u, hs, hw⟩ := trod_frm h2
      refine ⟨(f, u), hw, fun j y hj => ?_⟩
      obtain ⟨_, hl3, hc⟩ := World.cells?_some h1
      have hj3 : j < 3 := by
        have := (List.getElem?_eq_some_iff.1 hj).1
        simpa using this
      rw [← Go.Deep.add_add, hc j hj3, hs]
      simpa using hj
    obtain ⟨f, hf⟩ := Go.Deep.choose_lt each
    have hll : ((List.range len).map fun i => (f i).1).length = len := by simp
    refine ⟨_, (List.range len).map fun i => (f i).1, rfl, some a, cap, by rw [hll], by rw [hll]; omega, by unfold maxLen at hm; omega, fun k hk => ?_⟩
    rw [hll] at hk
    obtain ⟨b, off, spot⟩ := a
    have hc0 := (hf 0 (by omega)).2 0 _ rfl
    have hspot : spot = none := by simpa [Addr.add] using World.cell?_spot hc0
    subst hspot
    have hel : ((List.range len).map fun i => (f i).1)[k]?.getD Fr.zero = (f k).1 := by
      rw [List.getElem?_map, List.getElem?_range hk]; rfl
    rw [hel]
    have g : ∀ j u, [Value.int .i64 (f k).1.time, .bool (f k).1.key, (f k).2][j]? = some u → W.cell? ⟨b, off + k * 3 + j, none⟩ = some u := fun j u hj => by
      have := (hf k hk).2 j u hj
      rw [Addr.add_lit, ← Nat.add_assoc] at this
      exact this
    exact ⟨b, off, rfl, by simpa [Addr.add] using World.block_lt_of_cell? W _ hc0, trivial, (f k).2, g 0 _ rfl, g 1 _ rfl, g 2 _ rfl, (hf k hk).1⟩

set_option maxRecDepth 100000 in
theorem op_frs (hval : Value.okWide Tryz.prog W r b0 23 v) (h : DataW.Trod enc Tryz.prog W base spare held 23 v d p) :
    ∃ l : List Fr, FrsIn (fun _ => True) W v l := by
  obtain ⟨a, len, cap, rfl⟩ := okWide_slice Tryz.underlying23 hval
  obtain ⟨fuel, hf⟩ := h
  obtain ⟨u, l, eu, hS⟩ := trod_frs hf
  simp [Value.cells] at eu
  subst eu
  exact ⟨l, hS⟩

set_option maxRecDepth 100000 in
theorem op_grp (hval : Value.okWide Tryz.prog W r b0 25 v) (h : DataW.Trod enc Tryz.prog W base spare held 25 v d p) :
    ∃ (u : Value) (l : List Fr), v = .agg #[u] ∧ FrsIn (fun _ => True) W u l := by
  obtain ⟨cs, rfl, _⟩ := okWide_struct Tryz.underlying25 hval
  obtain ⟨fuel, hf⟩ := h
  obtain ⟨xs, n, _, _, hl, hxl, hg⟩ := DataW.trod_struct Tryz.underlying25 hf
  rw [Tryz.cellsGrp] at hl
  obtain ⟨c0, hcs⟩ := list1 hl
  obtain ⟨x0, rfl⟩ := list1 (show xs.length = 1 from hxl)
  rw [hcs] at hg
  have h0 : DataW.trod enc Tryz.prog W base spare held n 23 (([c0].drop 0).take (Tryz.prog.cellsOf 23)) = some x0 := hg 0 _ rfl
  rw [Tryz.cellsFrs] at h0
  obtain ⟨u, l, eu, hS⟩ := trod_frs h0
  simp at eu
  subst eu
  refine ⟨c0, l, ?_, hS⟩
  have : cs = #[c0] := by
    apply Array.ext'
    simpa [Value.cells] using hcs
  rw [this]
end
end Go.Proofs.YtnpaejknoipicafGreat

namespace Go.Proofs.YtnpaejknoipicafGreat
open Go.ChangeShapes Go.WideShapes Go.ChangeAt Go.RowKit

section
variable {H : Type} {enc : TypeId × Value → H} {W : World} {r : Reach} {b0 base : Nat} {spare : Nat → Bool} {held : Bool} {v : Value} {d : DataW H} {p : List MemPlace}

theorem Tryz.cellsGrs : Tryz.prog.cellsOf 22 = 1 := by kernel_rfl
theorem Tryz.cellsStore : Tryz.prog.cellsOf 27 = 3 := by kernel_rfl
theorem Tryz.cellsIntS : Tryz.prog.cellsOf 3 = 1 := by kernel_rfl

set_option maxRecDepth 100000 in
theorem trod_grp {fuel : Nat} {cs : List Value} {x : DataW H × List MemPlace} (h : DataW.trod enc Tryz.prog W base spare held fuel 25 cs = some x) :
    ∃ (u : Value) (l : List Fr), cs = [u] ∧ FrsIn (fun _ => True) W u l := by
  obtain ⟨xs, n, _, _, hl, hxl, hg⟩ := DataW.trod_struct Tryz.underlying25 h
  rw [Tryz.cellsGrp] at hl
  obtain ⟨c0, hcs⟩ := list1 hl
  obtain ⟨x0, rfl⟩ := list1 (show xs.length = 1 from hxl)
  rw [hcs] at hg
  have h0 : DataW.trod enc Tryz.prog W base spare held n 23 (([c0].drop 0).take (Tryz.prog.cellsOf 23)) = some x0 := hg 0 _ rfl
  rw [Tryz.cellsFrs] at h0
  obtain ⟨u, l, eu, hS⟩ := trod_frs h0
  simp at eu
  subst eu
  exact ⟨c0, l, hcs, hS⟩

set_option maxRecDepth 100000 in
theorem trod_grs {fuel : Nat} {cs : List Value} {x : DataW H × List MemPlace} (h : DataW.trod enc Tryz.prog W base spare held fuel 22 cs = some x) :
    ∃ (u : Value) (L : List (List Fr)), cs = [u] ∧ GrsIn (fun _ => True) W u L := by
  rcases Go.Deep.open_slice Tryz.underlying22 h with ⟨rfl, rfl⟩ | ⟨a, len, cap, m, n, D, Pl, rfl, hb, hl, hm, hmm, rfl, hx⟩
  · exact ⟨_, [], rfl, GrsIn.nil _ W⟩
  · have hlm : len ≤ m := by rw [hmm]; split <;> omega
    rw [Tryz.cellsGrp] at hx
    have each : ∀ i, i < len → ∃ q : List Fr × Value, FrsIn (fun _ => True) W q.2 q.1 ∧ W.cell? (a.add i) = some q.2 := fun i hi => by
      obtain ⟨cs', h1, h2⟩ := hx i (by omega)
      obtain ⟨u, l, hs, hw⟩ := trod_grp h2
      refine ⟨(l, u), hw, ?_⟩
      obtain ⟨_, hl1, hc⟩ := World.cells?_some h1
      have := hc 0 (by omega)
      rw [hs, Go.Deep.add_add] at this
      simpa using this
    obtain ⟨f, hf⟩ := Go.Deep.choose_lt each
    have hll : ((List.range len).map fun i => (f i).1).length = len := by simp
    refine ⟨_, (List.range len).map fun i => (f i).1, rfl, some a, cap, by rw [hll], by rw [hll]; omega, by unfold maxLen at hm; omega, fun k hk => ?_⟩
    rw [hll] at hk
    obtain ⟨b, off, spot⟩ := a
    have hc0 := (hf 0 (by omega)).2
    have hspot : spot = none := by simpa [Addr.add] using World.cell?_spot hc0
    subst hspot
    have hel : ((List.range len).map fun i => (f i).1)[k]?.getD [] = (f k).1 := by
      rw [List.getElem?_map, List.getElem?_range hk]; rfl
    rw [hel]
    have g : W.cell? ⟨b, off + k, none⟩ = some (f k).2 := by
      have := (hf k hk).2
      rw [Addr.add_lit] at this
      exact this
    exact ⟨b, off, rfl, by simpa [Addr.add] using World.block_lt_of_cell? W _ hc0, trivial, (f k).2, g, (hf k hk).1⟩

set_option maxRecDepth 100000 in
theorem op_store (hval : Value.okWide Tryz.prog W r b0 27 v) (h : DataW.Trod enc Tryz.prog W base spare held 27 v d p) :
    ∃ (first : Int) (gv ov : Value) (L : List (List Fr)) (O : List Fr), v = .agg #[.int .i64 first, gv, ov] ∧ (Lit.int .i64 first).wf = true ∧ GrsIn (fun _ => True) W gv L ∧ FrsIn (fun _ => True) W ov O := by
  obtain ⟨cs, rfl, _⟩ := okWide_struct Tryz.underlying27 hval
  obtain ⟨fuel, hf⟩ := h
  obtain ⟨xs, n, _, _, hl, hxl, hg⟩ := DataW.trod_struct Tryz.underlying27 hf
  rw [Tryz.cellsStore] at hl
  obtain ⟨c0, c1, c2, hcs⟩ := list3 hl
  obtain ⟨x0, x1, x2, rfl⟩ := list3 (show xs.length = 3 from hxl)
  rw [hcs] at hg
  have h0 : DataW.trod enc Tryz.prog W base spare held n 3 (([c0, c1, c2].drop 0).take (Tryz.prog.cellsOf 3)) = some x0 := hg 0 _ rfl
  have h1 : DataW.trod enc Tryz.prog W base spare held n 22 (([c0, c1, c2].drop 1).take (Tryz.prog.cellsOf 22)) = some x1 := hg 1 _ rfl
  have h2 : DataW.trod enc Tryz.prog W base spare held n 25 (([c0, c1, c2].drop 2).take (Tryz.prog.cellsOf 25)) = some x2 := hg 2 _ rfl
  rw [Tryz.cellsIntS] at h0
  rw [Tryz.cellsGrs] at h1
  rw [Tryz.cellsGrp] at h2
  obtain ⟨a, ea, _, wa⟩ := DataW.trod_int Tryz.underlying3 h0
  obtain ⟨u1, L, eu1, hL⟩ := trod_grs h1
  obtain ⟨u2, O, eu2, hO⟩ := trod_grp h2
  simp at ea eu1 eu2
  subst ea eu1 eu2
  refine ⟨a, c1, c2, L, O, ?_, wa, hL, hO⟩
  have : cs = #[.int .i64 a, c1, c2] := by
    apply Array.ext'
    simpa [Value.cells] using hcs
  rw [this]
end
end Go.Proofs.YtnpaejknoipicafGreat

namespace Go.Proofs.YtnpaejknoipicafGreat
open Go.RowKit

/-- a writer in block B that has put these bytes -/
def Wr (B base : Nat) (w : World) (xs : List UInt8) : Prop := ∃ a c, Blk w B #[.slice a xs.length c] 188 ∧ w.ownsRow base 5 1 (.slice a xs.length c) xs.length (bcells xs)
theorem Wr.alloc {B base : Nat} {w : World} {xs : List UInt8} (h : Wr B base w xs) (o : Obj) : Wr B base (w.alloc o) xs := by
  obtain ⟨a, c, h1, h2⟩ := h
  exact ⟨a, c, h1.alloc o, h2.alloc o⟩
theorem owns_slice {w : World} {base : Nat} {e : TypeId} {size n : Nat} {v : Value} {xs : List Value} (h : w.ownsRow base e size v n xs) : ∃ a c, v = .slice a n c := by
  obtain ⟨_, ⟨rfl, rfl⟩ | ⟨g, cap, cur, rfl, _⟩⟩ := h
  · exact ⟨_, _, rfl⟩
  · exact ⟨_, _, rfl⟩
theorem bcells_one2 (l : List UInt8) : ∀ y ∈ bcells l, y.oneCell' = true := fun y hy => by
  obtain ⟨b, _, rfl⟩ := List.mem_map.1 hy
  rfl

set_option maxHeartbeats 1000000 in
theorem rawPut_any (B base : Nat) (xs ys : List UInt8) (ua : Option Addr) (uc : Nat) (w : World) (hB : B < base) (hb : base ≤ w.heap.size) (hw : Wr B base w xs) (hu : Sl w (.slice ua ys.length uc) ys.length 1 (bcells ys)) (hm : xs.length + ys.length ≤ 1000000) :
    Calls Tryz.prog 163 #[.pointer (some ⟨B, 0, none⟩), .slice ua ys.length uc] w fun r w' => r = .returned (.tuple #[]) ∧ Wr B base w' (xs ++ ys) ∧ But B base w w' := by
  obtain ⟨i0, hi, hz0, hz1, hz2⟩ := info_parts Tryz.infoU8
  obtain ⟨a, c, hblk, hown⟩ := hw
  obtain ⟨v', w1, hr, ho1, hg1, _⟩ := run_append_any (P := Tryz.prog) w base 186 186 5 i0 (.int .u8 0) 1 1 Tryz.underlying186 hi hz0 hz1 hz2 rfl (by decide) _ _ _ hown _ _ _ hu (bcells_one2 _) (by unfold maxLen; omega) (by omega) hb
  have hn : xs.length + ys.length = (xs ++ ys).length := by simp
  rw [hn, ← bcells_append] at ho1
  obtain ⟨va, vc, ev⟩ := owns_slice ho1
  subst ev
  have hblk1 : Blk w1 B #[.slice a xs.length c] 188 := by
    refine (hg1.block B hblk.lt (fun e => ?_)).trans hblk
    have := (hown.lt B e.symm).1
    omega
  have hbe1 : But B base w w1 := .of_below ((Below.refl base w).grown hg1 hb (fun j hj => (hown.lt j hj).1))
  obtain ⟨m, hmm⟩ : ∃ m, m = (xs ++ ys).length := ⟨_, rfl⟩
  have HM : Hid (m = (xs ++ ys).length) := hmm
  rw [← hmm] at ho1 hr
  have HO : Hid (w1.ownsRow base 5 1 (.slice va m vc) m (bcells (xs ++ ys))) := ho1
  have HB1 : Hid (But B base w w1) := hbe1
  have hc := hblk.cell (j := 0) (u := .slice a xs.length c) rfl
  have HK : Hid (Blk w1 B #[.slice a xs.length c] 188) := hblk1
  have hc1 := hblk1.cell (j := 0) (u := .slice a xs.length c) rfl
  have hf1 := hblk1.free 0
  clear hown hblk hg1 ho1 hbe1 hblk1 hmm hn hm hu
  go_enter Tryz.func163, Tryz.ntmps163
  go_wp2_with (at_builtin; refine wpList_append_run rfl (.tmp 8) (.tmp 9) 186 186 rfl _ _ rfl rfl hr ?_)
  go_end0
  refine ⟨rfl, ⟨va, vc, ?_, ?_⟩, HB1.out.set 0 _⟩
  · rw [← HM.out]; exact HK.out.set 0 _
  · rw [← HM.out]
    exact ownsRow_setCell_below HO.out hB _

set_option maxHeartbeats 1000000 in
set_option maxRecDepth 1000000 in
theorem rawNumber_any (B base size : Nat) (xs : List UInt8) (n sz : Int) (w : World) (hsz : sz = (size : Int)) (_hn : 0 ≤ n) (_hn2 : n ≤ 4294967295) (hs : size ≤ 8) (hm : xs.length ≤ 900000) (hB : B < base) (hb : base ≤ w.heap.size) (hw : Wr B base w xs) :
    Calls Tryz.prog 131 #[.pointer (some ⟨B, 0, none⟩), .int .i64 n, .int .i64 sz] w fun r w' => r = .returned (.tuple #[]) ∧ Wr B base w' (xs ++ be n size) ∧ But B base w w' := by
  subst hsz
  go_enter Tryz.func131, Tryz.ntmps131
  go_wp2
  go_loopw [6] (fun i wr => ∃ (k : Nat), k ≤ size ∧ i = .int .i64 ((size : Int) - 1 - k) ∧ Hid (Wr B base wr (xs ++ beK n size k)) ∧ Hid (But B base w wr)) (fun i _ => (intOf i + 1).toNat)
  case atStart => exact ⟨0, Nat.zero_le _, by simp, (by show Wr B base w (xs ++ beK n size 0); rw [show beK n size 0 = [] from rfl, List.append_nil]; exact hw), But.refl _ _ _⟩
  case round =>
    obtain ⟨k, hk, rfl, HW, HB⟩ := hrel
    by_cases hlt : k < size
    · have h1 : 0 ≤ (size : Int) - 1 - k := by omega
      have h2 : (size : Int) - 1 - k ≤ 7 := by omega
      obtain ⟨x, hx⟩ : ∃ x, x = byteU n (size - 1 - k) := ⟨_, rfl⟩
      have hxs := byteU_toNat n (size - 1 - k)
      rw [← hx] at hxs
      have HXS : Hid ((x.toNat : Int) = n / 2 ^ (8 * (size - 1 - k)) % 256) := hxs
      have HX : Hid (x = byteU n (size - 1 - k)) := hx
      clear hx hxs
      go_wp2_with fail
      rw [← HXS.out]
      have hSl := Sl.new wr #[Value.int .u8 x.toNat] 5 1 1 1 rfl
      have hbs := HB.out.size
      refine (rawPut_any B base (xs ++ beK n size k) [x] (some ⟨wr.heap.size, 0, none⟩) 1 _ hB (by simp; omega) (HW.out.alloc _) hSl (by rw [List.length_append, beK_len]; simp; omega)).mono ?_
      rintro r w2 ⟨rfl, W2, B2⟩
      have HB2 : Hid (But B base w w2) := (HB.out.trans (But.of_below ((Below.refl base wr).alloc (by omega) _))).trans B2
      have HW2 : Hid (Wr B base w2 (xs ++ beK n size (k + 1))) := by
        rw [beK_succ, ← List.append_assoc, ← HX.out]; exact W2
      clear hSl W2 B2 HW HB
      go_wp2
      exact ⟨⟨k + 1, by omega, by go_num, HW2, HB2⟩, by simp [intOf]; omega⟩
    · have hkl : k = size := by omega
      subst hkl
      go_wp2
      go_end0
      exact ⟨rfl, HW.out, HB.out⟩

theorem Sl.marked (w : World) (s : ByteArray) (cap : Nat) (t : TypeId) (mk : Nat × Nat) (c : Nat) : Sl ((w.alloc (.cells (bytesRow s cap) t mk)).drew) (.slice (some ⟨w.heap.size, 0, none⟩) s.size c) s.size 1 (bcells s.data.toList) := by
  refine ⟨by rw [bcells_len, Nat.mul_one]; exact Array.length_toList, .inr ⟨w.heap.size, 0, c, rfl, by simp, fun j u hj => ?_⟩⟩
  have h1 := World.cell?_alloc_mark w (bytesRow s cap) t mk j
  rw [Nat.zero_add]
  refine h1.trans ?_
  rw [bcells, List.getElem?_map] at hj
  have hlt : j < s.data.size := by
    cases h : decide (j < s.data.size)
    · simp at h
      rw [List.getElem?_eq_none (by simpa using h)] at hj; cases hj
    · exact of_decide_eq_true h
  unfold bytesRow
  rw [Array.getElem?_append_left (by simpa using hlt), Array.getElem?_map, Array.getElem?_eq_getElem hlt]
  rw [Array.getElem?_toList, Array.getElem?_eq_getElem hlt] at hj
  exact hj

set_option maxHeartbeats 1000000 in
theorem rawText_any (B base : Nat) (xs : List UInt8) (s : ByteArray) (w : World) (hm : xs.length + s.size ≤ 1000000) (hB : B < base) (hb : base ≤ w.heap.size) (hw : Wr B base w xs) :
    Calls Tryz.prog 134 #[.pointer (some ⟨B, 0, none⟩), .string s] w fun r w' => r = .returned (.tuple #[]) ∧ Wr B base w' (xs ++ s.data.toList) ∧ But B base w w' := by
  have hbs := fun (wx : World) (s : ByteArray) => run_bytes_of_string (P := Tryz.prog) wx 9 186 5 s Tryz.underlying9 Tryz.underlying186 Tryz.underlying5
  have HW : Hid (Wr B base w xs) := hw
  clear hw
  go_enter Tryz.func134, Tryz.ntmps134
  go_wp2_with fail
  have hSl := Sl.marked w s (grownCap w s.size 0 5) 5 ((bytesRow s (grownCap w s.size 0 5)).size, (bytesRow s (grownCap w s.size 0 5)).size + 1) (grownCap w s.size 0 5)
  obtain ⟨c, hc⟩ : ∃ c, c = grownCap w s.size 0 5 := ⟨_, rfl⟩
  rw [← hc] at hSl ⊢
  obtain ⟨W1, hW1⟩ : ∃ W1, W1 = (w.alloc (Obj.cells (bytesRow s c) 5 ((bytesRow s c).size, (bytesRow s c).size + 1))).drew := ⟨_, rfl⟩
  rw [← hW1] at hSl ⊢
  have hW : Wr B base W1 xs := by
    obtain ⟨a, c, h1, h2⟩ := HW.out.alloc (Obj.cells (bytesRow s c) 5 ((bytesRow s c).size, (bytesRow s c).size + 1))
    rw [hW1]; exact ⟨a, c, h1.drew, h2.drew⟩
  have hB1 : Below base w W1 := by rw [hW1]; exact ((Below.refl base w).alloc hb _).drew
  have hsz : s.size = s.data.toList.length := Array.length_toList.symm
  rw [hsz] at hSl hm ⊢
  refine (rawPut_any B base xs s.data.toList (some ⟨w.heap.size, 0, none⟩) c W1 hB (Nat.le_trans hb hB1.size) hW hSl hm).mono ?_
  rintro r w2 ⟨rfl, W2, B2⟩
  have HB2 : Hid (But B base w w2) := (But.of_below hB1).trans B2
  have HW2 : Hid (Wr B base w2 (xs ++ s.data.toList)) := W2
  clear hSl hW hB1 W2 B2 hW1 hbs hsz hm
  go_wp2
  go_end0
  exact ⟨rfl, HW2.out, HB2.out⟩

set_option maxHeartbeats 1000000 in
theorem rawAll_any (B base : Nat) (xs : List UInt8) (w : World) (h0 : 0 < xs.length) (hw : Wr B base w xs) :
    Calls Tryz.prog 133 #[.pointer (some ⟨B, 0, none⟩)] w fun r w' => r = .returned (.string (ba xs)) ∧ w = w' := by
  obtain ⟨a, c, hblk, hown⟩ := hw
  have hcv : (convert 186 9 (.slice a xs.length c)).run Tryz.prog w = .ok (.string (ba xs)) w := by
    obtain ⟨_, ⟨h1, _⟩ | ⟨b, off, c', e, _, hc⟩⟩ := Sl.of_owns hown
    · omega
    · rw [e]
      refine run_convert_bytes_back w 186 9 5 ⟨b, off, none⟩ c' xs Tryz.underlying186 Tryz.underlying5 Tryz.underlying9 (fun j hj => ?_)
      rw [Addr.add_lit]
      exact hc j _ (by simp [bcells, List.getElem?_eq_getElem hj])
  have hc := hblk.cell (j := 0) (u := .slice a xs.length c) rfl
  clear hown hblk
  go_enter Tryz.func133, Tryz.ntmps133
  go_wp2
  go_ret
  exact ⟨rfl, rfl⟩

end Go.Proofs.YtnpaejknoipicafGreat

namespace Go.Proofs.YtnpaejknoipicafGreat
open Go.RowKit

/-- the bytes of a packet -/
def Pk.enc (p : Pk) : List UInt8 := be (128 + Pk.flags p.f p.e p.k) 1 ++ be p.seq 2 ++ be p.time 4 ++ be p.t.size 1 ++ p.t.data.toList

theorem Pk.chk_ok {p : Pk} (h : p.chk = 0) : 0 ≤ p.seq ∧ p.seq ≤ 65535 ∧ 0 ≤ p.time ∧ p.time ≤ 1000000 ∧ (p.t.size : Int) ≤ 8 ∧ (p.k && !p.f) = false := by
  unfold Pk.chk at h
  by_cases h1 : p.seq < 0
  · rw [if_pos h1] at h; exact absurd h (by decide)
  rw [if_neg h1] at h
  by_cases h2 : 65535 < p.seq
  · rw [if_pos h2] at h; exact absurd h (by decide)
  rw [if_neg h2] at h
  by_cases h3 : p.time < 0
  · rw [if_pos h3] at h; exact absurd h (by decide)
  rw [if_neg h3] at h
  by_cases h4 : 1000000 < p.time
  · rw [if_pos h4] at h; exact absurd h (by decide)
  rw [if_neg h4] at h
  by_cases h5 : 8 < (p.t.size : Int)
  · rw [if_pos h5] at h; exact absurd h (by decide)
  rw [if_neg h5] at h
  cases h6 : (p.k && !p.f)
  · exact ⟨by omega, by omega, by omega, by omega, by omega, rfl⟩
  · rw [h6] at h; exact absurd h (by decide)

theorem Pk.flags_le (f e k : Bool) : 0 ≤ Pk.flags f e k ∧ Pk.flags f e k ≤ 7 := by cases f <;> cases e <;> cases k <;> decide

/-- 'string(b)', b a row of the call's own -/
theorem convert_own {w : World} {base : Nat} {v : Value} {l : List UInt8} (hown : w.ownsRow base 5 1 v l.length (bcells l)) (hne : 0 < l.length) :
    (convert 186 9 v).run Tryz.prog w = .ok (.string ⟨l.toArray⟩) w := by
  obtain ⟨_, ⟨_, h0⟩ | ⟨b, off, c, rfl, _, hc⟩⟩ := Sl.of_owns hown
  · rename_i h1
    omega
  · refine run_convert_bytes_back w 186 9 5 ⟨b, off, none⟩ c l Tryz.underlying186 Tryz.underlying5 Tryz.underlying9 (fun j hj => ?_)
    rw [Addr.add_lit]
    exact hc j _ (by simp [bcells, List.getElem?_eq_getElem hj])
theorem convert_own2 {w : World} {base : Nat} {v : Value} {l : List UInt8} {t : ByteArray} (hown : w.ownsRow base 5 1 v (l.length + t.size) (bcells l ++ Lib.strCells t)) (hne : l.length = 8) :
    (convert 186 9 v).run Tryz.prog w = .ok (.string ⟨(l ++ t.data.toList).toArray⟩) w := by
  have e1 : (l ++ t.data.toList).length = l.length + t.size := by rw [List.length_append]; rfl
  have e2 : bcells (l ++ t.data.toList) = bcells l ++ Lib.strCells t := by rw [bcells_append]; rfl
  rw [← e1, ← e2] at hown
  exact convert_own hown (by rw [e1]; omega)

end Go.Proofs.YtnpaejknoipicafGreat

namespace Go.Proofs.YtnpaejknoipicafGreat
open Go.RowKit

set_option maxHeartbeats 1000000 in
theorem take_few (B : Nat) (s : ByteArray) (n : Int) (w : World) (hc : w.cell? ⟨B, 0, none⟩ = some (.string s)) (hn : (s.size : Int) < n) :
    Calls Tryz.prog 151 #[.pointer (some ⟨B, 0, none⟩), .int .i64 n] w fun e w' =>
      e = .panicked [{ v := .iface 228 (.agg #[]), recovered := false }] ∧ w = w' := by
  go_enter Tryz.func151, Tryz.ntmps151
  go_wp2
  exact ⟨rfl, rfl, rfl⟩

set_option maxHeartbeats 1000000 in
theorem take_some (B n : Nat) (s : ByteArray) (w : World) (hc : w.cell? ⟨B, 0, none⟩ = some (.string s)) (hf : w.frozen? ⟨B, 0, none⟩ = false) (hn : n ≤ s.size) :
    Calls Tryz.prog 151 #[.pointer (some ⟨B, 0, none⟩), .int .i64 n] w fun e w' =>
      e = .returned (.string (s.extract 0 n)) ∧ w' = w.setCell ⟨B, 0, none⟩ (.string (s.extract n s.size)) := by
  have hn' : ¬ (s.size : Int) < (n : Int) := by omega
  go_enter Tryz.func151, Tryz.ntmps151
  go_wp2
  go_ret
  exact ⟨rfl, rfl⟩

/-- the number of bytes, the greatest first -/
def num (l : List UInt8) : Int := l.foldl (fun a b => a * 256 + b.toNat) 0
theorem num_snoc (l : List UInt8) (b : UInt8) : num (l ++ [b]) = num l * 256 + b.toNat := by simp [num]
theorem num_bd (l : List UInt8) : 0 ≤ num l ∧ num l < 256 ^ l.length := by
  have : ∀ (l : List UInt8) (a : Int) (k : Nat), 0 ≤ a → a < 256 ^ k → 0 ≤ l.foldl (fun a b => a * 256 + (b.toNat : Int)) a ∧ l.foldl (fun a b => a * 256 + (b.toNat : Int)) a < 256 ^ (k + l.length) := by
    intro l
    induction l with
    | nil => intro a k h1 h2; exact ⟨h1, h2⟩
    | cons x r ih =>
      intro a k h1 h2
      have hx : x.toNat < 256 := x.toNat_lt
      have := ih (a * 256 + x.toNat) (k + 1) (by omega) (by rw [Int.pow_succ]; omega)
      rw [List.length_cons, show k + (r.length + 1) = k + 1 + r.length by omega]
      exact this
  have h := this l 0 0 (by decide) (by decide)
  rw [Nat.zero_add] at h
  exact h

theorem wrap_small (n : Int) (h0 : 0 ≤ n) (h1 : n < 2 ^ 40) : IntKind.i64.wrap n = n := by
  rw [IntKind.wrap_i64]; omega
theorem or_byte (a c : Int) (h0 : 0 ≤ a) (h1 : a < 256 ^ 3) (h2 : 0 ≤ c) (h3 : c < 256) : bits .or .i64 (wrap64 (a * 256)) c = a * 256 + c := by
  have e : wrap64 (a * 256) = a * 256 := by unfold wrap64; omega
  rw [e]
  exact bits_join .i64 40 (by decide) wrap_small 8 (a * 256) c (by omega) (by omega) (by omega) h2 (by omega) (by omega)
theorem pow_le3 (k : Nat) (h : k < 4) : (256 : Int) ^ k ≤ 256 ^ 3 := by
  match k, h with
  | 0, _ => decide
  | 1, _ => decide
  | 2, _ => decide
  | 3, _ => decide
theorem u8_snoc (l : List UInt8) (k : Nat) (h : k < l.length) : l.take (k + 1) = l.take k ++ [l[k]?.getD 0] := by
  rw [List.take_add_one, List.getElem?_eq_getElem h]; rfl

set_option maxHeartbeats 1000000 in
theorem number_few (B : Nat) (s : ByteArray) (n : Int) (w : World) (hc : w.cell? ⟨B, 0, none⟩ = some (.string s)) (hn : (s.size : Int) < n) :
    Calls Tryz.prog 152 #[.pointer (some ⟨B, 0, none⟩), .int .i64 n] w fun e w' =>
      e = .panicked [{ v := .iface 228 (.agg #[]), recovered := false }] ∧ w = w' := by
  go_enter Tryz.func152, Tryz.ntmps152
  go_wp2_with (go_at_call 151; refine (take_few B s n _ hc hn).mono ?_; rintro e w' ⟨rfl, rfl⟩)
  exact ⟨rfl, rfl, rfl⟩

theorem bytesRow_at (s : ByteArray) (cap j : Nat) (h : j < s.size) : (bytesRow s cap)[j]? = some (.int .u8 (s.data.toList[j]?.getD 0).toNat) := by
  have h' : j < s.data.size := h
  unfold bytesRow
  rw [Array.getElem?_append_left (by simpa using h'), Array.getElem?_map, Array.getElem?_eq_getElem h', Array.getElem?_toList, Array.getElem?_eq_getElem h']
  rfl

theorem new_marked {w : World} {a : Addr} {v : Value} {s : ByteArray} {cap : Nat} {t : TypeId} {mk : Nat × Nat} (j : Nat) (h : j < s.size) :
    ((w.setCell a v).alloc (.cells (bytesRow s cap) t mk)).drew.cell? ⟨w.heap.size, j, none⟩ = some (.int .u8 (s.data.toList[j]?.getD 0).toNat) := by
  have h1 := World.cell?_alloc_mark (w.setCell a v) (bytesRow s cap) t mk j
  rw [World.size_setCell] at h1
  exact h1.trans (bytesRow_at s cap j h)

theorem extract_len (s : ByteArray) (n : Nat) (h : n ≤ s.size) : (s.extract 0 n).size = n := by
  rw [ByteArray.size_extract]; omega

set_option maxHeartbeats 1000000 in
theorem number_some (B n : Nat) (s : ByteArray) (w : World) (hc : w.cell? ⟨B, 0, none⟩ = some (.string s)) (hf : w.frozen? ⟨B, 0, none⟩ = false) (hn : n ≤ s.size) (h4 : n ≤ 4) :
    Calls Tryz.prog 152 #[.pointer (some ⟨B, 0, none⟩), .int .i64 n] w fun e w' =>
      e = .returned (.int .i64 (num (s.data.toList.take n))) ∧ Below w.heap.size (w.setCell ⟨B, 0, none⟩ (.string (s.extract n s.size))) w' := by
  have hbs := fun (wx : World) (s : ByteArray) => run_bytes_of_string (P := Tryz.prog) wx 9 186 5 s Tryz.underlying9 Tryz.underlying186 Tryz.underlying5
  go_enter Tryz.func152, Tryz.ntmps152
  go_wp2_with (go_at_call 151; refine (take_some B n s _ hc hf hn).mono ?_; rintro e w' ⟨rfl, rfl⟩)
  have hxl := extract_len s n hn
  obtain ⟨l, hl⟩ : ∃ l, l = (s.extract 0 n).data.toList := ⟨_, rfl⟩
  have hll : l.length = n := by rw [hl]; exact hxl
  have HL : Hid (l = (s.extract 0 n).data.toList) := hl
  have HLL : Hid (l.length = n) := hll
  clear hbs
  go_loopw [5, 13] (fun v i wr => ∃ (k : Nat), k ≤ n ∧ i = .int .i64 k ∧ v = .int .i64 (num (l.take k)) ∧ (∀ j, j < n → wr.cell? ⟨w.heap.size, j, none⟩ = some (.int .u8 (l[j]?.getD 0).toNat)) ∧ Below w.heap.size (w.setCell ⟨B, 0, none⟩ (.string (s.extract n s.size))) wr) (fun _ i _ => n - (intOf i).toNat)
  case atStart =>
    refine ⟨0, Nat.zero_le _, rfl, rfl, fun j hj => ?_, ?_⟩
    · rw [HL.out]; exact new_marked j (by rw [hxl]; exact hj)
    · exact (((Below.refl _ _).alloc (by simp) _)).drew
  case round =>
    obtain ⟨k, hk, rfl, rfl, hcl, hnx⟩ := hrel
    by_cases hlt : k < n
    · have hck := hcl k hlt
      have hlt' : (k : Int) < (n : Int) := by omega
      obtain ⟨x, hx⟩ : ∃ x, x = l[k]?.getD 0 := ⟨_, rfl⟩
      rw [← hx] at hck
      have HX : Hid (x = l[k]?.getD 0) := hx
      have hxb : (x.toNat : Int) < 256 := by have := x.toNat_lt; omega
      have hnb := num_bd (l.take k)
      have hnb1 := hnb.1
      have hor : bits .or .i64 (wrap64 (num (l.take k) * 256)) (x.toNat : Int) = num (l.take (k + 1)) := by
        rw [u8_snoc l k (by omega), num_snoc, ← hx]
        refine or_byte _ _ hnb.1 ?_ (by omega) hxb
        have h3 := hnb.2
        rw [List.length_take, Nat.min_eq_left (by omega)] at h3
        have := pow_le3 k (by omega)
        omega
      have HOR : Hid (bits .or .i64 (wrap64 (num (l.take k) * 256)) (x.toNat : Int) = num (l.take (k + 1))) := hor
      have HCL : Hid (∀ j, j < n → wr.cell? ⟨w.heap.size, j, none⟩ = some (.int .u8 (l[j]?.getD 0).toNat)) := hcl
      clear hx hcl hl hll hnb hor
      go_wp2
      exact ⟨⟨k + 1, by omega, by go_num, by rw [HOR.out], HCL.out, hnx⟩, by simp [intOf]; omega⟩
    · have hkn : k = n := by omega
      have hfin : num (l.take k) = num (s.data.toList.take n) := by rw [List.take_of_length_le (by omega), hl]; simp
      have HF : Hid (num (l.take k) = num (s.data.toList.take n)) := hfin
      have hge : ¬ (k : Int) < (n : Int) := by omega
      clear hcl hl hll hfin hkn
      go_wp2
      go_ret
      refine ⟨?_, hnx⟩
      show Ending.returned (.int .i64 (num (l.take k))) = _
      rw [HF.out]

end Go.Proofs.YtnpaejknoipicafGreat

namespace Go.Proofs.YtnpaejknoipicafGreat
open Go.RowKit

/-- n zero bytes, made -/
theorem room_for (n : Nat) (hn : n ≤ 1000) : ∃ M : Array Value, M.size = n ∧ ∀ W : World,
    (Instr.makeSlice 186 (.int .i64 (n : Int)) (.int .i64 (n : Int))).run Tryz.prog W = .ok (.slice (some ⟨W.heap.size, 0, none⟩) n n) (W.alloc (.cells M 5)) := by
  obtain ⟨i, hi, h0, h1, h2⟩ := info_parts Tryz.infoU8
  refine ⟨madeCells (Value.int .u8 0).cells (n * i.size), by rw [size_madeCells, h1]; simp, fun W => ?_⟩
  have h := run_make (P := Tryz.prog) W 186 5 i (.int .u8 0) Tryz.underlying186 hi h0 .i64 .i64 n n (by omega) (Int.le_refl _) (by rw [h2]; omega) (by omega)
  rw [Int.toNat_natCast] at h
  exact h

/-- the bytes of a text, laid over a block of that many cells -/
theorem laid_over (l : List UInt8) (W : World) (b : Nat) (M : Array Value) (hM : M.size = l.length) (hb : Blk W b M 5) :
    (Builtin.copy_ #[186, 9] 3 #[.slice (some ⟨b, 0, none⟩) l.length l.length, .string (ba l)]).run Tryz.prog W = .ok (goInt l.length) (W.setRow b (bcells l).toArray) := by
  obtain ⟨i, hi, _, h1, _⟩ := info_parts Tryz.infoU8
  have h := Lib.run_copy_row_string (P := Tryz.prog) W 186 9 3 5 b 0 l.length l.length (ba l) M 5 Tryz.underlying186 (by rw [hi]; simp [h1]) hb (by rw [ba_size]; exact Nat.le_refl _) (by rw [ba_size]; omega)
  rw [ba_size, ba_data, List.take_zero, List.nil_append, List.drop_eq_nil_of_le (by rw [Array.length_toList]; omega), List.append_nil] at h
  exact h

/-- the text of a block whose cells are bytes -/
theorem read_back (l : List UInt8) (hl : l ≠ []) (hn : l.length ≤ 1000) (W : World) (b : Nat) (hb : Blk W b (bcells l).toArray 5) :
    (Builtin.unsafeString_ #[223, 3] 9 #[.pointer (some ⟨b, 0, none⟩), .int .i64 l.length]).run Tryz.prog W = .ok (.string (ba l)) (W.freeze ⟨b, 0, none⟩ l.length) := by
  refine Lib.run_unsafeString_row (P := Tryz.prog) W 223 3 9 5 Tryz.underlying223 (by kernel_rfl) b (bcells l).toArray.size ?_ l hl (by simp [bcells]) (by omega) (fun j x hj => ?_)
  · have hb' : W.heap[b]? = some (.cells (bcells l).toArray 5 (0, 0)) := hb
    unfold World.shape?
    rw [hb']
  · rw [Addr.add_lit, Nat.zero_add]
    exact hb.cell (by simp [bcells, hj])

theorem setRow_blk {W : World} {b : Nat} {M : Array Value} {t : TypeId} (h : Blk W b M t) (Y : Array Value) : Blk (W.setRow b Y) b Y t := setRow_heap W b M Y t (0, 0) h

set_option maxHeartbeats 2000000 in
set_option maxRecDepth 100000 in
theorem copied (l : List UInt8) (w : World) (hlim : l.length ≤ 1000) :
    Calls Tryz.prog 130 #[.string (ba l)] w fun e w' => e = .returned (.string (ba l)) ∧ Below w.heap.size w w' := by
  by_cases h0 : l = []
  · subst h0
    have hz : (ba []).size = 0 := rfl
    go_enter Tryz.func130, Tryz.ntmps130
    go_wp2
    go_ret
    exact ⟨rfl, Below.refl _ _⟩
  · have hp : 0 < l.length := List.length_pos_iff.2 h0
    have hz := ba_size l
    have hne : ((l.length : Int) == 0) = false := by simp [h0]
    have hlt : (0 : Int) < (l.length : Int) := by omega
    obtain ⟨M, hM, hmk⟩ := room_for l.length hlim
    have bM := Blk.new w M 5
    have hcp := laid_over l _ _ M hM bM
    have bY := setRow_blk bM (bcells l).toArray
    have hus := read_back l h0 hlim _ _ bY
    have hb1 : Below w.heap.size w (w.alloc (.cells M 5)) := (Below.refl _ w).alloc (Nat.le_refl _) _
    have hb2 : Below w.heap.size w ((w.alloc (.cells M 5)).setRow w.heap.size (bcells l).toArray) := hb1.trans ⟨rfl, rfl, rfl, by simp, fun k hk => setRow_other _ _ _ _ (by omega)⟩
    have hb3 := Lib.below_freeze hb2 (p := ⟨w.heap.size, 0, none⟩) (Nat.le_refl _) l.length
    clear hb1 hb2 bM bY h0
    go_enter Tryz.func130, Tryz.ntmps130
    go_wp2
    go_ret
    exact ⟨rfl, hb3⟩

end Go.Proofs.YtnpaejknoipicafGreat

namespace Go.Proofs.YtnpaejknoipicafGreat
open Go.RowKit

/-- what a reader that lacks bytes panics with -/
def few : List PanicEntry := [{ v := .iface 228 (.agg #[]), recovered := false }]

theorem numberL_few (B : Nat) (l : List UInt8) (n : Int) (w : World) (hb : Blk w B #[.string (ba l)] 231) (hn : (l.length : Int) < n) :
    Calls Tryz.prog 152 #[.pointer (some ⟨B, 0, none⟩), .int .i64 n] w fun e w' => e = .panicked few ∧ w = w' :=
  number_few B (ba l) n w (hb.cell rfl) (by rw [ba_size]; exact hn)

theorem numberL_some (B : Nat) (n : Nat) (ni m : Int) (l r : List UInt8) (w : World) (hm : m = num (l.take n)) (hr : r = l.drop n) (hni : ni = (n : Int)) (hb : Blk w B #[.string (ba l)] 231) (hn : n ≤ l.length) (h4 : n ≤ 4) :
    Calls Tryz.prog 152 #[.pointer (some ⟨B, 0, none⟩), .int .i64 ni] w fun e w' =>
      e = .returned (.int .i64 m) ∧ Blk w' B #[.string (ba r)] 231 ∧ Kept [B] w w' := by
  subst hni hm hr
  refine (number_some B n (ba l) w (hb.cell rfl) (hb.free 0) (by rw [ba_size]; exact hn) h4).mono ?_
  rintro e w' ⟨rfl, hbel⟩
  rw [ba_data, ba_drop] at *
  have h1 : Blk (w.setCell ⟨B, 0, none⟩ (.string (ba (l.drop n)))) B #[.string (ba (l.drop n))] 231 := hb.set 0 _
  exact ⟨rfl, h1.below hbel hb.lt, ((Kept.refl [B] w).setCell (p := ⟨B, 0, none⟩) (by simp) _).below (by rw [World.size_setCell]; exact hbel)⟩

set_option maxHeartbeats 1000000 in
theorem strClone_any (l : List UInt8) (w : World) (hlim : l.length ≤ 1000) :
    Calls Tryz.prog 88 #[.string (ba l)] w fun e w' => e = .returned (.string (ba l)) ∧ Below w.heap.size w w' := by
  go_enter Tryz.func88, Tryz.ntmps88
  go_wp2_with (go_at_call 130; refine (copied l _ hlim).mono ?_; rintro e w' ⟨rfl, hb⟩)
  go_ret
  exact ⟨rfl, hb⟩

set_option maxHeartbeats 1000000 in
theorem textL_few (B : Nat) (l : List UInt8) (n : Int) (w : World) (hb : Blk w B #[.string (ba l)] 231) (hn : (l.length : Int) < n) :
    Calls Tryz.prog 156 #[.pointer (some ⟨B, 0, none⟩), .int .i64 n] w fun e w' => e = .panicked few ∧ w = w' := by
  have hc := hb.cell (j := 0) (u := .string (ba l)) rfl
  have hn' : ((ba l).size : Int) < n := by rw [ba_size]; exact hn
  go_enter Tryz.func156, Tryz.ntmps156
  go_wp2_with (go_at_call 151; refine (take_few B (ba l) n _ hc hn').mono ?_; rintro e w' ⟨rfl, rfl⟩)
  exact ⟨rfl, rfl, rfl⟩

set_option maxHeartbeats 1000000 in
theorem textL_some (B : Nat) (n : Nat) (x : ByteArray) (l r : List UInt8) (w : World) (hx : x = ba (l.take n)) (hr : r = l.drop n) (hb : Blk w B #[.string (ba l)] 231) (hn : n ≤ l.length) (h4 : n ≤ 255) :
    Calls Tryz.prog 156 #[.pointer (some ⟨B, 0, none⟩), .int .i64 n] w fun e w' =>
      e = .returned (.string x) ∧ Blk w' B #[.string (ba r)] 231 ∧ Kept [B] w w' := by
  subst hx hr
  have hc := hb.cell (j := 0) (u := .string (ba l)) rfl
  have hf := hb.free 0
  have ht : ∀ w : World, w.cell? ⟨B, 0, none⟩ = some (.string (ba l)) → w.frozen? ⟨B, 0, none⟩ = false → Calls Tryz.prog 151 #[.pointer (some ⟨B, 0, none⟩), .int .i64 n] w fun e w' =>
      e = .returned (.string (ba (l.take n))) ∧ w' = w.setCell ⟨B, 0, none⟩ (.string (ba (l.drop n))) := by
    intro w h1 h2
    have := take_some B n (ba l) w h1 h2 (by rw [ba_size]; exact hn)
    rw [ba_take, ba_drop] at this
    exact this
  have HT := @id (Hid _) ht
  clear ht
  have hsz : (l.take n).length ≤ 1000 := by rw [List.length_take]; omega
  have h1 : Blk (w.setCell ⟨B, 0, none⟩ (.string (ba (l.drop n)))) B #[.string (ba (l.drop n))] 231 := hb.set 0 _
  have hk : Kept [B] w (w.setCell ⟨B, 0, none⟩ (.string (ba (l.drop n)))) := (Kept.refl [B] w).setCell (p := ⟨B, 0, none⟩) (by simp) _
  go_enter Tryz.func156, Tryz.ntmps156
  go_wp2_with (first
    | (go_at_call 151; refine (HT.out _ hc hf).mono ?_; rintro e w' ⟨rfl, rfl⟩)
    | (go_at_call 88; refine (strClone_any _ _ hsz).mono ?_; rintro e w2 ⟨rfl, hb2⟩))
  go_ret
  exact ⟨rfl, h1.below hb2 h1.lt, hk.below hb2⟩

end Go.Proofs.YtnpaejknoipicafGreat

namespace Go.Proofs.YtnpaejknoipicafGreat
open Go.ChangeShapes Go.WideShapes Go.ChangeAt Go.RowKit
open Go.ChangeMaps (open_string shut_string)

section
variable {H : Type} {enc : TypeId × Value → H} {W : World} {r : Reach} {b0 base : Nat} {spare : Nat → Bool} {held : Bool} {v : Value} {d : DataW H} {p : List MemPlace}

theorem op_str {P : Program} {t : TypeId} (ht : P.underlying t = some .string) (hval : Value.okWide P W r b0 t v) (h : DataW.Trod enc P W 0 (fun _ => true) true t v d p) :
    ∃ l : List UInt8, v = .string (ba l) ∧ l.length ≤ maxLen := by
  obtain ⟨s, rfl, _, _, hs⟩ := open_string ht hval h
  exact ⟨s.data.toList, by rw [ba_of], hs⟩

theorem list6 {α : Type} {l : List α} (h : l.length = 6) : ∃ c0 c1 c2 c3 c4 c5, l = [c0, c1, c2, c3, c4, c5] := by
  match l, h with
  | [c0, c1, c2, c3, c4, c5], _ => exact ⟨c0, c1, c2, c3, c4, c5, rfl⟩

theorem Tryz.cellsPkt : Tryz.prog.cellsOf 89 = 6 := by kernel_rfl
theorem Tryz.cellsInt : Tryz.prog.cellsOf 3 = 1 := by kernel_rfl
theorem Tryz.cellsBool : Tryz.prog.cellsOf 4 = 1 := by kernel_rfl
theorem Tryz.cellsStr : Tryz.prog.cellsOf 9 = 1 := by kernel_rfl

/-- the fields of a packet within what an input can be -/
def Pk.fits (p : Pk) : Prop := (Lit.int .i64 p.seq).wf = true ∧ (Lit.int .i64 p.time).wf = true ∧ p.t.size ≤ maxLen

theorem trod_pkt {fuel : Nat} {cs : List Value} {x : DataW H × List MemPlace} (h : DataW.trod enc Tryz.prog W base spare held fuel 89 cs = some x) :
    ∃ p : Pk, cs = p.cells.toList ∧ p.fits := by
  obtain ⟨xs, n, _, _, hl, hxl, hf⟩ := DataW.trod_struct Tryz.underlying89 h
  rw [Tryz.cellsPkt] at hl
  obtain ⟨c0, c1, c2, c3, c4, c5, rfl⟩ := list6 hl
  obtain ⟨x0, x1, x2, x3, x4, x5, rfl⟩ := list6 (show xs.length = 6 from hxl)
  have h0 : DataW.trod enc Tryz.prog W base spare held n 3 (([c0, c1, c2, c3, c4, c5].drop 0).take (Tryz.prog.cellsOf 3)) = some x0 := hf 0 _ rfl
  have h1 : DataW.trod enc Tryz.prog W base spare held n 3 (([c0, c1, c2, c3, c4, c5].drop 1).take (Tryz.prog.cellsOf 3)) = some x1 := hf 1 _ rfl
  have h2 : DataW.trod enc Tryz.prog W base spare held n 4 (([c0, c1, c2, c3, c4, c5].drop 2).take (Tryz.prog.cellsOf 4)) = some x2 := hf 2 _ rfl
  have h3 : DataW.trod enc Tryz.prog W base spare held n 4 (([c0, c1, c2, c3, c4, c5].drop 3).take (Tryz.prog.cellsOf 4)) = some x3 := hf 3 _ rfl
  have h4 : DataW.trod enc Tryz.prog W base spare held n 4 (([c0, c1, c2, c3, c4, c5].drop 4).take (Tryz.prog.cellsOf 4)) = some x4 := hf 4 _ rfl
  have h5 : DataW.trod enc Tryz.prog W base spare held n 9 (([c0, c1, c2, c3, c4, c5].drop 5).take (Tryz.prog.cellsOf 9)) = some x5 := hf 5 _ rfl
  rw [Tryz.cellsInt] at h0 h1
  rw [Tryz.cellsBool] at h2 h3 h4
  rw [Tryz.cellsStr] at h5
  obtain ⟨a0, e0, _, w0⟩ := DataW.trod_int Tryz.underlying3 h0
  obtain ⟨a1, e1, _, w1⟩ := DataW.trod_int Tryz.underlying3 h1
  obtain ⟨a2, e2, _⟩ := DataW.trod_bool Tryz.underlying4 h2
  obtain ⟨a3, e3, _⟩ := DataW.trod_bool Tryz.underlying4 h3
  obtain ⟨a4, e4, _⟩ := DataW.trod_bool Tryz.underlying4 h4
  obtain ⟨a5, e5, _, w5⟩ := DataW.trod_string Tryz.underlying9 h5
  simp at e0 e1 e2 e3 e4 e5
  subst e0 e1 e2 e3 e4 e5
  exact ⟨⟨a0, a1, a2, a3, a4, a5⟩, rfl, w0, w1, w5⟩

set_option maxRecDepth 100000 in
theorem op_pkt (hval : Value.okWide Tryz.prog W r b0 89 v) (h : DataW.Trod enc Tryz.prog W base spare held 89 v d p) :
    ∃ p : Pk, v = p.val ∧ p.fits := by
  obtain ⟨cs, rfl, _⟩ := okWide_struct Tryz.underlying89 hval
  obtain ⟨fuel, hf⟩ := h
  obtain ⟨p, hp, hw⟩ := trod_pkt hf
  refine ⟨p, ?_, hw⟩
  have : cs = p.cells := by
    apply Array.ext'
    simpa [Value.cells] using hp
  rw [this]
  rfl
end

end Go.Proofs.YtnpaejknoipicafGreat

namespace Go.Proofs.YtnpaejknoipicafGreat

theorem upB_mono {a b : Int} {l : List Sk} (h : upB b l = true) (hab : a ≤ b) : upB a l = true := by
  cases l with
  | nil => rfl
  | cons x r => simp only [upB, Bool.and_eq_true, decide_eq_true_eq] at h ⊢; exact ⟨by omega, h.2⟩
theorem upB_all {a : Int} {l : List Sk} (h : upB a l = true) : ∀ x ∈ l, a < x.n := by
  induction l generalizing a with
  | nil => simp
  | cons y r ih =>
    simp only [upB, Bool.and_eq_true, decide_eq_true_eq] at h
    intro x hx
    rcases List.mem_cons.1 hx with rfl | hx
    · exact h.1
    · have := ih h.2 x hx; omega
theorem upB_append {a : Int} {l m : List Sk} (h : upB a (l ++ m) = true) : upB a l = true ∧ ∀ x ∈ l, ∀ y ∈ m, x.n < y.n := by
  induction l generalizing a with
  | nil => exact ⟨rfl, by simp⟩
  | cons z r ih =>
    simp only [List.cons_append, upB, Bool.and_eq_true, decide_eq_true_eq] at h ⊢
    obtain ⟨h1, h2⟩ := h
    obtain ⟨i1, i2⟩ := ih h2
    refine ⟨⟨h1, i1⟩, fun x hx y hy => ?_⟩
    rcases List.mem_cons.1 hx with rfl | hx
    · exact upB_all h2 y (by simp [hy])
    · exact i2 x hx y hy

/-- what released leaves of slots that rise -/
theorem rel_inv (most : Nat) : ∀ (h : List Sk) (next : Int) (o : List Sk), upB (next - 1) h = true →
    ∃ p, h = p ++ (relF most next h o).2.1 ∧ (relF most next h o).2.2 = o ++ p ∧ (∀ x ∈ p, x.n < (relF most next h o).1) ∧ next ≤ (relF most next h o).1 ∧ upB (relF most next h o).1 (relF most next h o).2.1 = true ∧
      (relF most next h o).2.1.length ≤ most ∧ ((relF most next h o).1 = next ∨ ∃ x ∈ p, (relF most next h o).1 = x.n + 1)
  | [], next, o, _ => ⟨[], by simp [relF, upB]⟩
  | x :: r, next, o, hu => by
    simp only [upB, Bool.and_eq_true, decide_eq_true_eq] at hu
    obtain ⟨h1, h2⟩ := hu
    by_cases hx : x.n = next
    · have e : relF most next (x :: r) o = relF most (next + 1) r (o ++ [x]) := by simp [relF, hx]
      rw [e]
      obtain ⟨p, i1, i2, i3, i4, i5, i6, i7⟩ := rel_inv most r (next + 1) (o ++ [x]) (upB_mono h2 (by omega))
      refine ⟨x :: p, by rw [List.cons_append, ← i1], by rw [i2]; simp, fun y hy => ?_, by omega, i5, i6, .inr ?_⟩
      · rcases List.mem_cons.1 hy with rfl | hy
        · omega
        · exact i3 y hy
      · rcases i7 with i7 | ⟨y, hy, i7⟩
        · exact ⟨x, by simp, by omega⟩
        · exact ⟨y, by simp [hy], i7⟩
    · by_cases hm : r.length + 1 ≤ most
      · have e : relF most next (x :: r) o = (next, x :: r, o) := by simp [relF, hx, hm]
        rw [e]
        refine ⟨[], by simp, by simp, by simp, Int.le_refl _, ?_, by simpa using hm, .inl rfl⟩
        simp only [upB, Bool.and_eq_true, decide_eq_true_eq]
        exact ⟨by omega, h2⟩
      · have e : relF most next (x :: r) o = relF most (x.n + 1) r (o ++ [x]) := by simp [relF, hx, hm]
        rw [e]
        obtain ⟨p, i1, i2, i3, i4, i5, i6, i7⟩ := rel_inv most r (x.n + 1) (o ++ [x]) (upB_mono h2 (by omega))
        refine ⟨x :: p, by rw [List.cons_append, ← i1], by rw [i2]; simp, fun y hy => ?_, by omega, i5, i6, .inr ?_⟩
        · rcases List.mem_cons.1 hy with rfl | hy
          · omega
          · exact i3 y hy
        · rcases i7 with i7 | ⟨y, hy, i7⟩
          · exact ⟨x, by simp, by omega⟩
          · exact ⟨y, by simp [hy], i7⟩

theorem place_nil (x : Sk) : place [] x = 0 := rfl
theorem place_cons (y : Sk) (r : List Sk) (x : Sk) : place (y :: r) x = if x.n < y.n then 0 else place r x + 1 := by
  unfold place
  rw [List.findIdx?_cons]
  by_cases h : x.n < y.n
  · simp [h]
  · simp only [h, decide_false]
    cases r.findIdx? fun y => decide (x.n < y.n) <;> simp
theorem insF_nil (x : Sk) : insF [] x = [x] := rfl
theorem insF_cons (y : Sk) (r : List Sk) (x : Sk) : insF (y :: r) x = if x.n < y.n then x :: y :: r else y :: insF r x := by
  unfold insF putAt
  rw [place_cons]
  by_cases h : x.n < y.n
  · simp [h]
  · simp [h]
/-- a slot put in where it belongs: they rise still -/
theorem up_ins (x : Sk) : ∀ (h : List Sk) (a : Int), upB a h = true → a < x.n → (∀ y ∈ h, ¬ y.n = x.n) → upB a (insF h x) = true
  | [], a, _, hx, _ => by simp [insF_nil, upB, hx]
  | y :: r, a, hu, hx, hne => by
    simp only [upB, Bool.and_eq_true, decide_eq_true_eq] at hu
    rw [insF_cons]
    by_cases h : x.n < y.n
    · rw [if_pos h]
      simp only [upB, Bool.and_eq_true, decide_eq_true_eq]
      exact ⟨hx, h, hu.2⟩
    · rw [if_neg h]
      simp only [upB, Bool.and_eq_true, decide_eq_true_eq]
      have := hne y (by simp)
      exact ⟨hu.1, up_ins x r y.n hu.2 (by omega) (fun z hz => hne z (by simp [hz]))⟩
theorem mem_ins {h : List Sk} {x y : Sk} : y ∈ insF h x ↔ y = x ∨ y ∈ h := by
  induction h with
  | nil => simp [insF_nil]
  | cons z r ih =>
    rw [insF_cons]
    by_cases hh : x.n < z.n
    · rw [if_pos hh]; simp
    · rw [if_neg hh]
      simp only [List.mem_cons, ih]
      constructor
      · rintro (h | h | h) <;> simp [h]
      · rintro (h | h | h) <;> simp [h]

/-- what Put does to a buffer that is right -/
theorem put_inv {next : Int} {l : List Sk} {x : Sk} (hR : Right next l) (hx : x.chk = 0) :
    Right (putF next l x).1 (putF next l x).2.1 ∧ next ≤ (putF next l x).1 ∧ (∀ y ∈ (putF next l x).2.2, (y = x ∨ y ∈ l) ∧ next ≤ y.n ∧ y.n < (putF next l x).1) ∧ upB (next - 1) (putF next l x).2.2 = true ∧ (∀ y ∈ (putF next l x).2.1, y = x ∨ y ∈ l) ∧
      (x.n < (putF next l x).1 ∨ ∃ y ∈ (putF next l x).2.1, y.n = x.n) ∧ ¬ (putF next l x).1 = 0 := by
  obtain ⟨r1, r2, r3, r4⟩ := hR
  have hxn := Sk.chk_zero hx
  unfold putF
  by_cases h0 : next = 0
  · have hl : l = [] := by rcases r1 with ⟨_, h⟩ | h; exact h; omega
    subst hl
    simp only [h0, if_true]
    rw [if_neg (by omega)]
    simp only [List.any_nil, Bool.false_eq_true, if_false, insF_nil]
    have e : relF 4 x.n [x] [] = (x.n + 1, [], [x]) := by simp [relF]
    rw [e]
    refine ⟨⟨.inr (by omega), by simp, by simp, rfl⟩, by omega, ?_, ?_, by simp, .inl (by simp; omega), by simp; omega⟩
    · intro y hy; simp at hy; subst hy; exact ⟨.inl rfl, by omega, by omega⟩
    · simp [upB]; omega
  · have hb : 65536 ≤ next ∧ next ≤ 1000000001 := by rcases r1 with ⟨h, _⟩ | h; omega; exact h
    simp only [if_neg h0]
    by_cases h1 : x.n < next
    · rw [if_pos h1]
      exact ⟨⟨.inr hb, r2, r3, r4⟩, Int.le_refl _, by simp, rfl, fun y hy => .inr hy, .inl h1, h0⟩
    · rw [if_neg h1]
      by_cases h2 : (l.any fun y => y.n == x.n) = true
      · rw [if_pos h2]
        refine ⟨⟨.inr hb, r2, r3, r4⟩, Int.le_refl _, by simp, rfl, fun y hy => .inr hy, ?_, h0⟩
        obtain ⟨y, hy, e⟩ := List.any_eq_true.1 h2
        exact .inr ⟨y, hy, by simpa using e⟩
      · rw [if_neg h2]
        have hne : ∀ y ∈ l, ¬ y.n = x.n := fun y hy e => h2 (List.any_eq_true.2 ⟨y, hy, by simp [e]⟩)
        have hup : upB (next - 1) (insF l x) = true := up_ins x l (next - 1) (upB_mono r4 (by omega)) (by omega) hne
        obtain ⟨p, i1, i2, i3, i4, i5, i6, i7⟩ := rel_inv 4 (insF l x) next [] hup
        have hmem : ∀ y ∈ insF l x, y = x ∨ y ∈ l := fun y hy => mem_ins.1 hy
        have hchk : ∀ y ∈ insF l x, y.chk = 0 := fun y hy => by rcases hmem y hy with rfl | h; exact hx; exact r3 y h
        have hpm : ∀ y ∈ p, y ∈ insF l x := fun y hy => by rw [i1]; simp [hy]
        have hqm : ∀ y ∈ (relF 4 next (insF l x) []).2.1, y ∈ insF l x := fun y hy => by rw [i1]; simp [hy]
        rw [i2, List.nil_append]
        refine ⟨⟨.inr ⟨by omega, ?_⟩, i6, fun y hy => hchk y (hqm y hy), i5⟩, i4, fun y hy => ⟨hmem y (hpm y hy), ?_, i3 y hy⟩, ?_, fun y hy => hmem y (hqm y hy), ?_, by omega⟩
        · rcases i7 with i7 | ⟨y, hy, i7⟩
          · omega
          · have := Sk.chk_zero (hchk y (hpm y hy)); omega
        · have := upB_all hup y (hpm y hy); omega
        · rw [i1] at hup; exact (upB_append hup).1
        · have hxi : x ∈ insF l x := mem_ins.2 (.inl rfl)
          rw [i1] at hxi
          rcases List.mem_append.1 hxi with h | h
          · exact .inl (i3 x h)
          · exact .inr ⟨x, h, rfl⟩

/-- what came, comes again without a trace -/
theorem put_again {next : Int} {l : List Sk} {x : Sk} (h0 : ¬ next = 0) (h : x.n < next ∨ ∃ y ∈ l, y.n = x.n) : putF next l x = (next, l, []) := by
  unfold putF
  simp only [if_neg h0]
  by_cases h1 : x.n < next
  · rw [if_pos h1]
  · rw [if_neg h1, if_pos]
    rcases h with h | ⟨y, hy, e⟩
    · exact absurd h h1
    · exact List.any_eq_true.2 ⟨y, hy, by simp [e]⟩
/-- what Flush does to a buffer that is right -/
theorem flush_inv {next : Int} {l : List Sk} (hR : Right next l) :
    Right (relF 0 next l []).1 (relF 0 next l []).2.1 ∧ next ≤ (relF 0 next l []).1 ∧ (∀ y ∈ (relF 0 next l []).2.2, y ∈ l ∧ next ≤ y.n ∧ y.n < (relF 0 next l []).1) ∧ upB (next - 1) (relF 0 next l []).2.2 = true ∧ (relF 0 next l []).2.1 = [] := by
  obtain ⟨r1, r2, r3, r4⟩ := hR
  obtain ⟨p, i1, i2, i3, i4, i5, i6, i7⟩ := rel_inv 0 l next [] (upB_mono r4 (by omega))
  have hnil : (relF 0 next l []).2.1 = [] := List.eq_nil_of_length_eq_zero (by omega)
  rw [i2, List.nil_append, hnil]
  rw [hnil, List.append_nil] at i1
  subst i1
  refine ⟨⟨?_, by simp, by simp, rfl⟩, i4, fun y hy => ⟨hy, by have := upB_all r4 y hy; omega, i3 y hy⟩, upB_mono r4 (by omega), rfl⟩
  rcases i7 with i7 | ⟨y, hy, i7⟩
  · rw [i7]
    rcases r1 with ⟨h, _⟩ | h
    · exact .inl ⟨h, rfl⟩
    · exact .inr h
  · have := Sk.chk_zero (r3 y hy)
    exact .inr (by omega)

end Go.Proofs.YtnpaejknoipicafGreat

namespace Go.Proofs.YtnpaejknoipicafGreat

abbrev frAt (l : List Fr) (k : Nat) : Fr := l[k]?.getD Fr.zero
def Fr.chk (f : Fr) : Int := chkF f.time f.parts
/-- does the frame at a place begin, or go on with, a group? -/
def inPl (l : List Fr) (k : Nat) : Bool := if k = 0 then (frAt l k).key else !(frAt l k).key && decide ((frAt l (k - 1)).time ≤ (frAt l k).time)
def gerr (l : List Fr) (k : Nat) : Int := if (frAt l k).chk = 0 then (if inPl l k then 0 else 4) else (frAt l k).chk
/-- what Check says of a group -/
def gchk (l : List Fr) : Int := if l.length = 0 then 5 else if 6 < l.length then 2 else goN (gerr l) l.length 0
/-- bytes of texts, of a group -/
def szP (l : List ByteArray) : Nat := (l.map ByteArray.size).sum
def szG (l : List Fr) : Nat := (l.map fun f => szP f.parts).sum
def gsize (l : List Fr) : Nat := if gchk l = 0 then szG l else 0

theorem gerr_zero {l : List Fr} {k : Nat} : gerr l k = 0 ↔ (frAt l k).chk = 0 ∧ inPl l k = true := by
  unfold gerr
  by_cases h : (frAt l k).chk = 0
  · rw [if_pos h]
    cases inPl l k <;> simp [h]
  · rw [if_neg h]; simp [h]
theorem gchk_zero {l : List Fr} : gchk l = 0 ↔ 0 < l.length ∧ l.length ≤ 6 ∧ ∀ k, k < l.length → (frAt l k).chk = 0 ∧ inPl l k = true := by
  unfold gchk
  by_cases h0 : l.length = 0
  · rw [if_pos h0]; constructor
    · intro h; cases h
    · intro h; omega
  · rw [if_neg h0]
    by_cases h6 : 6 < l.length
    · rw [if_pos h6]; constructor
      · intro h; cases h
      · intro h; omega
    · rw [if_neg h6]
      constructor
      · intro h
        exact ⟨by omega, by omega, fun k hk => gerr_zero.1 (goN_zero _ _ h k (Nat.zero_le _) (by omega))⟩
      · rintro ⟨_, _, h⟩
        exact goN_all _ _ (fun j _ hj => gerr_zero.2 (h j (by omega)))
theorem chkF_zero {t : Int} {l : List ByteArray} (h : chkF t l = 0) : 0 ≤ t ∧ t ≤ 1000000 ∧ 0 < l.length ∧ l.length ≤ 4 ∧ ∀ s ∈ l, s.size ≤ 8 := by
  unfold chkF at h
  by_cases h1 : t < 0 ∨ 1000000 < t
  · rw [if_pos h1] at h; cases h
  rw [if_neg h1] at h
  by_cases h2 : l.length = 0
  · rw [if_pos h2] at h; cases h
  rw [if_neg h2] at h
  by_cases h3 : 4 < l.length
  · rw [if_pos h3] at h; cases h
  rw [if_neg h3] at h
  cases h4 : l.any longB
  · refine ⟨by omega, by omega, by omega, by omega, fun s hs => ?_⟩
    have := List.any_eq_false.1 h4 s hs
    simp [longB] at this; omega
  · rw [h4] at h; simp at h
theorem szP_le {l : List ByteArray} (h : ∀ s ∈ l, s.size ≤ 8) : szP l ≤ l.length * 8 := by
  induction l with
  | nil => simp [szP]
  | cons s r ih =>
    have h1 := h s List.mem_cons_self
    have h2 := ih (fun t ht => h t (List.mem_cons_of_mem _ ht))
    simp [szP] at h2 ⊢; omega
theorem szP_take (l : List ByteArray) (k : Nat) (hk : k < l.length) : szP (l.take (k + 1)) = szP (l.take k) + (l[k]?.getD ByteArray.empty).size := by
  unfold szP
  rw [take_one hk ByteArray.empty, List.map_append, List.sum_append]; simp
theorem szG_take (l : List Fr) (k : Nat) (hk : k < l.length) : szG (l.take (k + 1)) = szG (l.take k) + szP (frAt l k).parts := by
  unfold szG
  rw [take_one hk Fr.zero, List.map_append, List.sum_append]; simp
theorem szG_le {l : List Fr} (h : ∀ k, k < l.length → szP (frAt l k).parts ≤ 32) : ∀ n, n ≤ l.length → szG (l.take n) ≤ n * 32
  | 0, _ => by simp [szG]
  | n + 1, hn => by
    rw [szG_take l n (by omega)]
    have := szG_le h n (by omega)
    have := h n (by omega)
    omega
theorem fr_szP {f : Fr} (h : f.chk = 0) : szP f.parts ≤ 32 := by
  obtain ⟨_, _, _, h4, h5⟩ := chkF_zero h
  have := szP_le h5
  omega

/-- the open group behind a frame -/
def growG (g : List Fr) (f : Fr) : List Fr := if f.key then [f] else if g.length = 0 ∨ 6 ≤ g.length ∨ f.time < (frAt g (g.length - 1)).time then g else g ++ [f]
def stepG (s : List (List Fr) × List Fr) (f : Fr) : List (List Fr) × List Fr := (if f.key && decide (0 < s.2.length) then s.1 ++ [s.2] else s.1, growG s.2 f)
def upG (l : List Fr) (k : Nat) : List (List Fr) × List Fr := (l.take k).foldl stepG ([], [])
def groupsE (l : List Fr) : Int := if 100 < l.length then 2 else goN (fun k => (frAt l k).chk) l.length 0
def groupsR (l : List Fr) : List (List Fr) × List Fr := if groupsE l = 0 then upG l l.length else ([], [])
theorem upG_succ (l : List Fr) (k : Nat) (hk : k < l.length) : upG l (k + 1) = stepG (upG l k) (frAt l k) := by
  unfold upG
  rw [take_one hk Fr.zero, List.foldl_append]
  rfl
theorem growG_len (g : List Fr) (f : Fr) (h : g.length ≤ 6) : (growG g f).length ≤ 6 := by
  unfold growG
  split
  · simp
  · split
    · exact h
    · simp; omega
theorem upG_len (l : List Fr) : ∀ k, k ≤ l.length → (upG l k).2.length ≤ 6 ∧ (upG l k).1.length ≤ k
  | 0, _ => by simp [upG]
  | k + 1, hk => by
    obtain ⟨h1, h2⟩ := upG_len l k (by omega)
    rw [upG_succ l k (by omega)]
    refine ⟨growG_len _ _ h1, ?_⟩
    simp only [stepG]
    split
    · simp; omega
    · omega
/-- two groups' frames: the same? -/
def sameGs (L M : List (List Fr)) : Bool := decide (L = M)
theorem sameGs_len {l m : List (List Fr)} (h : ¬ l.length = m.length) : sameGs l m = false := decide_eq_false fun e => h (by rw [e])
theorem sameGs_at {l m : List (List Fr)} {k : Nat} (hx : ¬ (l[k]?.getD []) = (m[k]?.getD [])) : sameGs l m = false := decide_eq_false fun e => hx (by rw [e])
theorem sameGs_ext {l m : List (List Fr)} (hl : l.length = m.length) (h : ∀ k, k < l.length → (l[k]?.getD []) = (m[k]?.getD [])) : sameGs l m = true := by
  refine decide_eq_true (List.ext_getElem hl fun k h1 h2 => ?_)
  have := h k h1
  rw [List.getElem?_eq_getElem h1, List.getElem?_eq_getElem h2] at this
  exact this

end Go.Proofs.YtnpaejknoipicafGreat

namespace Go.Proofs.YtnpaejknoipicafGreat

theorem stepG_out (A : List (List Fr)) (o : List Fr) (f : Fr) : stepG (A, o) f = (A ++ (stepG ([], o) f).1, (stepG ([], o) f).2) := by
  unfold stepG
  simp only
  split <;> simp
def foldG (o : List Fr) (l : List Fr) : List (List Fr) × List Fr := l.foldl stepG ([], o)
theorem foldG_out : ∀ (l : List Fr) (A : List (List Fr)) (o : List Fr), l.foldl stepG (A, o) = (A ++ (foldG o l).1, (foldG o l).2)
  | [], A, o => by simp [foldG]
  | f :: r, A, o => by
    have e : foldG o (f :: r) = r.foldl stepG ((stepG ([], o) f).1, (stepG ([], o) f).2) := rfl
    rw [e, foldG_out r, List.foldl_cons, stepG_out, foldG_out r]
    simp
theorem groupsE_zero {l : List Fr} : groupsE l = 0 ↔ l.length ≤ 100 ∧ ∀ k, k < l.length → (frAt l k).chk = 0 := by
  unfold groupsE
  by_cases h : 100 < l.length
  · rw [if_pos h]
    exact ⟨fun h2 => (by cases h2), fun h2 => (by omega)⟩
  · rw [if_neg h]
    exact ⟨fun h2 => ⟨by omega, fun k hk => goN_zero _ _ h2 k (Nat.zero_le _) (by omega)⟩, fun h2 => goN_all _ _ (fun j _ hj => h2.2 j (by omega))⟩
theorem frAt_append (l m : List Fr) (k : Nat) : frAt (l ++ m) k = if k < l.length then frAt l k else frAt m (k - l.length) := by
  unfold frAt
  split
  · rename_i h; rw [List.getElem?_append_left h]
  · rename_i h; rw [List.getElem?_append_right (by omega)]
theorem groupsE_append {l m : List Fr} (h1 : groupsE l = 0) (h2 : groupsE m = 0) (h : l.length + m.length ≤ 100) : groupsE (l ++ m) = 0 := by
  rw [groupsE_zero] at *
  refine ⟨by rw [List.length_append]; exact h, fun k hk => ?_⟩
  rw [List.length_append] at hk
  rw [frAt_append]
  split
  · exact h1.2 k (by assumption)
  · exact h2.2 _ (by omega)
theorem upG_fold (l : List Fr) : upG l l.length = foldG [] l := by unfold upG foldG; rw [List.take_length]
/-- where the second row begins with a whole one, nothing of what was ahead matters, but that it is closed -/
theorem upG_append (l : List Fr) (f : Fr) (r : List Fr) (hf : f.key = true) : upG (l ++ f :: r) (l ++ f :: r).length = ((upG l l.length).1 ++ (if 0 < (upG l l.length).2.length then [(upG l l.length).2] else []) ++ (upG (f :: r) (f :: r).length).1, (upG (f :: r) (f :: r).length).2) := by
  rw [upG_fold, upG_fold, upG_fold]
  have e1 : foldG [] (l ++ f :: r) = (f :: r).foldl stepG (foldG [] l) := by unfold foldG; rw [List.foldl_append]
  rw [e1]
  obtain ⟨A, o⟩ : List (List Fr) × List Fr := foldG [] l
  have e2 : ∀ o', growG o' f = [f] := fun o' => by unfold growG; rw [if_pos hf]
  have e3 : foldG [] (f :: r) = foldG [f] r := by
    unfold foldG
    rw [List.foldl_cons]
    congr 1
    unfold stepG
    simp [hf, e2]
  rw [e3, List.foldl_cons]
  have e4 : stepG (A, o) f = (A ++ (if 0 < o.length then [o] else []), [f]) := by
    unfold stepG
    simp only [hf, Bool.true_and, e2]
    by_cases h0 : 0 < o.length
    · rw [if_pos (decide_eq_true h0), if_pos h0]
    · rw [if_neg (by rw [decide_eq_true_eq]; exact h0), if_neg h0]; simp
  rw [e4, foldG_out]

end Go.Proofs.YtnpaejknoipicafGreat

namespace Go.Proofs.YtnpaejknoipicafGreat

theorem gchk_one {f : Fr} (h : f.chk = 0) (hk : f.key = true) : gchk [f] = 0 := by
  refine gchk_zero.2 ⟨by simp, by simp, fun k hk' => ?_⟩
  have : k = 0 := by simpa using hk'
  subst this
  exact ⟨h, by unfold inPl; rw [if_pos rfl]; exact hk⟩
theorem gchk_snoc {o : List Fr} {f : Fr} (ho : gchk o = 0) (h6 : o.length < 6) (h : f.chk = 0) (hk : f.key = false) (ht : (frAt o (o.length - 1)).time ≤ f.time) : gchk (o ++ [f]) = 0 := by
  obtain ⟨h1, _, h3⟩ := gchk_zero.1 ho
  refine gchk_zero.2 ⟨by simp, by simp; omega, fun k hk' => ?_⟩
  simp at hk'
  by_cases hl : k < o.length
  · have e : frAt (o ++ [f]) k = frAt o k := by rw [frAt_append, if_pos hl]
    have := h3 k hl
    rw [e]
    refine ⟨this.1, ?_⟩
    have h2 := this.2
    unfold inPl at h2 ⊢
    rw [e]
    by_cases h0 : k = 0
    · rw [if_pos h0] at h2 ⊢; exact h2
    · rw [if_neg h0] at h2 ⊢
      rw [frAt_append, if_pos (by omega)]; exact h2
  · have e0 : k = o.length := by omega
    subst e0
    have e : frAt (o ++ [f]) o.length = f := by rw [frAt_append, if_neg (by omega)]; simp [frAt]
    rw [e]
    refine ⟨h, ?_⟩
    unfold inPl
    rw [if_neg (by omega), e, hk, frAt_append, if_pos (by omega)]
    simp [ht]
def RightG (s : List (List Fr) × List Fr) : Prop := (∀ g ∈ s.1, gchk g = 0) ∧ (s.2 = [] ∨ gchk s.2 = 0)
theorem stepG_right {s : List (List Fr) × List Fr} {f : Fr} (h : RightG s) (hf : f.chk = 0) : RightG (stepG s f) := by
  obtain ⟨A, o⟩ := s
  obtain ⟨h1, h2⟩ := h
  simp only at h1 h2
  constructor
  · simp only [stepG]
    split
    · rename_i hc
      simp only [Bool.and_eq_true, decide_eq_true_eq] at hc
      intro g hg
      rcases List.mem_append.1 hg with hg | hg
      · exact h1 g hg
      · simp at hg; subst hg
        rcases h2 with h2 | h2
        · rw [h2] at hc; simp at hc
        · exact h2
    · exact h1
  · simp only [stepG]
    unfold growG
    split
    · rename_i hk; right; exact gchk_one hf hk
    · split
      · exact h2
      · rename_i hk hc
        right
        rcases h2 with h2 | h2
        · rw [h2] at hc; simp at hc
        · exact gchk_snoc h2 (by omega) hf (by simpa using hk) (by omega)
theorem fold_right : ∀ (l : List Fr) (s : List (List Fr) × List Fr), RightG s → (∀ f ∈ l, f.chk = 0) → RightG (l.foldl stepG s)
  | [], _, h, _ => h
  | f :: r, s, h, hl => fold_right r (stepG s f) (stepG_right h (hl f List.mem_cons_self)) (fun x hx => hl x (List.mem_cons_of_mem _ hx))
theorem upG_right {l : List Fr} (h : groupsE l = 0) : RightG (upG l l.length) := by
  rw [upG_fold]
  refine fold_right l ([], []) ⟨fun g hg => absurd hg List.not_mem_nil, .inl rfl⟩ (fun f hf => ?_)
  obtain ⟨k, hk, rfl⟩ := List.getElem_of_mem hf
  have := (groupsE_zero.1 h).2 k hk
  unfold frAt at this
  rw [List.getElem?_eq_getElem hk] at this
  exact this
/-- some of what came, in order; each whole one is there -/
inductive SubF : List Fr → List Fr → Prop
  | nil {l : List Fr} : (∀ f ∈ l, f.key = false) → SubF [] l
  | take {f : Fr} {X l : List Fr} : SubF X l → SubF (f :: X) (f :: l)
  | skip {f : Fr} {X l : List Fr} : f.key = false → SubF X l → SubF X (f :: l)
theorem SubF.drop {f : Fr} (hf : f.key = false) : ∀ {l X : List Fr}, SubF (f :: X) l → SubF X l
  | [], _, h => by cases h
  | g :: l, X, h => by
    cases h with
    | take h => exact .skip hf h
    | skip h1 h2 => exact .skip h1 (SubF.drop hf h2)
theorem SubF.hit {f : Fr} {X l : List Fr} (h : SubF (f :: X) (f :: l)) : SubF X l := by
  cases h with
  | take h => exact h
  | skip h1 h2 => exact SubF.drop h1 h2
theorem SubF.miss {f g : Fr} {X l : List Fr} (h : SubF (f :: X) (g :: l)) (hne : ¬ g = f) : g.key = false ∧ SubF (f :: X) l := by
  cases h with
  | take h => exact absurd rfl hne
  | skip h1 h2 => exact ⟨h1, h2⟩
theorem SubF.none {l : List Fr} (h : SubF [] l) : ∀ f ∈ l, f.key = false := by
  induction l with
  | nil => intro f hf; cases hf
  | cons g r ih =>
    cases h with
    | nil h => exact h
    | skip h1 h2 =>
      intro f hf
      rcases List.mem_cons.1 hf with rfl | hf
      · exact h1
      · exact ih h2 f hf
def flatG (s : List (List Fr) × List Fr) : List Fr := s.1.flatten ++ s.2
theorem flat_step (s : List (List Fr) × List Fr) (f : Fr) : flatG (stepG s f) = flatG s ++ [f] ∨ (f.key = false ∧ flatG (stepG s f) = flatG s) := by
  obtain ⟨A, o⟩ := s
  unfold flatG stepG
  simp only
  cases hk : f.key
  · unfold growG
    rw [hk]
    simp only [Bool.false_and, Bool.false_eq_true, if_false]
    split
    · right; simp
    · left; simp
  · left
    unfold growG
    rw [hk]
    simp only [Bool.true_and, if_true]
    cases o with
    | nil => simp
    | cons x r => simp
theorem flat_fold : ∀ (l : List Fr) (s : List (List Fr) × List Fr), ∃ Y, flatG (l.foldl stepG s) = flatG s ++ Y ∧ SubF Y l
  | [], s => ⟨[], by simp, .nil (fun f hf => absurd hf List.not_mem_nil)⟩
  | f :: r, s => by
    obtain ⟨Y, h1, h2⟩ := flat_fold r (stepG s f)
    rcases flat_step s f with h | ⟨hk, h⟩
    · exact ⟨f :: Y, by rw [List.foldl_cons, h1, h]; simp, .take h2⟩
    · exact ⟨Y, by rw [List.foldl_cons, h1, h], .skip hk h2⟩
theorem upG_sub (l : List Fr) : SubF (flatG (upG l l.length)) l := by
  rw [upG_fold]
  obtain ⟨Y, h1, h2⟩ := flat_fold l ([], [])
  unfold foldG
  rw [h1]
  exact h2

end Go.Proofs.YtnpaejknoipicafGreat

namespace Go.Proofs.YtnpaejknoipicafGreat

abbrev grAt (L : List (List Fr)) (k : Nat) : List Fr := L[k]?.getD []
/-- bytes of groups -/
def sumG (L : List (List Fr)) : Nat := (L.map gsize).sum
/-- too many bytes? -/
def tooB (L : List (List Fr)) : Bool := decide (1 < L.length) && decide (100 < sumG L)
/-- too many, or too much -/
def fullB (L : List (List Fr)) : Bool := decide (5 < L.length) || tooB L
/-- what Check says of a store -/
def stchk (first : Int) (L : List (List Fr)) (O : List Fr) : Int :=
  if first < 0 then 3 else if 100000 < first then 3 else if 5 < L.length then 2 else
    if goN (fun k => gchk (grAt L k)) L.length 0 = 0 then (if tooB L then 2 else if 0 < O.length then gchk O else 0) else goN (fun k => gchk (grAt L k)) L.length 0

theorem gsize_le (g : List Fr) : gsize g ≤ 192 := by
  unfold gsize
  by_cases h : gchk g = 0
  · rw [if_pos h]
    obtain ⟨_, h2, h3⟩ := gchk_zero.1 h
    have := szG_le (l := g) (fun k hk => fr_szP (h3 k hk).1) g.length (Nat.le_refl _)
    rw [List.take_length] at this
    omega
  · rw [if_neg h]; omega
theorem sumG_take (L : List (List Fr)) (k : Nat) (hk : k < L.length) : sumG (L.take (k + 1)) = sumG (L.take k) + gsize (grAt L k) := by
  unfold sumG
  rw [take_one hk [], List.map_append, List.sum_append]; simp
theorem sumG_le (L : List (List Fr)) : ∀ k, k ≤ L.length → sumG (L.take k) ≤ k * 192
  | 0, _ => by simp [sumG]
  | k + 1, hk => by
    rw [sumG_take L k (by omega)]
    have := sumG_le L k (by omega)
    have := gsize_le (grAt L k)
    omega
theorem stchk_zero {first : Int} {L : List (List Fr)} {O : List Fr} : stchk first L O = 0 ↔ 0 ≤ first ∧ first ≤ 100000 ∧ L.length ≤ 5 ∧ (∀ g ∈ L, gchk g = 0) ∧ tooB L = false ∧ (O = [] ∨ gchk O = 0) := by
  unfold stchk
  by_cases h1 : first < 0
  · rw [if_pos h1]; constructor
    · intro h; cases h
    · intro h; omega
  rw [if_neg h1]
  by_cases h2 : 100000 < first
  · rw [if_pos h2]; constructor
    · intro h; cases h
    · intro h; omega
  rw [if_neg h2]
  by_cases h3 : 5 < L.length
  · rw [if_pos h3]; constructor
    · intro h; cases h
    · intro h; omega
  rw [if_neg h3]
  have hall : goN (fun k => gchk (grAt L k)) L.length 0 = 0 ↔ ∀ g ∈ L, gchk g = 0 := by
    constructor
    · intro h g hg
      obtain ⟨k, hk, e⟩ := List.mem_iff_getElem.1 hg
      have := goN_zero _ _ h k (Nat.zero_le _) (by omega)
      rw [show grAt L k = g by simp [grAt, List.getElem?_eq_getElem hk, e]] at this
      exact this
    · intro h
      refine goN_all _ _ (fun j _ hj => h _ ?_)
      have hj' : j < L.length := by omega
      rw [show grAt L j = L[j] by simp [grAt, List.getElem?_eq_getElem hj']]
      exact List.getElem_mem _
  by_cases h4 : goN (fun k => gchk (grAt L k)) L.length 0 = 0
  · rw [if_pos h4]
    have h5 := hall.1 h4
    cases h6 : tooB L
    · simp only [Bool.false_eq_true, if_false]
      by_cases h7 : 0 < O.length
      · rw [if_pos h7]
        have hne : ¬ O = [] := fun e => by rw [e] at h7; simp at h7
        constructor
        · intro h; exact ⟨by omega, by omega, by omega, h5, trivial, .inr h⟩
        · rintro ⟨_, _, _, _, _, h | h⟩
          · exact absurd h hne
          · exact h
      · rw [if_neg h7]
        have he : O = [] := List.eq_nil_of_length_eq_zero (by omega)
        exact ⟨fun _ => ⟨by omega, by omega, by omega, h5, trivial, .inl he⟩, fun _ => rfl⟩
    · simp only [if_true]
      constructor
      · intro h; cases h
      · rintro ⟨_, _, _, _, h, _⟩; cases h
  · rw [if_neg h4]
    constructor
    · intro h; exact absurd h h4
    · rintro ⟨_, _, _, h, _⟩; exact absurd (hall.2 h) h4

end Go.Proofs.YtnpaejknoipicafGreat

namespace Go.Proofs.YtnpaejknoipicafGreat
open Go.RowKit

set_option maxHeartbeats 1600000 in
theorem isInPlace_any (S : Nat → Prop) (v : Value) (l : List Fr) (k : Nat) (w : World) (hv : FrsIn S w v l) (hk : k < l.length) :
    Calls Tryz.prog 128 #[v, .int .i64 k] w fun e w' => e = .returned (.bool (inPl l k)) ∧ Below w.heap.size w w' := by
  obtain ⟨ao, c, hva, h1, h2, hc⟩ := hv
  obtain ⟨b, off, rfl, hb, _, pv, c0, c1, _⟩ := hc k hk
  obtain ⟨n, hn⟩ : ∃ n, n = l.length := ⟨_, rfl⟩
  rw [← hn] at hva hk h1
  have hki : (k : Int) < (n : Int) := by omega
  unfold inPl
  by_cases h0 : k = 0
  · rw [if_pos h0]
    subst h0
    simp only [Nat.zero_mul, Nat.add_zero] at c0 c1
    obtain ⟨q, hq⟩ : ∃ q, q = (frAt l 0).key := ⟨_, rfl⟩
    rw [← hq] at c1 ⊢
    subst hva
    clear hn hc hq
    cases q
    all_goals
      go_enter Tryz.func128, Tryz.ntmps128
      go_wp2_with fail
      go_quiet (fail)
      go_wp2
      go_ret
      exact ⟨rfl, below_drewN (Below.refl _ _) _⟩
  · rw [if_neg h0]
    obtain ⟨b', off', e1, _, _, pv', d0, _⟩ := hc (k - 1) (by omega)
    injection e1 with e1
    injection e1 with e1 e2
    subst e1 e2
    obtain ⟨k1, hk1⟩ : ∃ k1, k1 = k - 1 := ⟨_, rfl⟩
    rw [← hk1] at d0 ⊢
    have hk1i : (k : Int) - 1 = (k1 : Int) := by omega
    have hk1l : (k1 : Int) < (n : Int) := by omega
    have hk1w : IntKind.i64.wrap (k1 : Int) = (k1 : Int) := by rw [IntKind.wrap_i64]; omega
    have hk0i : ((k : Int) == 0) = false := by simpa using h0
    obtain ⟨q, hq⟩ : ∃ q, q = (frAt l k).key := ⟨_, rfl⟩
    obtain ⟨t, ht⟩ : ∃ t, t = (frAt l k).time := ⟨_, rfl⟩
    obtain ⟨t', ht'⟩ : ∃ t', t' = (frAt l k1).time := ⟨_, rfl⟩
    rw [← hq, ← ht, ← ht']
    rw [← hq] at c1
    rw [← ht] at c0
    rw [← ht'] at d0
    subst hva
    clear hn hc hq ht ht' hk1 h0
    cases q
    all_goals
      go_enter Tryz.func128, Tryz.ntmps128
      go_wp2_with fail
      go_quiet (fail)
      go_wp2
      go_ret
      exact ⟨by simp, below_drewN (Below.refl _ _) _⟩

set_option maxHeartbeats 2000000 in
theorem groupCheck_any (S : Nat → Prop) (v : Value) (l : List Fr) (w : World) (hv : FrsIn S w v l) :
    Calls Tryz.prog 84 #[.agg #[v]] w fun e w' => e = .returned (.int .i64 (gchk l)) ∧ Below w.heap.size w w' := by
  have HV : Hid (FrsIn S w v l) := hv
  obtain ⟨ao, c, hva, h1, h2, hc⟩ := hv
  have HC : Hid (∀ k, k < l.length → ∃ b off, ao = some ⟨b, off, none⟩ ∧ b < w.heap.size ∧ S b ∧ At3In S w b (off + k * 3) (l[k]?.getD Fr.zero)) := hc
  obtain ⟨n, hn⟩ : ∃ n, n = l.length := ⟨_, rfl⟩
  have HN : Hid (n = l.length) := hn
  obtain ⟨G, hG⟩ : ∃ G, G = gchk l := ⟨_, rfl⟩
  have HG : Hid (G = if n = 0 then 5 else if 6 < n then 2 else goN (gerr l) n 0) := by show _ = _; rw [hG, hn]; rfl
  rw [← hn] at hva h1
  rw [← hG]
  clear hc hn hG
  subst hva
  by_cases h0 : n = 0
  · have hg : G = 5 := by rw [HG.out, if_pos h0]
    rw [hg]
    subst h0
    go_enter Tryz.func84, Tryz.ntmps84
    go_wp2
    go_ret
    exact ⟨rfl, by go_grown⟩
  have h0i : ((n : Int) == 0) = false := by simpa using h0
  by_cases h6 : 6 < n
  · have hg : G = 2 := by rw [HG.out, if_neg h0, if_pos h6]
    rw [hg]
    go_enter Tryz.func84, Tryz.ntmps84
    go_wp2
    go_ret
    exact ⟨rfl, by go_grown⟩
  have HG2 : Hid (G = goN (gerr l) n 0) := by show _ = _; rw [HG.out, if_neg h0, if_neg h6]
  have hn6 : n ≤ 6 := by omega
  clear HG h0 h6
  go_enter Tryz.func84, Tryz.ntmps84
  go_wp2_with fail
  go_loopw [17] (fun i wr => ∃ k : Nat, k ≤ n ∧ i = .int .i64 k ∧ Hid (∀ j, j < k → gerr l j = 0) ∧ Hid (Blk wr w.heap.size #[.slice ao n c] 25) ∧ Hid (Below w.heap.size w wr))
    (fun i _ => n - (intOf i).toNat)
  case atStart => exact ⟨0, Nat.zero_le _, rfl, (show ∀ j, j < 0 → _ from fun j hj => absurd hj (Nat.not_lt_zero _)), Blk.new w _ _, (Below.refl _ w).alloc (Nat.le_refl _) _⟩
  case round =>
    obtain ⟨k, hk, rfl, HK, KB, HB⟩ := hrel
    have b0 := KB.out.one
    by_cases hlt : k < n
    · obtain ⟨b, off, hao, hb, _, pv, c0, c1, c2, hp⟩ := HC.out k (by rw [← HN.out]; exact hlt)
      subst hao
      have d0 := (HB.out.cell (p := ⟨b, off + k * 3, none⟩) hb).trans c0
      have d1 := (HB.out.cell (p := ⟨b, off + k * 3 + 1, none⟩) hb).trans c1
      have d2 := (HB.out.cell (p := ⟨b, off + k * 3 + 2, none⟩) hb).trans c2
      obtain ⟨f, hf⟩ : ∃ f, f = frAt l k := ⟨_, rfl⟩
      rw [show (l[k]?.getD Fr.zero) = f from hf.symm] at d0 d1 hp
      obtain ⟨pa, pc, ep⟩ := hp.1.len
      obtain ⟨pn, hpn⟩ : ∃ pn, pn = f.parts.length := ⟨_, rfl⟩
      rw [← hpn] at ep
      subst ep
      obtain ⟨ft, fk, fp⟩ := f
      simp only at d0 d1 d2 hp hpn
      obtain ⟨ck, hck⟩ : ∃ ck, ck = chkF ft fp := ⟨_, rfl⟩
      have HCF : Hid (∀ w' : World, Strs w' (.slice pa pn pc) fp → Calls Tryz.prog 49 #[.agg #[.int .i64 ft, .bool fk, .slice pa pn pc]] w' fun e w'' => e = .returned (.int .i64 ck) ∧ Below w'.heap.size w' w'') := fun w' hs => by rw [hck]; exact frameCheck_any ft fk _ fp w' hs hp.2.1
      have HP : Hid (Strs wr (.slice pa pn pc) fp) := hp.1.below HB.out
      have HCK : Hid ((frAt l k).chk = ck) := by show _ = _; rw [← hf, hck]; rfl
      have hlti : (k : Int) < (n : Int) := by omega
      have HIP : Hid (∀ w' : World, FrsIn S w' (.slice (some ⟨b, off, none⟩) n c) l → Calls Tryz.prog 128 #[.slice (some ⟨b, off, none⟩) n c, .int .i64 k] w' fun e w'' => e = .returned (.bool (inPl l k)) ∧ Below w'.heap.size w' w'') := fun w' hs => isInPlace_any S _ l k w' hs (by rw [← HN.out]; exact hlt)
      obtain ⟨ip, hip⟩ : ∃ ip, ip = inPl l k := ⟨_, rfl⟩
      rw [← hip] at HIP
      have HII : Hid (ip = inPl l k) := hip
      have hbw := KB.out.lt
      clear c0 c1 c2 hp hf hck hpn hip
      go_wp2_with fail
      refine (HCF.out _ (HP.out.alloc _)).mono ?_
      rintro e w1 ⟨rfl, hb1⟩
      have B1 : Hid (Below wr.heap.size wr w1) := ((Below.refl _ wr).alloc (Nat.le_refl _) _).trans (hb1.mono (by simp))
      have K1 : Hid (Blk w1 w.heap.size #[.slice (some ⟨b, off, none⟩) n c] 25) := KB.out.below B1.out KB.out.lt
      have V1 : Hid (FrsIn S w1 (.slice (some ⟨b, off, none⟩) n c) l) := (HV.out.below HB.out).below B1.out
      have BB1 : Hid (Below w.heap.size w w1) := HB.out.trans (B1.out.mono HB.out.size)
      clear hb1 d0 d1 d2 b0
      have b1 := K1.out.one
      by_cases hc0 : ck = 0
      · subst hc0
        go_wp2_with fail
        refine (HIP.out _ V1.out).mono ?_
        rintro e w2 ⟨rfl, hb2⟩
        have K2 : Hid (Blk w2 w.heap.size #[.slice (some ⟨b, off, none⟩) n c] 25) := K1.out.below hb2 K1.out.lt
        have BB2 : Hid (Below w.heap.size w w2) := BB1.out.trans (hb2.mono BB1.out.size)
        clear hb2 b1
        cases ip
        · have HGE : Hid (G = 4) := by
            show _ = _
            have he : gerr l k = 4 := by unfold gerr; rw [if_pos HCK.out, ← HII.out]; rfl
            rw [HG2.out, goN_hit n 0 k (Nat.zero_le _) (by omega) (fun j _ hj => HK.out j hj) (by rw [he]; decide), he]
          go_wp2
          go_ret
          exact ⟨by rw [HGE.out]; rfl, BB2.out⟩
        · have HGE : Hid (gerr l k = 0) := gerr_zero.2 ⟨HCK.out, HII.out.symm⟩
          go_wp2
          go_roundw
          case rel => exact ⟨k + 1, by omega, by go_num, (show ∀ j, j < k + 1 → _ from fun j hj => by
            by_cases e : j = k
            · subst e; exact HGE.out
            · exact HK.out j (by omega)), K2, BB2⟩
          case measure => simp [intOf]; omega
      · have HGE : Hid (G = ck) := by
          show _ = _
          have he : gerr l k = ck := by unfold gerr; rw [if_neg (by rw [HCK.out]; exact hc0), HCK.out]
          rw [HG2.out, goN_hit n 0 k (Nat.zero_le _) (by omega) (fun j _ hj => HK.out j hj) (by rw [he]; exact hc0), he]
        go_wp2
        go_ret
        exact ⟨by rw [HGE.out]; rfl, BB1.out⟩
    · have hkl : k = n := by omega
      subst hkl
      have HGE : Hid (G = 0) := by show _ = _; rw [HG2.out]; exact goN_all _ _ (fun j _ hj => HK.out j (by omega))
      go_wp2
      go_ret
      exact ⟨by rw [HGE.out]; rfl, HB.out⟩

set_option maxHeartbeats 2000000 in
theorem groupSize_any (S : Nat → Prop) (v : Value) (l : List Fr) (w : World) (hv : FrsIn S w v l) :
    Calls Tryz.prog 129 #[.agg #[v]] w fun e w' => e = .returned (.tuple #[.int .i64 (gsize l), .int .i64 (gchk l)]) ∧ Below w.heap.size w w' := by
  have HCG : Hid (∀ w' : World, FrsIn S w' v l → Calls Tryz.prog 84 #[.agg #[v]] w' fun e w'' => e = .returned (.int .i64 (gchk l)) ∧ Below w'.heap.size w' w'') := fun w' hs => groupCheck_any S v l w' hs
  have HV : Hid (FrsIn S w v l) := hv
  obtain ⟨ao, c, hva, h1, h2, hc⟩ := hv
  have HC : Hid (∀ k, k < l.length → ∃ b off, ao = some ⟨b, off, none⟩ ∧ b < w.heap.size ∧ S b ∧ At3In S w b (off + k * 3) (l[k]?.getD Fr.zero)) := hc
  obtain ⟨n, hn⟩ : ∃ n, n = l.length := ⟨_, rfl⟩
  have HN : Hid (n = l.length) := hn
  obtain ⟨G, hG⟩ : ∃ G, G = gchk l := ⟨_, rfl⟩
  obtain ⟨Z, hZ⟩ : ∃ Z, Z = gsize l := ⟨_, rfl⟩
  have HZ : Hid (Z = if G = 0 then szG l else 0) := by show _ = _; rw [hZ, hG]; rfl
  have HGZ : Hid (G = 0 → 0 < l.length ∧ l.length ≤ 6 ∧ ∀ k, k < l.length → (frAt l k).chk = 0 ∧ inPl l k = true) := fun h => gchk_zero.1 (by rw [← hG]; exact h)
  rw [← hn] at hva h1
  rw [← hG] at HCG
  rw [← hG, ← hZ]
  clear hc hn hG hZ
  subst hva
  by_cases hG0 : G = 0
  case neg =>
    have hZ0 : Z = 0 := by rw [HZ.out, if_neg hG0]
    subst hZ0
    go_enter Tryz.func129, Tryz.ntmps129
    go_wp2_with fail
    refine (HCG.out _ (HV.out.alloc _)).mono ?_
    rintro e w1 ⟨rfl, hb1⟩
    have B1 : Hid (Below w.heap.size w w1) := ((Below.refl _ w).alloc (Nat.le_refl _) _).trans (hb1.mono (by simp))
    clear hb1
    go_wp2
    exact bodyPost_ret (v := .tuple #[.int .i64 0, .int .i64 G]) (by simp [results, Tryz.results129, go_sem]) rfl ⟨rfl, B1.out⟩
  have HZ2 : Hid (Z = szG l) := by show _ = _; rw [HZ.out, if_pos hG0]
  have hg := HGZ.out hG0
  have hn6 : n ≤ 6 := by rw [HN.out]; exact hg.2.1
  have HFR : Hid (∀ k, k < n → (frAt l k).chk = 0) := fun k hk => (hg.2.2 k (by rw [← HN.out]; exact hk)).1
  have HLE : Hid (∀ k, k ≤ n → szG (l.take k) ≤ k * 32) := fun k hk => szG_le (fun j hj => fr_szP (hg.2.2 j hj).1) k (by rw [← HN.out]; exact hk)
  subst hG0
  clear HZ HGZ hg
  go_enter Tryz.func129, Tryz.ntmps129
  go_wp2_with fail
  refine (HCG.out _ (HV.out.alloc _)).mono ?_
  rintro e w1 ⟨rfl, hb1⟩
  have B1 : Hid (Below w.heap.size w w1) := ((Below.refl _ w).alloc (Nat.le_refl _) _).trans (hb1.mono (by simp))
  have k0 := ((Blk.new w #[.slice ao n c] 25).below hb1 (by simp)).one
  clear hb1 HCG
  go_wp2_with fail
  go_loopw [5, 18] (fun s i wr => ∃ (k z : Nat), k ≤ n ∧ i = .int .i64 k ∧ s = .int .i64 z ∧ Hid (z = szG (l.take k)) ∧ Hid (Below w.heap.size w wr))
    (fun _ i _ => n - (intOf i).toNat)
  case atStart => exact ⟨0, 0, Nat.zero_le _, rfl, rfl, (show 0 = szG (l.take 0) from rfl), B1⟩
  case round =>
    obtain ⟨k, z, hk, rfl, rfl, HZK, HB⟩ := hrel
    by_cases hlt : k < n
    · obtain ⟨b, off, hao, hb, _, pv, c0, c1, c2, hp⟩ := HC.out k (by rw [← HN.out]; exact hlt)
      subst hao
      have d0 := (HB.out.cell (p := ⟨b, off + k * 3, none⟩) hb).trans c0
      have d1 := (HB.out.cell (p := ⟨b, off + k * 3 + 1, none⟩) hb).trans c1
      have d2 := (HB.out.cell (p := ⟨b, off + k * 3 + 2, none⟩) hb).trans c2
      obtain ⟨f, hf⟩ : ∃ f, f = frAt l k := ⟨_, rfl⟩
      rw [show (l[k]?.getD Fr.zero) = f from hf.symm] at d0 d1 hp
      obtain ⟨po, pc, ep, hpc⟩ := (hp.1.below HB.out).parts
      obtain ⟨pn, hpn⟩ : ∃ pn, pn = f.parts.length := ⟨_, rfl⟩
      have HPC : Hid (∀ j, j < f.parts.length → ∃ b off, po = some ⟨b, off, none⟩ ∧ b < wr.heap.size ∧ wr.cell? ⟨b, off + j, none⟩ = some (.string (f.parts[j]?.getD ByteArray.empty))) := hpc
      have HPN : Hid (pn = f.parts.length) := hpn
      rw [← hpn] at ep
      subst ep
      have hlti : (k : Int) < (n : Int) := by omega
      have hfz := HFR.out k hlt
      rw [← hf] at hfz
      have hp4 : pn ≤ 4 := by rw [hpn]; exact (chkF_zero hfz).2.2.2.1
      have hp8 : ∀ j, j < pn → (f.parts[j]?.getD ByteArray.empty).size ≤ 8 := fun j hj => by
        rw [List.getElem?_eq_getElem (by omega), Option.getD_some]
        exact (chkF_zero hfz).2.2.2.2 _ (List.getElem_mem _)
      have HP8 : Hid (∀ j, j < pn → (f.parts[j]?.getD ByteArray.empty).size ≤ 8) := hp8
      have hz := HLE.out k hk
      rw [← HZK.out] at hz
      have HSU : Hid (szG (l.take (k + 1)) = z + szP f.parts) := by show _ = _; rw [szG_take l k (by rw [← HN.out]; exact hlt), ← HZK.out, hf]
      clear c0 c1 c2 hp hpc hpn hfz hp8 hf
      go_wp2_with fail
      obtain ⟨W, hW⟩ : ∃ W, W = wr.alloc (.cells #[.int .i64 f.time, .bool f.key, .slice po pn pc] 30) := ⟨_, rfl⟩
      have BW : Hid (Below wr.heap.size wr W) := by rw [hW]; exact (Below.refl _ wr).alloc (Nat.le_refl _) _
      rw [← hW]
      clear hW d0 d1 d2
      go_loopw [5, 25] (fun s i wi => ∃ (j y : Nat), j ≤ pn ∧ i = .int .i64 j ∧ s = .int .i64 y ∧ Hid (y = z + szP (f.parts.take j)) ∧ Hid (y ≤ z + j * 8) ∧ W = wi)
        (fun _ i _ => pn - (intOf i).toNat)
      case atStart => exact ⟨0, z, Nat.zero_le _, rfl, rfl, (show z = z + szP (f.parts.take 0) from rfl), (show _ ≤ _ from Nat.le_refl _), rfl⟩
      case round =>
        obtain ⟨j, y, hj, rfl, rfl, HY, HYL, rfl⟩ := hrel
        by_cases hjl : j < pn
        · obtain ⟨b2, off2, hpo, hb2, hct⟩ := HPC.out j (by rw [← HPN.out]; exact hjl)
          have hct2 := (BW.out.cell (p := ⟨b2, off2 + j, none⟩) hb2).trans hct
          obtain ⟨s, hs⟩ : ∃ s, s = f.parts[j]?.getD ByteArray.empty := ⟨_, rfl⟩
          have h8 := HP8.out j hjl
          have HNY : Hid (y + s.size = z + szP (f.parts.take (j + 1))) := by show _ = _; rw [szP_take f.parts j (by rw [← HPN.out]; exact hjl), HY.out, ← hs]; omega
          rw [← hs] at hct2 h8
          subst hpo
          have hji : (j : Int) < (pn : Int) := by omega
          have hyl := HYL.out
          clear hct hs
          go_wp2_with fail
          go_roundw
          case rel => exact ⟨j + 1, y + s.size, by omega, by go_num, by go_num, HNY, (show _ ≤ _ by omega), by first | rfl | trivial⟩
          case measure => simp [intOf]; omega
        · have hjn : j = pn := by omega
          subst hjn
          have hyz := HY.out
          rw [HPN.out, List.take_length, ← HSU.out] at hyz
          have HY2 : Hid (y = szG (l.take (k + 1))) := hyz
          clear hyz
          go_wp2_with fail
          go_roundw
          case rel => exact ⟨k + 1, y, by omega, by go_num, rfl, HY2, HB.out.trans (BW.out.mono HB.out.size)⟩
          case measure => simp [intOf]; omega
    · have hkl : k = n := by omega
      subst hkl
      have HE : Hid (Z = z) := by show _ = _; rw [HZ2.out, HZK.out, HN.out, List.take_length]
      go_wp2
      exact bodyPost_ret (v := .tuple #[.int .i64 z, .int .i64 0]) (by simp [results, Tryz.results129, go_sem]) rfl ⟨by rw [HE.out], HB.out⟩

end Go.Proofs.YtnpaejknoipicafGreat

namespace Go.Proofs.YtnpaejknoipicafGreat
open Go.RowKit

set_option maxHeartbeats 4000000 in
theorem areTooGreat_any (S : Nat → Prop) (v : Value) (L : List (List Fr)) (w : World) (hv : GrsIn S w v L) (hL : L.length ≤ 1000) :
    Calls Tryz.prog 85 #[v] w fun e w' => e = .returned (.bool (tooB L)) ∧ Below w.heap.size w w' := by
  obtain ⟨ao, c, hva, h1, h2, hc⟩ := hv
  obtain ⟨n, hn⟩ : ∃ n, n = L.length := ⟨_, rfl⟩
  have HN : Hid (n = L.length) := hn
  have HC : Hid (∀ k, k < L.length → ∃ b off, ao = some ⟨b, off, none⟩ ∧ b < w.heap.size ∧ S b ∧ ∃ sv, w.cell? ⟨b, off + k, none⟩ = some sv ∧ FrsIn S w sv (L[k]?.getD [])) := hc
  rw [← hn] at hva h1 hL
  obtain ⟨T, hT⟩ : ∃ T, T = tooB L := ⟨_, rfl⟩
  have HT : Hid (T = tooB L) := hT
  rw [← hT]
  clear hc hn hT
  subst hva
  go_enter Tryz.func85, Tryz.ntmps85
  go_wp2_with fail
  go_loopw [3, 10] (fun s i wr => ∃ k y : Nat, k ≤ n ∧ i = .int .i64 k ∧ s = .int .i64 y ∧ Hid (y = sumG (L.take k)) ∧ Hid (y ≤ k * 192) ∧ Hid (Below w.heap.size w wr))
    (fun _ i _ => n - (intOf i).toNat)
  case atStart => exact ⟨0, 0, Nat.zero_le _, rfl, rfl, (show 0 = sumG [] from rfl), (show 0 ≤ 0 from Nat.le_refl _), Below.refl _ _⟩
  case round =>
    obtain ⟨k, y, hk, rfl, rfl, HY, HYL, HB⟩ := hrel
    by_cases hlt : k < n
    · obtain ⟨b, off, rfl, hb, _, sv, c0, hs⟩ := HC.out k (by rw [← HN.out]; exact hlt)
      obtain ⟨g, hg⟩ : ∃ g, g = L[k]?.getD [] := ⟨_, rfl⟩
      rw [← hg] at hs
      have c1 := (HB.out.cell (p := ⟨b, off + k, none⟩) hb).trans c0
      obtain ⟨sa, sc, esv, _, _⟩ := hs.len
      obtain ⟨gn, hgn⟩ : ∃ gn, gn = g.length := ⟨_, rfl⟩
      rw [← hgn] at esv
      obtain ⟨z, hz⟩ : ∃ z : Nat, z = gsize g := ⟨_, rfl⟩
      obtain ⟨e, he⟩ : ∃ e, e = gchk g := ⟨_, rfl⟩
      have HS : Hid (∀ U, Below w.heap.size w U → Calls Tryz.prog 129 #[.agg #[sv]] U fun e' w'' => e' = .returned (.tuple #[.int .i64 z, .int .i64 e]) ∧ Below U.heap.size U w'') := fun U hU => by
        rw [hz, he]; exact groupSize_any S sv g U (hs.below hU)
      have HY2 : Hid (y + z = sumG (L.take (k + 1))) := by show _ = _; rw [sumG_take L k (by rw [← HN.out]; exact hlt), HY.out, hz, hg]
      have hz2 : z ≤ 192 := by rw [hz]; exact gsize_le g
      have hyl := HYL.out
      have hlti : (k : Int) < (n : Int) := by omega
      clear hs hg hgn hz he c0
      subst esv
      go_wp2_with fail
      have B1 : Hid (Below w.heap.size w (wr.alloc (.cells #[.slice sa gn sc] 25))) := HB.out.alloc HB.out.size _
      refine (HS.out _ B1.out).mono ?_
      rintro e' w2 ⟨rfl, hb2⟩
      have B2 : Hid (Below w.heap.size w w2) := B1.out.trans (hb2.mono B1.out.size)
      clear hb2 c1
      go_wp2_with fail
      go_roundw
      case rel => exact ⟨k + 1, y + z, by omega, by go_num, by go_num, HY2, (show _ ≤ _ by omega), B2⟩
      case measure => simp [intOf]; omega
    · have hkl : k = n := by omega
      subst hkl
      have hy : y = sumG L := by rw [HY.out, HN.out, List.take_length]
      have hT : T = (decide (1 < k) && decide (100 < y)) := by rw [HT.out, hy]; unfold tooB; rw [← HN.out]
      clear hy
      by_cases h1 : 1 < k
      · have h1i : (1 : Int) < (k : Int) := by omega
        by_cases h2 : 100 < y
        · have h2i : (100 : Int) < (y : Int) := by omega
          have hT2 : T = true := by rw [hT]; simp [h1, h2]
          go_wp2
          go_ret
          exact ⟨by first | rfl | (rw [hT2]; rfl), HB.out⟩
        · have h2i : ¬ (100 : Int) < (y : Int) := by omega
          have hT2 : T = false := by rw [hT]; simp [h1, h2]
          go_wp2
          go_ret
          exact ⟨by first | rfl | (rw [hT2]; rfl), HB.out⟩
      · have h1i : ¬ (1 : Int) < (k : Int) := by omega
        have hT2 : T = false := by rw [hT]; simp [h1]
        go_wp2
        go_ret
        exact ⟨by first | rfl | (rw [hT2]; rfl), HB.out⟩

set_option maxHeartbeats 4000000 in
theorem storeCheck_any (S : Nat → Prop) (first : Int) (gv ov : Value) (L : List (List Fr)) (O : List Fr) (w : World) (hg : GrsIn S w gv L) (ho : FrsIn S w ov O) :
    Calls Tryz.prog 34 #[.agg #[.int .i64 first, gv, ov]] w fun e w' => e = .returned (.int .i64 (stchk first L O)) ∧ Below w.heap.size w w' := by
  have HG : Hid (GrsIn S w gv L) := hg
  have HO : Hid (FrsIn S w ov O) := ho
  obtain ⟨ao, c, hva, h1, h2, hc⟩ := hg
  obtain ⟨oa, oc, eo, _, hol⟩ := ho.len
  obtain ⟨n, hn⟩ : ∃ n, n = L.length := ⟨_, rfl⟩
  obtain ⟨m, hm⟩ : ∃ m, m = O.length := ⟨_, rfl⟩
  have HN : Hid (n = L.length) := hn
  have HC : Hid (∀ k, k < L.length → ∃ b off, ao = some ⟨b, off, none⟩ ∧ b < w.heap.size ∧ S b ∧ ∃ sv, w.cell? ⟨b, off + k, none⟩ = some sv ∧ FrsIn S w sv (L[k]?.getD [])) := hc
  rw [← hn] at hva h1
  rw [← hm] at eo hol
  obtain ⟨E, hE⟩ : ∃ E, E = stchk first L O := ⟨_, rfl⟩
  have HE : Hid (E = if first < 0 then 3 else if 100000 < first then 3 else if 5 < n then 2 else
    if goN (fun k => gchk (grAt L k)) n 0 = 0 then (if tooB L then 2 else if 0 < m then gchk O else 0) else goN (fun k => gchk (grAt L k)) n 0) := by show _ = _; rw [hE, hn, hm]; rfl
  rw [← hE]
  clear hc hn hm hE ho
  subst hva eo
  by_cases f1 : first < 0
  · have e : E = 3 := by rw [HE.out, if_pos f1]
    rw [e]
    go_enter Tryz.func34, Tryz.ntmps34
    go_wp2
    go_ret
    exact ⟨rfl, (Below.refl _ _).alloc (Nat.le_refl _) _⟩
  by_cases f2 : 100000 < first
  · have e : E = 3 := by rw [HE.out, if_neg f1, if_pos f2]
    rw [e]
    go_enter Tryz.func34, Tryz.ntmps34
    go_wp2
    go_ret
    exact ⟨rfl, (Below.refl _ _).alloc (Nat.le_refl _) _⟩
  by_cases f3 : 5 < n
  · have e : E = 2 := by rw [HE.out, if_neg f1, if_neg f2, if_pos f3]
    have f3i : (5 : Int) < (n : Int) := by omega
    rw [e]
    go_enter Tryz.func34, Tryz.ntmps34
    go_wp2
    go_ret
    exact ⟨rfl, (Below.refl _ _).alloc (Nat.le_refl _) _⟩
  have f3i : ¬ (5 : Int) < (n : Int) := by omega
  have HE2 : Hid (E = if goN (fun k => gchk (grAt L k)) n 0 = 0 then (if tooB L then 2 else if 0 < m then gchk O else 0) else goN (fun k => gchk (grAt L k)) n 0) := by show _ = _; rw [HE.out, if_neg f1, if_neg f2, if_neg f3]
  clear HE
  go_enter Tryz.func34, Tryz.ntmps34
  go_wp2_with fail
  go_loopw [21] (fun i wr => ∃ k : Nat, k ≤ n ∧ i = .int .i64 k ∧ Hid (∀ j, j < k → gchk (grAt L j) = 0) ∧ Hid (Blk wr w.heap.size #[.int .i64 first, .slice ao n c, .slice oa m oc] 27) ∧ Hid (Below w.heap.size w wr))
    (fun i _ => n - (intOf i).toNat)
  case atStart => exact ⟨0, Nat.zero_le _, rfl, (show ∀ j, _ → _ from fun j hj => absurd hj (Nat.not_lt_zero _)), Blk.new _ _ _, (Below.refl _ _).alloc (Nat.le_refl _) _⟩
  case round =>
    obtain ⟨k, hk, rfl, HK, KB, HB⟩ := hrel
    by_cases hlt : k < n
    · obtain ⟨b, off, rfl, hb, _, sv, c0, hs⟩ := HC.out k (by rw [← HN.out]; exact hlt)
      obtain ⟨g, hg⟩ : ∃ g, g = grAt L k := ⟨_, rfl⟩
      rw [show L[k]?.getD [] = g from hg.symm] at hs
      have c1 := (HB.out.cell (p := ⟨b, off + k, none⟩) hb).trans c0
      obtain ⟨sa, sc, esv, _, _⟩ := hs.len
      obtain ⟨gn, hgn⟩ : ∃ gn, gn = g.length := ⟨_, rfl⟩
      rw [← hgn] at esv
      obtain ⟨e, he⟩ : ∃ e, e = gchk g := ⟨_, rfl⟩
      have HS : Hid (∀ U, Below w.heap.size w U → Calls Tryz.prog 84 #[.agg #[sv]] U fun e' w'' => e' = .returned (.int .i64 e) ∧ Below U.heap.size U w'') := fun U hU => by
        rw [he]; exact groupCheck_any S sv g U (hs.below hU)
      have hlti : (k : Int) < (n : Int) := by omega
      have HGE : Hid (e = gchk (grAt L k)) := by show _ = _; rw [he, hg]
      clear hs hg hgn he c0
      subst esv
      go_wp2_with fail
      have B1 : Hid (Below w.heap.size w (wr.alloc (.cells #[.slice sa gn sc] 25))) := HB.out.alloc HB.out.size _
      have K1 : Hid (Blk (wr.alloc (.cells #[.slice sa gn sc] 25)) w.heap.size #[.int .i64 first, .slice (some ⟨b, off, none⟩) n c, .slice oa m oc] 27) := KB.out.alloc _
      refine (HS.out _ B1.out).mono ?_
      rintro e' w2 ⟨rfl, hb2⟩
      have B2 : Hid (Below w.heap.size w w2) := B1.out.trans (hb2.mono B1.out.size)
      have K2 : Hid (Blk w2 w.heap.size #[.int .i64 first, .slice (some ⟨b, off, none⟩) n c, .slice oa m oc] 27) := K1.out.below hb2 K1.out.lt
      clear hb2 c1 K1 B1 KB HB
      by_cases he0 : e = 0
      · have HK2 : Hid (∀ j, j < k + 1 → gchk (grAt L j) = 0) := fun j hj => by
          by_cases e' : j = k
          · subst e'; rw [← HGE.out]; exact he0
          · exact HK.out j (by omega)
        clear HGE
        subst he0
        go_wp2_with fail
        go_roundw
        case rel => exact ⟨k + 1, by omega, by go_num, HK2, K2, B2⟩
        case measure => simp [intOf]; omega
      · have hE : E = e := by
          have hh := goN_hit (e := fun k => gchk (grAt L k)) n 0 k (Nat.zero_le _) (by omega) (fun j _ hj => HK.out j hj) (by show ¬ gchk (grAt L k) = 0; rw [← HGE.out]; exact he0)
          change goN (fun k => gchk (grAt L k)) n 0 = gchk (grAt L k) at hh
          rw [← HGE.out] at hh
          rw [HE2.out, hh, if_neg he0]
        have HEE : Hid (E = e) := hE
        clear hE
        go_wp2
        go_ret
        exact ⟨by rw [HEE.out]; rfl, B2.out⟩
    · have hkl : k = n := by omega
      subst hkl
      have hz : goN (fun k => gchk (grAt L k)) k 0 = 0 := goN_all _ _ (fun j _ hj => HK.out j (by omega))
      have HE3 : Hid (E = if tooB L then 2 else if 0 < m then gchk O else 0) := by show _ = _; rw [HE2.out, if_pos hz]
      obtain ⟨T, hT⟩ : ∃ T, T = tooB L := ⟨_, rfl⟩
      have HTG : Hid (∀ U, Below w.heap.size w U → Calls Tryz.prog 85 #[.slice ao k c] U fun e' w'' => e' = .returned (.bool T) ∧ Below U.heap.size U w'') := fun U hU => by
        rw [hT]; exact areTooGreat_any S _ L U (HG.out.below hU) (by rw [← HN.out]; omega)
      have HE4 : Hid (E = if T then 2 else if 0 < m then gchk O else 0) := by show _ = _; rw [hT]; exact HE3.out
      clear hz hT HE3 HE2
      obtain ⟨k0, k1, k2⟩ := KB.out.three
      go_wp2_with fail
      refine (HTG.out _ HB.out).mono ?_
      rintro e' w2 ⟨rfl, hb2⟩
      have B2 : Hid (Below w.heap.size w w2) := HB.out.trans (hb2.mono HB.out.size)
      obtain ⟨j0, j1, j2⟩ := (KB.out.below hb2 KB.out.lt).three
      clear hb2 k0 k1 k2
      cases T
      case true =>
        have HEE : Hid (E = 2) := HE4.out
        go_wp2
        go_ret
        exact ⟨by rw [HEE.out]; rfl, B2.out⟩
      case false =>
        by_cases hm0 : 0 < m
        · have hm0i : (0 : Int) < (m : Int) := by omega
          have HEO : Hid (E = gchk O) := by show _ = _; rw [HE4.out]; simp [hm0]
          go_wp2_with fail
          refine (groupCheck_any S _ O _ (HO.out.below B2.out)).mono ?_
          rintro e' w3 ⟨rfl, hb3⟩
          rw [← HEO.out]
          have B3 : Hid (Below w.heap.size w w3) := B2.out.trans (hb3.mono B2.out.size)
          clear hb3 j0 j1 j2
          go_wp2
          go_ret
          exact ⟨rfl, B3.out⟩
        · have hm0i : ¬ (0 : Int) < (m : Int) := by omega
          have HEE : Hid (E = 0) := by show _ = _; rw [HE4.out]; simp [hm0]
          go_wp2
          go_ret
          exact ⟨by rw [HEE.out]; rfl, B2.out⟩

end Go.Proofs.YtnpaejknoipicafGreat

namespace Go.Proofs.YtnpaejknoipicafGreat
open Go.RowKit

set_option maxHeartbeats 2000000 in
set_option maxRecDepth 100000 in
theorem cloneStrs_any (v : Value) (l : List ByteArray) (w : World) (hv : Strs w v l) (hlen : l.length ≤ 4) (h8 : ∀ s ∈ l, s.size ≤ 8) :
    Calls Tryz.prog 147 #[v, .func (.func 88) #[] #[]] w fun e w' => ∃ u, e = .returned u ∧ w'.ownsRow w.heap.size 9 1 u l.length (l.map Value.string) ∧ Below w.heap.size w w' := by
  obtain ⟨i0, hi, hz0, hz1, hz2⟩ := info_parts Tryz.infoStr
  obtain ⟨ao, c, hva, hc⟩ := hv.parts
  obtain ⟨n, hn⟩ : ∃ n, n = l.length := ⟨_, rfl⟩
  have HN : Hid (n = l.length) := hn
  have HC : Hid (∀ k, k < l.length → ∃ b off, ao = some ⟨b, off, none⟩ ∧ b < w.heap.size ∧ w.cell? ⟨b, off + k, none⟩ = some (.string (l[k]?.getD ByteArray.empty))) := hc
  have H8 : Hid (∀ k, k < l.length → (l[k]?.getD ByteArray.empty).size ≤ 8) := fun k hk => h8 _ (by rw [List.getElem?_eq_getElem hk]; exact List.getElem_mem hk)
  have eg : Enters Tryz.prog 88 := enters_of Tryz.func88 (by kernel_rfl) rfl
  have eg' : ∀ (args : Array Value) (w : World), (callFunc 88 args).run Tryz.prog w = .ok (.enter 88 args) w := eg
  rw [← hn] at hva hlen ⊢
  clear hc hv hn h8 eg
  subst hva
  go_enter Tryz.func147, Tryz.ntmps147
  go_wp2_with fail
  go_loopw [5, 10] (fun u i wr => ∃ k : Nat, k ≤ n ∧ i = .int .i64 k ∧ Hid (wr.ownsRow w.heap.size 9 1 u k ((l.take k).map Value.string)) ∧ Hid (Below w.heap.size w wr))
    (fun _ i _ => n - (intOf i).toNat)
  case atStart => exact ⟨0, Nat.zero_le _, rfl, (show World.ownsRow _ _ _ _ _ _ _ from World.ownsRow_nil _ _ _ _), Below.refl _ _⟩
  case round =>
    obtain ⟨k, hk, rfl, HO, HB⟩ := hrel
    by_cases hlt : k < n
    · obtain ⟨b, off, rfl, hb, hat⟩ := HC.out k (by rw [← HN.out]; exact hlt)
      have h8 := H8.out k (by rw [← HN.out]; exact hlt)
      have c0 := (HB.out.cell (p := ⟨b, off + k, none⟩) hb).trans hat
      obtain ⟨s, hs⟩ : ∃ s, s = l[k]?.getD ByteArray.empty := ⟨_, rfl⟩
      have HS : Hid (s = l[k]?.getD ByteArray.empty) := hs
      rw [← hs] at c0 h8
      have hcl : ∀ w : World, Calls Tryz.prog 88 #[.string s] w fun e w' => e = .returned (.string s) ∧ Below w.heap.size w w' := fun w => stringsClone_any s w h8
      have hlti : (k : Int) < (n : Int) := by omega
      clear hs hat
      go_wp2_with (first
        | (go_at_fn 88; refine (hcl _).mono ?_; rintro e w1 ⟨rfl, hbw⟩)
        | (at_builtin; refine wpList_append_own _ rfl _ _ 28 rfl w.heap.size 9 i0 _ 1 16 Tryz.underlying28 hi hz0 hz1 hz2 rfl (by decide) _ k ((l.take k).map Value.string) rfl ?c0 ⟨w1.heap.size, 0, none⟩ 1 1 [.string s] rfl rfl ?c1 ?c2 ?c3 ?c4 ?c5 ?_))
      case c0 => exact (owns_below HO.out hbw (Nat.le_refl _)).alloc _
      case c1 => exact news1 rfl
      case c2 => intro u hu; simp at hu; subst hu; rfl
      case c3 => unfold maxLen; omega
      case c4 => omega
      case c5 => have h1 := HB.out.size; have h2 := hbw.size; simp; omega
      · intro v' w2 hown' hgrow _
        have hb1 : Below w.heap.size w w1 := HB.out.trans (hbw.mono HB.out.size)
        have R1 : Hid (Below w.heap.size w w2) := (hb1.alloc hb1.size _).grown hgrow (by have := hb1.size; simp; omega) (fun j hj => (HO.out.lt j hj).1)
        have R2 : Hid (w2.ownsRow w.heap.size 9 1 v' (k + 1) ((l.take (k + 1)).map Value.string)) := by
          show World.ownsRow _ _ _ _ _ _ _
          rw [take_one (by rw [← HN.out]; exact hlt) ByteArray.empty, List.map_append, List.map_take, ← HS.out]
          exact hown'
        clear hown' hgrow c0 hbw hb1 HO HS
        go_wp2
        go_roundw
        case rel => exact ⟨k + 1, by omega, by go_num, R2, R1⟩
        case measure => simp [intOf]; omega
    · have hkl : k = n := by omega
      subst hkl
      go_wp2
      go_ret
      have ho := HO.out
      rw [HN.out, List.take_length, ← HN.out] at ho
      exact ⟨_, rfl, ho, HB.out⟩

/-- texts of a row of the call's own -/
theorem StrsIn.of_owns {base : Nat} {w : World} {v : Value} {l : List ByteArray} (h : w.ownsRow base 9 1 v l.length (l.map Value.string)) (hl : l.length ≤ 9223372036854775807) : StrsIn (fun g => base ≤ g) w v l :=
  ⟨Sl.of_owns h, hl, fun g hg _ => h.lt g hg⟩

set_option maxHeartbeats 2000000 in
theorem cloneFrame_any (S : Nat → Prop) (f : Fr) (pv : Value) (w : World) (hv : StrsIn S w pv f.parts) (hf : f.chk = 0) :
    Calls Tryz.prog 103 #[.agg #[.int .i64 f.time, .bool f.key, pv]] w fun e w' => ∃ a c, e = .returned (.agg #[.int .i64 f.time, .bool f.key, .slice a f.parts.length c]) ∧ StrsIn (fun g => w.heap.size ≤ g) w' (.slice a f.parts.length c) f.parts ∧ Below w.heap.size w w' := by
  obtain ⟨_, _, _, h4, h5⟩ := chkF_zero hf
  obtain ⟨pa, pc, ep⟩ := hv.1.len
  have HCS : Hid (∀ w' : World, Strs w' pv f.parts → Calls Tryz.prog 147 #[pv, .func (.func 88) #[] #[]] w' fun e w'' => ∃ u, e = .returned u ∧ w''.ownsRow w'.heap.size 9 1 u f.parts.length (f.parts.map Value.string) ∧ Below w'.heap.size w' w'') := fun w' hs => cloneStrs_any pv f.parts w' hs h4 h5
  have HV : Hid (Strs w pv f.parts) := hv.1
  obtain ⟨t, k, ps⟩ := f
  simp only at ep HCS HV h4 ⊢
  obtain ⟨n, hn⟩ : ∃ n, n = ps.length := ⟨_, rfl⟩
  have HN : Hid (n = ps.length) := hn
  rw [← hn] at ep HCS h4 ⊢
  clear hn hv hf h5
  subst ep
  go_enter Tryz.func103, Tryz.ntmps103
  go_wp2_with fail
  refine (HCS.out _ ((HV.out.alloc _).alloc _)).mono ?_
  rintro e w1 ⟨u, rfl, ho, hb1⟩
  obtain ⟨k1, k2, bb, hs⟩ := blocks2 hb1
  obtain ⟨a, c, eu⟩ := Sl.len (Sl.of_owns ho)
  subst eu
  obtain ⟨c0, c1, c2⟩ := k1.three
  obtain ⟨d0, d1, d2⟩ := k2.three
  have f1 := k1.free
  have f2 := k2.free
  have HO : Hid (w1.ownsRow (w.heap.size + 1 + 1) 9 1 (.slice a n c) n (ps.map Value.string)) := by
    have := ho
    simp only [World.size_alloc] at this
    exact this
  have BB : Hid (Below w.heap.size w w1) := bb
  clear hb1 k1 k2 bb ho HCS
  go_wp2
  refine bodyPost_ret (v := .agg #[.int .i64 t, .bool k, .slice a n c]) (by simp [results, Tryz.results103, go_sem, d0, d1, d2]) rfl ⟨a, c, rfl, ?_, ?_⟩
  · have h := ownsRow_setCell_below (ownsRow_setCell_below (ownsRow_setCell_below (ownsRow_setCell_below HO.out (a := ⟨w.heap.size, 2, none⟩) (by show w.heap.size < _; omega) (.slice a n c)) (a := ⟨w.heap.size + 1, 0, none⟩) (by show w.heap.size + 1 < _; omega) (.int .i64 t)) (a := ⟨w.heap.size + 1, 1, none⟩) (by show w.heap.size + 1 < _; omega) (.bool k)) (a := ⟨w.heap.size + 1, 2, none⟩) (by show w.heap.size + 1 < _; omega) (.slice a n c)
    rw [HN.out] at h ⊢
    exact (StrsIn.of_owns h (by rw [← HN.out]; omega)).mono (fun g _ hg => by omega)
  · exact (((BB.out.setCell (by simp) _).setCell (by simp) _).setCell (by simp) _).setCell (by simp) _

end Go.Proofs.YtnpaejknoipicafGreat

namespace Go.Proofs.YtnpaejknoipicafGreat
open Go.RowKit

/-- what an operation of such a region does -/
inductive Kd where
  | quiet (v : Value)
  | qcall (v : Value)
  | main
  | fin (f : Value → Value)
  | box (t : TypeId) (z : Array Value)
  | put (b : Nat) (f : Value → Array Value)

namespace Kd
def val (r : Value) : Kd → Option Value
  | quiet v => some v
  | qcall v => some v
  | main => some r
  | fin f => some (f r)
  | _ => none
def out (r : Value) (g : Nat) : Kd → Value
  | quiet v => v
  | qcall v => v
  | main => r
  | fin f => f r
  | box _ _ => .pointer (some ⟨g, 0, none⟩)
  | put _ _ => undef
def isRes : Kd → Bool
  | main => true
  | fin _ => true
  | _ => false
def isMain : Kd → Bool
  | main => true
  | _ => false
def isBox : Kd → Bool
  | box _ _ => true
  | _ => false
def to : Kd → Option Nat
  | put b _ => some b
  | _ => none
end Kd
def kdAt (ks : List Kd) (i : Nat) : Kd := (ks[i]?).getD (.quiet undef)
def dstOf (l : List Oper) (j : Nat) : Nat := match l[j]? with
  | some o => o.dst.getD 0
  | none => 0
/-- the frame behind all of them -/
def putK (r : Value) (gs : Nat → Nat) : Nat → List Kd → List Oper → Act → Act
  | k, d :: ks, o :: l, a => putK r gs (k + 1) ks l (a.put o.dst (d.out r (gs k)))
  | _, _, _, a => a
/-- what the operations wait for -/
def mainOk (ks : List Kd) (l : List Oper) (c n : Nat) : Bool :=
  decide (ks.length = l.length) && decide (c < l.length) && (kdAt ks c).isMain && (l.all fun o => match o.dst with | some k => decide (k < n) | none => true) &&
  ((List.range l.length).all fun i => (i == c || !(kdAt ks i).isMain) && (match kdAt ks i with
    | .fin _ => (List.range l.length).any fun j => waits l i j && (kdAt ks j).isRes
    | .put b _ => waits l i b && (kdAt ks b).isBox && decide (b < l.length) && ((List.range l.length).any fun j => waits l i j && (kdAt ks j).isRes) && ((List.range l.length).all fun j => i == j || (kdAt ks j).to != some b)
    | _ => true) && (match kdAt ks i with | .put _ _ => (l[i]?.map fun o => o.dst) == some none | _ => (l[i]?.map fun o => o.dst.isSome) == some true))

section
variable {P : Program} {Q : Exit → Act → World → Prop}

structure RM (w : World) (ks : List Kd) (n c : Nat) (Pm : (Nat → Prop) → Value → World → Prop) (ls : Nat → Bool) (vs : Nat → Value) (w' : World) : Prop where
  below : Below w.heap.size w w'
  lt : ∀ i, ls i = true → i < n
  val : ∀ i v, ls i = true → (kdAt ks i).val (vs c) = some v → vs i = v
  res : ∀ i, ls i = true → (kdAt ks i).isRes = true → ls c = true
  put : ∀ i b f, ls i = true → kdAt ks i = .put b f → ls c = true ∧ ls b = true ∧ vs i = undef
  main : ls c = true → ∃ S, Pm S (vs c) w' ∧ (∀ g, S g → g < w'.heap.size) ∧ ∀ i t z g, ls i = true → kdAt ks i = .box t z → vs i = .pointer (some ⟨g, 0, none⟩) → ¬ S g
  box : ∀ i t z, ls i = true → kdAt ks i = .box t z → ∃ g C, vs i = .pointer (some ⟨g, 0, none⟩) ∧ w.heap.size ≤ g ∧ Blk w' g C t ∧ C.size = z.size ∧ ∀ j f, kdAt ks j = .put i f → ls j = true → C = f (vs c)
  apart : ∀ i j t z t' z', ls i = true → ls j = true → i ≠ j → kdAt ks i = .box t z → kdAt ks j = .box t' z' → vs i ≠ vs j

theorem putL_all (L : Array Bool) (vs : Nat → Value) (r : Value) (gs : Nat → Nat) : ∀ (l : List Oper) (k : Nat) (ks : List Kd) (a : Act), ks.length = l.length → (∀ i, i < l.length → L.getD (k + i) false = true) → (∀ i, i < l.length → vs (k + i) = (kdAt ks i).out r (gs (k + i))) → putL L vs k l a = putK r gs k ks l a
  | [], _, [], _, _, _, _ => rfl
  | o :: l, k, d :: ks, a, hl, hL, hv => by
    simp only [putL, putK]
    rw [if_pos (by simpa using hL 0 (by simp)), show vs k = d.out r (gs k) by simpa [kdAt] using hv 0 (by simp)]
    refine putL_all L vs r gs l (k + 1) ks _ (by simpa using hl) (fun i hi => ?_) (fun i hi => ?_)
    · have := hL (i + 1) (by simpa using hi)
      rw [show k + (i + 1) = k + 1 + i by omega] at this; exact this
    · have := hv (i + 1) (by simpa using hi)
      rw [show k + (i + 1) = k + 1 + i by omega] at this
      simpa [kdAt] using this

theorem region_main {id : Nat} {a : Act} {w : World} {l : List Oper} (hm : P.follows .mixedOrders = true) (hB : regOk l = true) (ks : List Kd) (c : Nat) (hK : mainOk ks l c a.tmps.size = true)
    (Pm : (Nat → Prop) → Value → World → Prop)
    (hloc : ∀ S r w1 w2, Pm S r w1 → w1.heap.size ≤ w2.heap.size → (∀ g, S g → g < w1.heap.size → w2.heap[g]? = w1.heap[g]?) → Pm S r w2)
    (hstep : ∀ i o, l[i]? = some o → ∀ (a' : Act) (w' : World) (r : Value), Below w.heap.size w w' → (∀ s, (l.all fun o => o.dst != some s) = true → a'.eval (.tmp s) = a.eval (.tmp s)) → (∀ j v, waits l i j = true → (kdAt ks j).val r = some v → a'.eval (.tmp (dstOf l j)) = v) →
      match kdAt ks i with
      | .quiet v => (execOp a'.eval o).run P w' = .ok (.value v) w'
      | .qcall v => ∃ f args, (execOp a'.eval o).run P w' = .ok (.enter f args) w' ∧ Calls P f args w' fun e w'' => e = .returned v ∧ Below w'.heap.size w' w''
      | .main => ∃ f args, (execOp a'.eval o).run P w' = .ok (.enter f args) w' ∧ Calls P f args w' fun e w'' => ∃ r, e = .returned r ∧ Pm (fun g => g < w''.heap.size ∧ (g < w.heap.size ∨ w'.heap.size ≤ g)) r w'' ∧ Below w'.heap.size w' w''
      | .fin f => ∀ S, Pm S r w' → (execOp a'.eval o).run P w' = .ok (.value (f r)) w'
      | .box t z => (execOp a'.eval o).run P w' = .ok (.value (.pointer (some ⟨w'.heap.size, 0, none⟩))) (w'.alloc (.cells z t))
      | .put b f => ∀ S, Pm S r w' → ∀ t z g C, kdAt ks b = .box t z → Blk w' g C t → C.size = z.size → a'.eval (.tmp (dstOf l b)) = .pointer (some ⟨g, 0, none⟩) → ∃ w'', (execOp a'.eval o).run P w' = .ok .skip w'' ∧ w''.heap.size = w'.heap.size ∧ Blk w'' g (f r) t ∧ (f r).size = z.size ∧ (∀ j, j ≠ g → w''.heap[j]? = w'.heap[j]?) ∧ w''.os = w'.os ∧ w''.tape = w'.tape ∧ w''.output = w'.output)
    (hend : ∀ (r : Value) (gs : Nat → Nat) (S : Nat → Prop) (w' : World), Below w.heap.size w w' → Pm S r w' → (∀ g, S g → g < w'.heap.size) →
      (∀ b t z, b < l.length → kdAt ks b = .box t z → w.heap.size ≤ gs b ∧ ¬ S (gs b) ∧ ∃ C, Blk w' (gs b) C t ∧ ∀ j f, j < l.length → kdAt ks j = .put b f → C = f r) →
      (∀ b b' t z t' z', b < l.length → b' < l.length → b ≠ b' → kdAt ks b = .box t z → kdAt ks b' = .box t' z' → gs b ≠ gs b') → Q .normal (putK r gs 0 ks l a) w') :
    (Code.region id l.toArray true).wp P Q a w := by
  simp only [mainOk, Bool.and_eq_true, decide_eq_true_eq] at hK
  obtain ⟨⟨⟨⟨hlen, hcl⟩, hcm⟩, hdst⟩, hall⟩ := hK
  have hkc : kdAt ks c = .main := by cases h : kdAt ks c <;> rw [h] at hcm <;> first | rfl | cases hcm
  have hap : dstsApart l = true := by simp only [regOk, Bool.and_eq_true] at hB; exact hB.1.1
  have hal : ∀ i, i < l.length → _ := fun i hi => List.all_eq_true.1 hall i (List.mem_range.2 hi)
  have hmu : ∀ i, i < l.length → kdAt ks i = .main → i = c := fun i hi hk => by
    have h := hal i hi
    simp only [Bool.and_eq_true] at h
    have h1 := h.1.1
    rw [hk] at h1
    simpa [Kd.isMain] using h1
  have hval : ∀ (L : Array Bool) (vs : Nat → Value) (i j : Nat) (o : Oper), l[i]? = some o → (∀ e ∈ o.after, Region.binds .any e = true → L.getD e.on false = true) → waits l i j = true → L.getD j false = true ∧ ∀ oj k, l[j]? = some oj → oj.dst = some k → (putL L vs 0 l a).eval (.tmp k) = vs j := fun L vs i j o ho hr hw => by
    have h1 := waits_spec hw ho hr
    refine ⟨h1, fun oj k hoj hk => putL_at h1 l 0 a oj hap (Nat.zero_le _) (by simpa using hoj) hk ?_⟩
    have := List.all_eq_true.1 hdst oj (List.mem_of_getElem? hoj)
    rw [hk] at this
    simpa using this
  refine wp_region_inv hm hB (fun L vs w' => RM w ks l.length c Pm (fun j => L.getD j false) vs w') ?_ ?_ ?_
  · have hno : ∀ j, ¬ (Array.replicate l.length false).getD j false = true := fun j => by
      simp [Array.getD_eq_getD_getElem?, Array.getElem?_replicate]; split <;> simp
    exact ⟨⟨rfl, rfl, rfl, Nat.le_refl _, fun _ _ => rfl⟩, fun i h => absurd h (hno i), fun i _ h => absurd h (hno i), fun i h => absurd h (hno i), fun i _ _ h => absurd h (hno i), fun h => absurd h (hno c), fun i _ _ h => absurd h (hno i), fun i _ _ _ _ _ h => absurd h (hno i)⟩
  · intro L vs w' F i o ho hL hr
    have hi : i < l.length := (List.getElem?_eq_some_iff.1 ho).1
    have ni : L.getD i false = false := by simpa using listed_no hL
    have hset := setfun hL
    have hwt := fun j => hval L vs i j o ho hr
    have hfree : ∀ s, (l.all fun o => o.dst != some s) = true → (putL L vs 0 l a).eval (.tmp s) = a.eval (.tmp s) := fun s hs => putL_other l 0 a (fun p hp t ht e => by
      injection e with e
      subst e
      have := List.all_eq_true.1 hs p hp
      rw [ht] at this
      simp at this)
    have hvals : ∀ j v, waits l i j = true → (kdAt ks j).val (vs c) = some v → (putL L vs 0 l a).eval (.tmp (dstOf l j)) = v := fun j v hw hv => by
      obtain ⟨h1, h2⟩ := hwt j hw
      have hjl : j < l.length := F.lt j h1
      have hoj : l[j]? = some l[j] := List.getElem?_eq_getElem hjl
      have h3 := hal j hjl
      simp only [Bool.and_eq_true] at h3
      have h4 := h3.2
      cases hd : l[j].dst with
      | none =>
        have : (l[j]?.map fun o => o.dst.isSome) = some false := by rw [hoj]; simp [hd]
        cases hk : kdAt ks j <;> rw [hk] at hv h4 <;> simp [Kd.val, this] at hv h4
      | some k =>
        rw [show dstOf l j = k by simp [dstOf, hoj, hd], h2 _ k hoj hd]
        exact F.val j v h1 hv
    have hs := hstep i o ho (putL L vs 0 l a) w' (vs c) F.below hfree hvals
    have hdeps := hal i hi
    simp only [Bool.and_eq_true] at hdeps
    rw [hset]
    obtain ⟨ls, hls⟩ : ∃ ls : Nat → Bool, ls = fun j => L.getD j false := ⟨_, rfl⟩
    have hlsj : ∀ j, L.getD j false = ls j := fun j => by rw [hls]
    simp only [hlsj] at F ni hwt ⊢
    have hcne : ∀ k, kdAt ks i = k → k.isMain = false → c ≠ i := fun k h1 h2 e => by subst e; rw [hkc] at h1; subst h1; cases h2
    have hupc : ∀ k v, kdAt ks i = k → k.isMain = false → upd vs i v c = vs c := fun k v h1 h2 => upd_ne (hcne k h1 h2)
    have hlt' : ∀ j, (decide (j = i) || ls j) = true → j < l.length := fun j hj => by
      simp only [Bool.or_eq_true, decide_eq_true_eq] at hj
      rcases hj with rfl | hj
      · exact hi
      · exact F.lt j hj
    have hres : ∀ j, waits l i j = true → (kdAt ks j).isRes = true → ls c = true := fun j hw hk => F.res j (hwt j hw).1 hk
    -- an op that changes no memory and is no main, no box, no put
    have plain : ∀ (k : Kd) (v : Value) (w'' : World), kdAt ks i = k → k.isMain = false → k.isBox = false → k.to = none → Below w'.heap.size w' w'' → (k.val (vs c) = some v) → (k.isRes = true → ls c = true) → RM w ks l.length c Pm (fun j => decide (j = i) || ls j) (upd vs i v) w'' := fun k v w'' hk h1 h2 h3 hb hv hrs => by
      have hsame : ∀ g, g < w'.heap.size → w''.heap[g]? = w'.heap[g]? := hb.block
      refine ⟨F.below.trans (hb.mono F.below.size), hlt', ?_, ?_, ?_, ?_, ?_, ?_⟩
      · intro j u hj hu
        rw [hupc k v hk h1] at hu
        by_cases e : j = i
        · subst e; rw [upd_at]; rw [hk, hv] at hu; injection hu
        · rw [upd_ne e]; exact F.val j u (by simpa [e] using hj) hu
      · intro j hj hjr
        by_cases e : j = i
        · subst e; rw [hk] at hjr; simp [hrs hjr]
        · simp [F.res j (by simpa [e] using hj) hjr]
      · intro j b f hj hjk
        by_cases e : j = i
        · subst e; rw [hk] at hjk; subst hjk; cases h3
        · obtain ⟨e1, e2, e3⟩ := F.put j b f (by simpa [e] using hj) hjk
          rw [upd_ne e]; exact ⟨by simp [e1], by simp [e2], e3⟩
      · intro hc
        have hc' : ls c = true := by simpa [hcne k hk h1] using hc
        obtain ⟨S, e1, e2, e3⟩ := F.main hc'
        rw [hupc k v hk h1]
        refine ⟨S, hloc S _ w' w'' e1 hb.size (fun g _ h => hsame g h), fun g hg => Nat.lt_of_lt_of_le (e2 g hg) hb.size, fun j t z g hj hjk hjv => ?_⟩
        by_cases e : j = i
        · subst e; rw [hk] at hjk; subst hjk; cases h2
        · rw [upd_ne e] at hjv; exact e3 j t z g (by simpa [e] using hj) hjk hjv
      · intro j t z hj hjk
        by_cases e : j = i
        · subst e; rw [hk] at hjk; subst hjk; cases h2
        · obtain ⟨g, C, e1, e2, e3, e4, e5⟩ := F.box j t z (by simpa [e] using hj) hjk
          refine ⟨g, C, by rw [upd_ne e]; exact e1, e2, (hsame g e3.lt).trans e3, e4, fun q f hq hlq => ?_⟩
          rw [hupc k v hk h1]
          by_cases e' : q = i
          · subst e'; rw [hk] at hq; subst hq; cases h3
          · exact e5 q f hq (by simpa [e'] using hlq)
      · intro p q t z t' z' hp hq hpq hpk hqk
        have e1 : p ≠ i := fun e => by subst e; rw [hk] at hpk; subst hpk; cases h2
        have e2 : q ≠ i := fun e => by subst e; rw [hk] at hqk; subst hqk; cases h2
        rw [upd_ne e1, upd_ne e2]
        exact F.apart p q t z t' z' (by simpa [e1] using hp) (by simpa [e2] using hq) hpq hpk hqk
    cases hk : kdAt ks i with
    | quiet v =>
      rw [hk] at hs
      exact oper_wp_ok hs ⟨v, rfl, plain _ v w' hk rfl rfl rfl (Below.refl _ _) rfl (fun h => by cases h)⟩
    | fin f =>
      rw [hk] at hs
      have h := hdeps.1.2
      rw [hk] at h
      obtain ⟨j, _, hj⟩ := List.any_eq_true.1 h
      simp only [Bool.and_eq_true] at hj
      have hlc := hres j hj.1 hj.2
      obtain ⟨S, p1, _⟩ := F.main hlc
      exact oper_wp_ok (hs S p1) ⟨_, rfl, plain _ _ w' hk rfl rfl rfl (Below.refl _ _) rfl (fun _ => hlc)⟩
    | qcall v =>
      rw [hk] at hs
      obtain ⟨f, args, h1, h2⟩ := hs
      unfold Oper.wp
      rw [h1, Oper.upon_enter]
      refine h2.mono ?_
      rintro e w'' ⟨rfl, hb⟩
      exact ⟨v, rfl, plain _ v w'' hk rfl rfl rfl hb rfl (fun h => by cases h)⟩
    | main =>
      rw [hk] at hs
      obtain ⟨f, args, h1, h2⟩ := hs
      have hic : i = c := hmu i hi hk
      subst hic
      unfold Oper.wp
      rw [h1, Oper.upon_enter]
      refine h2.mono ?_
      rintro e w'' ⟨r, rfl, hP, hb⟩
      refine ⟨r, rfl, F.below.trans (hb.mono F.below.size), hlt', ?_, fun _ _ _ => by simp, ?_, ?_, ?_, ?_⟩
      · intro j u hj hu
        rw [upd_at] at hu
        by_cases e : j = i
        · subst e; rw [upd_at]; rw [hk] at hu; simpa [Kd.val] using hu
        · rw [upd_ne e]
          have hlj : ls j = true := by simpa [e] using hj
          have hnr : ¬ (kdAt ks j).isRes = true := fun h => by rw [F.res j hlj h] at ni; cases ni
          refine F.val j u hlj ?_
          cases hkj : kdAt ks j <;> rw [hkj] at hu hnr <;> simp [Kd.val, Kd.isRes] at hu hnr ⊢ <;> exact hu
      · intro j b f hj hjk
        by_cases e : j = i
        · subst e; rw [hk] at hjk; cases hjk
        · have := (F.put j b f (by simpa [e] using hj) hjk).1
          rw [this] at ni; cases ni
      · intro _
        rw [upd_at]
        refine ⟨_, hP, fun g hg => hg.1, fun j t z g hj hjk hjv hg => ?_⟩
        by_cases e : j = i
        · subst e; rw [hk] at hjk; cases hjk
        · rw [upd_ne e] at hjv
          obtain ⟨g', C, e1, e2, e3, _⟩ := F.box j t z (by simpa [e] using hj) hjk
          rw [hjv] at e1
          injection e1 with e1; injection e1 with e1; injection e1 with e1
          have := e3.lt
          rcases hg.2 with h | h <;> omega
      · intro j t z hj hjk
        by_cases e : j = i
        · subst e; rw [hk] at hjk; cases hjk
        · obtain ⟨g, C, e1, e2, e3, e4, e5⟩ := F.box j t z (by simpa [e] using hj) hjk
          refine ⟨g, C, by rw [upd_ne e]; exact e1, e2, (hb.block g e3.lt).trans e3, e4, fun q f hq hlq => ?_⟩
          by_cases e' : q = i
          · subst e'; rw [hk] at hq; cases hq
          · have := (F.put q j f (by simpa [e'] using hlq) hq).1
            rw [this] at ni; cases ni
      · intro p q t z t' z' hp hq hpq hpk hqk
        have e1 : p ≠ i := fun e => by subst e; rw [hk] at hpk; cases hpk
        have e2 : q ≠ i := fun e => by subst e; rw [hk] at hqk; cases hqk
        rw [upd_ne e1, upd_ne e2]
        exact F.apart p q t z t' z' (by simpa [e1] using hp) (by simpa [e2] using hq) hpq hpk hqk
    | box t z =>
      rw [hk] at hs
      refine oper_wp_ok hs ⟨_, rfl, ?_⟩
      have hb : Below w'.heap.size w' (w'.alloc (.cells z t)) := (Below.refl _ _).alloc (Nat.le_refl _) _
      have hnew : ∀ j t' z', ls j = true → kdAt ks j = .box t' z' → vs j ≠ .pointer (some ⟨w'.heap.size, 0, none⟩) := fun j t' z' hj hjk e => by
        obtain ⟨g, C, e1, _, e3, _⟩ := F.box j t' z' hj hjk
        rw [e] at e1
        injection e1 with e1; injection e1 with e1; injection e1 with e1
        have := e3.lt; omega
      refine ⟨F.below.trans (hb.mono F.below.size), hlt', ?_, ?_, ?_, ?_, ?_, ?_⟩
      · intro j u hj hu
        rw [hupc _ _ hk rfl] at hu
        by_cases e : j = i
        · subst e; rw [hk] at hu; cases hu
        · rw [upd_ne e]; exact F.val j u (by simpa [e] using hj) hu
      · intro j hj hjr
        by_cases e : j = i
        · subst e; rw [hk] at hjr; cases hjr
        · simp [F.res j (by simpa [e] using hj) hjr]
      · intro j b f hj hjk
        by_cases e : j = i
        · subst e; rw [hk] at hjk; cases hjk
        · obtain ⟨e1, e2, e3⟩ := F.put j b f (by simpa [e] using hj) hjk
          rw [upd_ne e]; exact ⟨by simp [e1], by simp [e2], e3⟩
      · intro hc
        have hc' : ls c = true := by simpa [hcne _ hk rfl] using hc
        obtain ⟨S, e1, e2, e3⟩ := F.main hc'
        rw [hupc _ _ hk rfl]
        refine ⟨S, hloc S _ w' _ e1 hb.size (fun g _ h => hb.block g h), fun g hg => Nat.lt_of_lt_of_le (e2 g hg) hb.size, fun j t z g hj hjk hjv => ?_⟩
        by_cases e : j = i
        · subst e
          rw [upd_at] at hjv
          injection hjv with hjv; injection hjv with hjv; injection hjv with hjv
          intro hg
          have := e2 g hg; omega
        · rw [upd_ne e] at hjv; exact e3 j t z g (by simpa [e] using hj) hjk hjv
      · intro j t' z' hj hjk
        by_cases e : j = i
        · subst e
          rw [hk] at hjk
          injection hjk with h1 h2
          subst h1; subst h2
          refine ⟨w'.heap.size, z, by rw [upd_at], F.below.size, Blk.new _ _ _, rfl, fun q f hq hlq => ?_⟩
          have e' : q ≠ j := fun e' => by subst e'; rw [hk] at hq; cases hq
          have := (F.put q j f (by simpa [e'] using hlq) hq).2.1
          rw [this] at ni; cases ni
        · obtain ⟨g, C, e1, e2, e3, e4, e5⟩ := F.box j t' z' (by simpa [e] using hj) hjk
          refine ⟨g, C, by rw [upd_ne e]; exact e1, e2, (hb.block g e3.lt).trans e3, e4, fun q f hq hlq => ?_⟩
          rw [hupc _ _ hk rfl]
          have e' : q ≠ i := fun e' => by subst e'; rw [hk] at hq; cases hq
          exact e5 q f hq (by simpa [e'] using hlq)
      · intro p q t1 z1 t2 z2 hp hq hpq hpk hqk
        by_cases e1 : p = i
        · have e2 : q ≠ i := fun e => hpq (e1.trans e.symm)
          subst e1
          rw [upd_at, upd_ne e2]
          exact fun e => hnew q _ _ (by simpa [e2] using hq) hqk e.symm
        · by_cases e2 : q = i
          · subst e2
            rw [upd_at, upd_ne e1]
            exact hnew p _ _ (by simpa [e1] using hp) hpk
          · rw [upd_ne e1, upd_ne e2]
            exact F.apart p q _ _ _ _ (by simpa [e1] using hp) (by simpa [e2] using hq) hpq hpk hqk
    | put b f =>
      rw [hk] at hs
      have h := hdeps.1.2
      rw [hk] at h
      simp only [Bool.and_eq_true, decide_eq_true_eq] at h
      obtain ⟨⟨⟨⟨hwb, hbb⟩, hbl⟩, hany⟩, huniq⟩ := h
      obtain ⟨t, z, hkb⟩ : ∃ t z, kdAt ks b = .box t z := by
        cases h : kdAt ks b <;> rw [h] at hbb <;> first | exact ⟨_, _, rfl⟩ | cases hbb
      obtain ⟨hlb, hev⟩ := hwt b hwb
      obtain ⟨g, C, e1, e2, e3, e4, e5⟩ := F.box b t z hlb hkb
      have hob : l[b]? = some l[b] := List.getElem?_eq_getElem hbl
      have hdb : ∃ k, l[b].dst = some k := by
        have h3 := hal b hbl
        simp only [Bool.and_eq_true] at h3
        have h4 := h3.2
        rw [hkb, hob] at h4
        simp at h4
        exact Option.isSome_iff_exists.1 h4
      obtain ⟨k, hdb⟩ := hdb
      have hevb : (putL L vs 0 l a).eval (.tmp (dstOf l b)) = .pointer (some ⟨g, 0, none⟩) := by
        rw [show dstOf l b = k by simp [dstOf, hob, hdb], hev _ k hob hdb, e1]
      have hlc : ls c = true := by
        obtain ⟨j, _, hj⟩ := List.any_eq_true.1 hany
        simp only [Bool.and_eq_true] at hj
        exact hres j hj.1 hj.2
      obtain ⟨S, p1, p2, p3⟩ := F.main hlc
      obtain ⟨w'', hrun, hsz, hblk, hfs, hoth, h1, h2, h3⟩ := hs S p1 t z g C hkb e3 e4 hevb
      have hdn : o.dst = none := by
        have h4 := hdeps.2
        rw [hk, ho] at h4
        simpa using h4
      unfold Oper.wp
      rw [hrun, Oper.upon_skip]
      have hbel : Below w.heap.size w w'' := ⟨h1.trans F.below.os, h2.trans F.below.tape, h3.trans F.below.output, by rw [hsz]; exact F.below.size, fun j hj => by rw [hoth j (by omega)]; exact F.below.block j hj⟩
      refine ⟨undef, rfl, hbel, hlt', ?_, ?_, ?_, ?_, ?_, ?_⟩
      · intro j u hj hu
        rw [hupc _ _ hk rfl] at hu
        by_cases e : j = i
        · subst e; rw [hk] at hu; cases hu
        · rw [upd_ne e]; exact F.val j u (by simpa [e] using hj) hu
      · intro j hj hjr
        simp [hlc]
      · intro j b' f' hj hjk
        by_cases e : j = i
        · subst e
          rw [hk] at hjk
          injection hjk with q1 q2
          subst q1
          exact ⟨by simp [hlc], by simp [hlb], by rw [upd_at]⟩
        · obtain ⟨e1, e2, e3⟩ := F.put j b' f' (by simpa [e] using hj) hjk
          rw [upd_ne e]; exact ⟨by simp [e1], by simp [e2], e3⟩
      · intro _
        rw [hupc _ _ hk rfl]
        refine ⟨S, hloc S _ w' w'' p1 (by omega) (fun g' hg' _ => hoth g' (fun e => p3 b t z g hlb hkb e1 (e ▸ hg'))), fun g' hg' => by have := p2 g' hg'; omega, fun j t' z' g' hj hjk hjv => ?_⟩
        have e : j ≠ i := fun e => by subst e; rw [hk] at hjk; cases hjk
        rw [upd_ne e] at hjv
        exact p3 j t' z' g' (by simpa [e] using hj) hjk hjv
      · intro j t' z' hj hjk
        have e : j ≠ i := fun e => by subst e; rw [hk] at hjk; cases hjk
        have hlj : ls j = true := by simpa [e] using hj
        by_cases ejb : j = b
        · subst ejb
          rw [hkb] at hjk
          injection hjk with q1 q2
          subst q1; subst q2
          refine ⟨g, f (vs c), by rw [upd_ne e]; exact e1, e2, hblk, hfs, fun q f' hq hlq => ?_⟩
          rw [hupc _ _ hk rfl]
          by_cases eq : q = i
          · subst eq
            rw [hk] at hq
            injection hq with _ q2
            rw [q2]
          · have hql : q < l.length := hlt' q hlq
            have h5 := List.all_eq_true.1 huniq q (List.mem_range.2 hql)
            simp [hq, Kd.to, Ne.symm eq] at h5
        · obtain ⟨g', C', p1, p2, p3, p4, p5⟩ := F.box j t' z' hlj hjk
          have hne : g' ≠ g := fun e => F.apart j b t' z' t z hlj hlb ejb hjk hkb (by rw [p1, e1, e])
          refine ⟨g', C', by rw [upd_ne e]; exact p1, p2, (hoth g' hne).trans p3, p4, fun q f' hq hlq => ?_⟩
          rw [hupc _ _ hk rfl]
          by_cases eq : q = i
          · subst eq
            rw [hk] at hq
            injection hq with q1 _
            exact absurd q1.symm ejb
          · exact p5 q f' hq (by simpa [eq] using hlq)
      · intro p q t1 z1 t2 z2 hp hq hpq hpk hqk
        have e1 : p ≠ i := fun e => by subst e; rw [hk] at hpk; cases hpk
        have e2 : q ≠ i := fun e => by subst e; rw [hk] at hqk; cases hqk
        rw [upd_ne e1, upd_ne e2]
        exact F.apart p q _ _ _ _ (by simpa [e1] using hp) (by simpa [e2] using hq) hpq hpk hqk
  · intro L vs w' F hlst
    have hc := hlst c hcl
    obtain ⟨S, p1, p2, p3⟩ := F.main hc
    have hgs : ∃ gs : Nat → Nat, ∀ i t z, i < l.length → kdAt ks i = .box t z → vs i = .pointer (some ⟨gs i, 0, none⟩) := by
      refine ⟨fun i => match vs i with | .pointer (some ad) => ad.block | _ => 0, fun i t z hi hk => ?_⟩
      obtain ⟨g, C, e1, _⟩ := F.box i t z (hlst i hi) hk
      simp [e1]
    obtain ⟨gs, hgs⟩ := hgs
    rw [putL_all L vs (vs c) gs l 0 ks a hlen (fun i hi => by rw [Nat.zero_add]; exact hlst i hi) (fun i hi => ?_)]
    · refine hend (vs c) gs S w' F.below p1 p2 (fun b t z hb hk => ?_) (fun b b' t z t' z' hb hb' hne hk hk' e => ?_)
      · obtain ⟨g, C, e1, e2, e3, e4, e5⟩ := F.box b t z (hlst b hb) hk
        have e6 := hgs b t z hb hk
        rw [e6] at e1
        injection e1 with e1; injection e1 with e1; injection e1 with e1
        rw [e1]
        refine ⟨e2, ?_, C, e3, fun j f hj hjk => e5 j f hjk (hlst j hj)⟩
        rw [← e1]
        exact p3 b t z (gs b) (hlst b hb) hk e6
      · exact F.apart b b' t z t' z' (hlst b hb) (hlst b' hb') hne hk hk' (by rw [hgs b t z hb hk, hgs b' t' z' hb' hk', e])
    · rw [Nat.zero_add]
      cases hk : kdAt ks i with
      | box t z => exact hgs i t z hi hk
      | put b f => exact (F.put i b f (hlst i hi) hk).2.2
      | quiet v => exact F.val i _ (hlst i hi) (by rw [hk]; rfl)
      | qcall v => exact F.val i _ (hlst i hi) (by rw [hk]; rfl)
      | main => exact F.val i _ (hlst i hi) (by rw [hk]; rfl)
      | fin f => exact F.val i _ (hlst i hi) (by rw [hk]; rfl)
end

/-- a part of a tuple -/
def exT (i : Nat) (r : Value) : Value := match r with
  | .tuple vs => vs[i]?.getD undef
  | _ => undef
theorem exT_tuple (i : Nat) (vs : Array Value) : exT i (.tuple vs) = vs[i]?.getD undef := rfl
/-- a struct's cells -/
def aggC (r : Value) : Array Value := match r with
  | .agg vs => vs
  | _ => #[]

theorem set1 {w : World} {g : Nat} {C : Array Value} {t : TypeId} (h : Blk w g C t) (hs : C.size = 1) (v0 : Value) :
    (w.setCell ⟨g, 0, none⟩ v0).heap.size = w.heap.size ∧ Blk (w.setCell ⟨g, 0, none⟩ v0) g #[v0] t ∧ ∀ j, j ≠ g → (w.setCell ⟨g, 0, none⟩ v0).heap[j]? = w.heap[j]? := by
  obtain ⟨l⟩ := C
  obtain ⟨c0, rfl⟩ := List.length_eq_one_iff.1 hs
  exact ⟨by simp, h.set 0 v0, fun j hj => Below.heap_setCell _ _ _ _ hj⟩
theorem set2 {w : World} {g : Nat} {C : Array Value} {t : TypeId} (h : Blk w g C t) (hs : C.size = 2) (v0 v1 : Value) :
    ((w.setCell ⟨g, 0, none⟩ v0).setCell ⟨g, 1, none⟩ v1).heap.size = w.heap.size ∧ Blk ((w.setCell ⟨g, 0, none⟩ v0).setCell ⟨g, 1, none⟩ v1) g #[v0, v1] t ∧ ∀ j, j ≠ g → ((w.setCell ⟨g, 0, none⟩ v0).setCell ⟨g, 1, none⟩ v1).heap[j]? = w.heap[j]? := by
  obtain ⟨l⟩ := C
  match l, hs with
  | [c0, c1], _ => exact ⟨by simp, (h.set 0 v0).set 1 v1, fun j hj => by rw [Below.heap_setCell _ _ _ _ (by exact hj), Below.heap_setCell _ _ _ _ (by exact hj)]⟩
theorem set3 {w : World} {g : Nat} {C : Array Value} {t : TypeId} (h : Blk w g C t) (hs : C.size = 3) (v0 v1 v2 : Value) :
    (((w.setCell ⟨g, 0, none⟩ v0).setCell ⟨g, 1, none⟩ v1).setCell ⟨g, 2, none⟩ v2).heap.size = w.heap.size ∧ Blk (((w.setCell ⟨g, 0, none⟩ v0).setCell ⟨g, 1, none⟩ v1).setCell ⟨g, 2, none⟩ v2) g #[v0, v1, v2] t ∧ ∀ j, j ≠ g → (((w.setCell ⟨g, 0, none⟩ v0).setCell ⟨g, 1, none⟩ v1).setCell ⟨g, 2, none⟩ v2).heap[j]? = w.heap[j]? := by
  obtain ⟨l⟩ := C
  match l, hs with
  | [c0, c1, c2], _ => exact ⟨by simp, ((h.set 0 v0).set 1 v1).set 2 v2, fun j hj => by rw [Below.heap_setCell _ _ _ _ (by exact hj), Below.heap_setCell _ _ _ _ (by exact hj), Below.heap_setCell _ _ _ _ (by exact hj)]⟩
theorem cells1 {w : World} {g : Nat} {C : Array Value} {t : TypeId} (h : Blk w g C t) (hs : C.size = 1) : ∃ c0, w.cell? ⟨g, 0, none⟩ = some c0 := by
  obtain ⟨l⟩ := C
  match l, hs with
  | [c0], _ => exact ⟨c0, h.cell rfl⟩
theorem cells2 {w : World} {g : Nat} {C : Array Value} {t : TypeId} (h : Blk w g C t) (hs : C.size = 2) : ∃ c0 c1, w.cell? ⟨g, 0, none⟩ = some c0 ∧ w.cell? ⟨g, 1, none⟩ = some c1 := by
  obtain ⟨l⟩ := C
  match l, hs with
  | [c0, c1], _ => exact ⟨c0, c1, h.cell rfl, h.cell rfl⟩
theorem cells3 {w : World} {g : Nat} {C : Array Value} {t : TypeId} (h : Blk w g C t) (hs : C.size = 3) : ∃ c0 c1 c2, w.cell? ⟨g, 0, none⟩ = some c0 ∧ w.cell? ⟨g, 1, none⟩ = some c1 ∧ w.cell? ⟨g, 2, none⟩ = some c2 := by
  obtain ⟨l⟩ := C
  match l, hs with
  | [c0, c1, c2], _ => exact ⟨c0, c1, c2, h.cell rfl, h.cell rfl, h.cell rfl⟩

end Go.Proofs.YtnpaejknoipicafGreat

namespace Go.Proofs.YtnpaejknoipicafGreat
open Go.RowKit

/-- an operation of such a region: one that reads (ahead of a step of the chain), or a step of the chain -/
inductive Ck where
  | quiet (v : Value) (lim : Nat)
  | step (s : Nat)
def ckAt (ks : List Ck) (i : Nat) : Ck := (ks[i]?).getD (.quiet undef 0)
def Ck.out (r : Nat → Value) : Ck → Value
  | .quiet v _ => v
  | .step s => r s
def putC (r : Nat → Value) : List Ck → List Oper → Act → Act
  | d :: ks, o :: l, a => putC r ks l (a.put o.dst (d.out r))
  | _, _, a => a
def updR (r : Nat → Value) (s : Nat) (v : Value) : Nat → Value := fun t => if t = s then v else r t
theorem updR_at (r : Nat → Value) (s : Nat) (v : Value) : updR r s v s = v := by simp [updR]
theorem updR_ne {r : Nat → Value} {s t : Nat} {v : Value} (h : t ≠ s) : updR r s v t = r t := by simp [updR, h]
/-- the steps' places; what waits for what -/
def chainOk (ks : List Ck) (l : List Oper) (st : List Nat) (n : Nat) : Bool :=
  decide (ks.length = l.length) && (l.all fun o => match o.dst with | some k => decide (k < n) | none => true) &&
  ((List.range st.length).all fun s => match st[s]? with
    | some i => decide (i < l.length) && (match ckAt ks i with | .step t => t == s | _ => false) && (s == 0 || (match st[s - 1]? with | some j => waits l i j | none => false))
    | none => false) &&
  ((List.range l.length).all fun i => match ckAt ks i with
    | .quiet _ lim => decide (st.length ≤ lim) || (match st[lim]? with | some j => waits l j i | none => false)
    | .step t => st[t]? == some i)

section
variable {P : Program} {Q : Exit → Act → World → Prop}

theorem oper_wp_skip {o : Oper} {a : Act} {w w' : World} {K : Act → World → Prop} (h : (execOp a.eval o).run P w = .ok .skip w') (hk : K (a.put o.dst undef) w') : o.wp P a w K Q := by
  unfold Oper.wp; rw [h]; exact hk
theorem oper_wp_call {o : Oper} {a : Act} {w : World} {f : FuncId} {args : Array Value} {K : Act → World → Prop} (h : (execOp a.eval o).run P w = .ok (.enter f args) w) (hc : Calls P f args w fun e w'' => ∃ v, e = .returned v ∧ K (a.put o.dst v) w'') : o.wp P a w K Q := by
  unfold Oper.wp; rw [h, Oper.upon_enter]
  refine hc.mono ?_
  rintro e w'' ⟨v, rfl, hk⟩
  exact hk

structure RC (ks : List Ck) (l : List Oper) (n m : Nat) (I : Nat → (Nat → Value) → World → Prop) (ls : Nat → Bool) (vs : Nat → Value) (s : Nat) (r : Nat → Value) (w' : World) : Prop where
  lt : ∀ i, ls i = true → i < n
  steps : ∀ i t, i < n → ckAt ks i = .step t → (ls i = true ↔ t < s)
  vals : ∀ i, ls i = true → vs i = (ckAt ks i).out r
  inv : I s r w'
  le : s ≤ m
  closed : ∀ i j, ls j = true → waits l j i = true → ls i = true

theorem putC_all (L : Array Bool) (vs : Nat → Value) (r : Nat → Value) : ∀ (l : List Oper) (k : Nat) (ks : List Ck) (a : Act), ks.length = l.length → (∀ i, i < l.length → L.getD (k + i) false = true) → (∀ i, i < l.length → vs (k + i) = (ckAt ks i).out r) → putL L vs k l a = putC r ks l a
  | [], _, [], _, _, _, _ => rfl
  | o :: l, k, d :: ks, a, hl, hL, hv => by
    simp only [putL, putC]
    rw [if_pos (by simpa using hL 0 (by simp)), show vs k = d.out r by simpa [ckAt] using hv 0 (by simp)]
    refine putC_all L vs r l (k + 1) ks _ (by simpa using hl) (fun i hi => ?_) (fun i hi => ?_)
    · have := hL (i + 1) (by simpa using hi)
      rw [show k + (i + 1) = k + 1 + i by omega] at this; exact this
    · have := hv (i + 1) (by simpa using hi)
      rw [show k + (i + 1) = k + 1 + i by omega] at this
      simpa [ckAt] using this

theorem region_chain {id : Nat} {a : Act} {w : World} {l : List Oper} (hm : P.follows .mixedOrders = true) (hB : regOk l = true) (ks : List Ck) (st : List Nat) (hK : chainOk ks l st a.tmps.size = true)
    (I : Nat → (Nat → Value) → World → Prop) (h0 : I 0 (fun _ => undef) { w with drawn := w.drawn + 1 })
    (hstep : ∀ i o, l[i]? = some o → ∀ (a' : Act) (w' : World) (s : Nat) (r : Nat → Value), I s r w' → (∀ s, (l.all fun o => o.dst != some s) = true → a'.eval (.tmp s) = a.eval (.tmp s)) → (∀ j oj k, waits l i j = true → l[j]? = some oj → oj.dst = some k → a'.eval (.tmp k) = (ckAt ks j).out r) →
      match ckAt ks i with
      | .quiet v lim => s ≤ lim → (execOp a'.eval o).run P w' = .ok (.value v) w'
      | .step t => s = t → o.wp P a' w' (fun a'' w'' => ∃ v, a'' = a'.put o.dst v ∧ I (t + 1) (updR r t v) w'') Q)
    (hend : ∀ (r : Nat → Value) (w' : World), I st.length r w' → Q .normal (putC r ks l a) w') :
    (Code.region id l.toArray true).wp P Q a w := by
  simp only [chainOk, Bool.and_eq_true, decide_eq_true_eq] at hK
  obtain ⟨⟨⟨hlen, hdst⟩, hst⟩, hall⟩ := hK
  have hap : dstsApart l = true := by simp only [regOk, Bool.and_eq_true] at hB; exact hB.1.1
  have hal : ∀ i, i < l.length → _ := fun i hi => List.all_eq_true.1 hall i (List.mem_range.2 hi)
  have hsl : ∀ s, s < st.length → _ := fun s hs => List.all_eq_true.1 hst s (List.mem_range.2 hs)
  have hstp : ∀ s, s < st.length → ∃ i, st[s]? = some i ∧ i < l.length ∧ ckAt ks i = .step s ∧ (0 < s → ∃ j, st[s - 1]? = some j ∧ waits l i j = true) := fun s hs => by
    have h := hsl s hs
    have e : st[s]? = some st[s] := List.getElem?_eq_getElem hs
    rw [e] at h
    simp only [Bool.and_eq_true, decide_eq_true_eq, Bool.or_eq_true, beq_iff_eq] at h
    refine ⟨st[s], e, h.1.1, ?_, fun h0 => ?_⟩
    · have h2 := h.1.2
      cases hk : ckAt ks st[s] with
      | quiet v lim => rw [hk] at h2; cases h2
      | step t => rw [hk] at h2; simp at h2; rw [h2]
    · have h3 := h.2
      rcases h3 with h3 | h3
      · omega
      · have e2 : st[s - 1]? = some st[s - 1] := List.getElem?_eq_getElem (by omega)
        rw [e2] at h3
        exact ⟨_, e2, h3⟩
  have hst2 : ∀ i t, i < l.length → ckAt ks i = .step t → st[t]? = some i := fun i t hi hk => by
    have h := hal i hi
    rw [hk] at h
    simpa using h
  refine wp_region_inv hm hB (fun L vs w' => ∃ s r, RC ks l l.length st.length I (fun j => L.getD j false) vs s r w') ?_ ?_ ?_
  · have hno : ∀ j, ¬ (Array.replicate l.length false).getD j false = true := fun j => by
      simp [Array.getD_eq_getD_getElem?, Array.getElem?_replicate]; split <;> simp
    exact ⟨0, fun _ => undef, fun i h => absurd h (hno i), fun i t _ _ => ⟨fun h => absurd h (hno i), fun h => absurd h (Nat.not_lt_zero _)⟩, fun i h => absurd h (hno i), h0, Nat.zero_le _, fun _ j h => absurd h (hno j)⟩
  · rintro L vs w' ⟨s, r, F⟩ i o ho hL hr
    have hi : i < l.length := (List.getElem?_eq_some_iff.1 ho).1
    have ni : L.getD i false = false := by simpa using listed_no hL
    have hset := setfun hL
    have hwt : ∀ j, waits l i j = true → L.getD j false = true := fun j hw => waits_spec hw ho hr
    have hfree : ∀ s, (l.all fun o => o.dst != some s) = true → (putL L vs 0 l a).eval (.tmp s) = a.eval (.tmp s) := fun s hs => putL_other l 0 a (fun p hp t ht e => by
      injection e with e
      subst e
      have := List.all_eq_true.1 hs p hp
      rw [ht] at this
      simp at this)
    have hvals : ∀ j oj k, waits l i j = true → l[j]? = some oj → oj.dst = some k → (putL L vs 0 l a).eval (.tmp k) = (ckAt ks j).out r := fun j oj k hw hoj hk => by
      have h1 := hwt j hw
      have hk2 := List.all_eq_true.1 hdst oj (List.mem_of_getElem? hoj)
      rw [hk] at hk2
      rw [putL_at h1 l 0 a oj hap (Nat.zero_le _) (by simpa using hoj) hk (by simpa using hk2)]
      exact F.vals j h1
    have hs := hstep i o ho (putL L vs 0 l a) w' s r F.inv hfree hvals
    rw [hset]
    obtain ⟨ls, hls⟩ : ∃ ls : Nat → Bool, ls = fun j => L.getD j false := ⟨_, rfl⟩
    have hlsj : ∀ j, L.getD j false = ls j := fun j => by rw [hls]
    simp only [hlsj] at F ni hwt ⊢
    have hlt' : ∀ j, (decide (j = i) || ls j) = true → j < l.length := fun j hj => by
      simp only [Bool.or_eq_true, decide_eq_true_eq] at hj
      rcases hj with rfl | hj
      · exact hi
      · exact F.lt j hj
    have hcl : ∀ p j, (decide (j = i) || ls j) = true → waits l j p = true → (decide (p = i) || ls p) = true := fun p j hj hw => by
      simp only [Bool.or_eq_true, decide_eq_true_eq] at hj ⊢
      rcases hj with rfl | hj
      · exact .inr (hwt p hw)
      · exact .inr (F.closed p j hj hw)
    cases hk : ckAt ks i with
    | quiet v lim =>
      rw [hk] at hs
      have hle : s ≤ lim := by
        have h := hal i hi
        rw [hk] at h
        simp only [Bool.or_eq_true, decide_eq_true_eq] at h
        rcases h with h | h
        · exact Nat.le_trans F.le h
        · by_cases hlt : s ≤ lim
          · exact hlt
          · exfalso
            have hll : lim < st.length := by have := F.le; omega
            obtain ⟨j, e1, e2, e3, _⟩ := hstp lim hll
            rw [e1] at h
            have hlj := (F.steps j lim e2 e3).2 (by omega)
            rw [F.closed i j hlj h] at ni
            cases ni
      refine oper_wp_ok (hs hle) ⟨v, rfl, s, r, hlt', ?_, ?_, F.inv, F.le, hcl⟩
      · intro j t hj hjk
        have e : j ≠ i := fun e => by subst e; rw [hk] at hjk; cases hjk
        simpa [e] using F.steps j t hj hjk
      · intro j hj
        by_cases e : j = i
        · subst e; rw [upd_at, hk]; rfl
        · rw [upd_ne e]; exact F.vals j (by simpa [e] using hj)
    | step t =>
      rw [hk] at hs
      have hti := hst2 i t hi hk
      have htl : t < st.length := (List.getElem?_eq_some_iff.1 hti).1
      have hst' : s = t := by
        have h1 : ¬ t < s := fun h => by rw [(F.steps i t hi hk).2 h] at ni; cases ni
        by_cases h0 : t = 0
        · omega
        · obtain ⟨i', e1, e2, e3, e4⟩ := hstp t htl
          rw [hti] at e1
          injection e1 with e1
          subst e1
          obtain ⟨j, q1, q2⟩ := e4 (by omega)
          obtain ⟨j', r1, r2, r3, _⟩ := hstp (t - 1) (by omega)
          rw [q1] at r1
          injection r1 with r1
          subst r1
          have := (F.steps j (t - 1) r2 r3).1 (hwt j q2)
          omega
      subst hst'
      refine Oper.wp_mono ?_ (hs rfl)
      rintro a'' w'' ⟨v, h1, h2⟩
      refine ⟨v, h1, s + 1, updR r s v, hlt', ?_, ?_, h2, htl, hcl⟩
      · intro j t' hj hjk
        by_cases e : j = i
        · subst e
          rw [hk] at hjk
          injection hjk with hjk
          subst hjk
          simp
        · have h3 := F.steps j t' hj hjk
          have hne : t' ≠ s := fun e' => by
            subst e'
            have := hst2 j t' hj hjk
            rw [hti] at this
            injection this with this
            exact e this.symm
          simp only [e, decide_false, Bool.false_or]
          rw [h3]; omega
      · intro j hj
        by_cases e : j = i
        · subst e; rw [upd_at, hk]; exact (updR_at r s v).symm
        · have hlj : ls j = true := by simpa [e] using hj
          rw [upd_ne e, F.vals j hlj]
          cases hkj : ckAt ks j with
          | quiet v' lim' => rfl
          | step t' =>
            have := (F.steps j t' (F.lt j hlj) hkj).1 hlj
            exact (updR_ne (by omega)).symm
  · rintro L vs w' ⟨s, r, F⟩ hlst
    have hs : s = st.length := by
      by_cases h : s < st.length
      · obtain ⟨i, e1, e2, e3, _⟩ := hstp s h
        have := (F.steps i s e2 e3).1 (hlst i e2)
        omega
      · have := F.le; omega
    subst hs
    rw [putC_all L vs r l 0 ks a hlen (fun i hi => by rw [Nat.zero_add]; exact hlst i hi) (fun i hi => by rw [Nat.zero_add]; exact F.vals i (hlst i hi))]
    exact hend r w' F.inv
end
end Go.Proofs.YtnpaejknoipicafGreat

namespace Go.Proofs.YtnpaejknoipicafGreat
open Go.RowKit

/-- blocks of what the maker's rows hold: none of them is its own, nor a row's that grows -/
def GS (base M : Nat) (fv cv : Value) : Nat → Prop := fun g => base ≤ g ∧ g ≠ M ∧ some g ≠ fv.ownBlock ∧ some g ≠ cv.ownBlock
def GMk (base M : Nat) (w : World) (fv cv : Value) (o : List Fr) (cl : List (List Fr)) : Prop := Blk w M #[fv, cv] 201 ∧ OwnFrs base (GS base M fv cv) w fv o ∧ OwnGrs base (GS base M fv cv) w cv cl
def GMake (base M : Nat) (w : World) (o : List Fr) (cl : List (List Fr)) : Prop := ∃ fv cv, GMk base M w fv cv o cl

theorem GMk.below {base M : Nat} {w w' : World} {fv cv : Value} {o : List Fr} {cl : List (List Fr)} (h : GMk base M w fv cv o cl) (hb : Below w.heap.size w w') : GMk base M w' fv cv o cl :=
  ⟨h.1.below hb h.1.lt, h.2.1.below hb, h.2.2.below hb⟩
theorem GMk.fneM {base M : Nat} {w : World} {fv cv : Value} {o : List Fr} {cl : List (List Fr)} (h : GMk base M w fv cv o cl) : fv.ownBlock ≠ some M := fun e => by
  obtain ⟨cur, hc⟩ := h.2.1.blk M e
  exact Apart_type h.1 hc (by decide) rfl
theorem GMk.cneM {base M : Nat} {w : World} {fv cv : Value} {o : List Fr} {cl : List (List Fr)} (h : GMk base M w fv cv o cl) : cv.ownBlock ≠ some M := fun e => by
  obtain ⟨cur, hc⟩ := h.2.2.blk M e
  exact Apart_type h.1 hc (by decide) rfl
theorem GMk.fnec {base M : Nat} {w : World} {fv cv : Value} {o : List Fr} {cl : List (List Fr)} (h : GMk base M w fv cv o cl) : ∀ g, fv.ownBlock = some g → cv.ownBlock ≠ some g := fun g e1 e2 => by
  obtain ⟨cur, hc⟩ := h.2.1.blk g e1
  obtain ⟨cur2, hc2⟩ := h.2.2.blk g e2
  exact Apart_type hc hc2 (by decide) rfl

/-- cells of groups: one each -/
theorem grp_one {S : Nat → Prop} {w : World} {ps : List (List Fr × Value)} (h : ∀ p ∈ ps, FrsIn S w p.2 p.1) : ∀ u ∈ ps.map Prod.snd, u.oneCell' = true := fun u hu => by
  obtain ⟨p, hp, rfl⟩ := List.mem_map.1 hu
  obtain ⟨a, c, e, _⟩ := (h p hp).len
  rw [e]; rfl

set_option maxHeartbeats 4000000 in
set_option maxRecDepth 100000 in
theorem groupClose_any (base M : Nat) (fv cv : Value) (o : List Fr) (cl : List (List Fr)) (w : World) (hM : GMk base M w fv cv o cl) (hbM : base ≤ M) (ho : o.length ≤ 6) (hcl : cl.length ≤ 1000) :
    Calls Tryz.prog 166 #[.pointer (some ⟨M, 0, none⟩)] w fun e w' => e = .returned (.tuple #[]) ∧ (∃ cv', GMk base M w' (.slice none 0 0) cv' [] (if 0 < o.length then cl ++ [o] else cl)) ∧ Below base w w' ∧ ∀ j, j < w.heap.size → j ≠ M → some j ≠ cv.ownBlock → w'.heap[j]? = w.heap[j]? := by
  obtain ⟨i0, hi, hz0, hz1, hz2⟩ := info_parts Tryz.infoGrp
  have HMK : Hid (GMk base M w fv cv o cl) := hM
  obtain ⟨kM, ⟨qs, fq1, fq2, fq3⟩, ⟨ps, cp1, cp2, cp3⟩⟩ := hM
  obtain ⟨fa, fc, efv, hfc, _⟩ := owns_cap fq2
  obtain ⟨ca, cc, ecv, hcc, _⟩ := owns_cap cp2
  have hql : qs.length = o.length := by rw [← fq1, List.length_map]
  have hpl : ps.length = cl.length := by rw [← cp1, List.length_map]
  obtain ⟨n, hn⟩ : ∃ n, n = o.length := ⟨_, rfl⟩
  obtain ⟨m, hm⟩ : ∃ m, m = cl.length := ⟨_, rfl⟩
  have HN : Hid (n = o.length) := hn
  have HM2 : Hid (m = cl.length) := hm
  rw [hql, ← hn] at efv hfc
  rw [hpl, ← hm] at ecv hcc cp2
  have k0 := kM.two
  obtain ⟨k0, k1⟩ := k0
  have kf := kM.free
  have hMw := kM.lt
  have KM : Hid (Blk w M #[fv, cv] 201) := kM
  have CP1 : Hid (ps.map Prod.fst = cl) := cp1
  have CP2 : Hid (w.ownsRow base 25 1 cv m (ps.map Prod.snd)) := cp2
  have CP3 : Hid (∀ p ∈ ps, FrsIn (GS base M fv cv) w p.2 p.1) := cp3
  have HPL : Hid (ps.length = m) := by show _ = _; rw [hpl, hm]
  have FIN0 : Hid (∀ (w' : World) (v' : Value) (L : List (List Fr)), Blk w' M #[fv, v'] 201 → OwnGrs base (GS base M (.slice none 0 0) v') w' v' L → v'.ownBlock ≠ some M → GMk base M (w'.setCell ⟨M, 0, none⟩ (.slice none 0 0)) (.slice none 0 0) v' [] L) := fun w' v' L h1 h2 h3 =>
    ⟨h1.set 0 _, OwnFrs.nil _ _ _, h2.to (SameOn.setCell (fun g hg => hg.2.1) _) (fun _ _ h => h) (fun g hg => Below.heap_setCell _ _ _ _ (fun e => h3 (by rw [hg]; exact congrArg some e)))⟩
  rw [← hn]
  rw [← hn] at ho
  rw [← hm] at hcl
  by_cases hn0 : 0 < n
  · rw [if_pos hn0]
    have hni : (0 : Int) < (n : Int) := by omega
    have hown : (w.drew.alloc (.cells #[fv] 25)).ownsRow base 25 1 cv m (ps.map Prod.snd) := cp2.alloc _
    have HOWN : Hid ((w.drew.alloc (.cells #[fv] 25)).ownsRow base 25 1 cv m (ps.map Prod.snd)) := hown
    have hfvs : ∃ a c, fv = .slice a n c := ⟨fa, fc, efv⟩
    have HFV1 : Hid (∀ u ∈ [fv], u.oneCell' = true) := fun u hu => by simp at hu; subst hu; rw [efv]; rfl
    have hbase : base ≤ w.heap.size := by omega
    clear hn hm hql hpl fq1 fq2 fq3 cp1 cp2 cp3 kM hown
    have HE1 : Hid (fv = .slice fa n fc) := efv
    have HE2 : Hid (cv = .slice ca m cc) := ecv
    rw [efv] at k0
    rw [ecv] at k1
    clear efv ecv
    go_enter Tryz.func166, Tryz.ntmps166
    go_wp2_with fail
    refine region_chain (by kernel_rfl) (by kernel_rfl) [.quiet (.pointer (some ⟨M, 0, none⟩)) 3, .quiet (.pointer (some ⟨M, 0, none⟩)) 3, .quiet (.pointer (some ⟨M, 0, none⟩)) 3, .quiet (.pointer (some ⟨M, 1, none⟩)) 3, .quiet (.slice ca m cc) 1, .quiet (.pointer (some ⟨M, 0, none⟩)) 3, .quiet (.pointer (some ⟨M, 0, none⟩)) 3, .quiet (.pointer (some ⟨M, 0, none⟩)) 3, .quiet (.agg #[.slice fa n fc]) 0, .step 0, .step 1, .quiet (.pointer (some ⟨M, 0, none⟩)) 3, .quiet (.pointer (some ⟨M, 1, none⟩)) 3, .step 2] [9, 10, 13] (by kernel_rfl)
      (fun s r w' => match s with
        | 0 => w' = w.drew
        | 1 => w' = w.drew.alloc (.cells #[fv] 25) ∧ r 0 = .slice (some ⟨w.heap.size, 0, none⟩) 1 1
        | 2 => w'.ownsRow base 25 1 (r 1) (m + 1) (ps.map Prod.snd ++ [fv]) ∧ (w.drew.alloc (.cells #[fv] 25)).grownBy w' cv.ownBlock ∧ ((r 1).ownBlock = cv.ownBlock ∨ ∀ g, (r 1).ownBlock = some g → (w.drew.alloc (.cells #[fv] 25)).heap.size ≤ g)
        | _ => ∃ (w2 : World) (v' : Value), w' = w2.setCell ⟨M, 1, none⟩ v' ∧ w2.ownsRow base 25 1 v' (m + 1) (ps.map Prod.snd ++ [fv]) ∧ (w.drew.alloc (.cells #[fv] 25)).grownBy w2 cv.ownBlock ∧ (v'.ownBlock = cv.ownBlock ∨ ∀ g, v'.ownBlock = some g → (w.drew.alloc (.cells #[fv] 25)).heap.size ≤ g)) rfl ?step ?fin
    case step =>
      intro i o ho a' w' s r hI hfree hvals
      have f0 : a'.eval (.tmp 0) = .pointer (some ⟨M, 0, none⟩) := (hfree 0 (by kernel_rfl)).trans rfl
      have hMd : w.drew.cell? ⟨M, 0, none⟩ = some (.slice fa n fc) := k0
      have hMd1 : w.drew.cell? ⟨M, 1, none⟩ = some (.slice ca m cc) := k1
      have hMs : M < w.drew.heap.size := hMw
      match i, ho with
      | 0, ho | 1, ho | 5, ho =>
        simp at ho; subst ho
        show s ≤ 3 → (execOp a'.eval _).run _ w' = .ok (.value _) w'
        intro _
        generalize a'.eval = ρ at *
        simp [execOp, go_sem, f0]
      | 2, ho =>
        simp at ho; subst ho
        have e1 : a'.eval (.tmp 10) = .pointer (some ⟨M, 0, none⟩) := hvals 1 _ _ (by kernel_rfl) rfl rfl
        show s ≤ 3 → (execOp a'.eval _).run _ w' = .ok (.value _) w'
        intro _
        generalize a'.eval = ρ at *
        simp [execOp, go_sem, e1]
      | 3, ho =>
        simp at ho; subst ho
        have e1 : a'.eval (.tmp 11) = .pointer (some ⟨M, 0, none⟩) := hvals 2 _ _ (by kernel_rfl) rfl rfl
        show s ≤ 3 → (execOp a'.eval _).run _ w' = .ok (.value _) w'
        intro _
        generalize a'.eval = ρ at *
        simp [execOp, go_sem, e1]
      | 4, ho =>
        simp at ho; subst ho
        have e1 : a'.eval (.tmp 12) = .pointer (some ⟨M, 1, none⟩) := hvals 3 _ _ (by kernel_rfl) rfl rfl
        show s ≤ 1 → (execOp a'.eval _).run _ w' = .ok (.value _) w'
        intro hs
        have hc : w'.cell? ⟨M, 1, none⟩ = some (.slice ca m cc) := by
          match s, hs, hI with
          | 0, _, hI => rw [show w' = w.drew from hI]; exact hMd1
          | 1, _, hI => rw [hI.1]; exact (World.cell?_alloc_past _ _ _ hMs).trans hMd1
        generalize a'.eval = ρ at *
        simp [execOp, go_sem, e1, hc]
      | 6, ho =>
        simp at ho; subst ho
        have e1 : a'.eval (.tmp 14) = .pointer (some ⟨M, 0, none⟩) := hvals 5 _ _ (by kernel_rfl) rfl rfl
        show s ≤ 3 → (execOp a'.eval _).run _ w' = .ok (.value _) w'
        intro _
        generalize a'.eval = ρ at *
        simp [execOp, go_sem, e1]
      | 7, ho =>
        simp at ho; subst ho
        have e1 : a'.eval (.tmp 15) = .pointer (some ⟨M, 0, none⟩) := hvals 6 _ _ (by kernel_rfl) rfl rfl
        show s ≤ 3 → (execOp a'.eval _).run _ w' = .ok (.value _) w'
        intro _
        generalize a'.eval = ρ at *
        simp [execOp, go_sem, e1]
      | 8, ho =>
        simp at ho; subst ho
        have e1 : a'.eval (.tmp 16) = .pointer (some ⟨M, 0, none⟩) := hvals 7 _ _ (by kernel_rfl) rfl rfl
        show s ≤ 0 → (execOp a'.eval _).run _ w' = .ok (.value _) w'
        intro hs
        have hc : w'.cell? ⟨M, 0, none⟩ = some (.slice fa n fc) := by
          match s, hs, hI with
          | 0, _, hI => rw [show w' = w.drew from hI]; exact hMd
        generalize a'.eval = ρ at *
        simp [execOp, go_sem, e1, hc]
      | 9, ho =>
        simp at ho; subst ho
        have e1 : a'.eval (.tmp 17) = .agg #[.slice fa n fc] := hvals 8 _ _ (by kernel_rfl) rfl rfl
        show s = 0 → Oper.wp _ _ _ _ _ _
        intro hs
        subst hs
        have hw : w' = w.drew := hI
        subst hw
        refine oper_wp_ok (v := .slice (some ⟨w.heap.size, 0, none⟩) 1 1) (w' := w.drew.alloc (.cells #[fv] 25)) ?_ ⟨_, rfl, rfl, updR_at _ _ _⟩
        generalize a'.eval = ρ at *
        rw [HE1.out]
        simp [execOp, go_sem, e1]
      | 10, ho =>
        simp at ho; subst ho
        have e1 : a'.eval (.tmp 13) = .slice ca m cc := hvals 4 _ _ (by kernel_rfl) rfl rfl
        have e2 : a'.eval (.tmp 18) = r 0 := hvals 9 _ _ (by kernel_rfl) rfl rfl
        show s = 1 → Oper.wp _ _ _ _ _ _
        intro hs
        subst hs
        obtain ⟨hw, hr0⟩ := hI
        rw [hr0] at e2
        subst hw
        obtain ⟨v', w2, hrun, g2, g3, g4⟩ := run_append_own2 (P := Tryz.prog) (w.drew.alloc (.cells #[fv] 25)) base 22 22 25 i0 _ 1 24 Tryz.underlying22 hi hz0 hz1 hz2 rfl (by decide) cv m (ps.map Prod.snd) HOWN.out ⟨w.heap.size, 0, none⟩ 1 1 [fv] rfl (news1 rfl) HFV1.out (by unfold maxLen; omega) (by omega) (by simp; omega)
        rw [HE2.out] at hrun
        refine oper_wp_ok (v := v') (w' := w2) ?_ ⟨_, rfl, ?_⟩
        · generalize a'.eval = ρ at *
          simp [execOp, resolve, invoke, builtin, e1, e2, hrun, Result.andThen]
        · show w2.ownsRow _ _ _ _ _ _ ∧ _ ∧ _
          rw [updR_at]
          exact ⟨g2, g3, g4⟩
      | 11, ho =>
        simp at ho; subst ho
        have e1 : a'.eval (.tmp 9) = .pointer (some ⟨M, 0, none⟩) := hvals 0 _ _ (by kernel_rfl) rfl rfl
        show s ≤ 3 → (execOp a'.eval _).run _ w' = .ok (.value _) w'
        intro _
        generalize a'.eval = ρ at *
        simp [execOp, go_sem, e1]
      | 12, ho =>
        simp at ho; subst ho
        have e1 : a'.eval (.tmp 20) = .pointer (some ⟨M, 0, none⟩) := hvals 11 _ _ (by kernel_rfl) rfl rfl
        show s ≤ 3 → (execOp a'.eval _).run _ w' = .ok (.value _) w'
        intro _
        generalize a'.eval = ρ at *
        simp [execOp, go_sem, e1]
      | 13, ho =>
        simp at ho; subst ho
        have e1 : a'.eval (.tmp 21) = .pointer (some ⟨M, 1, none⟩) := hvals 12 _ _ (by kernel_rfl) rfl rfl
        have e2 : a'.eval (.tmp 19) = r 1 := hvals 10 _ _ (by kernel_rfl) rfl rfl
        show s = 2 → Oper.wp _ _ _ _ _ _
        intro hs
        subst hs
        obtain ⟨g2, g3, g4⟩ := hI
        obtain ⟨va, vc, ev, _⟩ := owns_cap g2
        have kM2 : Blk w' M #[fv, cv] 201 := (g3.block M (by simp; omega) (fun e => HMK.out.cneM e.symm)).trans (KM.out.drew.alloc _)
        have y0 := kM2.two.2
        have y1 := kM2.free 1
        refine oper_wp_skip (w' := w'.setCell ⟨M, 1, none⟩ (r 1)) ?_ ⟨_, rfl, w', r 1, rfl, g2, g3, g4⟩
        rw [ev] at e2 ⊢
        generalize a'.eval = ρ at *
        simp [execOp, go_sem, e1, e2, y0, y1]
      | i + 14, ho => simp at ho
    case fin =>
      rintro r w' ⟨w2, v', hw, g2, g3, g4⟩
      have hk := HMK.out
      have kM2 : Blk w2 M #[fv, cv] 201 := (g3.block M (by simp; omega) (fun e => hk.cneM e.symm)).trans (KM.out.drew.alloc _)
      have hsz2 := g3.size
      simp only [World.size_alloc] at hsz2
      have hwd : w.drew.heap.size = w.heap.size := rfl
      have hvM : v'.ownBlock ≠ some M := fun e => by
        rcases g4 with g4 | g4
        · rw [g4] at e; exact hk.cneM e
        · have := g4 M e; simp at this; omega
      have hnew : ∀ g, g < w.heap.size → some g ≠ cv.ownBlock → some g ≠ v'.ownBlock := fun g hg h1 e => by
        rcases g4 with g4 | g4
        · rw [g4] at e; exact h1 e
        · have := g4 g e.symm; simp at this; omega
      have hsm : SameOn (fun g => g < w.heap.size ∧ some g ≠ cv.ownBlock) w w2 := ⟨by omega, fun g hg h2 => by
        rw [g3.block g (by simp; omega) h2.2]
        exact Below.heap_alloc w.drew _ g hg⟩
      have hfv : FrsIn (GS base M (.slice none 0 0) v') w2 fv o := by
        refine (hk.2.1.frsIn (S' := fun g => base ≤ g ∧ g ≠ M ∧ some g ≠ cv.ownBlock ∧ g < w.heap.size) (fun g h1 h2 => ⟨h2.1, h2.2.1, h2.2.2.2, h1⟩) (fun g hg => ⟨(hk.2.1.lt g hg).1, fun e => hk.fneM (by rw [hg, e]), fun e => hk.fnec g hg e.symm, (hk.2.1.lt g hg).2⟩)).to (hsm.mono (fun g h => ⟨h.2.2.2, h.2.2.1⟩)) (fun g h1 h2 => ⟨h2.1, h2.2.1, fun e => by simp [Value.ownBlock] at e, hnew g h1 h2.2.2.1⟩)
      have hps : ∀ p ∈ ps, FrsIn (GS base M (.slice none 0 0) v') w2 p.2 p.1 := fun p hp =>
        ((CP3.out p hp).mono (S' := fun g => base ≤ g ∧ g ≠ M ∧ some g ≠ cv.ownBlock ∧ g < w.heap.size) (fun g h1 h2 => ⟨h2.1, h2.2.1, h2.2.2.2, h1⟩)).to (hsm.mono (fun g h => ⟨h.2.2.2, h.2.2.1⟩)) (fun g h1 h2 => ⟨h2.1, h2.2.1, fun e => by simp [Value.ownBlock] at e, hnew g h1 h2.2.2.1⟩)
      have hog : OwnGrs base (GS base M (.slice none 0 0) v') w2 v' (cl ++ [o]) := ⟨ps ++ [(o, fv)], by rw [List.map_append, CP1.out]; rfl, by rw [List.length_append, List.map_append, HPL.out]; exact g2, fun p hp => by
        rcases List.mem_append.1 hp with hp | hp
        · exact hps p hp
        · simp at hp; subst hp; exact hfv⟩
      have hog3 : OwnGrs base (GS base M (.slice none 0 0) v') (w2.setCell ⟨M, 1, none⟩ v') v' (cl ++ [o]) := hog.to (SameOn.setCell (fun g hg => hg.2.1) _) (fun _ _ h => h) (fun g hg => Below.heap_setCell _ _ _ _ (fun e => hvM (by rw [hg]; exact congrArg some e)))
      have FIN : Hid (GMk base M ((w2.setCell ⟨M, 1, none⟩ v').setCell ⟨M, 0, none⟩ (.slice none 0 0)) (.slice none 0 0) v' [] (cl ++ [o])) := FIN0.out _ v' (cl ++ [o]) (kM2.set 1 _) hog3 hvM
      have BEL : Hid (Below base w ((w2.setCell ⟨M, 1, none⟩ v').setCell ⟨M, 0, none⟩ (.slice none 0 0))) := ((((Below.refl base w).drew.alloc (by show _ ≤ w.heap.size; omega) _).grown g3 (by simp; omega) (fun j hj => (CP2.out.lt j hj).1)).setCell (by exact hbM) _).setCell (by exact hbM) _
      have OTH : Hid (∀ j, j < w.heap.size → j ≠ M → some j ≠ cv.ownBlock → ((w2.setCell ⟨M, 1, none⟩ v').setCell ⟨M, 0, none⟩ (.slice none 0 0)).heap[j]? = w.heap[j]?) := fun j h1 h2 h3 => by
        rw [Below.heap_setCell _ _ _ _ (by exact h2), Below.heap_setCell _ _ _ _ (by exact h2)]
        exact hsm.2 j h1 ⟨h1, h3⟩
      have y0 := (kM2.set 1 v').two.1
      have y1 := (kM2.set 1 v').free 0
      subst hw
      simp only [putC, Ck.out]
      clear hog hog3 hps hfv hsm hnew g2 g3 g4 kM2 k0 k1 kf
      go_wp2
      go_end0
      exact ⟨rfl, ⟨v', FIN.out⟩, BEL.out, OTH.out⟩
  · rw [if_neg hn0]
    have hn00 : n = 0 := by omega
    have FIN : Hid (GMk base M (w.setCell ⟨M, 0, none⟩ (.slice none 0 0)) (.slice none 0 0) cv [] cl) := FIN0.out w cv cl KM.out (HMK.out.2.2.to (SameOn.refl _ _) (fun g _ h => ⟨h.1, h.2.1, fun e => by simp [Value.ownBlock] at e, h.2.2.2⟩) (fun _ _ => rfl)) HMK.out.cneM
    rw [efv] at k0
    subst hn00
    clear hn hm hql hpl fq1 fq2 fq3 cp1 cp2 cp3 kM efv ecv
    go_enter Tryz.func166, Tryz.ntmps166
    go_wp2
    go_end0
    exact ⟨rfl, ⟨cv, FIN.out⟩, (Below.refl base w).setCell (by exact hbM) _, fun j _ h2 _ => Below.heap_setCell _ _ _ _ h2⟩

end Go.Proofs.YtnpaejknoipicafGreat

namespace Go.Proofs.YtnpaejknoipicafGreat
open Go.RowKit

/-- what a row of frames shows, as cells -/
theorem FrsIn.sl {S : Nat → Prop} {w : World} {v : Value} {l : List Fr} (h : FrsIn S w v l) : ∃ ps : List (Fr × Value), ps.map Prod.fst = l ∧ Sl w v ps.length 3 (frCells ps) ∧ ∀ p ∈ ps, StrsIn S w p.2 p.1.parts := by
  obtain ⟨ao, c, rfl, _, _, hc⟩ := h
  have each : ∀ k, k < l.length → ∃ pv, ∃ b off, ao = some ⟨b, off, none⟩ ∧ b < w.heap.size ∧ w.cell? ⟨b, off + k * 3, none⟩ = some (.int .i64 (l[k]?.getD Fr.zero).time) ∧ w.cell? ⟨b, off + k * 3 + 1, none⟩ = some (.bool (l[k]?.getD Fr.zero).key) ∧ w.cell? ⟨b, off + k * 3 + 2, none⟩ = some pv ∧ StrsIn S w pv (l[k]?.getD Fr.zero).parts := fun k hk => by
    obtain ⟨b, off, e1, e2, _, pv, h1, h2, h3, h4⟩ := hc k hk
    exact ⟨pv, b, off, e1, e2, h1, h2, h3, h4⟩
  obtain ⟨f, hf⟩ := Go.Deep.choose_lt each
  have hlen : ((List.range l.length).map fun k => (l[k]?.getD Fr.zero, f k)).length = l.length := by simp
  have hat : ∀ k, k < l.length → ((List.range l.length).map fun k => (l[k]?.getD Fr.zero, f k))[k]? = some (l[k]?.getD Fr.zero, f k) := fun k hk => by
    rw [List.getElem?_map, List.getElem?_range hk]; rfl
  refine ⟨(List.range l.length).map fun k => (l[k]?.getD Fr.zero, f k), ?_, ?_, fun p hp => ?_⟩
  · refine List.ext_getElem (by simp) fun k h1 h2 => ?_
    simp [List.getElem?_eq_getElem h2]
  · rw [hlen]
    refine ⟨by rw [frCells_len, hlen], ?_⟩
    by_cases h0 : l.length = 0
    · exact .inl ⟨h0, ao, c, by rw [h0]⟩
    · obtain ⟨b, off, e1, e2, _⟩ := hf 0 (by omega)
      subst e1
      refine .inr ⟨b, off, c, rfl, e2, fun j u hj => ?_⟩
      have hjl : j < l.length * 3 := by
        have := (List.getElem?_eq_some_iff.1 hj).1
        rwa [frCells_len, hlen] at this
      have hjk : j = j / 3 * 3 + j % 3 := by omega
      rw [hjk, frCells_at _ (j / 3) (j % 3) _ (by omega) (hat (j / 3) (by omega))] at hj
      obtain ⟨b', off', e1, _, g0, g1, g2, _⟩ := hf (j / 3) (by omega)
      injection e1 with e1
      injection e1 with e1 e3
      subst e1 e3
      have h3 : j % 3 = 0 ∨ j % 3 = 1 ∨ j % 3 = 2 := by omega
      rcases h3 with h3 | h3 | h3
      · rw [h3] at hj hjk
        simp at hj; subst hj
        rw [show off + j = off + j / 3 * 3 by omega]; exact g0
      · rw [h3] at hj hjk
        simp at hj; subst hj
        rw [show off + j = off + j / 3 * 3 + 1 by omega]; exact g1
      · rw [h3] at hj hjk
        simp at hj; subst hj
        rw [show off + j = off + j / 3 * 3 + 2 by omega]; exact g2
  · obtain ⟨k, hk, rfl⟩ := List.mem_map.1 hp
    obtain ⟨b, off, _, _, _, _, _, h4⟩ := hf k (by simpa using hk)
    exact h4
theorem GrsIn.sl {S : Nat → Prop} {w : World} {v : Value} {L : List (List Fr)} (h : GrsIn S w v L) : ∃ ps : List (List Fr × Value), ps.map Prod.fst = L ∧ Sl w v ps.length 1 (ps.map Prod.snd) ∧ ∀ p ∈ ps, FrsIn S w p.2 p.1 := by
  obtain ⟨ao, c, rfl, _, _, hc⟩ := h
  have each : ∀ k, k < L.length → ∃ sv, ∃ b off, ao = some ⟨b, off, none⟩ ∧ b < w.heap.size ∧ w.cell? ⟨b, off + k, none⟩ = some sv ∧ FrsIn S w sv (L[k]?.getD []) := fun k hk => by
    obtain ⟨b, off, e1, e2, _, sv, h1, h2⟩ := hc k hk
    exact ⟨sv, b, off, e1, e2, h1, h2⟩
  obtain ⟨f, hf⟩ := Go.Deep.choose_lt each
  have hlen : ((List.range L.length).map fun k => (L[k]?.getD [], f k)).length = L.length := by simp
  refine ⟨(List.range L.length).map fun k => (L[k]?.getD [], f k), ?_, ?_, fun p hp => ?_⟩
  · refine List.ext_getElem (by simp) fun k h1 h2 => ?_
    simp [List.getElem?_eq_getElem h2]
  · rw [hlen]
    refine ⟨by simp, ?_⟩
    by_cases h0 : L.length = 0
    · exact .inl ⟨h0, ao, c, by rw [h0]⟩
    · obtain ⟨b, off, e1, e2, _⟩ := hf 0 (by omega)
      subst e1
      refine .inr ⟨b, off, c, rfl, e2, fun j u hj => ?_⟩
      have hjl : j < L.length := by
        have := (List.getElem?_eq_some_iff.1 hj).1
        simpa using this
      obtain ⟨b', off', e1, _, g0, _⟩ := hf j hjl
      injection e1 with e1
      injection e1 with e1 e3
      subst e1 e3
      rw [List.getElem?_map, List.getElem?_map, List.getElem?_range hjl] at hj
      simp at hj; subst hj
      exact g0
  · obtain ⟨k, hk, rfl⟩ := List.mem_map.1 hp
    obtain ⟨b, off, _, _, _, h4⟩ := hf k (by simpa using hk)
    exact h4
theorem fr_one2 {S : Nat → Prop} {w : World} {ps : List (Fr × Value)} (h : ∀ p ∈ ps, StrsIn S w p.2 p.1.parts) : ∀ u ∈ frCells ps, u.oneCell' = true := fun u hu => by
  obtain ⟨p, hp, hu⟩ := List.mem_flatMap.1 hu
  simp at hu
  rcases hu with rfl | rfl | rfl
  · rfl
  · rfl
  · obtain ⟨a, c, e⟩ := (h p hp).1.len
    rw [e]; rfl
/-- 'append(append([]api.Frame{}, a...), b...)' -/
theorem frames_two {S : Nat → Prop} {w : World} {u v : Value} {l m : List Fr} (hu : FrsIn S w u l) (hv : FrsIn S w v m) (hb : l.length + m.length ≤ 1000) :
    ∃ v3 w3 v4 w4, (Builtin.append_ #[23, 23] 23 #[.slice (some ⟨w.heap.size, 0, none⟩) 0 0, u]).run Tryz.prog (w.alloc (.cells #[] 30)) = .ok v3 w3 ∧ (Builtin.append_ #[23, 23] 23 #[v3, v]).run Tryz.prog w3 = .ok v4 w4 ∧ OwnFrs w.heap.size S w4 v4 (l ++ m) ∧ Below w.heap.size w w4 := by
  obtain ⟨i0, hi, hz0, hz1, hz2⟩ := info_parts Tryz.infoFrm
  obtain ⟨ps, p1, p2, p3⟩ := hu.sl
  obtain ⟨qs, q1, q2, q3⟩ := hv.sl
  have hps : ps.length = l.length := by rw [← p1, List.length_map]
  have hqs : qs.length = m.length := by rw [← q1, List.length_map]
  obtain ⟨v3, w3, v4, w4, r3, r4, o4, b4⟩ := app_two (P := Tryz.prog) w 23 30 i0 _ 3 40 Tryz.underlying23 hi hz0 hz1 hz2 rfl (by decide) u v ps.length qs.length (frCells ps) (frCells qs) p2 q2 (fr_one2 p3) (fr_one2 q3) (by unfold maxLen; omega) (by omega)
  refine ⟨v3, w3, v4, w4, r3, r4, ⟨ps ++ qs, by rw [List.map_append, p1, q1], by rw [List.length_append, frCells_append]; exact o4, fun p hp => ?_⟩, b4⟩
  rcases List.mem_append.1 hp with hp | hp
  · exact (p3 p hp).below b4
  · exact (q3 p hp).below b4
/-- append of groups to a row of the call's own -/
theorem groups_app {base : Nat} {S : Nat → Prop} {w : World} {v u : Value} {L M : List (List Fr)} {qs : List (List Fr × Value)} (hv : OwnGrs base S w v L) (q1 : qs.map Prod.fst = M) (q2 : Sl w u qs.length 1 (qs.map Prod.snd)) (q3 : ∀ p ∈ qs, FrsIn S w p.2 p.1) (hS : ∀ g, S g → some g ≠ v.ownBlock) (hb : L.length + M.length ≤ 1000) (hbase : base ≤ w.heap.size) :
    ∃ v' w', (Builtin.append_ #[22, 22] 22 #[v, u]).run Tryz.prog w = .ok v' w' ∧ OwnGrs base S w' v' (L ++ M) ∧ w.grownBy w' v.ownBlock ∧ (v'.ownBlock = v.ownBlock ∨ ∀ g, v'.ownBlock = some g → w.heap.size ≤ g) := by
  obtain ⟨i0, hi, hz0, hz1, hz2⟩ := info_parts Tryz.infoGrp
  obtain ⟨ps, p1, p2, p3⟩ := hv
  have hps : ps.length = L.length := by rw [← p1, List.length_map]
  have hqs : qs.length = M.length := by rw [← q1, List.length_map]
  obtain ⟨v', w', r, o, g, dd⟩ := run_append_any (P := Tryz.prog) w base 22 22 25 i0 _ 1 24 Tryz.underlying22 hi hz0 hz1 hz2 rfl (by decide) v ps.length (ps.map Prod.snd) p2 qs.length (qs.map Prod.snd) u q2 (grp_one q3) (by unfold maxLen; omega) (by omega) hbase
  refine ⟨v', w', r, ⟨ps ++ qs, by rw [List.map_append, p1, q1], by rw [List.length_append, List.map_append]; exact o, fun p hp => ?_⟩, g, dd⟩
  have hs : SameOn S w w' := SameOn.grown g hS
  rcases List.mem_append.1 hp with hp | hp
  · exact (p3 p hp).to hs (fun _ _ h => h)
  · exact (q3 p hp).to hs (fun _ _ h => h)
/-- 'append([]api.Group{}, a...)' -/
theorem groups_copy {w : World} {u : Value} {L : List (List Fr)} (hu : GrsIn (fun g => g < w.heap.size) w u L) (hb : L.length ≤ 1000) :
    ∃ v' w', (Builtin.append_ #[22, 22] 22 #[.slice (some ⟨w.heap.size, 0, none⟩) 0 0, u]).run Tryz.prog (w.alloc (.cells #[] 25)) = .ok v' w' ∧ OwnGrs w.heap.size (fun g => g < w.heap.size) w' v' L ∧ Below w.heap.size w w' := by
  obtain ⟨qs, q1, q2, q3⟩ := (hu.alloc (.cells #[] 25)).sl
  have h0 : OwnGrs w.heap.size (fun g => g < w.heap.size) (w.alloc (.cells #[] 25)) (.slice (some ⟨w.heap.size, 0, none⟩) 0 0) [] := ⟨[], rfl, World.ownsRow_lit (base := w.heap.size) (e := 25) (size := 1) w #[] 0 (Nat.le_refl _) (by unfold maxLen; omega) rfl, fun _ hp => absurd hp List.not_mem_nil⟩
  obtain ⟨v', w', r, o, g, _⟩ := groups_app h0 q1 q2 q3 (fun g hg e => by simp [Value.ownBlock] at e; omega) (by simpa using hb) (by simp)
  exact ⟨v', w', r, by simpa using o, ((Below.refl _ w).alloc (Nat.le_refl _) _).grown g (by simp) (fun j hj => by simp [Value.ownBlock] at hj; omega)⟩
/-- 'append(want, x)' -/
theorem groups_snoc {base B : Nat} {w : World} {v ov : Value} {L : List (List Fr)} {o : List Fr} (hv : OwnGrs base (fun g => g < B) w v L) (hB : B ≤ base) (ho : FrsIn (fun g => g < B) w ov o) (hb : L.length ≤ 999) (hbase : base ≤ w.heap.size) :
    ∃ v' w', (Builtin.append_ #[22, 22] 22 #[v, .slice (some ⟨w.heap.size, 0, none⟩) 1 1]).run Tryz.prog (w.alloc (.cells #[ov] 25)) = .ok v' w' ∧ OwnGrs base (fun g => g < B) w' v' (L ++ [o]) ∧ Below base w w' := by
  have hS : ∀ g, g < B → some g ≠ v.ownBlock := fun g hg e => by have := (hv.lt g e.symm).1; omega
  obtain ⟨v', w', r, o', g, _⟩ := groups_app (qs := [(o, ov)]) (hv.below ((Below.refl _ w).alloc (Nat.le_refl _) (.cells #[ov] 25))) rfl (Sl.new w #[ov] 25 1 1 1 rfl) (fun p hp => by simp at hp; subst hp; exact ho.alloc _) hS (by simpa using hb) (by simp; omega)
  exact ⟨v', w', r, o', ((Below.refl base w).alloc hbase _).grown g (by simp; omega) (fun j hj => (hv.lt j hj).1)⟩

end Go.Proofs.YtnpaejknoipicafGreat

namespace Go.Proofs.YtnpaejknoipicafGreat
open Go.RowKit

/-- new blocks, but a row's own -/
def NS (base : Nat) (u : Value) : Nat → Prop := fun g => base ≤ g ∧ some g ≠ u.ownBlock

/-- one more frame behind a row of the call's own -/
theorem fr_snoc {base : Nat} {w : World} {u pv : Value} {l : List Fr} {f : Fr} (h : OwnFrs base (NS base u) w u l) (hp : StrsIn (NS base u) w pv f.parts) (hl : l.length ≤ 999) (hb : base ≤ w.heap.size) :
    ∃ v' w', (Builtin.append_ #[23, 23] 23 #[u, .slice (some ⟨w.heap.size, 0, none⟩) 1 1]).run Tryz.prog (w.alloc (.cells #[.int .i64 f.time, .bool f.key, pv] 30)) = .ok v' w' ∧ OwnFrs base (NS base v') w' v' (l ++ [f]) ∧ Below base w w' := by
  obtain ⟨i0, hi, hz0, hz1, hz2⟩ := info_parts Tryz.infoFrm
  have h1 : OwnFrs base (fun g => NS base u g ∧ g < w.heap.size) (w.alloc (.cells #[.int .i64 f.time, .bool f.key, pv] 30)) u l := (h.to (SameOn.refl _ _) (fun g hg hs => ⟨hs, hg⟩) (fun _ _ => rfl)).below ((Below.refl _ w).alloc (Nat.le_refl _) _)
  have hp1 : StrsIn (fun g => NS base u g ∧ g < w.heap.size) (w.alloc (.cells #[.int .i64 f.time, .bool f.key, pv] 30)) pv f.parts := (hp.mono fun g hg hs => ⟨hs, hg⟩).alloc _
  obtain ⟨ps, p1, p2, p3⟩ := h1
  have hps : ps.length = l.length := by rw [← p1, List.length_map]
  obtain ⟨pa, pc, ep⟩ := hp.1.len
  obtain ⟨v', w', r, o, g, dd⟩ := run_append_any (P := Tryz.prog) (w.alloc (.cells #[.int .i64 f.time, .bool f.key, pv] 30)) base 23 23 30 i0 _ 3 40 Tryz.underlying23 hi hz0 hz1 hz2 rfl (by decide) u ps.length (frCells ps) p2 1 [.int .i64 f.time, .bool f.key, pv] (.slice (some ⟨w.heap.size, 0, none⟩) 1 1) (Sl.new w #[.int .i64 f.time, .bool f.key, pv] 30 1 3 1 rfl) (fun x hx => by simp at hx; rcases hx with rfl | rfl | rfl; rfl; rfl; rw [ep]; rfl) (by unfold maxLen; omega) (by omega) (by simp; omega)
  have o1 := OwnFrs.snoc p1 p3 hp1 o g (fun g hg => hg.1.2)
  refine ⟨v', w', r, o1.to (SameOn.refl _ _) (fun g _ hg => ⟨hg.1.1, fun e => ?_⟩) (fun _ _ => rfl), ((Below.refl base w).alloc hb _).grown g (by simp; omega) (fun j hj => (p2.lt j hj).1)⟩
  rcases dd with d | d
  · rw [d] at e; exact hg.1.2 e
  · have := d g e.symm; simp at this; omega
/-- one more group behind a row of the call's own -/
theorem gr_snoc {base : Nat} {w : World} {u sv : Value} {L : List (List Fr)} {g : List Fr} (h : OwnGrs base (NS base u) w u L) (hp : FrsIn (NS base u) w sv g) (hl : L.length ≤ 999) (hb : base ≤ w.heap.size) :
    ∃ v' w', (Builtin.append_ #[22, 22] 22 #[u, .slice (some ⟨w.heap.size, 0, none⟩) 1 1]).run Tryz.prog (w.alloc (.cells #[sv] 25)) = .ok v' w' ∧ OwnGrs base (NS base v') w' v' (L ++ [g]) ∧ Below base w w' := by
  have h1 : OwnGrs base (fun g => NS base u g ∧ g < w.heap.size) (w.alloc (.cells #[sv] 25)) u L := (h.to (SameOn.refl _ _) (fun g hg hs => ⟨hs, hg⟩) (fun _ _ => rfl)).below ((Below.refl _ w).alloc (Nat.le_refl _) _)
  obtain ⟨v', w', r, o, gr, dd⟩ := groups_app (qs := [(g, sv)]) h1 rfl (Sl.new w #[sv] 25 1 1 1 rfl) (fun p hp' => by
    simp at hp'; subst hp'
    exact ((hp.mono (S' := fun g => NS base u g ∧ g < w.heap.size) fun g hg hs => ⟨hs, hg⟩).alloc _)) (fun g hg => hg.1.2) (by simp; omega) (by simp; omega)
  refine ⟨v', w', r, o.to (SameOn.refl _ _) (fun g _ hg => ⟨hg.1.1, fun e => ?_⟩) (fun _ _ => rfl), ((Below.refl base w).alloc hb _).grown gr (by simp; omega) (fun j hj => (h.lt j hj).1)⟩
  rcases dd with d | d
  · rw [d] at e; exact hg.1.2 e
  · have := d g e.symm; simp at this; omega

set_option maxHeartbeats 4000000 in
set_option maxRecDepth 100000 in
theorem cloneFrs_any (S : Nat → Prop) (v : Value) (l : List Fr) (w : World) (hv : FrsIn S w v l) (hlen : l.length ≤ 6) (hck : ∀ k, k < l.length → (frAt l k).chk = 0) :
    Calls Tryz.prog 102 #[v, .func (.func 103) #[] #[]] w fun e w' => ∃ u, e = .returned u ∧ OwnFrs w.heap.size (NS w.heap.size u) w' u l ∧ Below w.heap.size w w' := by
  obtain ⟨ao, c, hva, h1, h2, hc⟩ := hv
  obtain ⟨n, hn⟩ : ∃ n, n = l.length := ⟨_, rfl⟩
  have HN : Hid (n = l.length) := hn
  have HC : Hid (∀ k, k < l.length → ∃ b off, ao = some ⟨b, off, none⟩ ∧ b < w.heap.size ∧ S b ∧ At3In S w b (off + k * 3) (l[k]?.getD Fr.zero)) := hc
  have H8 : Hid (∀ k, k < l.length → (frAt l k).chk = 0) := hck
  have eg : Enters Tryz.prog 103 := enters_of Tryz.func103 (by kernel_rfl) rfl
  have eg' : ∀ (args : Array Value) (w : World), (callFunc 103 args).run Tryz.prog w = .ok (.enter 103 args) w := eg
  rw [← hn] at hva hlen h1
  clear hc hn hck eg
  subst hva
  go_enter Tryz.func102, Tryz.ntmps102
  go_wp2_with fail
  go_loopw [5, 10] (fun u i wr => ∃ k : Nat, k ≤ n ∧ i = .int .i64 k ∧ Hid (OwnFrs w.heap.size (NS w.heap.size u) wr u (l.take k)) ∧ Hid (Below w.heap.size w wr))
    (fun _ i _ => n - (intOf i).toNat)
  case atStart => exact ⟨0, Nat.zero_le _, rfl, OwnFrs.nil _ _ _, Below.refl _ _⟩
  case round =>
    obtain ⟨k, hk, rfl, HO, HB⟩ := hrel
    by_cases hlt : k < n
    · obtain ⟨b, off, rfl, hb, _, pv, c0, c1, c2, hps⟩ := HC.out k (by rw [← HN.out]; exact hlt)
      obtain ⟨f, hf⟩ : ∃ f, f = frAt l k := ⟨_, rfl⟩
      rw [show l[k]?.getD Fr.zero = f from hf.symm] at c0 c1 hps
      have d0 := (HB.out.cell (p := ⟨b, off + k * 3, none⟩) hb).trans c0
      have d1 := (HB.out.cell (p := ⟨b, off + k * 3 + 1, none⟩) hb).trans c1
      have d2 := (HB.out.cell (p := ⟨b, off + k * 3 + 2, none⟩) hb).trans c2
      have hfk := H8.out k (by rw [← HN.out]; exact hlt)
      rw [← hf] at hfk
      obtain ⟨pa, pc, ep⟩ := hps.1.len
      obtain ⟨pn, hpn⟩ : ∃ pn, pn = f.parts.length := ⟨_, rfl⟩
      rw [← hpn] at ep
      have HCL : Hid (∀ U, Below w.heap.size w U → Calls Tryz.prog 103 #[.agg #[.int .i64 f.time, .bool f.key, pv]] U fun e w' => ∃ a c, e = .returned (.agg #[.int .i64 f.time, .bool f.key, .slice a pn c]) ∧ Hid (StrsIn (fun g => U.heap.size ≤ g) w' (.slice a pn c) f.parts) ∧ Below U.heap.size U w') := fun U hU => by
        rw [hpn]; exact cloneFrame_any S f pv U (hps.below hU) hfk
      have hlti : (k : Int) < (n : Int) := by omega
      have HTK : Hid (l.take (k + 1) = l.take k ++ [f]) := by show _ = _; rw [take_one (by rw [← HN.out]; exact hlt) Fr.zero, hf]
      clear hps hf hpn c0 c1 c2 hfk
      subst ep
      go_wp2_with fail
      have B1 : Hid (Below w.heap.size w (wr.alloc (.cells #[.int .i64 f.time, .bool f.key, .slice pa pn pc] 30))) := HB.out.alloc HB.out.size _
      refine (HCL.out _ B1.out).mono ?_
      rintro e w2 ⟨a2, c2, rfl, HS2, hb2⟩
      have B2 : Below w.heap.size w w2 := B1.out.trans (hb2.mono B1.out.size)
      have hsz := B1.out.size
      have O2 : OwnFrs w.heap.size (NS w.heap.size u5) w2 u5 (l.take k) := (HO.out.below ((Below.refl _ wr).alloc (Nat.le_refl _) _)).below hb2
      obtain ⟨v', w3, r3, o3, b3⟩ := fr_snoc (f := f) (pv := .slice a2 pn c2) O2 (HS2.out.mono fun g _ hg => ⟨by simp at hg; have := HB.out.size; omega, fun e => by have := (HO.out.lt g e.symm).2; simp at hg; omega⟩) (by simp; omega) B2.size
      have O3 : Hid (OwnFrs w.heap.size (NS w.heap.size v') w3 v' (l.take (k + 1))) := by
        show OwnFrs _ _ _ _ _
        rw [HTK.out]; exact o3
      have B3 : Hid (Below w.heap.size w w3) := B2.trans b3
      clear hb2 d0 d1 d2 O2 o3 b3 HS2 B1 HO HB B2
      go_wp2_with (at_builtin; refine wpList_append_run rfl (.tmp 14) (.tmp 18) 23 23 rfl _ _ rfl rfl r3 ?_)
      go_roundw
      case rel => exact ⟨k + 1, by omega, by go_num, O3, B3⟩
      case measure => simp [intOf]; omega
    · have hkl : k = n := by omega
      subst hkl
      go_wp2
      go_ret
      have ho := HO.out
      rw [HN.out, List.take_length] at ho
      exact ⟨_, rfl, ho, HB.out⟩

set_option maxHeartbeats 4000000 in
set_option maxRecDepth 100000 in
theorem cloneGroup_any (S : Nat → Prop) (v : Value) (l : List Fr) (w : World) (hv : FrsIn S w v l) (hk : gchk l = 0) :
    Calls Tryz.prog 57 #[.agg #[v]] w fun e w' => ∃ a c, e = .returned (.agg #[.slice a l.length c]) ∧ FrsIn (fun g => w.heap.size ≤ g) w' (.slice a l.length c) l ∧ Below w.heap.size w w' := by
  obtain ⟨_, h6, hck⟩ := gchk_zero.1 hk
  obtain ⟨va, vc, ev, _, _⟩ := hv.len
  obtain ⟨n, hn⟩ : ∃ n, n = l.length := ⟨_, rfl⟩
  have HN : Hid (n = l.length) := hn
  have HV : Hid (FrsIn S w v l) := hv
  have HC : Hid (∀ U, Below w.heap.size w U → Calls Tryz.prog 102 #[v, .func (.func 103) #[] #[]] U fun e w' => ∃ a c, e = .returned (.slice a n c) ∧ Hid (FrsIn (fun g => U.heap.size ≤ g) w' (.slice a n c) l) ∧ Below U.heap.size U w') := fun U hU => by
    refine (cloneFrs_any S v l U (HV.out.below hU) h6 (fun k hk => (hck k hk).1)).mono ?_
    rintro e w' ⟨u, rfl, ho, hb⟩
    have hf : FrsIn (fun g => U.heap.size ≤ g) w' u l := ho.frsIn (fun g _ h => h.1) (fun g hg => (ho.lt g hg).1)
    obtain ⟨a, c, e, _, _⟩ := hf.len
    rw [← hn] at e
    subst e
    exact ⟨a, c, rfl, hf, hb⟩
  rw [← hn] at ev ⊢
  clear hv hk hck hn h6
  subst ev
  go_enter Tryz.func57, Tryz.ntmps57
  go_wp2_with fail
  have B1 : Hid (Below w.heap.size w ((w.alloc (.cells #[.slice va n vc] 25)).alloc (.cells #[.slice none 0 0] 25))) := ((Below.refl _ _).alloc (Nat.le_refl _) _).alloc (by simp) _
  have K1 : Hid (Blk ((w.alloc (.cells #[.slice va n vc] 25)).alloc (.cells #[.slice none 0 0] 25)) (w.heap.size + 1) #[.slice none 0 0] 25) := by
    have := Blk.new (w.alloc (.cells #[.slice va n vc] 25)) #[.slice none 0 0] 25
    simpa [Hid] using this
  refine (HC.out _ B1.out).mono ?_
  rintro e w2 ⟨a2, c2, rfl, HF, hb2⟩
  have B2 : Hid (Below w.heap.size w w2) := B1.out.trans (hb2.mono B1.out.size)
  have K2 := K1.out.below hb2 K1.out.lt
  have r0 := K2.one
  have r1 := K2.free 0
  have c9 : (w2.setCell ⟨w.heap.size + 1, 0, none⟩ (.slice a2 n c2)).cell? ⟨w.heap.size + 1, 0, none⟩ = some (.slice a2 n c2) := (K2.set 0 _).cell rfl
  have F9 : Hid (FrsIn (fun g => w.heap.size ≤ g) (w2.setCell ⟨w.heap.size + 1, 0, none⟩ (.slice a2 n c2)) (.slice a2 n c2) l) := HF.out.to (SameOn.setCell (fun g hg => by simp at hg ⊢; omega) _) (fun g _ hg => by simp at hg; omega)
  clear hb2 K1 B1 K2 HF
  go_wp2
  exact bodyPost_ret (v := .agg #[.slice a2 n c2]) (by simp [results, Tryz.results57, go_sem, c9]) rfl ⟨a2, c2, rfl, F9.out, B2.out.setCell (by simp) _⟩

set_option maxHeartbeats 4000000 in
set_option maxRecDepth 100000 in
theorem cloneGroups_any (S : Nat → Prop) (v : Value) (L : List (List Fr)) (w : World) (hv : GrsIn S w v L) (hlen : L.length ≤ 100) (hck : ∀ g ∈ L, gchk g = 0) :
    Calls Tryz.prog 99 #[v] w fun e w' => ∃ u, e = .returned u ∧ OwnGrs w.heap.size (NS w.heap.size u) w' u L ∧ Below w.heap.size w w' := by
  obtain ⟨ao, c, hva, h1, h2, hc⟩ := hv
  obtain ⟨n, hn⟩ : ∃ n, n = L.length := ⟨_, rfl⟩
  have HN : Hid (n = L.length) := hn
  have HC : Hid (∀ k, k < L.length → ∃ b off, ao = some ⟨b, off, none⟩ ∧ b < w.heap.size ∧ S b ∧ ∃ sv, w.cell? ⟨b, off + k, none⟩ = some sv ∧ FrsIn S w sv (L[k]?.getD [])) := hc
  have H8 : Hid (∀ k, k < L.length → gchk (L[k]?.getD []) = 0) := fun k hk => hck _ (by rw [List.getElem?_eq_getElem hk]; exact List.getElem_mem _)
  have eg : Enters Tryz.prog 57 := enters_of Tryz.func57 (by kernel_rfl) rfl
  have eg' : ∀ (args : Array Value) (w : World), (callFunc 57 args).run Tryz.prog w = .ok (.enter 57 args) w := eg
  rw [← hn] at hva hlen h1
  clear hc hn hck eg
  subst hva
  have ALL : Hid (Calls Tryz.prog 145 #[.slice ao n c, .func (.func 57) #[] #[]] w fun e w' => ∃ u, e = .returned u ∧ OwnGrs w.heap.size (NS w.heap.size u) w' u L ∧ Below w.heap.size w w') := by
    show Calls _ _ _ _ _
    go_enter Tryz.func145, Tryz.ntmps145
    go_wp2_with fail
    go_loopw [5, 10] (fun u i wr => ∃ k : Nat, k ≤ n ∧ i = .int .i64 k ∧ Hid (OwnGrs w.heap.size (NS w.heap.size u) wr u (L.take k)) ∧ Hid (Below w.heap.size w wr))
      (fun _ i _ => n - (intOf i).toNat)
    case atStart => exact ⟨0, Nat.zero_le _, rfl, OwnGrs.nil _ _ _, Below.refl _ _⟩
    case round =>
      obtain ⟨k, hk, rfl, HO, HB⟩ := hrel
      by_cases hlt : k < n
      · obtain ⟨b, off, rfl, hb, _, sv, c0, hs⟩ := HC.out k (by rw [← HN.out]; exact hlt)
        have hgk := H8.out k (by rw [← HN.out]; exact hlt)
        obtain ⟨g, hg⟩ : ∃ g, g = L[k]?.getD [] := ⟨_, rfl⟩
        rw [← hg] at hs hgk
        have d0 := (HB.out.cell (p := ⟨b, off + k, none⟩) hb).trans c0
        obtain ⟨sa, sc, es, _, _⟩ := hs.len
        obtain ⟨gn, hgn⟩ : ∃ gn, gn = g.length := ⟨_, rfl⟩
        rw [← hgn] at es
        have HCL : Hid (∀ U, Below w.heap.size w U → Calls Tryz.prog 57 #[.agg #[sv]] U fun e w' => ∃ a c, e = .returned (.agg #[.slice a gn c]) ∧ Hid (FrsIn (fun g => U.heap.size ≤ g) w' (.slice a gn c) g) ∧ Below U.heap.size U w') := fun U hU => by
          rw [hgn]; exact cloneGroup_any S sv g U (hs.below hU) hgk
        have hlti : (k : Int) < (n : Int) := by omega
        have HTK : Hid (L.take (k + 1) = L.take k ++ [g]) := by show _ = _; rw [take_one (by rw [← HN.out]; exact hlt) [], hg]
        clear hs hg hgn c0 hgk
        subst es
        go_wp2_with fail
        have B1 : Hid (Below w.heap.size w (wr.alloc (.cells #[.slice sa gn sc] 25))) := HB.out.alloc HB.out.size _
        refine (HCL.out _ B1.out).mono ?_
        rintro e w2 ⟨a2, c2, rfl, HS2, hb2⟩
        have B2 : Below w.heap.size w w2 := B1.out.trans (hb2.mono B1.out.size)
        have hsz := B1.out.size
        have O2 : OwnGrs w.heap.size (NS w.heap.size u5) w2 u5 (L.take k) := (HO.out.below ((Below.refl _ wr).alloc (Nat.le_refl _) _)).below hb2
        obtain ⟨v', w3, r3, o3, b3⟩ := gr_snoc (g := g) (sv := .slice a2 gn c2) O2 (HS2.out.mono fun g _ hg => ⟨by simp at hg; have := HB.out.size; omega, fun e => by have := (HO.out.lt g e.symm).2; simp at hg; omega⟩) (by simp; omega) B2.size
        have O3 : Hid (OwnGrs w.heap.size (NS w.heap.size v') w3 v' (L.take (k + 1))) := by
          show OwnGrs _ _ _ _ _
          rw [HTK.out]; exact o3
        have B3 : Hid (Below w.heap.size w w3) := B2.trans b3
        clear hb2 d0 O2 o3 b3 HS2 B1 HO HB B2
        go_wp2_with (at_builtin; refine wpList_append_run rfl (.tmp 14) (.tmp 18) 22 22 rfl _ _ rfl rfl r3 ?_)
        go_roundw
        case rel => exact ⟨k + 1, by omega, by go_num, O3, B3⟩
        case measure => simp [intOf]; omega
      · have hkl : k = n := by omega
        subst hkl
        go_wp2
        go_ret
        have ho := HO.out
        rw [HN.out, List.take_length] at ho
        exact ⟨_, rfl, ho, HB.out⟩
  clear eg' HC H8
  go_enter Tryz.func99, Tryz.ntmps99
  go_wp2_with fail
  refine ALL.out.mono ?_
  rintro e w1 ⟨u, rfl, ho, hb⟩
  have HO : Hid (OwnGrs w.heap.size (NS w.heap.size u) w1 u L) := ho
  clear ho ALL
  go_wp2
  go_ret
  exact ⟨u, rfl, HO.out, hb⟩

end Go.Proofs.YtnpaejknoipicafGreat

namespace Go.Proofs.YtnpaejknoipicafGreat
open Go.RowKit

/-- how many of the first groups go -/
def trimD : List (List Fr) → Nat
  | [] => 0
  | g :: r => if fullB (g :: r) then trimD r + 1 else 0
theorem fullB_nil : fullB [] = false := by simp [fullB, tooB]
theorem trimD_no {L : List (List Fr)} (h : fullB L = false) : trimD L = 0 := by
  cases L with
  | nil => rfl
  | cons g r => simp [trimD, h]
theorem trimD_yes {L : List (List Fr)} (h : fullB L = true) : trimD L = trimD L.tail + 1 := by
  cases L with
  | nil => rw [fullB_nil] at h; cases h
  | cons g r => simp [trimD, h]
theorem trimD_drop (L : List (List Fr)) : ∀ k, (∀ j, j < k → fullB (L.drop j) = true) → trimD L = k + trimD (L.drop k)
  | 0, _ => by simp
  | k + 1, h => by
    rw [trimD_drop L k (fun j hj => h j (by omega)), trimD_yes (h k (by omega)), List.tail_drop]
    omega
theorem fullB_len {L : List (List Fr)} (h : fullB L = true) : 1 < L.length := by
  simp only [fullB, tooB, Bool.or_eq_true, Bool.and_eq_true, decide_eq_true_eq] at h
  omega

theorem GrsIn.tail {S : Nat → Prop} {w : World} {ao : Option Addr} {n c : Nat} {L : List (List Fr)} (h : GrsIn S w (.slice ao n c) L) (h1 : 1 < L.length) : ∃ b off, ao = some ⟨b, off, none⟩ ∧ n = L.length ∧ L.length ≤ c ∧ GrsIn S w (.slice (some ⟨b, off + 1, none⟩) (L.length - 1) (c - 1)) L.tail := by
  obtain ⟨ao', c', e, hc1, hc2, hc⟩ := h
  injection e with e1 e2 e3
  subst e1 e2 e3
  obtain ⟨b, off, e, _⟩ := hc 0 (by omega)
  subst e
  refine ⟨b, off, rfl, rfl, hc1, some ⟨b, off + 1, none⟩, c - 1, by rw [List.length_tail], by rw [List.length_tail]; omega, by omega, fun k hk => ?_⟩
  rw [List.length_tail] at hk
  obtain ⟨b', off', e, hb, hS, sv, h1, h2⟩ := hc (k + 1) (by omega)
  injection e with e
  injection e with e1 e2
  subst e1 e2
  refine ⟨b, off + 1, rfl, hb, hS, sv, by rw [show off + 1 + k = off + (k + 1) by omega]; exact h1, ?_⟩
  rw [List.getElem?_tail]; exact h2

set_option maxHeartbeats 4000000 in
set_option maxRecDepth 100000 in
theorem letGo_any (M : Nat) (first : Int) (gv ov : Value) (L : List (List Fr)) (S : Nat → Prop) (w : World) (hM : Blk w M #[.int .i64 first, gv, ov] 103) (hg : GrsIn S w gv L) (hS : ∀ g, S g → g ≠ M) (hL : L.length ≤ 1000) (hf0 : 0 ≤ first) (hf1 : first ≤ 1000000) :
    Calls Tryz.prog 100 #[.pointer (some ⟨M, 0, none⟩)] w fun e w' => e = .returned (.tuple #[]) ∧ ∃ gv', Blk w' M #[.int .i64 (first + trimD L), gv', ov] 103 ∧ GrsIn S w' gv' (L.drop (trimD L)) ∧ Kept [M] w w' := by
  have HL : Hid (L.length ≤ 1000) := hL
  obtain ⟨n, hn⟩ : ∃ n, n = L.length := ⟨_, rfl⟩
  have HN : Hid (n = L.length) := hn
  have hn1 : n ≤ 1000 := by omega
  have HS : Hid (∀ g, S g → g ≠ M) := hS
  have HG : Hid (GrsIn S w gv L) := hg
  have HM : Hid (Blk w M #[.int .i64 first, gv, ov] 103) := hM
  clear hn hL hg hM hS
  go_enter Tryz.func100, Tryz.ntmps100
  go_wp2_with fail
  go_loopw [] (fun wr => ∃ (k : Nat) (gk : Value), k ≤ n ∧ Hid (∀ j, j < k → fullB (L.drop j) = true) ∧ Hid (Blk wr M #[.int .i64 (first + k), gk, ov] 103) ∧ Hid (GrsIn S wr gk (L.drop k)) ∧ Hid (Kept [M] w wr))
    (fun wr => n - (intOf ((wr.cell? ⟨M, 0, none⟩).getD undef) - first).toNat)
  case atStart => exact ⟨0, gv, Nat.zero_le _, (show ∀ j, _ → _ from fun j hj => absurd hj (Nat.not_lt_zero _)), by simpa [Hid] using HM.out, by simpa [Hid] using HG.out, Kept.refl _ _⟩
  case round =>
    obtain ⟨k, gk, hk, HF, KB, GK, KP⟩ := hrel
    obtain ⟨N, hN⟩ : ∃ N, N = L.drop k := ⟨_, rfl⟩
    have HNK : Hid (N = L.drop k) := hN
    rw [← hN] at GK
    obtain ⟨q, hq⟩ : ∃ q, q = N.length := ⟨_, rfl⟩
    have HQ : Hid (q = N.length) := hq
    have hql : q ≤ 1000 := by rw [hq, hN, List.length_drop]; have := HL.out; omega
    have HQN : Hid (q = n - k) := by show _ = _; rw [hq, hN, List.length_drop, HN.out]
    obtain ⟨ga, gc, eg, hgl, hg63⟩ := GK.out.len
    rw [← hq] at eg hgl hg63
    clear hN hq
    subst eg
    obtain ⟨k0, k1, k2⟩ := KB.out.three
    have f0 := KB.out.free 0
    have f1 := KB.out.free 1
    have hms : (intOf ((wr.cell? ⟨M, 0, none⟩).getD undef) - first).toNat = k := by rw [k0]; simp [intOf]; omega
    -- one goes
    have GO : Hid (fullB N = true → ∃ b off, ga = some ⟨b, off, none⟩ ∧ 1 < q ∧ q ≤ gc ∧ ∀ V : World, Blk V M #[.int .i64 (first + k), .slice ga q gc, ov] 103 → GrsIn S V (.slice ga q gc) N → Kept [M] w V → Hid (Blk ((V.setCell ⟨M, 1, none⟩ (.slice (some ⟨b, off + 1, none⟩) (q - 1) (gc - 1))).setCell ⟨M, 0, none⟩ (.int .i64 (first + k + 1))) M #[.int .i64 (first + (k + 1 : Nat)), .slice (some ⟨b, off + 1, none⟩) (q - 1) (gc - 1), ov] 103) ∧ Hid (GrsIn S ((V.setCell ⟨M, 1, none⟩ (.slice (some ⟨b, off + 1, none⟩) (q - 1) (gc - 1))).setCell ⟨M, 0, none⟩ (.int .i64 (first + k + 1))) (.slice (some ⟨b, off + 1, none⟩) (q - 1) (gc - 1)) (L.drop (k + 1))) ∧ Hid (Kept [M] w ((V.setCell ⟨M, 1, none⟩ (.slice (some ⟨b, off + 1, none⟩) (q - 1) (gc - 1))).setCell ⟨M, 0, none⟩ (.int .i64 (first + k + 1)))) ∧ Hid (∀ j, j < k + 1 → fullB (L.drop j) = true)) := fun hf => by
      have h1 := fullB_len hf
      obtain ⟨b, off, e1, _, h3, _⟩ := GK.out.tail h1
      refine ⟨b, off, e1, by rw [HQ.out]; exact h1, by rw [HQ.out]; exact h3, fun V h4 h5 h6 => ?_⟩
      obtain ⟨b', off', e2, _, _, h7⟩ := h5.tail h1
      rw [e1] at e2
      injection e2 with e2
      injection e2 with e2 e3
      subst e2 e3
      have hd : L.drop (k + 1) = N.tail := by rw [HNK.out, List.tail_drop]
      refine ⟨?_, ?_, (h6.setCell (by simp) _).setCell (by simp) _, fun j hj => ?_⟩
      · have := (h4.set 1 (.slice (some ⟨b, off + 1, none⟩) (q - 1) (gc - 1))).set 0 (.int .i64 (first + k + 1))
        rw [show first + ((k + 1 : Nat) : Int) = first + k + 1 by omega]
        simpa [Hid] using this
      · show GrsIn _ _ _ _
        rw [hd, HQ.out]
        exact h7.to ((SameOn.setCell (fun g hg => HS.out g hg) _).trans (SameOn.setCell (fun g hg => HS.out g hg) _)) (fun _ _ h => h)
      · by_cases e : j = k
        · subst e; rw [← HNK.out]; exact hf
        · exact HF.out j (by omega)
    -- nothing goes
    have END : Hid (fullB N = false → ∀ V : World, Blk V M #[.int .i64 (first + k), .slice ga q gc, ov] 103 → GrsIn S V (.slice ga q gc) N → Kept [M] w V → ∃ gv', Blk V M #[.int .i64 (first + trimD L), gv', ov] 103 ∧ GrsIn S V gv' (L.drop (trimD L)) ∧ Kept [M] w V) := fun hf V h1 h2 h3 => by
      have ht : trimD L = k := by rw [trimD_drop L k HF.out, ← HNK.out, trimD_no hf]; omega
      rw [ht]
      exact ⟨_, h1, by rw [← HNK.out]; exact h2, h3⟩
    by_cases h5 : 5 < q
    · have h5i : (5 : Int) < (q : Int) := by omega
      have hfull : fullB N = true := by unfold fullB; rw [← HQ.out]; simp [h5]
      obtain ⟨b, off, e1, h1q, hqc, hgo⟩ := GO.out hfull
      obtain ⟨r1, r2, r3, r4⟩ := hgo wr KB.out GK.out KP.out
      subst e1
      have h1i : (1 : Int) ≤ (q : Int) := by omega
      have hqci : (q : Int) ≤ (gc : Int) := by omega
      have c1 : (wr.setCell ⟨M, 1, none⟩ (.slice (some ⟨b, off + 1, none⟩) (q - 1) (gc - 1))).cell? ⟨M, 0, none⟩ = some (.int .i64 (first + k)) := (KB.out.set 1 _).cell rfl
      clear hfull hgo GO END HF
      go_wp2_with fail
      go_roundw
      case rel => exact ⟨k + 1, _, by have := HQN.out; omega, r4, r1, r2, r3⟩
      case measure =>
        have c2 := r1.out.cell (j := 0) rfl
        rw [hms, c2]
        simp [intOf]
        have := HQN.out
        omega
    · have h5i : ¬ (5 : Int) < (q : Int) := by omega
      obtain ⟨T, hT⟩ : ∃ T, T = tooB N := ⟨_, rfl⟩
      have HTG : Hid (Calls Tryz.prog 85 #[.slice ga q gc] wr fun e' w'' => e' = .returned (.bool T) ∧ Below wr.heap.size wr w'') := by
        show Calls _ _ _ _ _
        rw [hT]; exact areTooGreat_any S _ N wr GK.out (by rw [← HQ.out]; omega)
      have HFB : Hid (fullB N = T) := by show _ = _; unfold fullB; rw [← HQ.out, ← hT]; simp; omega
      clear hT
      go_wp2_with fail
      refine HTG.out.mono ?_
      rintro e' w2 ⟨rfl, hb2⟩
      have KB2 : Hid (Blk w2 M #[.int .i64 (first + k), .slice ga q gc, ov] 103) := KB.out.below hb2 KB.out.lt
      have GK2 : Hid (GrsIn S w2 (.slice ga q gc) N) := GK.out.below hb2
      have KP2 : Hid (Kept [M] w w2) := KP.out.below hb2
      clear hb2 HTG k0 k1 k2 f0 f1
      obtain ⟨k0, k1, k2⟩ := KB2.out.three
      have f0 := KB2.out.free 0
      have f1 := KB2.out.free 1
      cases T
      case true =>
        obtain ⟨b, off, e1, h1q, hqc, hgo⟩ := GO.out HFB.out
        obtain ⟨r1, r2, r3, r4⟩ := hgo w2 KB2.out GK2.out KP2.out
        subst e1
        have h1i : (1 : Int) ≤ (q : Int) := by omega
        have hqci : (q : Int) ≤ (gc : Int) := by omega
        have c1 : (w2.setCell ⟨M, 1, none⟩ (.slice (some ⟨b, off + 1, none⟩) (q - 1) (gc - 1))).cell? ⟨M, 0, none⟩ = some (.int .i64 (first + k)) := (KB2.out.set 1 _).cell rfl
        clear hgo GO END HF
        go_wp2_with fail
        go_roundw
        case rel => exact ⟨k + 1, _, by have := HQN.out; omega, r4, r1, r2, r3⟩
        case measure =>
          have c2 := r1.out.cell (j := 0) rfl
          rw [hms, c2]
          simp [intOf]
          have := HQN.out
          omega
      case false =>
        have HEND : Hid (∃ gv', Blk w2 M #[.int .i64 (first + trimD L), gv', ov] 103 ∧ GrsIn S w2 gv' (L.drop (trimD L)) ∧ Kept [M] w w2) := END.out HFB.out w2 KB2.out GK2.out KP2.out
        clear GO END HF
        go_wp2
        go_end0
        exact ⟨rfl, HEND.out⟩

end Go.Proofs.YtnpaejknoipicafGreat

namespace Go.Proofs.YtnpaejknoipicafGreat
open Go.RowKit

theorem zeroCells_len (z : Array Value) (n : Nat) : (Builtin.zeroCells z n).size = n * z.size := by simp [Builtin.zeroCells]

section
variable {P : Program}
theorem grow_run (w : World) (T tn ty E : TypeId) (i : TypeInfo) (z : Value) (size bytes : Nat) (ht : P.underlying T = some (.slice E)) (htn : P.underlying tn = some (.int .i64)) (hi : P.info? E = some i) (hz : i.zero = some z) (hsize : i.size = size) (hby : i.bytes = bytes) (hzs : z.cells.size = size) (hsz : 0 < size)
    (n : Nat) (h0 : 0 < n) (hn : n ≤ 1000) (hb : bytes ≤ 1000) :
    ∃ cap w', (Builtin.append_ #[T, tn] ty #[.slice none 0 0, .int .i64 n]).run P w = .ok (.slice (some ⟨w.heap.size, 0, none⟩) n cap) w' ∧ n ≤ cap ∧ w'.ownsRow w.heap.size E size (.slice (some ⟨w.heap.size, 0, none⟩) 0 cap) 0 [] ∧ Below w.heap.size w w' := by
  have hnb : n * i.bytes ≤ 1000 * 1000 := by rw [hby]; exact Nat.mul_le_mul hn hb
  have r := Lib.run_append_nil_zeros (P := P) w T tn ty E i z .i64 .i64 ht htn hi hz n h0 (by omega) (by omega) (by omega)
  have hg := grownCap_ge w n 0 E
  refine ⟨_, _, r, hg, ⟨by simp, .inr ⟨w.heap.size, _, _, rfl, Nat.le_refl _, heap_alloc_new w.drew _, Nat.zero_le _, grownCap_le_maxLen w n 0 E (by unfold maxLen; omega), ?_, by simp⟩⟩, (Below.refl _ w).drew.alloc (Nat.le_refl _) _⟩
  rw [Array.size_append, zeroCells_len, zeroCells_len, hzs, ← Nat.add_mul]
  congr 1; omega
end

/-- append of a row of frames to a row of the call's own -/
theorem appFrs {base : Nat} {S : Nat → Prop} {w : World} {v u : Value} {l m : List Fr} (hv : OwnFrs base S w v l) (hu : FrsIn S w u m) (hS : ∀ g, S g → g < base) (hb : l.length + m.length ≤ 1000) (hbase : base ≤ w.heap.size) :
    ∃ v' w', (Builtin.append_ #[23, 23] 23 #[v, u]).run Tryz.prog w = .ok v' w' ∧ OwnFrs base S w' v' (l ++ m) ∧ Below base w w' := by
  obtain ⟨i0, hi, hz0, hz1, hz2⟩ := info_parts Tryz.infoFrm
  obtain ⟨ps, p1, p2, p3⟩ := hv
  obtain ⟨qs, q1, q2, q3⟩ := hu.sl
  have hps : ps.length = l.length := by rw [← p1, List.length_map]
  have hqs : qs.length = m.length := by rw [← q1, List.length_map]
  obtain ⟨v', w', r, o, g, _⟩ := run_append_any (P := Tryz.prog) w base 23 23 30 i0 _ 3 40 Tryz.underlying23 hi hz0 hz1 hz2 rfl (by decide) v ps.length (frCells ps) p2 qs.length (frCells qs) u q2 (fr_one2 q3) (by unfold maxLen; omega) (by omega) hbase
  have hs : SameOn S w w' := SameOn.grown g (fun g hg e => by have := (p2.lt g e.symm).1; have := hS g hg; omega)
  refine ⟨v', w', r, ⟨ps ++ qs, by rw [List.map_append, p1, q1], by rw [List.length_append, frCells_append]; exact o, fun p hp => ?_⟩, (Below.refl base w).grown g hbase (fun j hj => (p2.lt j hj).1)⟩
  rcases List.mem_append.1 hp with hp | hp
  · exact (p3 p hp).to hs (fun _ _ h => h)
  · exact (q3 p hp).to hs (fun _ _ h => h)
theorem appGrs {base : Nat} {S : Nat → Prop} {w : World} {v u : Value} {l m : List (List Fr)} (hv : OwnGrs base S w v l) (hu : GrsIn S w u m) (hS : ∀ g, S g → g < base) (hb : l.length + m.length ≤ 1000) (hbase : base ≤ w.heap.size) :
    ∃ v' w', (Builtin.append_ #[22, 22] 22 #[v, u]).run Tryz.prog w = .ok v' w' ∧ OwnGrs base S w' v' (l ++ m) ∧ Below base w w' := by
  obtain ⟨qs, q1, q2, q3⟩ := hu.sl
  obtain ⟨v', w', r, o, g, _⟩ := groups_app hv q1 q2 q3 (fun g hg e => by have := (hv.lt g e.symm).1; have := hS g hg; omega) hb hbase
  exact ⟨v', w', r, o, (Below.refl base w).grown g hbase (fun j hj => (hv.lt j hj).1)⟩

set_option maxHeartbeats 2000000 in
set_option maxRecDepth 100000 in
theorem growFrs_any (n : Nat) (w : World) (hn : n ≤ 1000) :
    Calls Tryz.prog 144 #[.slice none 0 0, .int .i64 n] w fun e w' => ∃ u, e = .returned u ∧ w'.ownsRow w.heap.size 30 3 u 0 [] ∧ Below w.heap.size w w' := by
  by_cases h0 : n = 0
  · subst h0
    go_enter Tryz.func144, Tryz.ntmps144
    go_wp2
    go_ret
    exact ⟨_, rfl, World.ownsRow_nil _ _ _ _, Below.refl _ _⟩
  · obtain ⟨i0, hi, hz0, hz1, hz2⟩ := info_parts Tryz.infoFrm
    obtain ⟨cap, w', r, hc, ho, hb⟩ := grow_run (P := Tryz.prog) w 23 3 23 30 i0 _ 3 40 Tryz.underlying23 Tryz.underlying3 hi hz0 hz1 hz2 rfl (by decide) n (by omega) hn (by decide)
    have HO : Hid (w'.ownsRow w.heap.size 30 3 (.slice (some ⟨w.heap.size, 0, none⟩) 0 cap) 0 []) := ho
    have HB : Hid (Below w.heap.size w w') := hb
    have h0i : (0 : Int) < (n : Int) := by omega
    have hw : IntKind.i64.wrap (n : Int) = (n : Int) := by rw [IntKind.wrap_i64]; omega
    clear ho hb hi hz0 hz1 hz2
    go_enter Tryz.func144, Tryz.ntmps144
    go_wp2_with (at_builtin; refine wpList_append_run rfl (.tmp 20) (.tmp 21) 23 3 rfl _ _ rfl rfl r ?_)
    go_ret
    exact ⟨_, rfl, HO.out, HB.out⟩

set_option maxHeartbeats 4000000 in
set_option maxRecDepth 100000 in
theorem concatFrs_any (S : Nat → Prop) (q : Nat) (av bv : Value) (l m : List Fr) (w : World) (hq0 : w.cell? ⟨q, 0, none⟩ = some av) (hq1 : w.cell? ⟨q, 1, none⟩ = some bv) (ha : FrsIn S w av l) (hb : FrsIn S w bv m) (hlen : l.length + m.length ≤ 1000) :
    Calls Tryz.prog 98 #[.slice (some ⟨q, 0, none⟩) 2 2] w fun e w' => ∃ u, e = .returned u ∧ OwnFrs w.heap.size (fun g => S g ∧ g < w.heap.size) w' u (l ++ m) ∧ Below w.heap.size w w' := by
  have hqw : q < w.heap.size := block_lt_of_cell hq0
  have HA : Hid (FrsIn (fun g => S g ∧ g < w.heap.size) w av l) := ha.mono fun g hg hs => ⟨hs, hg⟩
  have HB' : Hid (FrsIn (fun g => S g ∧ g < w.heap.size) w bv m) := hb.mono fun g hg hs => ⟨hs, hg⟩
  obtain ⟨aa, ac, ea, _, _⟩ := ha.len
  obtain ⟨ba, bc, eb, _, _⟩ := hb.len
  obtain ⟨la, hla⟩ : ∃ n, n = l.length := ⟨_, rfl⟩
  obtain ⟨lb, hlb⟩ : ∃ n, n = m.length := ⟨_, rfl⟩
  have HLA : Hid (la = l.length) := hla
  have HLB : Hid (lb = m.length) := hlb
  rw [← hla] at ea hlen
  rw [← hlb] at eb hlen
  clear ha hb hla hlb
  subst ea eb
  go_enter Tryz.func98, Tryz.ntmps98
  go_wp2_with fail
  go_loopw [3, 11] (fun s i wr => ∃ k y : Nat, ((k = 0 ∧ y = 0) ∨ (k = 1 ∧ y = la) ∨ (k = 2 ∧ y = la + lb)) ∧ i = .int .i64 k ∧ s = .int .i64 y ∧ w = wr)
    (fun _ i _ => 2 - (intOf i).toNat)
  case atStart => exact ⟨0, 0, .inl ⟨rfl, rfl⟩, rfl, rfl, rfl⟩
  case round =>
    obtain ⟨k, y, hk, rfl, rfl, rfl⟩ := hrel
    rcases hk with ⟨rfl, rfl⟩ | ⟨rfl, rfl⟩ | ⟨rfl, rfl⟩
    · go_wp2_with fail
      go_roundw
      case rel => exact ⟨1, la, .inr (.inl ⟨rfl, rfl⟩), by go_num, by go_num, by first | rfl | trivial⟩
      case measure => simp [intOf]
    · go_wp2_with fail
      go_roundw
      case rel => exact ⟨2, y + lb, .inr (.inr ⟨rfl, rfl⟩), by go_num, by go_num, by first | rfl | trivial⟩
      case measure => simp [intOf]
    · have HG : Hid (∀ U : World, Calls Tryz.prog 144 #[.slice none 0 0, .int .i64 ((la : Int) + (lb : Int))] U fun e w' => ∃ u, e = .returned u ∧ Hid (w'.ownsRow U.heap.size 30 3 u 0 []) ∧ Below U.heap.size U w') := fun U => by
        have := growFrs_any (la + lb) U hlen
        rw [show ((la + lb : Nat) : Int) = (la : Int) + (lb : Int) by omega] at this
        exact this
      go_wp2_with fail
      refine (HG.out _).mono ?_
      rintro e w1 ⟨u1, rfl, HO1, hb1⟩
      have B1 : Hid (Below w.heap.size w w1) := hb1
      have O1 : Hid (OwnFrs w.heap.size (fun g => S g ∧ g < w.heap.size) w1 u1 []) := ⟨[], rfl, HO1.out, fun _ hp => absurd hp List.not_mem_nil⟩
      have CQ : Hid (∀ U, Below w.heap.size w U → U.cell? ⟨q, 0, none⟩ = some (.slice aa la ac) ∧ U.cell? ⟨q, 1, none⟩ = some (.slice ba lb bc)) := fun U hU => ⟨(hU.cell (p := ⟨q, 0, none⟩) hqw).trans hq0, (hU.cell (p := ⟨q, 1, none⟩) hqw).trans hq1⟩
      clear hb1 HO1 HG hq0 hq1
      go_wp2_with fail
      go_loopw [6, 27] (fun u i w2 => ∃ k : Nat, k ≤ 2 ∧ i = .int .i64 k ∧ Hid (OwnFrs w.heap.size (fun g => S g ∧ g < w.heap.size) w2 u (if k = 0 then [] else if k = 1 then l else l ++ m)) ∧ Hid (Below w.heap.size w w2))
        (fun _ i _ => 2 - (intOf i).toNat)
      case atStart => exact ⟨0, by omega, rfl, O1, B1⟩
      case round =>
        obtain ⟨k, hk, rfl, HO, HB⟩ := hrel
        have hk3 : k = 0 ∨ k = 1 ∨ k = 2 := by omega
        obtain ⟨c0, c1⟩ := CQ.out _ HB.out
        rcases hk3 with rfl | rfl | rfl
        · have ho : OwnFrs w.heap.size (fun g => S g ∧ g < w.heap.size) wr u6 [] := HO.out
          obtain ⟨v', w3, r3, o3, b3⟩ := appFrs ho (HA.out.below HB.out) (fun g hg => hg.2) (by rw [← HLA.out]; simp; omega) HB.out.size
          have O3 : Hid (OwnFrs w.heap.size (fun g => S g ∧ g < w.heap.size) w3 v' l) := by simpa [Hid] using o3
          have B3 : Hid (Below w.heap.size w w3) := HB.out.trans b3
          clear o3 b3 ho HO HB
          go_wp2_with (at_builtin; refine wpList_append_run rfl (.tmp 31) (.tmp 32) 23 23 rfl _ _ rfl rfl r3 ?_)
          go_roundw
          case rel => exact ⟨1, by omega, by go_num, O3, B3⟩
          case measure => simp [intOf]
        · have ho : OwnFrs w.heap.size (fun g => S g ∧ g < w.heap.size) wr u6 l := HO.out
          obtain ⟨v', w3, r3, o3, b3⟩ := appFrs ho (HB'.out.below HB.out) (fun g hg => hg.2) (by rw [← HLA.out, ← HLB.out]; omega) HB.out.size
          have O3 : Hid (OwnFrs w.heap.size (fun g => S g ∧ g < w.heap.size) w3 v' (l ++ m)) := o3
          have B3 : Hid (Below w.heap.size w w3) := HB.out.trans b3
          clear o3 b3 ho HO HB
          go_wp2_with (at_builtin; refine wpList_append_run rfl (.tmp 31) (.tmp 32) 23 23 rfl _ _ rfl rfl r3 ?_)
          go_roundw
          case rel => exact ⟨2, by omega, by go_num, O3, B3⟩
          case measure => simp [intOf]
        · have ho : OwnFrs w.heap.size (fun g => S g ∧ g < w.heap.size) wr u6 (l ++ m) := HO.out
          go_wp2
          go_ret
          exact ⟨_, rfl, ho, HB.out⟩

set_option maxHeartbeats 2000000 in
set_option maxRecDepth 100000 in
theorem growGrs_any (n : Nat) (w : World) (hn : n ≤ 1000) :
    Calls Tryz.prog 146 #[.slice none 0 0, .int .i64 n] w fun e w' => ∃ u, e = .returned u ∧ w'.ownsRow w.heap.size 25 1 u 0 [] ∧ Below w.heap.size w w' := by
  by_cases h0 : n = 0
  · subst h0
    go_enter Tryz.func146, Tryz.ntmps146
    go_wp2
    go_ret
    exact ⟨_, rfl, World.ownsRow_nil _ _ _ _, Below.refl _ _⟩
  · obtain ⟨i0, hi, hz0, hz1, hz2⟩ := info_parts Tryz.infoGrp
    obtain ⟨cap, w', r, hc, ho, hb⟩ := grow_run (P := Tryz.prog) w 22 3 22 25 i0 _ 1 24 Tryz.underlying22 Tryz.underlying3 hi hz0 hz1 hz2 rfl (by decide) n (by omega) hn (by decide)
    have HO : Hid (w'.ownsRow w.heap.size 25 1 (.slice (some ⟨w.heap.size, 0, none⟩) 0 cap) 0 []) := ho
    have HB : Hid (Below w.heap.size w w') := hb
    have h0i : (0 : Int) < (n : Int) := by omega
    have hw : IntKind.i64.wrap (n : Int) = (n : Int) := by rw [IntKind.wrap_i64]; omega
    clear ho hb hi hz0 hz1 hz2
    go_enter Tryz.func146, Tryz.ntmps146
    go_wp2_with (at_builtin; refine wpList_append_run rfl (.tmp 20) (.tmp 21) 22 3 rfl _ _ rfl rfl r ?_)
    go_ret
    exact ⟨_, rfl, HO.out, HB.out⟩

set_option maxHeartbeats 4000000 in
set_option maxRecDepth 100000 in
theorem concatGrs_any (S : Nat → Prop) (q : Nat) (av bv : Value) (l m : List (List Fr)) (w : World) (hq0 : w.cell? ⟨q, 0, none⟩ = some av) (hq1 : w.cell? ⟨q, 1, none⟩ = some bv) (ha : GrsIn S w av l) (hb : GrsIn S w bv m) (hlen : l.length + m.length ≤ 1000) :
    Calls Tryz.prog 101 #[.slice (some ⟨q, 0, none⟩) 2 2] w fun e w' => ∃ u, e = .returned u ∧ OwnGrs w.heap.size (fun g => S g ∧ g < w.heap.size) w' u (l ++ m) ∧ Below w.heap.size w w' := by
  have hqw : q < w.heap.size := block_lt_of_cell hq0
  have HA : Hid (GrsIn (fun g => S g ∧ g < w.heap.size) w av l) := ha.mono fun g hg hs => ⟨hs, hg⟩
  have HB' : Hid (GrsIn (fun g => S g ∧ g < w.heap.size) w bv m) := hb.mono fun g hg hs => ⟨hs, hg⟩
  obtain ⟨aa, ac, ea, _, _⟩ := ha.len
  obtain ⟨ba, bc, eb, _, _⟩ := hb.len
  obtain ⟨la, hla⟩ : ∃ n, n = l.length := ⟨_, rfl⟩
  obtain ⟨lb, hlb⟩ : ∃ n, n = m.length := ⟨_, rfl⟩
  have HLA : Hid (la = l.length) := hla
  have HLB : Hid (lb = m.length) := hlb
  rw [← hla] at ea hlen
  rw [← hlb] at eb hlen
  clear ha hb hla hlb
  subst ea eb
  go_enter Tryz.func101, Tryz.ntmps101
  go_wp2_with fail
  go_loopw [3, 11] (fun s i wr => ∃ k y : Nat, ((k = 0 ∧ y = 0) ∨ (k = 1 ∧ y = la) ∨ (k = 2 ∧ y = la + lb)) ∧ i = .int .i64 k ∧ s = .int .i64 y ∧ w = wr)
    (fun _ i _ => 2 - (intOf i).toNat)
  case atStart => exact ⟨0, 0, .inl ⟨rfl, rfl⟩, rfl, rfl, rfl⟩
  case round =>
    obtain ⟨k, y, hk, rfl, rfl, rfl⟩ := hrel
    rcases hk with ⟨rfl, rfl⟩ | ⟨rfl, rfl⟩ | ⟨rfl, rfl⟩
    · go_wp2_with fail
      go_roundw
      case rel => exact ⟨1, la, .inr (.inl ⟨rfl, rfl⟩), by go_num, by go_num, by first | rfl | trivial⟩
      case measure => simp [intOf]
    · go_wp2_with fail
      go_roundw
      case rel => exact ⟨2, y + lb, .inr (.inr ⟨rfl, rfl⟩), by go_num, by go_num, by first | rfl | trivial⟩
      case measure => simp [intOf]
    · have HG : Hid (∀ U : World, Calls Tryz.prog 146 #[.slice none 0 0, .int .i64 ((la : Int) + (lb : Int))] U fun e w' => ∃ u, e = .returned u ∧ Hid (w'.ownsRow U.heap.size 25 1 u 0 []) ∧ Below U.heap.size U w') := fun U => by
        have := growGrs_any (la + lb) U hlen
        rw [show ((la + lb : Nat) : Int) = (la : Int) + (lb : Int) by omega] at this
        exact this
      go_wp2_with fail
      refine (HG.out _).mono ?_
      rintro e w1 ⟨u1, rfl, HO1, hb1⟩
      have B1 : Hid (Below w.heap.size w w1) := hb1
      have O1 : Hid (OwnGrs w.heap.size (fun g => S g ∧ g < w.heap.size) w1 u1 []) := ⟨[], rfl, HO1.out, fun _ hp => absurd hp List.not_mem_nil⟩
      have CQ : Hid (∀ U, Below w.heap.size w U → U.cell? ⟨q, 0, none⟩ = some (.slice aa la ac) ∧ U.cell? ⟨q, 1, none⟩ = some (.slice ba lb bc)) := fun U hU => ⟨(hU.cell (p := ⟨q, 0, none⟩) hqw).trans hq0, (hU.cell (p := ⟨q, 1, none⟩) hqw).trans hq1⟩
      clear hb1 HO1 HG hq0 hq1
      go_wp2_with fail
      go_loopw [6, 27] (fun u i w2 => ∃ k : Nat, k ≤ 2 ∧ i = .int .i64 k ∧ Hid (OwnGrs w.heap.size (fun g => S g ∧ g < w.heap.size) w2 u (if k = 0 then [] else if k = 1 then l else l ++ m)) ∧ Hid (Below w.heap.size w w2))
        (fun _ i _ => 2 - (intOf i).toNat)
      case atStart => exact ⟨0, by omega, rfl, O1, B1⟩
      case round =>
        obtain ⟨k, hk, rfl, HO, HB⟩ := hrel
        have hk3 : k = 0 ∨ k = 1 ∨ k = 2 := by omega
        obtain ⟨c0, c1⟩ := CQ.out _ HB.out
        rcases hk3 with rfl | rfl | rfl
        · have ho : OwnGrs w.heap.size (fun g => S g ∧ g < w.heap.size) wr u6 [] := HO.out
          obtain ⟨v', w3, r3, o3, b3⟩ := appGrs ho (HA.out.below HB.out) (fun g hg => hg.2) (by rw [← HLA.out]; simp; omega) HB.out.size
          have O3 : Hid (OwnGrs w.heap.size (fun g => S g ∧ g < w.heap.size) w3 v' l) := by simpa [Hid] using o3
          have B3 : Hid (Below w.heap.size w w3) := HB.out.trans b3
          clear o3 b3 ho HO HB
          go_wp2_with (at_builtin; refine wpList_append_run rfl (.tmp 31) (.tmp 32) 22 22 rfl _ _ rfl rfl r3 ?_)
          go_roundw
          case rel => exact ⟨1, by omega, by go_num, O3, B3⟩
          case measure => simp [intOf]
        · have ho : OwnGrs w.heap.size (fun g => S g ∧ g < w.heap.size) wr u6 l := HO.out
          obtain ⟨v', w3, r3, o3, b3⟩ := appGrs ho (HB'.out.below HB.out) (fun g hg => hg.2) (by rw [← HLA.out, ← HLB.out]; omega) HB.out.size
          have O3 : Hid (OwnGrs w.heap.size (fun g => S g ∧ g < w.heap.size) w3 v' (l ++ m)) := o3
          have B3 : Hid (Below w.heap.size w w3) := HB.out.trans b3
          clear o3 b3 ho HO HB
          go_wp2_with (at_builtin; refine wpList_append_run rfl (.tmp 31) (.tmp 32) 22 22 rfl _ _ rfl rfl r3 ?_)
          go_roundw
          case rel => exact ⟨2, by omega, by go_num, O3, B3⟩
          case measure => simp [intOf]
        · have ho : OwnGrs w.heap.size (fun g => S g ∧ g < w.heap.size) wr u6 (l ++ m) := HO.out
          go_wp2
          go_ret
          exact ⟨_, rfl, ho, HB.out⟩

end Go.Proofs.YtnpaejknoipicafGreat

namespace Go.Proofs.YtnpaejknoipicafGreat
open Go.RowKit

/-- groups of a store, the open one, too -/
def allG (L : List (List Fr)) (O : List Fr) : List (List Fr) := if 0 < O.length then L ++ [O] else L

theorem GrsIn.one {S : Nat → Prop} {w : World} {b : Nat} {O : List Fr} {ov : Value} (hb : Blk w b #[ov] 25) (hS : S b) (ho : FrsIn S w ov O) : GrsIn S w (.slice (some ⟨b, 0, none⟩) 1 1) [O] := by
  refine ⟨some ⟨b, 0, none⟩, 1, rfl, Nat.le_refl _, by omega, fun k hk => ⟨b, 0, rfl, hb.lt, hS, ov, ?_⟩⟩
  have : k = 0 := by simpa using hk
  subst this
  exact ⟨hb.one, ho⟩

set_option maxHeartbeats 4000000 in
set_option maxRecDepth 100000 in
theorem keeperAll_any (M : Nat) (first : Int) (gv ov : Value) (L : List (List Fr)) (O : List Fr) (w : World) (hM : Blk w M #[.int .i64 first, gv, ov] 103) (hg : GrsIn (fun _ => True) w gv L) (ho : FrsIn (fun _ => True) w ov O) (hL : L.length ≤ 100) :
    Calls Tryz.prog 56 #[.pointer (some ⟨M, 0, none⟩)] w fun e w' => ∃ u, e = .returned u ∧ GrsIn (fun _ => True) w' u (allG L O) ∧ Below w.heap.size w w' := by
  obtain ⟨ga, gc, eg, _, _⟩ := hg.len
  obtain ⟨oa, oc, eo, _, hol⟩ := ho.len
  obtain ⟨n, hn⟩ : ∃ n, n = L.length := ⟨_, rfl⟩
  obtain ⟨m, hm⟩ : ∃ m, m = O.length := ⟨_, rfl⟩
  rw [← hn] at eg hL
  rw [← hm] at eo hol
  have HG : Hid (GrsIn (fun _ => True) w gv L) := hg
  have HO : Hid (FrsIn (fun _ => True) w ov O) := ho
  have HN : Hid (n = L.length) := hn
  have HK : Hid (Blk w M #[.int .i64 first, gv, ov] 103) := hM
  obtain ⟨k0, k1, k2⟩ := hM.three
  obtain ⟨A, hA⟩ : ∃ A, A = allG L O := ⟨_, rfl⟩
  have HA : Hid (A = if 0 < m then L ++ [O] else L) := by show _ = _; rw [hA, hm]; rfl
  rw [← hA]
  clear hg ho hn hm hM hA
  subst eg eo
  by_cases h0 : m = 0
  · have HAA : Hid (A = L) := by show _ = _; rw [HA.out, if_neg (by omega)]
    subst h0
    go_enter Tryz.func56, Tryz.ntmps56
    go_wp2
    go_ret
    exact ⟨_, rfl, by rw [HAA.out]; exact HG.out, Below.refl _ _⟩
  have HAA : Hid (A = L ++ [O]) := by show _ = _; rw [HA.out, if_pos (by omega)]
  have h0i : ((m : Int) == 0) = false := by simp; omega
  have hMw : M < w.heap.size := HK.out.lt
  clear h0
  go_enter Tryz.func56, Tryz.ntmps56
  go_wp2_with fail
  refine region_chain (by kernel_rfl) (by kernel_rfl) [.quiet (.pointer (some ⟨M, 0, none⟩)) 4, .quiet (.pointer (some ⟨M, 0, none⟩)) 4, .quiet (.pointer (some ⟨M, 0, none⟩)) 4, .quiet (.pointer (some ⟨M, 1, none⟩)) 4, .quiet (.slice ga n gc) 4, .quiet (.pointer (some ⟨M, 0, none⟩)) 4, .quiet (.pointer (some ⟨M, 0, none⟩)) 4, .quiet (.pointer (some ⟨M, 0, none⟩)) 4, .quiet (.pointer (some ⟨M, 2, none⟩)) 4, .quiet (.agg #[.slice oa m oc]) 4, .step 0, .step 1, .step 2, .step 3] [10, 11, 12, 13] (by kernel_rfl)
    (fun s r w' => match s with
      | 0 => Below w.heap.size w w'
      | 1 => ∃ V, Below w.heap.size w V ∧ w' = V.alloc (.cells #[.slice oa m oc] 25) ∧ r 0 = .slice (some ⟨V.heap.size, 0, none⟩) 1 1
      | 2 => ∃ V, Below w.heap.size w V ∧ w' = (V.alloc (.cells #[.slice oa m oc] 25)).alloc (.cells #[.slice ga n gc, .slice (some ⟨V.heap.size, 0, none⟩) 1 1] 22) ∧ r 1 = .slice (some ⟨V.heap.size + 1, 0, none⟩) 2 2
      | 3 => GrsIn (fun _ => True) w' (r 2) (L ++ [O]) ∧ Below w.heap.size w w'
      | _ => GrsIn (fun _ => True) w' (r 3) (L ++ [O]) ∧ Below w.heap.size w w') ?i0 ?step ?fin
  case i0 => exact ⟨rfl, rfl, rfl, Nat.le_refl _, fun _ _ => rfl⟩
  case step =>
    intro i o ho a' w' s r hI hfree hvals
    have f0 : a'.eval (.tmp 0) = .pointer (some ⟨M, 0, none⟩) := (hfree 0 (by kernel_rfl)).trans rfl
    have hBw : Below w.heap.size w w' := by
      match s, hI with
      | 0, h => exact h
      | 1, ⟨V, h1, h2, _⟩ => rw [h2]; exact h1.alloc h1.size _
      | 2, ⟨V, h1, h2, _⟩ => rw [h2]; exact (h1.alloc h1.size _).alloc (by have := h1.size; simp; omega) _
      | 3, h => exact h.2
      | _ + 4, h => exact h.2
    have y1 := (hBw.cell (p := ⟨M, 1, none⟩) hMw).trans k1
    have y2 := (hBw.cell (p := ⟨M, 2, none⟩) hMw).trans k2
    match i, ho with
    | 0, ho | 5, ho =>
      simp at ho; subst ho
      show s ≤ 4 → (execOp a'.eval _).run _ w' = .ok (.value _) w'
      intro _
      generalize a'.eval = ρ at *
      simp [execOp, go_sem, f0]
    | 1, ho =>
      simp at ho; subst ho
      have e1 : a'.eval (.tmp 16) = .pointer (some ⟨M, 0, none⟩) := hvals 0 _ _ (by kernel_rfl) rfl rfl
      show s ≤ 4 → (execOp a'.eval _).run _ w' = .ok (.value _) w'
      intro _
      generalize a'.eval = ρ at *
      simp [execOp, go_sem, e1]
    | 2, ho =>
      simp at ho; subst ho
      have e1 : a'.eval (.tmp 17) = .pointer (some ⟨M, 0, none⟩) := hvals 1 _ _ (by kernel_rfl) rfl rfl
      show s ≤ 4 → (execOp a'.eval _).run _ w' = .ok (.value _) w'
      intro _
      generalize a'.eval = ρ at *
      simp [execOp, go_sem, e1]
    | 3, ho =>
      simp at ho; subst ho
      have e1 : a'.eval (.tmp 18) = .pointer (some ⟨M, 0, none⟩) := hvals 2 _ _ (by kernel_rfl) rfl rfl
      show s ≤ 4 → (execOp a'.eval _).run _ w' = .ok (.value _) w'
      intro _
      generalize a'.eval = ρ at *
      simp [execOp, go_sem, e1]
    | 4, ho =>
      simp at ho; subst ho
      have e1 : a'.eval (.tmp 19) = .pointer (some ⟨M, 1, none⟩) := hvals 3 _ _ (by kernel_rfl) rfl rfl
      show s ≤ 4 → (execOp a'.eval _).run _ w' = .ok (.value _) w'
      intro _
      generalize a'.eval = ρ at *
      simp [execOp, go_sem, e1, y1]
    | 6, ho =>
      simp at ho; subst ho
      have e1 : a'.eval (.tmp 21) = .pointer (some ⟨M, 0, none⟩) := hvals 5 _ _ (by kernel_rfl) rfl rfl
      show s ≤ 4 → (execOp a'.eval _).run _ w' = .ok (.value _) w'
      intro _
      generalize a'.eval = ρ at *
      simp [execOp, go_sem, e1]
    | 7, ho =>
      simp at ho; subst ho
      have e1 : a'.eval (.tmp 22) = .pointer (some ⟨M, 0, none⟩) := hvals 6 _ _ (by kernel_rfl) rfl rfl
      show s ≤ 4 → (execOp a'.eval _).run _ w' = .ok (.value _) w'
      intro _
      generalize a'.eval = ρ at *
      simp [execOp, go_sem, e1]
    | 8, ho =>
      simp at ho; subst ho
      have e1 : a'.eval (.tmp 23) = .pointer (some ⟨M, 0, none⟩) := hvals 7 _ _ (by kernel_rfl) rfl rfl
      show s ≤ 4 → (execOp a'.eval _).run _ w' = .ok (.value _) w'
      intro _
      generalize a'.eval = ρ at *
      simp [execOp, go_sem, e1]
    | 9, ho =>
      simp at ho; subst ho
      have e1 : a'.eval (.tmp 24) = .pointer (some ⟨M, 2, none⟩) := hvals 8 _ _ (by kernel_rfl) rfl rfl
      show s ≤ 4 → (execOp a'.eval _).run _ w' = .ok (.value _) w'
      intro _
      generalize a'.eval = ρ at *
      simp [execOp, go_sem, e1, y2]
    | 10, ho =>
      simp at ho; subst ho
      have e1 : a'.eval (.tmp 25) = .agg #[.slice oa m oc] := hvals 9 _ _ (by kernel_rfl) rfl rfl
      show s = 0 → _
      intro hs
      subst hs
      refine oper_wp_ok (v := .slice (some ⟨w'.heap.size, 0, none⟩) 1 1) (w' := w'.alloc (.cells #[.slice oa m oc] 25)) ?_ ⟨_, rfl, ?_⟩
      · generalize a'.eval = ρ at *
        simp [execOp, go_sem, e1]
      · exact ⟨w', hBw, rfl, updR_at _ _ _⟩
    | 11, ho =>
      simp at ho; subst ho
      show s = 1 → _
      intro hs
      subst hs
      obtain ⟨V, h1, h2, h3⟩ := hI
      have e1 : a'.eval (.tmp 20) = .slice ga n gc := hvals 4 _ _ (by kernel_rfl) rfl rfl
      have e2 : a'.eval (.tmp 26) = .slice (some ⟨V.heap.size, 0, none⟩) 1 1 := (hvals 10 _ _ (by kernel_rfl) rfl rfl).trans h3
      refine oper_wp_ok (v := .slice (some ⟨V.heap.size + 1, 0, none⟩) 2 2) (w' := w'.alloc (.cells #[.slice ga n gc, .slice (some ⟨V.heap.size, 0, none⟩) 1 1] 22)) ?_ ⟨_, rfl, ?_⟩
      · generalize a'.eval = ρ at *
        rw [h2]
        simp [execOp, go_sem, e1, e2]
      · exact ⟨V, h1, by rw [h2], updR_at _ _ _⟩
    | 12, ho =>
      simp at ho; subst ho
      show s = 2 → _
      intro hs
      subst hs
      obtain ⟨V, h1, h2, h3⟩ := hI
      have e1 : a'.eval (.tmp 27) = .slice (some ⟨V.heap.size + 1, 0, none⟩) 2 2 := (hvals 11 _ _ (by kernel_rfl) rfl rfl).trans h3
      have ef : a'.eval (.func 101) = .func (.func 101) #[] #[] := rfl
      have KV : Blk w' (V.heap.size + 1) #[.slice ga n gc, .slice (some ⟨V.heap.size, 0, none⟩) 1 1] 22 := by
        have := Blk.new (V.alloc (.cells #[.slice oa m oc] 25)) #[.slice ga n gc, .slice (some ⟨V.heap.size, 0, none⟩) 1 1] 22
        rw [h2]; simpa using this
      have KO : Blk w' V.heap.size #[.slice oa m oc] 25 := by rw [h2]; exact (Blk.new V _ _).alloc _
      obtain ⟨z0, z1⟩ := KV.two
      have hc := concatGrs_any (fun _ => True) (V.heap.size + 1) (.slice ga n gc) (.slice (some ⟨V.heap.size, 0, none⟩) 1 1) L [O] w' z0 z1 (HG.out.below hBw) (GrsIn.one KO trivial (HO.out.below hBw)) (by rw [← HN.out]; simp; omega)
      refine oper_wp_call (f := 101) (args := #[.slice (some ⟨V.heap.size + 1, 0, none⟩) 2 2]) ?_ (hc.mono ?_)
      · generalize a'.eval = ρ at *
        simp [execOp, go_sem, e1, ef]
      · rintro e w'' ⟨u, rfl, o1, b1⟩
        exact ⟨u, rfl, u, rfl, by rw [updR_at]; exact o1.grsIn (fun _ _ _ => trivial) (fun _ _ => trivial), hBw.trans (b1.mono hBw.size)⟩
    | 13, ho =>
      simp at ho; subst ho
      show s = 3 → _
      intro hs
      subst hs
      have e1 : a'.eval (.tmp 28) = r 2 := hvals 12 _ _ (by kernel_rfl) rfl rfl
      refine oper_wp_ok (v := r 2) (w' := w') ?_ ⟨_, rfl, ?_⟩
      · generalize a'.eval = ρ at *
        simp [execOp, go_sem, e1]
      · exact ⟨by rw [updR_at]; exact hI.1, hI.2⟩
    | i + 14, ho => simp at ho
  case fin =>
    rintro r W ⟨h1, h2⟩
    have H1 : Hid (GrsIn (fun _ => True) W (r 3) A ∧ Below w.heap.size w W) := ⟨by rw [HAA.out]; exact h1, h2⟩
    clear h1 h2 k0 k1 k2 h0i hMw HG HO HN HK HA HAA
    simp only [putC, Ck.out]
    go_wp2_with fail
    exact bodyPost_ret (v := r 3) (by simp [results, Tryz.results56, go_sem]) rfl ⟨_, rfl, H1.out⟩

end Go.Proofs.YtnpaejknoipicafGreat

namespace Go.Proofs.YtnpaejknoipicafGreat
open Go.RowKit

section
variable {P : Program} {Q : Exit → Act → World → Prop}

/-- operations in the text's order -/
def tl (P : Program) (Q : Exit → Act → World → Prop) : List Oper → Act → World → Prop
  | [], a, w => Q .normal a w
  | o :: r, a, w => o.wp P a w (fun a' w' => tl P Q r a' w') Q

/-- (a structure of its own: nothing looks into it unasked) -/
structure TL (P : Program) (Q : Exit → Act → World → Prop) (l : List Oper) (a : Act) (w : World) : Prop where
  out : tl P Q l a w

/-- each of the last ones waits for all ahead of it -/
def tailB (n : Nat) (l : List Oper) : Bool := (List.range l.length).all fun i => decide (i < n) || (match l[i]? with | none => false | some o => (List.range i).all fun j => o.after.toList.any fun e => e.on == j && Region.binds .any e)
def regOkT (l : List Oper) : Bool := l.all (fun o => o.guard.isNone) && (l.zipIdx.all fun p => p.1.after.all fun e => decide (e.on < p.2) || !(Region.binds .any e))

theorem tailB_spec {n : Nat} {l : List Oper} (h : tailB n l = true) {i : Nat} {o : Oper} (ho : l[i]? = some o) (hn : n ≤ i) {L : Array Bool} (hr : ∀ e ∈ o.after, Region.binds .any e = true → L.getD e.on false = true) : ∀ j, j < i → L.getD j false = true := by
  intro j hj
  have hi : i < l.length := (List.getElem?_eq_some_iff.1 ho).1
  have h1 := List.all_eq_true.1 h i (List.mem_range.2 hi)
  simp only [Bool.or_eq_true, decide_eq_true_eq] at h1
  rcases h1 with h1 | h1
  · omega
  · rw [ho] at h1
    have h2 := List.all_eq_true.1 h1 j (List.mem_range.2 hj)
    obtain ⟨e, he, h3⟩ := List.any_eq_true.1 h2
    simp only [Bool.and_eq_true, beq_iff_eq] at h3
    rw [← h3.1]; exact hr e (by simpa using he) h3.2

theorem rep_no (n j : Nat) : (Array.replicate n false).getD j false = false := by
  simp [Array.getD_eq_getD_getElem?, Array.getElem?_replicate]; split <;> rfl

theorem wp_region_tail {id : Nat} {a : Act} {w : World} {l t : List Oper} (hm : P.follows .mixedOrders = true) (hd : dstsApart l = true) (hB : regOkT (l ++ t) = true) (hT : tailB l.length (l ++ t) = true) (F : Array Bool → (Nat → Value) → World → Prop)
    (h0 : F (Array.replicate l.length false) (fun _ => undef) { w with drawn := w.drawn + 1 })
    (hstep : ∀ L vs w', F L vs w' → ∀ (i : Nat) (o : Oper), l[i]? = some o → L[i]? = some false → (∀ e ∈ o.after, Region.binds .any e = true → L.getD e.on false = true) →
      o.wp P (putL L vs 0 l a) w' (fun a' w'' => ∃ v, a' = (putL L vs 0 l a).put o.dst v ∧ F (L.setIfInBounds i true) (upd vs i v) w'') Q)
    (hend : ∀ L vs w', F L vs w' → (∀ i, i < l.length → L.getD i false = true) → tl P Q t (putL L vs 0 l a) w') : (Code.region id (l ++ t).toArray true).wp P Q a w := by
  simp only [regOkT, Bool.and_eq_true] at hB
  obtain ⟨hg, hA⟩ := hB
  have hAft : ∀ (i : Nat) (o : Oper), (l ++ t).toArray[i]? = some o → ∀ e ∈ o.after, Region.binds .any e = true → e.on < i := fun i o ho e he hb => by
    have h1 : (o, i) ∈ (l ++ t).zipIdx := by
      rw [List.mem_zipIdx_iff_getElem?]; simpa using ho
    have h2 := List.all_eq_true.1 hA _ h1
    rw [Array.all_eq_true_iff_forall_mem] at h2
    simpa [hb] using h2 e he
  refine wp_region_any hm ?_
  refine wpAny_inv (md := .any) (fun L a' w' => (∃ L1 vs, L1.size = l.length ∧ (∀ j, j < l.length → L.getD j false = L1.getD j false) ∧ (∀ j, l.length ≤ j → L.getD j false = false) ∧ a' = putL L1 vs 0 l a ∧ F L1 vs w') ∨ (∃ k, k ≤ t.length ∧ 0 < k ∧ (∀ j, j < l.length + k → L.getD j false = true) ∧ (∀ j, l.length + k ≤ j → L.getD j false = false) ∧ tl P Q (t.drop k) a' w')) ?_ ?_ ?_ _ _ _ _ (by simp) ?_ ?_
  · intro o ho
    have := List.all_eq_true.1 hg o (by simpa using ho)
    simpa using this
  · rintro L a' w' hs hI i o ho hL hrdy
    have ho' : (l ++ t)[i]? = some o := by simpa using ho
    have hLi : L.getD i false = false := by simp [Array.getD_eq_getD_getElem?, hL]
    have hit : i < l.length + t.length := by have := (List.getElem?_eq_some_iff.1 ho').1; simpa using this
    have next : ∀ k, k < t.length → i = l.length + k → (∀ j, j < i → L.getD j false = true) → (∀ j, i < j → L.getD j false = false) → tl P Q (t.drop k) a' w' → o.wp P a' w' (fun a'' w'' => (∃ L1 vs, L1.size = l.length ∧ (∀ j, j < l.length → (L.setIfInBounds i true).getD j false = L1.getD j false) ∧ (∀ j, l.length ≤ j → (L.setIfInBounds i true).getD j false = false) ∧ a'' = putL L1 vs 0 l a ∧ F L1 vs w'') ∨ (∃ k, k ≤ t.length ∧ 0 < k ∧ (∀ j, j < l.length + k → (L.setIfInBounds i true).getD j false = true) ∧ (∀ j, l.length + k ≤ j → (L.setIfInBounds i true).getD j false = false) ∧ tl P Q (t.drop k) a'' w'')) Q := fun k hk hik h1 h2 h3 => by
      have hok : t.drop k = o :: t.drop (k + 1) := by
        have e : t[k]? = some o := by
          rw [List.getElem?_append_right (by omega)] at ho'
          rw [← ho']; congr 1; omega
        rw [List.drop_eq_getElem_cons hk]
        congr 1
        rw [List.getElem?_eq_getElem hk] at e
        injection e
      rw [hok] at h3
      refine Oper.wp_mono (fun a'' w'' h => ?_) h3
      refine .inr ⟨k + 1, hk, by omega, fun j hj => ?_, fun j hj => ?_, h⟩
      · by_cases e : j = i
        · subst e; exact getD_set_at hL _
        · rw [getD_set_other e]; exact h1 j (by omega)
      · rw [getD_set_other (by omega)]; exact h2 j (by omega)
    rcases hI with ⟨L1, vs, hs1, hj1, hj2, rfl, hF⟩ | ⟨k, hk, hk0, hj1, hj2, ht⟩
    · by_cases hi : i < l.length
      · have hl : l[i]? = some o := by rw [List.getElem?_append_left hi] at ho'; exact ho'
        have hL1 : L1[i]? = some false := by
          have h1 := hj1 i hi
          rw [hLi] at h1
          have h2 : i < L1.size := by omega
          rw [Array.getElem?_eq_getElem h2]
          simp [Array.getD_eq_getD_getElem?, h2] at h1
          rw [h1]
        have hsub : ∀ e ∈ o.after, Region.binds .any e = true → L1.getD e.on false = true := fun e he hb => by
          have := hAft i o ho e he hb
          rw [← hj1 e.on (by omega)]; exact hrdy e he hb
        refine Oper.wp_mono (fun a'' w'' ⟨v, h1, h2⟩ => ?_) (hstep L1 vs w' hF i o hl hL1 hsub)
        · refine .inl ⟨L1.setIfInBounds i true, upd vs i v, by simpa using hs1, fun j hj => ?_, fun j hj => ?_, by rw [h1, putL_set hL1 l 0 a o hd (Nat.zero_le _) (by simpa using hl)], h2⟩
          · by_cases e : j = i
            · subst e; rw [getD_set_at hL, getD_set_at hL1]
            · rw [getD_set_other e, getD_set_other e]; exact hj1 j hj
          · rw [getD_set_other (by omega)]; exact hj2 j hj
      · have hall := tailB_spec hT ho' (by omega) hrdy
        have hin : i = l.length := by
          by_cases h : i = l.length
          · exact h
          · have h1 := hall l.length (by omega)
            rw [hj2 _ (Nat.le_refl _)] at h1; cases h1
        refine next 0 (by omega) (by omega) hall (fun j hj => hj2 j (by omega)) ?_
        exact hend L1 vs w' hF (fun j hj => by rw [← hj1 j hj]; exact hall j (by omega))
    · have hik : l.length + k ≤ i := by
        by_cases h : i < l.length + k
        · rw [hj1 i h] at hLi; cases hLi
        · omega
      have hall := tailB_spec hT ho' (by omega) hrdy
      have hin : i = l.length + k := by
        by_cases h : i = l.length + k
        · exact h
        · have h1 := hall (l.length + k) (by omega)
          rw [hj2 _ (Nat.le_refl _)] at h1; cases h1
      exact next k (by omega) hin hall (fun j hj => hj2 j (by omega)) ht
  · rintro L a' w' hs hI hr
    have hall : ∀ i, i < l.length + t.length → L.getD i false = true := fun i hi => by
      have := ready_nil hs hAft hr i (by simpa using hi)
      simp [Array.getD_eq_getD_getElem?, this]
    rcases hI with ⟨L1, vs, hs1, hj1, hj2, rfl, hF⟩ | ⟨k, hk, hk0, hj1, hj2, ht⟩
    · have ht0 : t = [] := by
        cases t with
        | nil => rfl
        | cons o r =>
          have h1 := hall l.length (by simp)
          rw [hj2 _ (Nat.le_refl _)] at h1; cases h1
      subst ht0
      exact hend L1 vs w' hF (fun j hj => by rw [← hj1 j hj]; exact hall j (by simpa using hj))
    · have hkt : k = t.length := by
        by_cases h : k = t.length
        · exact h
        · have h1 := hall (l.length + k) (by omega)
          rw [hj2 _ (Nat.le_refl _)] at h1; cases h1
      subst hkt
      simpa [tl] using ht
  · simp only [left]; exact Nat.le_trans List.countP_le_length (by simp)
  · refine .inl ⟨Array.replicate l.length false, fun _ => undef, by simp, fun j hj => ?_, fun j hj => ?_, ?_, h0⟩
    · rw [rep_no, rep_no]
    · exact rep_no _ _
    · have : ∀ (m : List Oper) (k : Nat) (a : Act), a = putL (Array.replicate l.length false) (fun _ => undef) k m a := by
        intro m
        induction m with
        | nil => intro k a; rfl
        | cons o r ih =>
          intro k a
          simp only [putL]
          rw [if_neg (by simp [Array.getD_eq_getD_getElem?, Array.getElem?_replicate]; split <;> simp)]
          exact ih (k + 1) a
      exact this l 0 a
end
end Go.Proofs.YtnpaejknoipicafGreat
