/-
  'switchbacklaw.StoreTells' returns true for every input, and each argument reads behind the call as it read before: 'Rows.StoreTellsSaid'. No condition.
-/
import Derived.Test.YtgmnhbmjnllhhacRows
import Derived.Test.YtgmnhbmjnllhhacSlices
import Derived.ProofKit
import Derived.OpenShut
import Derived.ShutString
import Derived.ChangeOld
import Derived.Below
import Derived.SizedLaws
import Derived.Test.YtgmnhbmjnllhhacSlotRows
import Derived.Deep.Slices
import Derived.Test.YtgmnhbmjnllhhacFrameCheck
import Derived.Test.YtgmnhbmjnllhhacNest
import Derived.Test.YtgmnhbmjnllhhacStoreCheck
import Derived.Test.YtgmnhbmjnllhhacConcat
import Derived.Test.YtgmnhbmjnllhhacRegChain
import Derived.Test.YtgmnhbmjnllhhacStoreTrim
import Derived.Test.YtgmnhbmjnllhhacRefGrow
import Derived.Test.YtgmnhbmjnllhhacRegBox
import Derived.Test.YtgmnhbmjnllhhacGroupAll
import Derived.Test.YtgmnhbmjnllhhacBlocks
import Derived.Test.YtgmnhbmjnllhhacRefGroup
import Derived.Test.YtgmnhbmjnllhhacRefBetween
import Derived.Test.YtgmnhbmjnllhhacNestApp
import Derived.Test.YtgmnhbmjnllhhacAppAny
import Derived.Deep.DeepCutAuto
import Derived.Test.YtgmnhbmjnllhhacGroupBegun
import Derived.Deep.RegionHeld3
import Derived.Test.YtgmnhbmjnllhhacRefFrame

namespace Go.Proofs.Ytgmnhbmjnllhhac
open Go.ChangeShapes Go.WideShapes Go.ChangeAt Go.RowKit
open Go.ChangeMaps (open_string shut_string)

theorem own : ownKnob Try.prog.godebug = none := by kernel_rfl
theorem laidOut : laidOutB Try.prog = true := by kernel_rfl

section
variable {H : Type} {enc : TypeId × Value → H} {P : Program} {W : World} {r : Reach} {b0 : Nat} {t e : TypeId} {v : Value} {d : DataW H} {p : List MemPlace}

theorem op_int (ht : P.underlying t = some (.int .i64)) (hval : Value.okWide P W r b0 t v) (h : DataW.Trod enc P W 0 (fun _ => true) true t v d p) :
    ∃ a, v = .int .i64 a ∧ (Lit.int .i64 a).wf = true := by
  obtain ⟨a, rfl, _, _, w0⟩ := open_int ht hval h
  exact ⟨a, rfl, w0⟩

theorem op_ints (ht : P.underlying t = some (.slice e)) (he : P.underlying e = some (.int .i64)) (hc : P.cellsOf e = 1) (hval : Value.okWide P W r b0 t v) (h : DataW.Trod enc P W 0 (fun _ => true) true t v d p)
    (hsz : ∀ elems spare, d = .slice elems spare → (elems.length + spare.length) * 8 ≤ 140737488351232) :
    ∃ zs : List Int, Sl W v zs.length 1 (zs.map (Value.int .i64)) ∧ (∀ n ∈ zs, (Lit.int .i64 n).wf = true) ∧ zs.length * 8 ≤ 140737488351232 := by
  obtain ⟨a, len, cap, rfl⟩ := okWide_slice ht hval
  obtain ⟨fuel, hf⟩ := h
  rcases open_ints ht he hc hf with ⟨hcs, hx⟩ | ⟨x, l, c, zs, hcs, _, hl, hm, hz, hx, hcell, hwz⟩
  · simp [Value.cells] at hcs
    obtain ⟨rfl, rfl, rfl⟩ := hcs
    exact ⟨[], ⟨by simp, .inl ⟨rfl, none, 0, rfl⟩⟩, by simp, by simp⟩
  · simp [Value.cells] at hcs
    obtain ⟨rfl, rfl, rfl⟩ := hcs
    simp only [if_true] at hz
    simp only [Prod.mk.injEq] at hx
    have hb := hsz _ _ hx.1
    simp only [lits, List.length_map, List.length_take, List.length_drop] at hb
    obtain ⟨hs, hw⟩ := Sl.of_row (w := W) (a := some x) (len := len) (cap := cap) (zs := zs) (k := .i64) (.inr ⟨x, rfl, hl, hm, hz, hcell, hwz⟩)
    have hlen : (zs.take len).length = len := by simp; omega
    refine ⟨zs.take len, ?_, hw, by omega⟩
    rw [hlen]
    exact hs
end

theorem wf_i64 {a : Int} (h : (Lit.int .i64 a).wf = true) : -9223372036854775808 ≤ a ∧ a ≤ 9223372036854775807 := by
  have h1 : IntKind.i64.min = -9223372036854775808 := rfl
  have h2 : IntKind.i64.max = 9223372036854775807 := rfl
  simp only [Lit.wf, Bool.and_eq_true, decide_eq_true_eq] at h
  omega

end Go.Proofs.Ytgmnhbmjnllhhac

namespace Go.Proofs.Ytgmnhbmjnllhhac
open Go.ChangeShapes Go.WideShapes Go.ChangeAt Go.RowKit
open Go.ChangeMaps (open_string shut_string)

section
variable {H : Type} {enc : TypeId × Value → H} {W : World} {r : Reach} {b0 base : Nat} {spare : Nat → Bool} {held : Bool} {v : Value} {d : DataW H} {p : List MemPlace}

theorem Try.cellsPk : Try.prog.cellsOf 29 = 6 := by kernel_rfl
theorem Try.cellsSk : Try.prog.cellsOf 31 = 7 := by kernel_rfl
theorem Try.cellsI : Try.prog.cellsOf 3 = 1 := by kernel_rfl
theorem Try.cellsB : Try.prog.cellsOf 4 = 1 := by kernel_rfl
theorem Try.cellsS : Try.prog.cellsOf 9 = 1 := by kernel_rfl
theorem Try.cellsSl : Try.prog.cellsOf 22 = 1 := by kernel_rfl
theorem list7 {α : Type} {l : List α} (h : l.length = 7) : ∃ c0 c1 c2 c3 c4 c5 c6, l = [c0, c1, c2, c3, c4, c5, c6] := by
  match l, h with
  | [c0, c1, c2, c3, c4, c5, c6], _ => exact ⟨c0, c1, c2, c3, c4, c5, c6, rfl⟩
theorem list6' {α : Type} {l : List α} (h : l.length = 6) : ∃ c0 c1 c2 c3 c4 c5, l = [c0, c1, c2, c3, c4, c5] := by
  match l, h with
  | [c0, c1, c2, c3, c4, c5], _ => exact ⟨c0, c1, c2, c3, c4, c5, rfl⟩
theorem list2 {α : Type} {l : List α} (h : l.length = 2) : ∃ c0 c1, l = [c0, c1] := by
  match l, h with
  | [c0, c1], _ => exact ⟨c0, c1, rfl⟩

/-- within what an input can be -/
def Sk.fits (x : Sk) : Prop := (Lit.int .i64 x.n).wf = true ∧ (Lit.int .i64 x.p.seq).wf = true ∧ (Lit.int .i64 x.p.time).wf = true ∧ x.p.t.size ≤ maxLen

theorem trod_slot {fuel : Nat} {cs : List Value} {x : DataW H × List MemPlace} (h : DataW.trod enc Try.prog W base spare held fuel 31 cs = some x) :
    ∃ s : Sk, cs = s.cells.toList ∧ s.fits := by
  obtain ⟨xs, n, _, _, hl, hxl, hf⟩ := DataW.trod_struct Try.underlying31 h
  rw [Try.cellsSk] at hl
  obtain ⟨c0, c1, c2, c3, c4, c5, c6, rfl⟩ := list7 hl
  obtain ⟨x0, x1, rfl⟩ := list2 (show xs.length = 2 from hxl)
  have h0 : DataW.trod enc Try.prog W base spare held n 3 (([c0, c1, c2, c3, c4, c5, c6].drop 0).take (Try.prog.cellsOf 3)) = some x0 := hf 0 _ rfl
  have h1 : DataW.trod enc Try.prog W base spare held n 29 (([c0, c1, c2, c3, c4, c5, c6].drop 1).take (Try.prog.cellsOf 29)) = some x1 := hf 1 _ rfl
  rw [Try.cellsI] at h0
  rw [Try.cellsPk] at h1
  obtain ⟨a, ea, _, wa⟩ := DataW.trod_int Try.underlying3 h0
  obtain ⟨ys, m, _, _, hl2, hyl, hg⟩ := DataW.trod_struct Try.underlying29 h1
  obtain ⟨y0, y1, y2, y3, y4, y5, rfl⟩ := list6' (show ys.length = 6 from hyl)
  have g0 : DataW.trod enc Try.prog W base spare held m 3 (([c1, c2, c3, c4, c5, c6].drop 0).take (Try.prog.cellsOf 3)) = some y0 := hg 0 _ rfl
  have g1 : DataW.trod enc Try.prog W base spare held m 3 (([c1, c2, c3, c4, c5, c6].drop 1).take (Try.prog.cellsOf 3)) = some y1 := hg 1 _ rfl
  have g2 : DataW.trod enc Try.prog W base spare held m 4 (([c1, c2, c3, c4, c5, c6].drop 2).take (Try.prog.cellsOf 4)) = some y2 := hg 2 _ rfl
  have g3 : DataW.trod enc Try.prog W base spare held m 4 (([c1, c2, c3, c4, c5, c6].drop 3).take (Try.prog.cellsOf 4)) = some y3 := hg 3 _ rfl
  have g4 : DataW.trod enc Try.prog W base spare held m 4 (([c1, c2, c3, c4, c5, c6].drop 4).take (Try.prog.cellsOf 4)) = some y4 := hg 4 _ rfl
  have g5 : DataW.trod enc Try.prog W base spare held m 9 (([c1, c2, c3, c4, c5, c6].drop 5).take (Try.prog.cellsOf 9)) = some y5 := hg 5 _ rfl
  rw [Try.cellsI] at g0 g1
  rw [Try.cellsB] at g2 g3 g4
  rw [Try.cellsS] at g5
  obtain ⟨a0, e0, _, w0⟩ := DataW.trod_int Try.underlying3 g0
  obtain ⟨a1, e1, _, w1⟩ := DataW.trod_int Try.underlying3 g1
  obtain ⟨a2, e2, _⟩ := DataW.trod_bool Try.underlying4 g2
  obtain ⟨a3, e3, _⟩ := DataW.trod_bool Try.underlying4 g3
  obtain ⟨a4, e4, _⟩ := DataW.trod_bool Try.underlying4 g4
  obtain ⟨a5, e5, _, w5⟩ := DataW.trod_string Try.underlying9 g5
  simp at ea e0 e1 e2 e3 e4 e5
  subst ea e0 e1 e2 e3 e4 e5
  exact ⟨⟨a, ⟨a0, a1, a2, a3, a4, a5⟩⟩, rfl, wa, w0, w1, w5⟩

set_option maxRecDepth 100000 in
theorem op_slot (hval : Value.okWide Try.prog W r b0 31 v) (h : DataW.Trod enc Try.prog W base spare held 31 v d p) :
    ∃ s : Sk, v = s.val ∧ s.fits := by
  obtain ⟨cs, rfl, _⟩ := okWide_struct Try.underlying31 hval
  obtain ⟨fuel, hf⟩ := h
  obtain ⟨s, hs, hw⟩ := trod_slot hf
  refine ⟨s, ?_, hw⟩
  have : cs = s.cells := by
    apply Array.ext'
    simpa [Value.cells] using hs
  rw [this]
  rfl

theorem trod_slots {fuel : Nat} {cs : List Value} {x : DataW H × List MemPlace} (h : DataW.trod enc Try.prog W base spare held fuel 22 cs = some x) :
    ∃ (u : Value) (l : List Sk), cs = [u] ∧ Sls W u l ∧ (∀ s ∈ l, s.fits) ∧ l.length ≤ maxLen ∧ (∀ a n c, u = .slice a n c → n ≤ c) ∧ (∀ elems sp, x.1 = .slice elems sp → l.length ≤ elems.length + sp.length) ∧ (x.1 = .nil → l = []) ∧ (x.1 = .nil ∨ ∃ elems sp, x.1 = .slice elems sp) := by
  rcases Go.Deep.open_slice Try.underlying22 h with ⟨rfl, rfl⟩ | ⟨a, len, cap, m, n, D, Pl, rfl, hb, hl, hm, hmm, rfl, hx⟩
  · exact ⟨_, [], rfl, Sls.nil W, by simp, by simp, fun a n c e => by cases e; exact Nat.le_refl _, by simp, fun _ => rfl, .inl rfl⟩
  · have hlm : len ≤ m := by rw [hmm]; split <;> omega
    rw [Try.cellsSk] at hx
    have each : ∀ i, i < len → ∃ s : Sk, s.fits ∧ ∀ j u, s.cells[j]? = some u → W.cell? (a.add (i * 7 + j)) = some u := fun i hi => by
      obtain ⟨cs', h1, h2⟩ := hx i (by omega)
      obtain ⟨s, hs, hw⟩ := trod_slot h2
      refine ⟨s, hw, fun j u hj => ?_⟩
      obtain ⟨_, hl7, hc⟩ := World.cells?_some h1
      have hj7 : j < 7 := by
        have := (Array.getElem?_eq_some_iff.1 hj).1
        exact this
      rw [← Go.Deep.add_add, hc j hj7, hs]
      simpa using hj
    obtain ⟨f, hf⟩ := Go.Deep.choose_lt each
    have hll : ((List.range len).map f).length = len := by simp
    refine ⟨_, (List.range len).map f, rfl, ⟨?_, ?_⟩, ?_, by rw [hll]; omega, fun a' n' c' e => by cases e; exact hl, ?_, fun e => by simp at e, .inr ⟨_, _, rfl⟩⟩
    · rw [skCells_len, hll]
    · rw [hll]
      by_cases h0 : len = 0
      · subst h0
        exact .inl ⟨rfl, _, _, rfl⟩
      · right
        obtain ⟨b, off, spot⟩ := a
        have hc0 := (hf 0 (by omega)).2 0 _ rfl
        have hspot : spot = none := by simpa [Addr.add] using World.cell?_spot hc0
        subst hspot
        refine ⟨b, off, cap, rfl, by simpa [Addr.add] using World.block_lt_of_cell? W _ hc0, fun j u hj => ?_⟩
        have hjl : j < len * 7 := by
          have := (List.getElem?_eq_some_iff.1 hj).1
          rwa [skCells_len, hll] at this
        have hjk : j = j / 7 * 7 + j % 7 := by omega
        rw [hjk, skCells_at _ (j / 7) (j % 7) (by omega) (by rw [hll]; omega)] at hj
        have hel : ((List.range len).map f)[j / 7]?.getD Sk.zero = f (j / 7) := by
          rw [List.getElem?_map, List.getElem?_range (by omega)]; rfl
        rw [hel] at hj
        have := (hf (j / 7) (by omega)).2 (j % 7) u hj
        rw [← hjk, Addr.add_lit] at this
        exact this
    · intro s hs
      obtain ⟨i, hi, rfl⟩ := List.mem_map.1 hs
      exact (hf i (by simpa using hi)).1
    · intro elems sp e
      simp only [DataW.slice.injEq] at e
      rw [hll, ← e.1]
      simp

end
end Go.Proofs.Ytgmnhbmjnllhhac

namespace Go.Proofs.Ytgmnhbmjnllhhac
open Go.ChangeShapes Go.WideShapes Go.ChangeAt Go.RowKit

section
variable {H : Type} {enc : TypeId × Value → H} {W : World} {r : Reach} {b0 base : Nat} {spare : Nat → Bool} {held : Bool} {v : Value} {d : DataW H} {p : List MemPlace}

theorem Try.cellsBld : Try.prog.cellsOf 66 = 1 := by kernel_rfl
theorem Try.cellsFrm : Try.prog.cellsOf 48 = 3 := by kernel_rfl
theorem Try.cellsStrs : Try.prog.cellsOf 46 = 1 := by kernel_rfl

theorem list1 {α : Type} {l : List α} (h : l.length = 1) : ∃ c0, l = [c0] := by
  match l, h with
  | [c0], _ => exact ⟨c0, rfl⟩
theorem list3 {α : Type} {l : List α} (h : l.length = 3) : ∃ c0 c1 c2, l = [c0, c1, c2] := by
  match l, h with
  | [c0, c1, c2], _ => exact ⟨c0, c1, c2, rfl⟩

set_option maxRecDepth 100000 in
theorem op_slots (hval : Value.okWide Try.prog W r b0 22 v) (h : DataW.Trod enc Try.prog W base spare held 22 v d p)
    (hsz : ∀ elems sp, d = .slice elems sp → (elems.length + sp.length) * 48 ≤ 140737488351232) :
    ∃ l : List Sk, Sls W v l ∧ (∀ s ∈ l, s.fits) ∧ l.length * 48 ≤ 140737488351232 ∧ (∀ a n c, v = .slice a n c → n ≤ c) := by
  obtain ⟨a, len, cap, rfl⟩ := okWide_slice Try.underlying22 hval
  obtain ⟨fuel, hf⟩ := h
  obtain ⟨u, l, eu, hS, hfit, _, hcap, hb, hnil, hor⟩ := trod_slots hf
  simp [Value.cells] at eu
  subst eu
  refine ⟨l, hS, hfit, ?_, hcap⟩
  rcases hor with hn | ⟨elems, sp, he⟩
  · rw [hnil hn]; simp
  · have h1 := hb elems sp he
    have h2 := hsz elems sp he
    have : l.length * 48 ≤ (elems.length + sp.length) * 48 := Nat.mul_le_mul_right _ h1
    omega

set_option maxRecDepth 100000 in
theorem op_bld (hval : Value.okWide Try.prog W r b0 66 v) (h : DataW.Trod enc Try.prog W base spare held 66 v d p) :
    ∃ (u : Value) (l : List Sk), v = .agg #[u] ∧ Sls W u l ∧ (∀ s ∈ l, s.fits) ∧ l.length ≤ maxLen ∧ (∀ a n c, u = .slice a n c → n ≤ c) := by
  obtain ⟨cs, rfl, _⟩ := okWide_struct Try.underlying66 hval
  obtain ⟨fuel, hf⟩ := h
  obtain ⟨xs, n, _, _, hl, hxl, hg⟩ := DataW.trod_struct Try.underlying66 hf
  rw [Try.cellsBld] at hl
  obtain ⟨c0, hcs⟩ := list1 hl
  obtain ⟨x0, rfl⟩ := list1 (show xs.length = 1 from hxl)
  rw [hcs] at hg
  have h0 : DataW.trod enc Try.prog W base spare held n 22 (([c0].drop 0).take (Try.prog.cellsOf 22)) = some x0 := hg 0 _ rfl
  rw [Try.cellsSl] at h0
  obtain ⟨u, l, eu, hS, hfit, hlen, hcap, _⟩ := trod_slots h0
  simp at eu
  subst eu
  refine ⟨c0, l, ?_, hS, hfit, hlen, hcap⟩
  have : cs = #[c0] := by
    apply Array.ext'
    simpa [Value.cells] using hcs
  rw [this]

set_option maxRecDepth 100000 in
theorem trod_strs {fuel : Nat} {cs : List Value} {x : DataW H × List MemPlace} (h : DataW.trod enc Try.prog W base spare held fuel 46 cs = some x) :
    ∃ (u : Value) (l : List ByteArray), cs = [u] ∧ Strs W u l ∧ (∀ s ∈ l, s.size ≤ maxLen) ∧ l.length ≤ maxLen ∧ (∀ a n c, u = .slice a n c → n ≤ c) := by
  rcases Go.Deep.open_slice Try.underlying46 h with ⟨rfl, rfl⟩ | ⟨a, len, cap, m, n, D, Pl, rfl, hb, hl, hm, hmm, rfl, hx⟩
  · exact ⟨_, [], rfl, Strs.nil W, by simp, by simp, fun a n c e => by cases e; exact Nat.le_refl _⟩
  · have hlm : len ≤ m := by rw [hmm]; split <;> omega
    rw [Try.cellsS] at hx
    have each : ∀ i, i < len → ∃ s : ByteArray, s.size ≤ maxLen ∧ W.cell? (a.add i) = some (.string s) := fun i hi => by
      obtain ⟨cs', h1, h2⟩ := hx i (by omega)
      obtain ⟨s, hs, _, hw⟩ := DataW.trod_string Try.underlying9 h2
      obtain ⟨_, hl1, hc⟩ := World.cells?_some h1
      refine ⟨s, hw, ?_⟩
      have := hc 0 (by omega)
      rw [hs, Go.Deep.add_add] at this
      simpa using this
    obtain ⟨f, hf⟩ := Go.Deep.choose_lt each
    have hll : ((List.range len).map f).length = len := by simp
    refine ⟨_, (List.range len).map f, rfl, ?_, ?_, by rw [hll]; omega, fun a' n' c' e => by cases e; exact hl⟩
    · show Sl W _ _ 1 _
      rw [hll]
      refine ⟨by simp, ?_⟩
      by_cases h0 : len = 0
      · subst h0
        exact .inl ⟨rfl, _, _, rfl⟩
      · right
        obtain ⟨b, off, spot⟩ := a
        have hc0 := (hf 0 (by omega)).2
        have hspot : spot = none := by simpa [Addr.add] using World.cell?_spot hc0
        subst hspot
        refine ⟨b, off, cap, rfl, by simpa [Addr.add] using World.block_lt_of_cell? W _ hc0, fun j u hj => ?_⟩
        have hjl : j < len := by
          have := (List.getElem?_eq_some_iff.1 hj).1
          simpa using this
        rw [List.getElem?_map, List.getElem?_map, List.getElem?_range hjl] at hj
        simp at hj
        subst hj
        have := (hf j hjl).2
        rw [Addr.add_lit] at this
        exact this
    · intro s hs
      obtain ⟨i, hi, rfl⟩ := List.mem_map.1 hs
      exact (hf i (by simpa using hi)).1

set_option maxRecDepth 100000 in
theorem op_frm (hval : Value.okWide Try.prog W r b0 48 v) (h : DataW.Trod enc Try.prog W base spare held 48 v d p) :
    ∃ (time : Int) (key : Bool) (u : Value) (l : List ByteArray), v = .agg #[.int .i64 time, .bool key, u] ∧ (Lit.int .i64 time).wf = true ∧ Strs W u l ∧ (∀ s ∈ l, s.size ≤ maxLen) ∧ l.length ≤ maxLen := by
  obtain ⟨cs, rfl, _⟩ := okWide_struct Try.underlying48 hval
  obtain ⟨fuel, hf⟩ := h
  obtain ⟨xs, n, _, _, hl, hxl, hg⟩ := DataW.trod_struct Try.underlying48 hf
  rw [Try.cellsFrm] at hl
  obtain ⟨c0, c1, c2, hcs⟩ := list3 hl
  obtain ⟨x0, x1, x2, rfl⟩ := list3 (show xs.length = 3 from hxl)
  rw [hcs] at hg
  have h0 : DataW.trod enc Try.prog W base spare held n 3 (([c0, c1, c2].drop 0).take (Try.prog.cellsOf 3)) = some x0 := hg 0 _ rfl
  have h1 : DataW.trod enc Try.prog W base spare held n 4 (([c0, c1, c2].drop 1).take (Try.prog.cellsOf 4)) = some x1 := hg 1 _ rfl
  have h2 : DataW.trod enc Try.prog W base spare held n 46 (([c0, c1, c2].drop 2).take (Try.prog.cellsOf 46)) = some x2 := hg 2 _ rfl
  rw [Try.cellsI] at h0
  rw [Try.cellsB] at h1
  rw [Try.cellsStrs] at h2
  obtain ⟨a, ea, _, wa⟩ := DataW.trod_int Try.underlying3 h0
  obtain ⟨k, ek, _⟩ := DataW.trod_bool Try.underlying4 h1
  obtain ⟨u, l, eu, hS, hfit, hlen, _⟩ := trod_strs h2
  simp at ea ek eu
  subst ea ek eu
  refine ⟨a, k, c2, l, ?_, wa, hS, hfit, hlen⟩
  have : cs = #[.int .i64 a, .bool k, c2] := by
    apply Array.ext'
    simpa [Value.cells] using hcs
  rw [this]

end
end Go.Proofs.Ytgmnhbmjnllhhac

namespace Go.Proofs.Ytgmnhbmjnllhhac
open Go.ChangeShapes Go.WideShapes Go.ChangeAt Go.RowKit

theorem StrsIn.of {w : World} {v : Value} {l : List ByteArray} (h : Strs w v l) (hl : l.length ≤ 9223372036854775807) : StrsIn (fun _ => True) w v l := by
  refine ⟨h, hl, fun g hg h0 => ⟨trivial, ?_⟩⟩
  obtain ⟨_, ⟨h1, _⟩ | ⟨b, off, c, rfl, hb, _⟩⟩ := h
  · omega
  · simp [Value.ownBlock] at hg
    subst hg
    exact hb

instance : Inhabited Fr := ⟨Fr.zero⟩

section
variable {H : Type} {enc : TypeId × Value → H} {W : World} {r : Reach} {b0 base : Nat} {spare : Nat → Bool} {held : Bool} {v : Value} {d : DataW H} {p : List MemPlace}

theorem Try.cellsFrs : Try.prog.cellsOf 23 = 1 := by kernel_rfl
theorem Try.cellsGrp : Try.prog.cellsOf 35 = 1 := by kernel_rfl

set_option maxRecDepth 100000 in
theorem trod_frm {fuel : Nat} {cs : List Value} {x : DataW H × List MemPlace} (h : DataW.trod enc Try.prog W base spare held fuel 48 cs = some x) :
    ∃ (f : Fr) (u : Value), cs = [.int .i64 f.time, .bool f.key, u] ∧ StrsIn (fun _ => True) W u f.parts := by
  obtain ⟨xs, n, _, _, hl, hxl, hg⟩ := DataW.trod_struct Try.underlying48 h
  rw [Try.cellsFrm] at hl
  obtain ⟨c0, c1, c2, hcs⟩ := list3 hl
  obtain ⟨x0, x1, x2, rfl⟩ := list3 (show xs.length = 3 from hxl)
  rw [hcs] at hg
  have h0 : DataW.trod enc Try.prog W base spare held n 3 (([c0, c1, c2].drop 0).take (Try.prog.cellsOf 3)) = some x0 := hg 0 _ rfl
  have h1 : DataW.trod enc Try.prog W base spare held n 4 (([c0, c1, c2].drop 1).take (Try.prog.cellsOf 4)) = some x1 := hg 1 _ rfl
  have h2 : DataW.trod enc Try.prog W base spare held n 46 (([c0, c1, c2].drop 2).take (Try.prog.cellsOf 46)) = some x2 := hg 2 _ rfl
  rw [Try.cellsI] at h0
  rw [Try.cellsB] at h1
  rw [Try.cellsStrs] at h2
  obtain ⟨a, ea, _, wa⟩ := DataW.trod_int Try.underlying3 h0
  obtain ⟨k, ek, _⟩ := DataW.trod_bool Try.underlying4 h1
  obtain ⟨u, l, eu, hS, hfit, hlen, _⟩ := trod_strs h2
  simp at ea ek eu
  subst ea ek eu
  exact ⟨⟨a, k, l⟩, c2, hcs, StrsIn.of hS (by unfold maxLen at hlen; omega)⟩

set_option maxRecDepth 100000 in
theorem trod_frs {fuel : Nat} {cs : List Value} {x : DataW H × List MemPlace} (h : DataW.trod enc Try.prog W base spare held fuel 23 cs = some x) :
    ∃ (u : Value) (l : List Fr), cs = [u] ∧ FrsIn (fun _ => True) W u l := by
  rcases Go.Deep.open_slice Try.underlying23 h with ⟨rfl, rfl⟩ | ⟨a, len, cap, m, n, D, Pl, rfl, hb, hl, hm, hmm, rfl, hx⟩
  · exact ⟨_, [], rfl, FrsIn.nil _ W⟩
  · have hlm : len ≤ m := by rw [hmm]; split <;> omega
    rw [Try.cellsFrm] at hx
    have each : ∀ i, i < len → ∃ q : Fr × Value, StrsIn (fun _ => True) W q.2 q.1.parts ∧ ∀ j u, [Value.int .i64 q.1.time, .bool q.1.key, q.2][j]? = some u → W.cell? (a.add (i * 3 + j)) = some u := fun i hi => by
      obtain ⟨cs', h1, h2⟩ := hx i (by omega)
      obtain ⟨f, u, hs, hw⟩ := trod_frm h2
      refine ⟨(f, u), hw, fun j y hj => ?_⟩
      obtain ⟨_, hl3, hc⟩ := World.cells?_some h1
      have hj3 : j < 3 := by
        have := (List.getElem?_eq_some_iff.1 hj).1
        simpa using this
      rw [← Go.Deep.add_add, hc j hj3, hs]
      simpa using hj
    obtain ⟨f, hf⟩ := Go.Deep.choose_lt each
    have hll : ((List.range len).map fun i => (f i).1).length = len := by simp
    refine ⟨_, (List.range len).map fun i => (f i).1, rfl, some a, cap, by rw [hll], by rw [hll]; omega, by unfold maxLen at hm; omega, fun k hk => ?_⟩
    rw [hll] at hk
    obtain ⟨b, off, spot⟩ := a
    have hc0 := (hf 0 (by omega)).2 0 _ rfl
    have hspot : spot = none := by simpa [Addr.add] using World.cell?_spot hc0
    subst hspot
    have hel : ((List.range len).map fun i => (f i).1)[k]?.getD Fr.zero = (f k).1 := by
      rw [List.getElem?_map, List.getElem?_range hk]; rfl
    rw [hel]
    have g : ∀ j u, [Value.int .i64 (f k).1.time, .bool (f k).1.key, (f k).2][j]? = some u → W.cell? ⟨b, off + k * 3 + j, none⟩ = some u := fun j u hj => by
      have := (hf k hk).2 j u hj
      rw [Addr.add_lit, ← Nat.add_assoc] at this
      exact this
    exact ⟨b, off, rfl, by simpa [Addr.add] using World.block_lt_of_cell? W _ hc0, trivial, (f k).2, g 0 _ rfl, g 1 _ rfl, g 2 _ rfl, (hf k hk).1⟩

set_option maxRecDepth 100000 in
theorem op_frs (hval : Value.okWide Try.prog W r b0 23 v) (h : DataW.Trod enc Try.prog W base spare held 23 v d p) :
    ∃ l : List Fr, FrsIn (fun _ => True) W v l := by
  obtain ⟨a, len, cap, rfl⟩ := okWide_slice Try.underlying23 hval
  obtain ⟨fuel, hf⟩ := h
  obtain ⟨u, l, eu, hS⟩ := trod_frs hf
  simp [Value.cells] at eu
  subst eu
  exact ⟨l, hS⟩

set_option maxRecDepth 100000 in
theorem op_grp (hval : Value.okWide Try.prog W r b0 35 v) (h : DataW.Trod enc Try.prog W base spare held 35 v d p) :
    ∃ (u : Value) (l : List Fr), v = .agg #[u] ∧ FrsIn (fun _ => True) W u l := by
  obtain ⟨cs, rfl, _⟩ := okWide_struct Try.underlying35 hval
  obtain ⟨fuel, hf⟩ := h
  obtain ⟨xs, n, _, _, hl, hxl, hg⟩ := DataW.trod_struct Try.underlying35 hf
  rw [Try.cellsGrp] at hl
  obtain ⟨c0, hcs⟩ := list1 hl
  obtain ⟨x0, rfl⟩ := list1 (show xs.length = 1 from hxl)
  rw [hcs] at hg
  have h0 : DataW.trod enc Try.prog W base spare held n 23 (([c0].drop 0).take (Try.prog.cellsOf 23)) = some x0 := hg 0 _ rfl
  rw [Try.cellsFrs] at h0
  obtain ⟨u, l, eu, hS⟩ := trod_frs h0
  simp at eu
  subst eu
  refine ⟨c0, l, ?_, hS⟩
  have : cs = #[c0] := by
    apply Array.ext'
    simpa [Value.cells] using hcs
  rw [this]
end
end Go.Proofs.Ytgmnhbmjnllhhac

namespace Go.Proofs.Ytgmnhbmjnllhhac
open Go.ChangeShapes Go.WideShapes Go.ChangeAt Go.RowKit

section
variable {H : Type} {enc : TypeId × Value → H} {W : World} {r : Reach} {b0 base : Nat} {spare : Nat → Bool} {held : Bool} {v : Value} {d : DataW H} {p : List MemPlace}

theorem Try.cellsGrs : Try.prog.cellsOf 38 = 1 := by kernel_rfl
theorem Try.cellsStore : Try.prog.cellsOf 51 = 3 := by kernel_rfl
theorem Try.cellsIntS : Try.prog.cellsOf 3 = 1 := by kernel_rfl

set_option maxRecDepth 100000 in
theorem trod_grp {fuel : Nat} {cs : List Value} {x : DataW H × List MemPlace} (h : DataW.trod enc Try.prog W base spare held fuel 35 cs = some x) :
    ∃ (u : Value) (l : List Fr), cs = [u] ∧ FrsIn (fun _ => True) W u l := by
  obtain ⟨xs, n, _, _, hl, hxl, hg⟩ := DataW.trod_struct Try.underlying35 h
  rw [Try.cellsGrp] at hl
  obtain ⟨c0, hcs⟩ := list1 hl
  obtain ⟨x0, rfl⟩ := list1 (show xs.length = 1 from hxl)
  rw [hcs] at hg
  have h0 : DataW.trod enc Try.prog W base spare held n 23 (([c0].drop 0).take (Try.prog.cellsOf 23)) = some x0 := hg 0 _ rfl
  rw [Try.cellsFrs] at h0
  obtain ⟨u, l, eu, hS⟩ := trod_frs h0
  simp at eu
  subst eu
  exact ⟨c0, l, hcs, hS⟩

set_option maxRecDepth 100000 in
theorem trod_grs {fuel : Nat} {cs : List Value} {x : DataW H × List MemPlace} (h : DataW.trod enc Try.prog W base spare held fuel 38 cs = some x) :
    ∃ (u : Value) (L : List (List Fr)), cs = [u] ∧ GrsIn (fun _ => True) W u L := by
  rcases Go.Deep.open_slice Try.underlying38 h with ⟨rfl, rfl⟩ | ⟨a, len, cap, m, n, D, Pl, rfl, hb, hl, hm, hmm, rfl, hx⟩
  · exact ⟨_, [], rfl, GrsIn.nil _ W⟩
  · have hlm : len ≤ m := by rw [hmm]; split <;> omega
    rw [Try.cellsGrp] at hx
    have each : ∀ i, i < len → ∃ q : List Fr × Value, FrsIn (fun _ => True) W q.2 q.1 ∧ W.cell? (a.add i) = some q.2 := fun i hi => by
      obtain ⟨cs', h1, h2⟩ := hx i (by omega)
      obtain ⟨u, l, hs, hw⟩ := trod_grp h2
      refine ⟨(l, u), hw, ?_⟩
      obtain ⟨_, hl1, hc⟩ := World.cells?_some h1
      have := hc 0 (by omega)
      rw [hs, Go.Deep.add_add] at this
      simpa using this
    obtain ⟨f, hf⟩ := Go.Deep.choose_lt each
    have hll : ((List.range len).map fun i => (f i).1).length = len := by simp
    refine ⟨_, (List.range len).map fun i => (f i).1, rfl, some a, cap, by rw [hll], by rw [hll]; omega, by unfold maxLen at hm; omega, fun k hk => ?_⟩
    rw [hll] at hk
    obtain ⟨b, off, spot⟩ := a
    have hc0 := (hf 0 (by omega)).2
    have hspot : spot = none := by simpa [Addr.add] using World.cell?_spot hc0
    subst hspot
    have hel : ((List.range len).map fun i => (f i).1)[k]?.getD [] = (f k).1 := by
      rw [List.getElem?_map, List.getElem?_range hk]; rfl
    rw [hel]
    have g : W.cell? ⟨b, off + k, none⟩ = some (f k).2 := by
      have := (hf k hk).2
      rw [Addr.add_lit] at this
      exact this
    exact ⟨b, off, rfl, by simpa [Addr.add] using World.block_lt_of_cell? W _ hc0, trivial, (f k).2, g, (hf k hk).1⟩

set_option maxRecDepth 100000 in
theorem op_store (hval : Value.okWide Try.prog W r b0 51 v) (h : DataW.Trod enc Try.prog W base spare held 51 v d p) :
    ∃ (first : Int) (gv ov : Value) (L : List (List Fr)) (O : List Fr), v = .agg #[.int .i64 first, gv, ov] ∧ (Lit.int .i64 first).wf = true ∧ GrsIn (fun _ => True) W gv L ∧ FrsIn (fun _ => True) W ov O := by
  obtain ⟨cs, rfl, _⟩ := okWide_struct Try.underlying51 hval
  obtain ⟨fuel, hf⟩ := h
  obtain ⟨xs, n, _, _, hl, hxl, hg⟩ := DataW.trod_struct Try.underlying51 hf
  rw [Try.cellsStore] at hl
  obtain ⟨c0, c1, c2, hcs⟩ := list3 hl
  obtain ⟨x0, x1, x2, rfl⟩ := list3 (show xs.length = 3 from hxl)
  rw [hcs] at hg
  have h0 : DataW.trod enc Try.prog W base spare held n 3 (([c0, c1, c2].drop 0).take (Try.prog.cellsOf 3)) = some x0 := hg 0 _ rfl
  have h1 : DataW.trod enc Try.prog W base spare held n 38 (([c0, c1, c2].drop 1).take (Try.prog.cellsOf 38)) = some x1 := hg 1 _ rfl
  have h2 : DataW.trod enc Try.prog W base spare held n 35 (([c0, c1, c2].drop 2).take (Try.prog.cellsOf 35)) = some x2 := hg 2 _ rfl
  rw [Try.cellsIntS] at h0
  rw [Try.cellsGrs] at h1
  rw [Try.cellsGrp] at h2
  obtain ⟨a, ea, _, wa⟩ := DataW.trod_int Try.underlying3 h0
  obtain ⟨u1, L, eu1, hL⟩ := trod_grs h1
  obtain ⟨u2, O, eu2, hO⟩ := trod_grp h2
  simp at ea eu1 eu2
  subst ea eu1 eu2
  refine ⟨a, c1, c2, L, O, ?_, wa, hL, hO⟩
  have : cs = #[.int .i64 a, c1, c2] := by
    apply Array.ext'
    simpa [Value.cells] using hcs
  rw [this]
end
end Go.Proofs.Ytgmnhbmjnllhhac

namespace Go.Proofs.Ytgmnhbmjnllhhac
open Go.RowKit

/-- groups of a store, the open one, too -/
def allG (L : List (List Fr)) (O : List Fr) : List (List Fr) := if 0 < O.length then L ++ [O] else L

theorem GrsIn.one {S : Nat → Prop} {w : World} {b : Nat} {O : List Fr} {ov : Value} (hb : Blk w b #[ov] 35) (hS : S b) (ho : FrsIn S w ov O) : GrsIn S w (.slice (some ⟨b, 0, none⟩) 1 1) [O] := by
  refine ⟨some ⟨b, 0, none⟩, 1, rfl, Nat.le_refl _, by omega, fun k hk => ⟨b, 0, rfl, hb.lt, hS, ov, ?_⟩⟩
  have : k = 0 := by simpa using hk
  subst this
  exact ⟨hb.one, ho⟩

set_option maxHeartbeats 4000000 in
set_option maxRecDepth 100000 in
theorem keeperAll_any (M : Nat) (first : Int) (gv ov : Value) (L : List (List Fr)) (O : List Fr) (w : World) (hM : Blk w M #[.int .i64 first, gv, ov] 85) (hg : GrsIn (fun _ => True) w gv L) (ho : FrsIn (fun _ => True) w ov O) (hL : L.length ≤ 100) :
    Calls Try.prog 44 #[.pointer (some ⟨M, 0, none⟩)] w fun e w' => ∃ u, e = .returned u ∧ GrsIn (fun _ => True) w' u (allG L O) ∧ Below w.heap.size w w' := by
  obtain ⟨ga, gc, eg, _, _⟩ := hg.len
  obtain ⟨oa, oc, eo, _, hol⟩ := ho.len
  obtain ⟨n, hn⟩ : ∃ n, n = L.length := ⟨_, rfl⟩
  obtain ⟨m, hm⟩ : ∃ m, m = O.length := ⟨_, rfl⟩
  rw [← hn] at eg hL
  rw [← hm] at eo hol
  have HG : Hid (GrsIn (fun _ => True) w gv L) := hg
  have HO : Hid (FrsIn (fun _ => True) w ov O) := ho
  have HN : Hid (n = L.length) := hn
  have HK : Hid (Blk w M #[.int .i64 first, gv, ov] 85) := hM
  obtain ⟨k0, k1, k2⟩ := hM.three
  obtain ⟨A, hA⟩ : ∃ A, A = allG L O := ⟨_, rfl⟩
  have HA : Hid (A = if 0 < m then L ++ [O] else L) := by show _ = _; rw [hA, hm]; rfl
  rw [← hA]
  clear hg ho hn hm hM hA
  subst eg eo
  by_cases h0 : m = 0
  · have HAA : Hid (A = L) := by show _ = _; rw [HA.out, if_neg (by omega)]
    subst h0
    go_enter Try.func44, Try.ntmps44
    go_wp2
    go_ret
    exact ⟨_, rfl, by rw [HAA.out]; exact HG.out, Below.refl _ _⟩
  have HAA : Hid (A = L ++ [O]) := by show _ = _; rw [HA.out, if_pos (by omega)]
  have h0i : ((m : Int) == 0) = false := by simp; omega
  have hMw : M < w.heap.size := HK.out.lt
  clear h0
  go_enter Try.func44, Try.ntmps44
  go_wp2_with fail
  refine region_chain (by kernel_rfl) (by kernel_rfl) [.quiet (.pointer (some ⟨M, 0, none⟩)) 4, .quiet (.pointer (some ⟨M, 0, none⟩)) 4, .quiet (.pointer (some ⟨M, 0, none⟩)) 4, .quiet (.pointer (some ⟨M, 1, none⟩)) 4, .quiet (.slice ga n gc) 4, .quiet (.pointer (some ⟨M, 0, none⟩)) 4, .quiet (.pointer (some ⟨M, 0, none⟩)) 4, .quiet (.pointer (some ⟨M, 0, none⟩)) 4, .quiet (.pointer (some ⟨M, 2, none⟩)) 4, .quiet (.agg #[.slice oa m oc]) 4, .step 0, .step 1, .step 2, .step 3] [10, 11, 12, 13] (by kernel_rfl)
    (fun s r w' => match s with
      | 0 => Below w.heap.size w w'
      | 1 => ∃ V, Below w.heap.size w V ∧ w' = V.alloc (.cells #[.slice oa m oc] 35) ∧ r 0 = .slice (some ⟨V.heap.size, 0, none⟩) 1 1
      | 2 => ∃ V, Below w.heap.size w V ∧ w' = (V.alloc (.cells #[.slice oa m oc] 35)).alloc (.cells #[.slice ga n gc, .slice (some ⟨V.heap.size, 0, none⟩) 1 1] 38) ∧ r 1 = .slice (some ⟨V.heap.size + 1, 0, none⟩) 2 2
      | 3 => GrsIn (fun _ => True) w' (r 2) (L ++ [O]) ∧ Below w.heap.size w w'
      | _ => GrsIn (fun _ => True) w' (r 3) (L ++ [O]) ∧ Below w.heap.size w w') ?i0 ?step ?fin
  case i0 => exact ⟨rfl, rfl, rfl, Nat.le_refl _, fun _ _ => rfl⟩
  case step =>
    intro i o ho a' w' s r hI hfree hvals
    have f0 : a'.eval (.tmp 0) = .pointer (some ⟨M, 0, none⟩) := (hfree 0 (by kernel_rfl)).trans rfl
    have hBw : Below w.heap.size w w' := by
      match s, hI with
      | 0, h => exact h
      | 1, ⟨V, h1, h2, _⟩ => rw [h2]; exact h1.alloc h1.size _
      | 2, ⟨V, h1, h2, _⟩ => rw [h2]; exact (h1.alloc h1.size _).alloc (by have := h1.size; simp; omega) _
      | 3, h => exact h.2
      | _ + 4, h => exact h.2
    have y1 := (hBw.cell (p := ⟨M, 1, none⟩) hMw).trans k1
    have y2 := (hBw.cell (p := ⟨M, 2, none⟩) hMw).trans k2
    match i, ho with
    | 0, ho | 5, ho =>
      simp at ho; subst ho
      show s ≤ 4 → (execOp a'.eval _).run _ w' = .ok (.value _) w'
      intro _
      generalize a'.eval = ρ at *
      simp [execOp, go_sem, f0]
    | 1, ho =>
      simp at ho; subst ho
      have e1 : a'.eval (.tmp 16) = .pointer (some ⟨M, 0, none⟩) := hvals 0 _ _ (by kernel_rfl) rfl rfl
      show s ≤ 4 → (execOp a'.eval _).run _ w' = .ok (.value _) w'
      intro _
      generalize a'.eval = ρ at *
      simp [execOp, go_sem, e1]
    | 2, ho =>
      simp at ho; subst ho
      have e1 : a'.eval (.tmp 17) = .pointer (some ⟨M, 0, none⟩) := hvals 1 _ _ (by kernel_rfl) rfl rfl
      show s ≤ 4 → (execOp a'.eval _).run _ w' = .ok (.value _) w'
      intro _
      generalize a'.eval = ρ at *
      simp [execOp, go_sem, e1]
    | 3, ho =>
      simp at ho; subst ho
      have e1 : a'.eval (.tmp 18) = .pointer (some ⟨M, 0, none⟩) := hvals 2 _ _ (by kernel_rfl) rfl rfl
      show s ≤ 4 → (execOp a'.eval _).run _ w' = .ok (.value _) w'
      intro _
      generalize a'.eval = ρ at *
      simp [execOp, go_sem, e1]
    | 4, ho =>
      simp at ho; subst ho
      have e1 : a'.eval (.tmp 19) = .pointer (some ⟨M, 1, none⟩) := hvals 3 _ _ (by kernel_rfl) rfl rfl
      show s ≤ 4 → (execOp a'.eval _).run _ w' = .ok (.value _) w'
      intro _
      generalize a'.eval = ρ at *
      simp [execOp, go_sem, e1, y1]
    | 6, ho =>
      simp at ho; subst ho
      have e1 : a'.eval (.tmp 21) = .pointer (some ⟨M, 0, none⟩) := hvals 5 _ _ (by kernel_rfl) rfl rfl
      show s ≤ 4 → (execOp a'.eval _).run _ w' = .ok (.value _) w'
      intro _
      generalize a'.eval = ρ at *
      simp [execOp, go_sem, e1]
    | 7, ho =>
      simp at ho; subst ho
      have e1 : a'.eval (.tmp 22) = .pointer (some ⟨M, 0, none⟩) := hvals 6 _ _ (by kernel_rfl) rfl rfl
      show s ≤ 4 → (execOp a'.eval _).run _ w' = .ok (.value _) w'
      intro _
      generalize a'.eval = ρ at *
      simp [execOp, go_sem, e1]
    | 8, ho =>
      simp at ho; subst ho
      have e1 : a'.eval (.tmp 23) = .pointer (some ⟨M, 0, none⟩) := hvals 7 _ _ (by kernel_rfl) rfl rfl
      show s ≤ 4 → (execOp a'.eval _).run _ w' = .ok (.value _) w'
      intro _
      generalize a'.eval = ρ at *
      simp [execOp, go_sem, e1]
    | 9, ho =>
      simp at ho; subst ho
      have e1 : a'.eval (.tmp 24) = .pointer (some ⟨M, 2, none⟩) := hvals 8 _ _ (by kernel_rfl) rfl rfl
      show s ≤ 4 → (execOp a'.eval _).run _ w' = .ok (.value _) w'
      intro _
      generalize a'.eval = ρ at *
      simp [execOp, go_sem, e1, y2]
    | 10, ho =>
      simp at ho; subst ho
      have e1 : a'.eval (.tmp 25) = .agg #[.slice oa m oc] := hvals 9 _ _ (by kernel_rfl) rfl rfl
      show s = 0 → _
      intro hs
      subst hs
      refine oper_wp_ok (v := .slice (some ⟨w'.heap.size, 0, none⟩) 1 1) (w' := w'.alloc (.cells #[.slice oa m oc] 35)) ?_ ⟨_, rfl, ?_⟩
      · generalize a'.eval = ρ at *
        simp [execOp, go_sem, e1]
      · exact ⟨w', hBw, rfl, updR_at _ _ _⟩
    | 11, ho =>
      simp at ho; subst ho
      show s = 1 → _
      intro hs
      subst hs
      obtain ⟨V, h1, h2, h3⟩ := hI
      have e1 : a'.eval (.tmp 20) = .slice ga n gc := hvals 4 _ _ (by kernel_rfl) rfl rfl
      have e2 : a'.eval (.tmp 26) = .slice (some ⟨V.heap.size, 0, none⟩) 1 1 := (hvals 10 _ _ (by kernel_rfl) rfl rfl).trans h3
      refine oper_wp_ok (v := .slice (some ⟨V.heap.size + 1, 0, none⟩) 2 2) (w' := w'.alloc (.cells #[.slice ga n gc, .slice (some ⟨V.heap.size, 0, none⟩) 1 1] 38)) ?_ ⟨_, rfl, ?_⟩
      · generalize a'.eval = ρ at *
        rw [h2]
        simp [execOp, go_sem, e1, e2]
      · exact ⟨V, h1, by rw [h2], updR_at _ _ _⟩
    | 12, ho =>
      simp at ho; subst ho
      show s = 2 → _
      intro hs
      subst hs
      obtain ⟨V, h1, h2, h3⟩ := hI
      have e1 : a'.eval (.tmp 27) = .slice (some ⟨V.heap.size + 1, 0, none⟩) 2 2 := (hvals 11 _ _ (by kernel_rfl) rfl rfl).trans h3
      have ef : a'.eval (.func 66) = .func (.func 66) #[] #[] := rfl
      have KV : Blk w' (V.heap.size + 1) #[.slice ga n gc, .slice (some ⟨V.heap.size, 0, none⟩) 1 1] 38 := by
        have := Blk.new (V.alloc (.cells #[.slice oa m oc] 35)) #[.slice ga n gc, .slice (some ⟨V.heap.size, 0, none⟩) 1 1] 38
        rw [h2]; simpa using this
      have KO : Blk w' V.heap.size #[.slice oa m oc] 35 := by rw [h2]; exact (Blk.new V _ _).alloc _
      obtain ⟨z0, z1⟩ := KV.two
      have hc := concatGrs_any (fun _ => True) (V.heap.size + 1) (.slice ga n gc) (.slice (some ⟨V.heap.size, 0, none⟩) 1 1) L [O] w' z0 z1 (HG.out.below hBw) (GrsIn.one KO trivial (HO.out.below hBw)) (by rw [← HN.out]; simp; omega)
      refine oper_wp_call (f := 66) (args := #[.slice (some ⟨V.heap.size + 1, 0, none⟩) 2 2]) ?_ (hc.mono ?_)
      · generalize a'.eval = ρ at *
        simp [execOp, go_sem, e1, ef]
      · rintro e w'' ⟨u, rfl, o1, b1⟩
        exact ⟨u, rfl, u, rfl, by rw [updR_at]; exact o1.grsIn (fun _ _ _ => trivial) (fun _ _ => trivial), hBw.trans (b1.mono hBw.size)⟩
    | 13, ho =>
      simp at ho; subst ho
      show s = 3 → _
      intro hs
      subst hs
      have e1 : a'.eval (.tmp 28) = r 2 := hvals 12 _ _ (by kernel_rfl) rfl rfl
      refine oper_wp_ok (v := r 2) (w' := w') ?_ ⟨_, rfl, ?_⟩
      · generalize a'.eval = ρ at *
        simp [execOp, go_sem, e1]
      · exact ⟨by rw [updR_at]; exact hI.1, hI.2⟩
    | i + 14, ho => simp at ho
  case fin =>
    rintro r W ⟨h1, h2⟩
    have H1 : Hid (GrsIn (fun _ => True) W (r 3) A ∧ Below w.heap.size w W) := ⟨by rw [HAA.out]; exact h1, h2⟩
    clear h1 h2 k0 k1 k2 h0i hMw HG HO HN HK HA HAA
    simp only [putC, Ck.out]
    go_wp2_with fail
    exact bodyPost_ret (v := r 3) (by simp [results, Try.results44, go_sem]) rfl ⟨_, rfl, H1.out⟩

end Go.Proofs.Ytgmnhbmjnllhhac

namespace Go.Proofs.Ytgmnhbmjnllhhac
open Go.RowKit

theorem FrsIn.two {S : Nat → Prop} {w : World} {b : Nat} {f : Fr} {pv : Value} (hb : Blk w b #[.int .i64 f.time, .bool f.key, pv] 48) (hS : S b) (hp : StrsIn S w pv f.parts) : FrsIn S w (.slice (some ⟨b, 0, none⟩) 1 1) [f] := FrsIn.one hb hS hp

/-- what is known behind each step -/
def AddI (w1 : World) (f : Fr) (pa : Option Addr) (pn pc : Nat) (oa : Option Addr) (lo oc : Nat) (X : List Fr) (C : List (List Fr)) (R : List Fr) (E : Int) (s : Nat) (r : Nat → Value) (b : Option Nat) (w' : World) : Prop :=
  Below w1.heap.size w1 w' ∧ (s ≤ 4 → ∀ g, b = some g → w1.heap.size ≤ g ∧ Blk w' g #[.slice none 0 0] 35) ∧ match s with
    | 0 => True
    | 1 => ∃ g1, r 0 = .slice (some ⟨g1, 0, none⟩) 1 1 ∧ Blk w' g1 #[.int .i64 f.time, .bool f.key, .slice pa pn pc] 48
    | 2 => ∃ g1 g2, r 1 = .slice (some ⟨g2, 0, none⟩) 2 2 ∧ Blk w' g1 #[.int .i64 f.time, .bool f.key, .slice pa pn pc] 48 ∧ Blk w' g2 #[.slice oa lo oc, .slice (some ⟨g1, 0, none⟩) 1 1] 23
    | 3 => FrsIn (fun _ => True) w' (r 2) X
    | 4 => ∃ ca cc fa fc, r 3 = .tuple #[.slice ca C.length cc, .agg #[.slice fa R.length fc], .int .i64 E] ∧ GrsIn (fun x => b ≠ some x ∧ w1.heap.size ≤ x) w' (.slice ca C.length cc) C ∧ FrsIn (fun x => b ≠ some x ∧ w1.heap.size ≤ x) w' (.slice fa R.length fc) R
    | _ => ∃ g ca cc fa fc, b = some g ∧ w1.heap.size ≤ g ∧ r 3 = .tuple #[.slice ca C.length cc, .agg #[.slice fa R.length fc], .int .i64 E] ∧ GrsIn (fun x => b ≠ some x ∧ w1.heap.size ≤ x) w' (.slice ca C.length cc) C ∧ FrsIn (fun x => b ≠ some x ∧ w1.heap.size ≤ x) w' (.slice fa R.length fc) R ∧ Blk w' g #[.slice fa R.length fc] 35

theorem AddI.box {w1 : World} {f : Fr} {pa : Option Addr} {pn pc : Nat} {oa : Option Addr} {lo oc : Nat} {X : List Fr} {C : List (List Fr)} {R : List Fr} {E : Int} {s : Nat} {r : Nat → Value} {w' : World} (h : AddI w1 f pa pn pc oa lo oc X C R E s r none w') : AddI w1 f pa pn pc oa lo oc X C R E s r (some w'.heap.size) (w'.alloc (.cells #[.slice none 0 0] 35)) := by
  obtain ⟨h1, _, h3⟩ := h
  refine ⟨h1.alloc h1.size _, fun _ g hg => by injection hg with hg; subst hg; exact ⟨h1.size, Blk.new _ _ _⟩, ?_⟩
  match s, h3 with
  | 0, _ => trivial
  | 1, ⟨g1, e1, e2⟩ => exact ⟨g1, e1, e2.alloc _⟩
  | 2, ⟨g1, g2, e1, e2, e3⟩ => exact ⟨g1, g2, e1, e2.alloc _, e3.alloc _⟩
  | 3, h => exact FrsIn.alloc h _
  | 4, ⟨ca, cc, fa, fc, e1, e2, e3⟩ => exact ⟨ca, cc, fa, fc, e1, (e2.mono fun g hg h => ⟨fun e => (by injection e with e; omega), h.2⟩).alloc _, (e3.mono fun g hg h => ⟨fun e => (by injection e with e; omega), h.2⟩).alloc _⟩
  | _ + 5, ⟨g, _, _, _, _, e, _⟩ => cases e

end Go.Proofs.Ytgmnhbmjnllhhac

namespace Go.Proofs.Ytgmnhbmjnllhhac
open Go.RowKit

/-- what the frames of a right group make: that group -/
theorem upG_group {O : List Fr} (h : O = [] ∨ gchk O = 0) : ∀ k, k ≤ O.length → upG O k = ([], O.take k) := by
  rcases h with h | h
  · subst h; intro k hk
    have : k = 0 := by simpa using hk
    subst this; rfl
  · obtain ⟨_, h6, hc⟩ := gchk_zero.1 h
    intro k
    induction k with
    | zero => intro _; rfl
    | succ k ih =>
      intro hk
      rw [upG_succ O k (by omega), ih (by omega), take_one (by omega) Fr.zero]
      have hin := (hc k (by omega)).2
      unfold inPl at hin
      by_cases h0 : k = 0
      · subst h0
        rw [if_pos rfl] at hin
        simp [stepG, growG, hin]
      · rw [if_neg h0] at hin
        simp only [Bool.and_eq_true, Bool.not_eq_true', decide_eq_true_eq] at hin
        have hl : (O.take k).length = k := by simp; omega
        have hlast : frAt (O.take k) (k - 1) = frAt O (k - 1) := by
          unfold frAt; rw [List.getElem?_take_of_lt (by omega)]
        simp only [stepG, hin.1, Bool.false_and, Bool.false_eq_true, if_false]
        unfold growG
        rw [if_neg (by rw [hin.1]; simp), hl, hlast, if_neg (by omega)]
theorem groups_more {O : List Fr} {f : Fr} (h : O = [] ∨ gchk O = 0) (hf : f.chk = 0) : groupsE (O ++ [f]) = 0 ∧ groupsR (O ++ [f]) = (if f.key && decide (0 < O.length) then [O] else [], growG O f) := by
  have hO6 : O.length ≤ 6 := by
    rcases h with h | h
    · rw [h]; simp
    · exact (gchk_zero.1 h).2.1
  have hok : ∀ k, k < (O ++ [f]).length → (frAt (O ++ [f]) k).chk = 0 := fun k hk => by
    by_cases hkl : k < O.length
    · have e : frAt (O ++ [f]) k = frAt O k := by unfold frAt; rw [List.getElem?_append_left hkl]
      rw [e]
      rcases h with h | h
      · rw [h] at hkl; simp at hkl
      · exact ((gchk_zero.1 h).2.2 k hkl).1
    · have : k = O.length := by simp at hk; omega
      subst this
      have e : frAt (O ++ [f]) O.length = f := by unfold frAt; simp
      rw [e]; exact hf
  have hE : groupsE (O ++ [f]) = 0 := by
    unfold groupsE
    rw [if_neg (by simp; omega)]
    exact goN_all _ _ (fun j _ hj => hok j (by omega))
  refine ⟨hE, ?_⟩
  unfold groupsR
  rw [if_pos hE]
  have h1 : upG (O ++ [f]) (O ++ [f]).length = stepG (upG O O.length) f := by
    unfold upG
    rw [List.take_length, List.take_length, List.foldl_append]; rfl
  rw [h1, upG_group h O.length (Nat.le_refl _), List.take_length]
  simp [stepG]

set_option maxHeartbeats 8000000 in
set_option maxRecDepth 100000 in
theorem keeperAdd_any (M : Nat) (first : Int) (gv ov pv : Value) (L : List (List Fr)) (O : List Fr) (f : Fr) (w : World) (hM : Blk w M #[.int .i64 first, gv, ov] 85) (hg : GrsIn (fun g => g ≠ M) w gv L) (ho : FrsIn (fun g => g ≠ M) w ov O) (hp : StrsIn (fun g => g ≠ M) w pv f.parts)
    (hL : L.length ≤ 5) (hLr : ∀ g ∈ L, gchk g = 0) (hOr : O = [] ∨ gchk O = 0) (hf : f.chk = 0) (hf0 : 0 ≤ first) (hf1 : first ≤ 100000) (C : List (List Fr)) (hC : C = if f.key && decide (0 < O.length) then [O] else []) :
    Calls Try.prog 43 #[.pointer (some ⟨M, 0, none⟩), .agg #[.int .i64 f.time, .bool f.key, pv]] w fun e w' => e = .returned (.bool (decide (0 < C.length))) ∧ ∃ gv' ov', Blk w' M #[.int .i64 (first + trimD (L ++ C)), gv', ov'] 85 ∧ GrsIn (fun g => w.heap.size ≤ g) w' gv' ((L ++ C).drop (trimD (L ++ C))) ∧ FrsIn (fun g => w.heap.size ≤ g) w' ov' (growG O f) ∧ Kept [M] w w' := by
  obtain ⟨hE, hR⟩ := groups_more hOr hf
  rw [← hC] at hR
  obtain ⟨R, hRR⟩ : ∃ R, R = growG O f := ⟨_, rfl⟩
  rw [← hRR] at hR
  obtain ⟨ga, gc, eg, _, _⟩ := hg.len
  obtain ⟨oa, oc, eo, _, _⟩ := ho.len
  obtain ⟨pa, pc, ep⟩ := hp.1.len
  obtain ⟨ln, hln⟩ : ∃ n, n = L.length := ⟨_, rfl⟩
  obtain ⟨lo, hlo⟩ : ∃ n, n = O.length := ⟨_, rfl⟩
  obtain ⟨pn, hpn⟩ : ∃ n, n = f.parts.length := ⟨_, rfl⟩
  rw [← hln] at eg
  rw [← hlo] at eo
  rw [← hpn] at ep
  have hO6 : O.length ≤ 6 := by
    rcases hOr with h | h
    · rw [h]; simp
    · exact (gchk_zero.1 h).2.1
  have hC1 : C.length ≤ 1 := by rw [hC]; split <;> simp
  have HX : Hid (∀ (U : World) (x : Value), FrsIn (fun _ => True) U x (O ++ [f]) → Calls Try.prog 13 #[x] U fun e w'' => ∃ ca cc fa fc, e = .returned (.tuple #[.slice ca C.length cc, .agg #[.slice fa R.length fc], .int .i64 0]) ∧ GrsIn (fun g => U.heap.size ≤ g) w'' (.slice ca C.length cc) C ∧ FrsIn (fun g => U.heap.size ≤ g) w'' (.slice fa R.length fc) R ∧ Below U.heap.size U w'') := fun U x hx => by
    have := groupAll_any x (O ++ [f]) U _ hx
    rw [hE, hR] at this
    exact this
  have HG : Hid (GrsIn (fun g => g ≠ M) w gv L) := hg
  have HO : Hid (FrsIn (fun g => g ≠ M) w ov O) := ho
  have HP : Hid (StrsIn (fun g => g ≠ M) w pv f.parts) := hp
  have HM : Hid (Blk w M #[.int .i64 first, gv, ov] 85) := hM
  have HLR : Hid (∀ g ∈ L, gchk g = 0) := hLr
  have HO6 : Hid (O.length ≤ 6) := hO6
  have HLO : Hid (lo = O.length) := hlo
  have hMw : M < w.heap.size := hM.lt
  rw [← hRR]
  clear hE hR hg ho hp hM hLr hOr hf hRR hC hln hpn hlo
  subst eg eo ep
  go_enter Try.func43, Try.ntmps43
  go_wp2_with fail
  obtain ⟨w1, hw1⟩ : ∃ w1, w1 = w.alloc (.cells #[.int .i64 f.time, .bool f.key, .slice pa pn pc] 48) := ⟨_, rfl⟩
  have B1 : Below w.heap.size w w1 := by rw [hw1]; exact (Below.refl _ _).alloc (Nat.le_refl _) _
  have KF : Blk w1 w.heap.size #[.int .i64 f.time, .bool f.key, .slice pa pn pc] 48 := by rw [hw1]; exact Blk.new _ _ _
  have KM : Blk w1 M #[.int .i64 first, .slice ga ln gc, .slice oa lo oc] 85 := HM.out.below B1 hMw
  have hw1s : w1.heap.size = w.heap.size + 1 := by rw [hw1]; simp
  rw [← hw1]
  have BB1 : Hid (Below w.heap.size w w1) := B1
  have KMH : Hid (Blk w1 M #[.int .i64 first, .slice ga ln gc, .slice oa lo oc] 85) := KM
  clear hw1 B1
  refine region_box (by kernel_rfl) (by kernel_rfl) [.quiet (.pointer (some ⟨M, 0, none⟩)) 5, .quiet (.pointer (some ⟨M, 0, none⟩)) 5, .quiet (.pointer (some ⟨M, 0, none⟩)) 5, .quiet (.pointer (some ⟨M, 2, none⟩)) 5, .quiet (.pointer (some ⟨M, 2, none⟩)) 5, .quiet (.slice oa lo oc) 5, .quiet (.agg #[.int .i64 f.time, .bool f.key, .slice pa pn pc]) 5, .step 0, .step 1, .step 2, .step 3, .fin 3 (fun x => x), .fin 3 (exT 0), .fin 3 (exT 1), .fin 3 (exT 2), .box, .fin 3 (exT 0), .step 4, .fin 3 (exT 2)] [7, 8, 9, 10, 17] 15 (by kernel_rfl)
    (AddI w1 f pa pn pc oa lo oc (O ++ [f]) C R 0) ?i0 ?step ?fin
  case i0 => exact ⟨⟨rfl, rfl, rfl, Nat.le_refl _, fun _ _ => rfl⟩, fun _ g hg => (by cases hg), trivial⟩
  case step =>
    intro i o ho a' w' s r b hI hfree hvals hbx
    have f0 : a'.eval (.tmp 0) = .pointer (some ⟨M, 0, none⟩) := (hfree 0 (by kernel_rfl)).trans rfl
    have f3 : a'.eval (.tmp 3) = .pointer (some ⟨w.heap.size, 0, none⟩) := (hfree 3 (by kernel_rfl)).trans rfl
    have hBw : Below w1.heap.size w1 w' := hI.1
    have hMw1 := KM.lt
    have hFw1 := KF.lt
    obtain ⟨_, _, y2⟩ := (KM.below hBw hMw1).three
    obtain ⟨z0, z1, z2⟩ := (KF.below hBw hFw1).three
    have hR3 : 3 < s → ∃ ca cc fa fc, r 3 = .tuple #[.slice ca C.length cc, .agg #[.slice fa R.length fc], .int .i64 0] := fun hs => by
      match s, hs, hI.2.2 with
      | 4, _, ⟨ca, cc, fa, fc, e, _⟩ => exact ⟨ca, cc, fa, fc, e⟩
      | _ + 5, _, ⟨_, ca, cc, fa, fc, _, _, e, _⟩ => exact ⟨ca, cc, fa, fc, e⟩
    match i, ho with
    | 0, ho =>
      simp at ho; subst ho
      show s ≤ 5 → (execOp a'.eval _).run _ w' = .ok (.value _) w'
      intro _
      generalize a'.eval = ρ at *
      simp [execOp, go_sem, f0]
    | 1, ho =>
      simp at ho; subst ho
      have e1 : a'.eval (.tmp 9) = .pointer (some ⟨M, 0, none⟩) := hvals 0 _ _ (by kernel_rfl) rfl rfl
      show s ≤ 5 → (execOp a'.eval _).run _ w' = .ok (.value _) w'
      intro _
      generalize a'.eval = ρ at *
      simp [execOp, go_sem, e1]
    | 2, ho =>
      simp at ho; subst ho
      have e1 : a'.eval (.tmp 10) = .pointer (some ⟨M, 0, none⟩) := hvals 1 _ _ (by kernel_rfl) rfl rfl
      show s ≤ 5 → (execOp a'.eval _).run _ w' = .ok (.value _) w'
      intro _
      generalize a'.eval = ρ at *
      simp [execOp, go_sem, e1]
    | 3, ho =>
      simp at ho; subst ho
      have e1 : a'.eval (.tmp 11) = .pointer (some ⟨M, 0, none⟩) := hvals 2 _ _ (by kernel_rfl) rfl rfl
      show s ≤ 5 → (execOp a'.eval _).run _ w' = .ok (.value _) w'
      intro _
      generalize a'.eval = ρ at *
      simp [execOp, go_sem, e1]
    | 4, ho =>
      simp at ho; subst ho
      have e1 : a'.eval (.tmp 12) = .pointer (some ⟨M, 2, none⟩) := hvals 3 _ _ (by kernel_rfl) rfl rfl
      show s ≤ 5 → (execOp a'.eval _).run _ w' = .ok (.value _) w'
      intro _
      generalize a'.eval = ρ at *
      simp [execOp, go_sem, e1]
    | 5, ho =>
      simp at ho; subst ho
      have e1 : a'.eval (.tmp 13) = .pointer (some ⟨M, 2, none⟩) := hvals 4 _ _ (by kernel_rfl) rfl rfl
      show s ≤ 5 → (execOp a'.eval _).run _ w' = .ok (.value _) w'
      intro _
      generalize a'.eval = ρ at *
      simp [execOp, go_sem, e1, y2]
    | 6, ho =>
      simp at ho; subst ho
      show s ≤ 5 → (execOp a'.eval _).run _ w' = .ok (.value _) w'
      intro _
      generalize a'.eval = ρ at *
      simp [execOp, go_sem, f3, z0, z1, z2]
    | 7, ho =>
      simp at ho; subst ho
      have e1 : a'.eval (.tmp 15) = .agg #[.int .i64 f.time, .bool f.key, .slice pa pn pc] := hvals 6 _ _ (by kernel_rfl) rfl rfl
      show s = 0 → _
      intro hs
      subst hs
      refine oper_wp_ok (v := .slice (some ⟨w'.heap.size, 0, none⟩) 1 1) (w' := w'.alloc (.cells #[.int .i64 f.time, .bool f.key, .slice pa pn pc] 48)) ?_ ⟨_, rfl, hBw.alloc hBw.size _, fun _ g hg => ⟨(hI.2.1 (by omega) g hg).1, (hI.2.1 (by omega) g hg).2.alloc _⟩, w'.heap.size, updR_at _ _ _, Blk.new _ _ _⟩
      generalize a'.eval = ρ at *
      simp [execOp, go_sem, e1]
    | 8, ho =>
      simp at ho; subst ho
      show s = 1 → _
      intro hs
      subst hs
      obtain ⟨g1, q1, q2⟩ := hI.2.2
      have e1 : a'.eval (.tmp 14) = .slice oa lo oc := hvals 5 _ _ (by kernel_rfl) rfl rfl
      have e2 : a'.eval (.tmp 16) = .slice (some ⟨g1, 0, none⟩) 1 1 := (hvals 7 _ _ (by kernel_rfl) rfl rfl).trans q1
      refine oper_wp_ok (v := .slice (some ⟨w'.heap.size, 0, none⟩) 2 2) (w' := w'.alloc (.cells #[.slice oa lo oc, .slice (some ⟨g1, 0, none⟩) 1 1] 23)) ?_ ⟨_, rfl, hBw.alloc hBw.size _, fun _ g hg => ⟨(hI.2.1 (by omega) g hg).1, (hI.2.1 (by omega) g hg).2.alloc _⟩, g1, w'.heap.size, updR_at _ _ _, q2.alloc _, Blk.new _ _ _⟩
      generalize a'.eval = ρ at *
      simp [execOp, go_sem, e1, e2]
    | 9, ho =>
      simp at ho; subst ho
      show s = 2 → _
      intro hs
      subst hs
      obtain ⟨g1, g2, q1, q2, q3⟩ := hI.2.2
      have e1 : a'.eval (.tmp 17) = .slice (some ⟨g2, 0, none⟩) 2 2 := (hvals 8 _ _ (by kernel_rfl) rfl rfl).trans q1
      have ef : a'.eval (.func 63) = .func (.func 63) #[] #[] := rfl
      obtain ⟨t0, t1⟩ := q3.two
      have hbw : Below w.heap.size w w' := BB1.out.trans (hBw.mono BB1.out.size)
      have hc := concatFrs_any (fun _ => True) g2 (.slice oa lo oc) (.slice (some ⟨g1, 0, none⟩) 1 1) O [f] w' t0 t1 ((HO.out.below hbw).mono fun _ _ _ => trivial) (FrsIn.one q2 trivial ((HP.out.below hbw).mono fun _ _ _ => trivial)) (by have := HO6.out; simp; omega)
      refine oper_wp_call (f := 63) (args := #[.slice (some ⟨g2, 0, none⟩) 2 2]) ?_ (hc.mono ?_)
      · generalize a'.eval = ρ at *
        simp [execOp, go_sem, e1, ef]
      · rintro e w'' ⟨u, rfl, o1, b1⟩
        exact ⟨u, rfl, u, rfl, hBw.trans (b1.mono hBw.size), fun _ g hg => ⟨(hI.2.1 (by omega) g hg).1, (hI.2.1 (by omega) g hg).2.below b1 (hI.2.1 (by omega) g hg).2.lt⟩, by show FrsIn _ _ _ _; rw [updR_at]; exact o1.frsIn (fun _ _ _ => trivial) (fun _ _ => trivial)⟩
    | 10, ho =>
      simp at ho; subst ho
      show s = 3 → _
      intro hs
      subst hs
      have e1 : a'.eval (.tmp 18) = r 2 := hvals 9 _ _ (by kernel_rfl) rfl rfl
      have ef : a'.eval (.func 13) = .func (.func 13) #[] #[] := rfl
      refine oper_wp_call (f := 13) (args := #[r 2]) ?_ ((HX.out w' (r 2) hI.2.2).mono ?_)
      · generalize a'.eval = ρ at *
        simp [execOp, go_sem, e1, ef]
      · rintro e w'' ⟨ca, cc, fa, fc, rfl, s1, s2, b1⟩
        have hne : ∀ x, w'.heap.size ≤ x → b ≠ some x := fun x hx e => by have := (hI.2.1 (by omega) x e).2.lt; omega
        exact ⟨_, rfl, _, rfl, hBw.trans (b1.mono hBw.size), fun _ g hg => ⟨(hI.2.1 (by omega) g hg).1, (hI.2.1 (by omega) g hg).2.below b1 (hI.2.1 (by omega) g hg).2.lt⟩, ca, cc, fa, fc, updR_at _ _ _, s1.mono fun x _ hx => ⟨hne x hx, by have := hBw.size; omega⟩, s2.mono fun x _ hx => ⟨hne x hx, by have := hBw.size; omega⟩⟩
    | 11, ho =>
      simp at ho; subst ho
      have e1 : a'.eval (.tmp 19) = r 3 := hvals 10 _ _ (by kernel_rfl) rfl rfl
      show 3 < s → (execOp a'.eval _).run _ w' = .ok (.value _) w'
      intro hs
      obtain ⟨ca, cc, fa, fc, er⟩ := hR3 hs
      rw [er] at e1 ⊢
      generalize a'.eval = ρ at *
      simp [execOp, go_sem, e1]
    | 12, ho =>
      simp at ho; subst ho
      have e1 : a'.eval (.tmp 8) = r 3 := hvals 11 _ _ (by kernel_rfl) rfl rfl
      show 3 < s → (execOp a'.eval _).run _ w' = .ok (.value _) w'
      intro hs
      obtain ⟨ca, cc, fa, fc, er⟩ := hR3 hs
      rw [er] at e1 ⊢
      simp only [exT] at e1 ⊢
      generalize a'.eval = ρ at *
      simp [execOp, go_sem, e1]
    | 13, ho =>
      simp at ho; subst ho
      have e1 : a'.eval (.tmp 8) = r 3 := hvals 11 _ _ (by kernel_rfl) rfl rfl
      show 3 < s → (execOp a'.eval _).run _ w' = .ok (.value _) w'
      intro hs
      obtain ⟨ca, cc, fa, fc, er⟩ := hR3 hs
      rw [er] at e1 ⊢
      simp only [exT] at e1 ⊢
      generalize a'.eval = ρ at *
      simp [execOp, go_sem, e1]
    | 14, ho =>
      simp at ho; subst ho
      have e1 : a'.eval (.tmp 8) = r 3 := hvals 11 _ _ (by kernel_rfl) rfl rfl
      show 3 < s → (execOp a'.eval _).run _ w' = .ok (.value _) w'
      intro hs
      obtain ⟨ca, cc, fa, fc, er⟩ := hR3 hs
      rw [er] at e1 ⊢
      simp only [exT] at e1 ⊢
      generalize a'.eval = ρ at *
      simp [execOp, go_sem, e1]
    | 15, ho =>
      simp at ho; subst ho
      show b = none → _
      intro hb
      subst hb
      refine ⟨.cells #[.slice none 0 0] 35, ?_, hI.box⟩
      generalize a'.eval = ρ at *
      simp [execOp, go_sem]
    | 16, ho =>
      simp at ho; subst ho
      have e1 : a'.eval (.tmp 20) = exT 0 (r 3) := hvals 12 _ _ (by kernel_rfl) rfl rfl
      show 3 < s → (execOp a'.eval _).run _ w' = .ok (.value _) w'
      intro hs
      obtain ⟨ca, cc, fa, fc, er⟩ := hR3 hs
      rw [er] at e1 ⊢
      simp only [exT] at e1 ⊢
      generalize a'.eval = ρ at *
      simp [execOp, go_sem, e1]
    | 17, ho =>
      simp at ho; subst ho
      show s = 4 → _
      intro hs
      subst hs
      obtain ⟨ca, cc, fa, fc, er, s1, s2⟩ := hI.2.2
      obtain ⟨g, hg⟩ := Option.isSome_iff_exists.1 (hbx (by kernel_rfl))
      subst hg
      obtain ⟨hgb, kg⟩ := hI.2.1 (by omega) g rfl
      have e1 : a'.eval (.tmp 6) = .pointer (some ⟨g, 0, none⟩) := hvals 15 _ _ (by kernel_rfl) rfl rfl
      have e2 : a'.eval (.tmp 21) = .agg #[.slice fa R.length fc] := (hvals 13 _ _ (by kernel_rfl) rfl rfl).trans (by show exT 1 (r 3) = _; rw [er]; rfl)
      have t0 := kg.one
      have t1 := kg.free 0
      refine oper_wp_skip (w' := w'.setCell ⟨g, 0, none⟩ (.slice fa R.length fc)) ?_ ⟨_, rfl, hBw.setCell hgb _, fun h => absurd h (by omega), ?_⟩
      · generalize a'.eval = ρ at *
        simp [execOp, go_sem, e1, e2, t0, t1]
      · exact ⟨g, ca, cc, fa, fc, rfl, hgb, by rw [updR_ne (by omega)]; exact er, s1.to (SameOn.setCell (fun x hx e => hx.1 (by rw [e])) _) (fun _ _ h => h), s2.to (SameOn.setCell (fun x hx e => hx.1 (by rw [e])) _) (fun _ _ h => h), kg.set 0 _⟩
    | 18, ho =>
      simp at ho; subst ho
      have e1 : a'.eval (.tmp 22) = exT 2 (r 3) := hvals 14 _ _ (by kernel_rfl) rfl rfl
      show 3 < s → (execOp a'.eval _).run _ w' = .ok (.value _) w'
      intro hs
      obtain ⟨ca, cc, fa, fc, er⟩ := hR3 hs
      rw [er] at e1 ⊢
      simp only [exT] at e1 ⊢
      generalize a'.eval = ρ at *
      simp [execOp, go_sem, e1]
    | i + 19, ho => simp at ho
  case fin =>
    rintro r g W ⟨hB, _, g', ca, cc, fa, fc, hgg, hg1, er, s1, s2, kg⟩
    injection hgg with hgg
    subst hgg
    simp only [putB, Cb.out, er, exT]
    obtain ⟨nC, hnC⟩ : ∃ n, n = C.length := ⟨_, rfl⟩
    obtain ⟨nR, hnR⟩ : ∃ n, n = R.length := ⟨_, rfl⟩
    rw [← hnC] at s1
    rw [← hnR] at s2 kg
    have HNC : Hid (nC = C.length) := hnC
    simp only [← hnC, ← hnR]
    have KMW : Blk W M #[.int .i64 first, .slice ga ln gc, .slice oa lo oc] 85 := KMH.out.below hB KMH.out.lt
    have BW : Below w.heap.size w W := BB1.out.trans (hB.mono BB1.out.size)
    have GW : GrsIn (fun x => x ≠ M) W (.slice ga ln gc) L := HG.out.below BW
    have hMW : M < W.heap.size := KMW.lt
    have HCLN : Hid (Calls Try.prog 64 #[.slice ga ln gc] W fun e w' => ∃ u, e = .returned u ∧ OwnGrs W.heap.size (NS W.heap.size u) w' u L ∧ Below W.heap.size W w') := cloneGroups_any _ _ L W GW (by omega) HLR.out
    have S1 : Hid (GrsIn (fun x => w1.heap.size ≤ x ∧ x < W.heap.size) W (.slice ca nC cc) C) := s1.mono fun x hx h => ⟨h.2, hx⟩
    have S2 : Hid (FrsIn (fun x => w1.heap.size ≤ x ∧ x < W.heap.size) W (.slice fa nR fc) R) := s2.mono fun x hx h => ⟨h.2, hx⟩
    have KG : Hid (Blk W g #[.slice fa nR fc] 35) := kg
    have KMW2 : Hid (Blk W M #[.int .i64 first, .slice ga ln gc, .slice oa lo oc] 85) := KMW
    have HKW : Hid (Kept [M] w W) := (Kept.refl [M] w).below BW
    have hgM : g ≠ M := by omega
    have hWw : w.heap.size ≤ W.heap.size := BW.size
    obtain ⟨q0, q1, q2⟩ := KMW.three
    clear s1 s2 kg hB er BW GW KMW
    have HNR : Hid (nR = R.length) := hnR
    clear hnC hnR KM KF
    go_wp2_with fail
    refine HCLN.out.mono ?_
    rintro e w2 ⟨u, rfl, ou, bu⟩
    have hu : ∀ x, u.ownBlock = some x → W.heap.size ≤ x ∧ x < w2.heap.size := ou.lt
    have O2 : OwnGrs W.heap.size (fun x => w.heap.size ≤ x ∧ some x ≠ u.ownBlock ∧ x < w2.heap.size) w2 u L := ou.to (SameOn.refl _ _) (fun x hx h => ⟨by have := h.1; omega, h.2, hx⟩) (fun _ _ => rfl)
    have S3 : GrsIn (fun x => w.heap.size ≤ x ∧ some x ≠ u.ownBlock ∧ x < w2.heap.size) w2 (.slice ca nC cc) C := (S1.out.below bu).mono fun x hx h => ⟨by have := h.1; omega, fun e => (by have := (hu x e.symm).1; omega), hx⟩
    obtain ⟨qs, t1, t2, t3⟩ := S3.sl
    obtain ⟨v', w3, r3, o3, g3, dd⟩ := groups_app O2 t1 t2 t3 (fun x hx => hx.2.1) (by omega) bu.size
    have hg3 : ∀ x, x < W.heap.size → w3.heap[x]? = W.heap[x]? := fun x hx => (g3.block x (Nat.lt_of_lt_of_le hx bu.size) (fun e => by have := (hu x e.symm).1; omega)).trans (bu.block x hx)
    have hs3 : w2.heap.size ≤ w3.heap.size := g3.size
    have hWs3 : W.heap.size ≤ w3.heap.size := Nat.le_trans bu.size hs3
    have BW3 : Below W.heap.size W w3 := bu.grown g3 bu.size (fun x hx => (hu x hx).1)
    have K3 : Blk w3 M #[.int .i64 first, .slice ga ln gc, .slice oa lo oc] 85 := (hg3 M hMW).trans KMW2.out
    have G3 : Blk w3 g #[.slice fa nR fc] 35 := (hg3 g KG.out.lt).trans KG.out
    have hv' : ∀ x, v'.ownBlock = some x → W.heap.size ≤ x := fun x hx => (o3.lt x hx).1
    have V3 : GrsIn (fun x => w.heap.size ≤ x) w3 v' (L ++ C) := o3.grsIn (fun x _ h => h.1) (fun x hx => by have := hv' x hx; omega)
    have R3 : FrsIn (fun x => w.heap.size ≤ x) w3 (.slice fa nR fc) R := S2.out.to ⟨hWs3, fun x hx _ => hg3 x hx⟩ (fun x _ h => by have := h.1; omega)
    obtain ⟨va, vc, ev, _, _⟩ := V3.len
    obtain ⟨nV, hnV⟩ : ∃ n, n = (L ++ C).length := ⟨_, rfl⟩
    rw [← hnV] at ev
    clear hnV
    have c1 := K3.three
    obtain ⟨c10, c11, c12⟩ := c1
    have fr := K3.free
    have cg := G3.one
    obtain ⟨w5, hw5⟩ : ∃ w5, w5 = (w3.setCell ⟨M, 1, none⟩ v').setCell ⟨M, 2, none⟩ (.slice fa nR fc) := ⟨_, rfl⟩
    have K5 : Blk w5 M #[.int .i64 first, v', .slice fa nR fc] 85 := by
      rw [hw5]; exact (K3.set 1 v').set 2 (.slice fa nR fc)
    have same5 : SameOn (fun x => w.heap.size ≤ x) w3 w5 := by
      rw [hw5]
      exact (SameOn.setCell (S := fun x => w.heap.size ≤ x) (w := w3) (a := ⟨M, 1, none⟩) (fun x hx => (by show x ≠ M; omega)) v').trans (SameOn.setCell (S := fun x => w.heap.size ≤ x) (w := w3.setCell ⟨M, 1, none⟩ v') (a := ⟨M, 2, none⟩) (fun x hx => (by show x ≠ M; omega)) (.slice fa nR fc))
    have V5 : GrsIn (fun x => w.heap.size ≤ x) w5 v' (L ++ C) := V3.to same5 (fun _ _ h => h)
    have R5 : Hid (FrsIn (fun x => w.heap.size ≤ x) w5 (.slice fa nR fc) R) := R3.to same5 (fun _ _ h => h)
    have P5 : Hid (Kept [M] w w5) := by
      rw [hw5]; exact ((HKW.out.below BW3).setCell (by simp) _).setCell (by simp) _
    have HLG : Hid (Calls Try.prog 65 #[.pointer (some ⟨M, 0, none⟩)] w5 fun e w' => e = .returned (.tuple #[]) ∧ ∃ gv', Blk w' M #[.int .i64 (first + trimD (L ++ C)), gv', .slice fa nR fc] 85 ∧ GrsIn (fun x => w.heap.size ≤ x) w' gv' ((L ++ C).drop (trimD (L ++ C))) ∧ Kept [M] w5 w') := letGo_any M first v' _ (L ++ C) _ w5 K5 V5 (fun x hx => (by show x ≠ M; omega)) (by simp; omega) hf0 (by omega)
    clear ou bu hu O2 S3 t1 t2 t3 o3 g3 dd hg3 hs3 BW3 K3 G3 hv' V3 R3 K5 V5 same5 q0 q1 q2 HCLN
    subst ev
    go_wp2_with (at_builtin; refine wpList_append_run rfl (.tmp 29) (.tmp 30) 38 38 rfl _ _ rfl rfl r3 ?_)
    rw [← hw5]
    refine HLG.out.mono ?_
    rintro e w6 ⟨rfl, gv', k6, v6, p6⟩
    have R6 : FrsIn (fun x => w.heap.size ≤ x) w6 (.slice fa nR fc) R := R5.out.to ⟨p6.size, fun x hx h => p6.block x hx (by simp; omega)⟩ (fun _ _ h => h)
    have FIN : Hid (∃ gv' ov', Blk w6 M #[.int .i64 (first + trimD (L ++ C)), gv', ov'] 85 ∧ GrsIn (fun g => w.heap.size ≤ g) w6 gv' ((L ++ C).drop (trimD (L ++ C))) ∧ FrsIn (fun g => w.heap.size ≤ g) w6 ov' R ∧ Kept [M] w w6) := ⟨gv', .slice fa nR fc, k6, v6, R6, P5.out.trans p6⟩
    clear k6 v6 p6 R6 R5 P5 HLG hw5 c10 c11 c12 fr cg r3
    go_wp2
    go_ret
    exact ⟨by rw [← HNC.out]; first | rfl | simp, FIN.out⟩

end Go.Proofs.Ytgmnhbmjnllhhac

namespace Go.Proofs.Ytgmnhbmjnllhhac
open Go.RowKit

/-- the group that a frame closes -/
def closedG (O : List Fr) (f : Fr) : List (List Fr) := if f.key && decide (0 < O.length) then [O] else []
/-- what Add says, and what it leaves -/
def addsE (first : Int) (L : List (List Fr)) (O : List Fr) (f : Fr) : Int := if stchk first L O = 0 then (if f.chk = 0 then (if 100000 < first + trimD (L ++ closedG O f) then 2 else 0) else f.chk) else stchk first L O
def addsF (first : Int) (L : List (List Fr)) (O : List Fr) (f : Fr) : Int := if addsE first L O f = 0 then first + trimD (L ++ closedG O f) else 0
def addsL (first : Int) (L : List (List Fr)) (O : List Fr) (f : Fr) : List (List Fr) := if addsE first L O f = 0 then (L ++ closedG O f).drop (trimD (L ++ closedG O f)) else []
def addsO (first : Int) (L : List (List Fr)) (O : List Fr) (f : Fr) : List Fr := if addsE first L O f = 0 then growG O f else []
def addsB (first : Int) (L : List (List Fr)) (O : List Fr) (f : Fr) : Bool := if addsE first L O f = 0 then decide (0 < (closedG O f).length) else false

set_option maxHeartbeats 8000000 in
set_option maxRecDepth 100000 in
theorem storeAdd_any (first : Int) (gv ov pv : Value) (L : List (List Fr)) (O : List Fr) (f : Fr) (w : World) (hg : GrsIn (fun _ => True) w gv L) (ho : FrsIn (fun _ => True) w ov O) (hp : StrsIn (fun _ => True) w pv f.parts) :
    Calls Try.prog 21 #[.agg #[.int .i64 first, gv, ov], .agg #[.int .i64 f.time, .bool f.key, pv]] w fun e w' => ∃ gv' ov', e = .returned (.tuple #[.agg #[.int .i64 (addsF first L O f), gv', ov'], .bool (addsB first L O f), .int .i64 (addsE first L O f)]) ∧ GrsIn (fun _ => True) w' gv' (addsL first L O f) ∧ FrsIn (fun _ => True) w' ov' (addsO first L O f) ∧ Below w.heap.size w w' := by
  obtain ⟨ga, gc, eg, _, _⟩ := hg.len
  obtain ⟨oa, oc, eo, _, _⟩ := ho.len
  obtain ⟨pa, pc, ep⟩ := hp.1.len
  obtain ⟨ln, hln⟩ : ∃ n, n = L.length := ⟨_, rfl⟩
  obtain ⟨lo, hlo⟩ : ∃ n, n = O.length := ⟨_, rfl⟩
  obtain ⟨pn, hpn⟩ : ∃ n, n = f.parts.length := ⟨_, rfl⟩
  rw [← hln] at eg
  rw [← hlo] at eo
  rw [← hpn] at ep
  have HG : Hid (GrsIn (fun g => g < w.heap.size) w gv L) := hg.mono fun g h _ => h
  have HO : Hid (FrsIn (fun g => g < w.heap.size) w ov O) := ho.mono fun g h _ => h
  have HP : Hid (StrsIn (fun g => g < w.heap.size) w pv f.parts) := hp.mono fun g h _ => h
  obtain ⟨E, hE⟩ : ∃ E, E = addsE first L O f := ⟨_, rfl⟩
  obtain ⟨K, hK⟩ : ∃ K, K = stchk first L O := ⟨_, rfl⟩
  obtain ⟨Z, hZ⟩ : ∃ Z, Z = f.chk := ⟨_, rfl⟩
  obtain ⟨C, hC⟩ : ∃ C, C = closedG O f := ⟨_, rfl⟩
  have HE : Hid (E = if K = 0 then (if Z = 0 then (if 100000 < first + trimD (L ++ C) then 2 else 0) else Z) else K) := by show _ = _; rw [hE, hK, hZ, hC]; rfl
  have HBAD : Hid (¬ E = 0 → addsF first L O f = 0 ∧ addsL first L O f = [] ∧ addsO first L O f = [] ∧ addsB first L O f = false) := fun h => by
    rw [hE] at h
    exact ⟨if_neg h, if_neg h, if_neg h, if_neg h⟩
  have HGOOD : Hid (E = 0 → addsF first L O f = first + trimD (L ++ C) ∧ addsL first L O f = (L ++ C).drop (trimD (L ++ C)) ∧ addsO first L O f = growG O f ∧ addsB first L O f = decide (0 < C.length)) := fun h => by
    rw [hE] at h
    rw [hC]
    exact ⟨if_pos h, if_pos h, if_pos h, if_pos h⟩
  have HCK : Hid (∀ U, Below w.heap.size w U → Calls Try.prog 30 #[.agg #[.int .i64 first, gv, ov]] U fun e w' => e = .returned (.int .i64 K) ∧ Below U.heap.size U w') := fun U hU => by
    rw [hK]; exact storeCheck_any _ first gv ov L O U (HG.out.below hU) (HO.out.below hU)
  have HCF : Hid (∀ U, Below w.heap.size w U → Calls Try.prog 37 #[.agg #[.int .i64 f.time, .bool f.key, pv]] U fun e w' => e = .returned (.int .i64 Z) ∧ Below U.heap.size U w') := fun U hU => by
    rw [hZ]; exact frameCheck_any _ _ _ _ _ (HP.out.below hU).1 HP.out.2.1
  have HADD : Hid (K = 0 → Z = 0 → ∀ (M : Nat) (U : World), w.heap.size ≤ M → Blk U M #[.int .i64 first, gv, ov] 85 → Below w.heap.size w U → Calls Try.prog 43 #[.pointer (some ⟨M, 0, none⟩), .agg #[.int .i64 f.time, .bool f.key, pv]] U fun e w' => e = .returned (.bool (decide (0 < C.length))) ∧ ∃ gv' ov', Blk w' M #[.int .i64 (first + trimD (L ++ C)), gv', ov'] 85 ∧ GrsIn (fun g => U.heap.size ≤ g) w' gv' ((L ++ C).drop (trimD (L ++ C))) ∧ FrsIn (fun g => U.heap.size ≤ g) w' ov' (growG O f) ∧ Kept [M] U w') := fun h1 h2 M U hM hk hU => by
    have h1' : stchk first L O = 0 := by rw [← hK]; exact h1
    obtain ⟨a1, a2, a3, a4, _, a6⟩ := stchk_zero.1 h1'
    exact keeperAdd_any M first gv ov pv L O f U hk ((HG.out.below hU).mono fun g _ h => by omega) ((HO.out.below hU).mono fun g _ h => by omega) ((HP.out.below hU).mono fun g _ h => by omega) a3 a4 a6 (by rw [← hZ]; exact h2) a1 a2 C hC
  have HTR : Hid (K = 0 → 0 ≤ first ∧ first ≤ 100000) := fun h => by
    have h1' : stchk first L O = 0 := by rw [← hK]; exact h
    obtain ⟨a1, a2, _⟩ := stchk_zero.1 h1'
    exact ⟨a1, a2⟩
  have HEE : Hid (E = addsE first L O f) := hE
  clear hg ho hp hE hK hZ hC hln hlo hpn
  subst eg eo ep
  go_enter Try.func21, Try.ntmps21
  go_wp2_with fail
  obtain ⟨w1, hw1⟩ : ∃ w1, w1 = ((w.alloc (.cells #[.int .i64 first, .slice ga ln gc, .slice oa lo oc] 51)).alloc (.cells #[.int .i64 f.time, .bool f.key, .slice pa pn pc] 48)).alloc (.cells #[.int .i64 0, .slice none 0 0, .slice none 0 0] 51) := ⟨_, rfl⟩
  have B1 : Hid (Below w.heap.size w w1) := by
    rw [hw1]; exact (((Below.refl _ _).alloc (Nat.le_refl _) _).alloc (by simp) _).alloc (by simp; omega) _
  have K1 : Hid (Blk w1 w.heap.size #[.int .i64 first, .slice ga ln gc, .slice oa lo oc] 51) := by rw [hw1]; exact ((Blk.new w _ _).alloc _).alloc _
  have F1 : Hid (Blk w1 (w.heap.size + 1) #[.int .i64 f.time, .bool f.key, .slice pa pn pc] 48) := by
    have := (Blk.new (w.alloc (.cells #[.int .i64 first, .slice ga ln gc, .slice oa lo oc] 51)) #[.int .i64 f.time, .bool f.key, .slice pa pn pc] 48).alloc (.cells #[.int .i64 0, .slice none 0 0, .slice none 0 0] 51)
    rw [hw1]; simpa [Hid] using this
  have R1 : Hid (Blk w1 (w.heap.size + 1 + 1) #[.int .i64 0, .slice none 0 0, .slice none 0 0] 51) := by
    have := Blk.new ((w.alloc (.cells #[.int .i64 first, .slice ga ln gc, .slice oa lo oc] 51)).alloc (.cells #[.int .i64 f.time, .bool f.key, .slice pa pn pc] 48)) #[.int .i64 0, .slice none 0 0, .slice none 0 0] 51
    rw [hw1]; simpa [Hid] using this
  rw [← hw1]
  clear hw1
  refine (HCK.out _ B1.out).mono ?_
  rintro e w2 ⟨rfl, hb⟩
  have B2 : Hid (Below w.heap.size w w2) := B1.out.trans (hb.mono B1.out.size)
  have K2 : Hid (Blk w2 w.heap.size #[.int .i64 first, .slice ga ln gc, .slice oa lo oc] 51) := K1.out.below hb K1.out.lt
  have F2 : Hid (Blk w2 (w.heap.size + 1) #[.int .i64 f.time, .bool f.key, .slice pa pn pc] 48) := F1.out.below hb F1.out.lt
  have R2 : Hid (Blk w2 (w.heap.size + 1 + 1) #[.int .i64 0, .slice none 0 0, .slice none 0 0] 51) := R1.out.below hb R1.out.lt
  clear hb B1 K1 F1 R1 HCK
  by_cases hK : K = 0
  case neg =>
    have HEK : Hid (E = K) := by show _ = _; rw [HE.out, if_neg hK]
    obtain ⟨r0, r1, r2⟩ := R2.out.three
    have fr := R2.out.free
    go_wp2
    obtain ⟨b1, b2, b3, b4⟩ := HBAD.out (by rw [HEK.out]; exact hK)
    rw [b1, b2, b3, b4, ← HEE.out, HEK.out]
    refine bodyPost_ret (v := .tuple #[.agg #[.int .i64 0, .slice none 0 0, .slice none 0 0], .bool false, .int .i64 K]) (by simp [results, Try.results21, go_sem, r0, r1, r2]) rfl ⟨_, _, rfl, GrsIn.nil _ _, FrsIn.nil _ _, ?_⟩
    first | exact B2.out | exact ((B2.out.setCell (by show _ ≤ w.heap.size + 1 + 1; omega) _).setCell (by show _ ≤ w.heap.size + 1 + 1; omega) _).setCell (by show _ ≤ w.heap.size + 1 + 1; omega) _
  obtain ⟨hf0, hf1⟩ := HTR.out hK
  obtain ⟨f0, f1, f2⟩ := F2.out.three
  go_wp2_with fail
  refine (HCF.out _ B2.out).mono ?_
  rintro e w3 ⟨rfl, hb⟩
  have B3 : Hid (Below w.heap.size w w3) := B2.out.trans (hb.mono B2.out.size)
  have K3 : Hid (Blk w3 w.heap.size #[.int .i64 first, .slice ga ln gc, .slice oa lo oc] 51) := K2.out.below hb K2.out.lt
  have F3 : Hid (Blk w3 (w.heap.size + 1) #[.int .i64 f.time, .bool f.key, .slice pa pn pc] 48) := F2.out.below hb F2.out.lt
  have R3 : Hid (Blk w3 (w.heap.size + 1 + 1) #[.int .i64 0, .slice none 0 0, .slice none 0 0] 51) := R2.out.below hb R2.out.lt
  clear hb B2 K2 F2 R2 HCF f0 f1 f2
  by_cases hZ : Z = 0
  case neg =>
    have HEK : Hid (E = Z) := by show _ = _; rw [HE.out, if_pos hK, if_neg hZ]
    obtain ⟨r0, r1, r2⟩ := R3.out.three
    have fr := R3.out.free
    subst hK
    go_wp2
    obtain ⟨b1, b2, b3, b4⟩ := HBAD.out (by rw [HEK.out]; exact hZ)
    rw [b1, b2, b3, b4, ← HEE.out, HEK.out]
    refine bodyPost_ret (v := .tuple #[.agg #[.int .i64 0, .slice none 0 0, .slice none 0 0], .bool false, .int .i64 Z]) (by simp [results, Try.results21, go_sem, r0, r1, r2]) rfl ⟨_, _, rfl, GrsIn.nil _ _, FrsIn.nil _ _, ?_⟩
    first | exact B3.out | exact ((B3.out.setCell (by show _ ≤ w.heap.size + 1 + 1; omega) _).setCell (by show _ ≤ w.heap.size + 1 + 1; omega) _).setCell (by show _ ≤ w.heap.size + 1 + 1; omega) _
  have HAD2 : Hid (∀ (M : Nat) (U : World), w.heap.size ≤ M → Blk U M #[.int .i64 first, .slice ga ln gc, .slice oa lo oc] 85 → Below w.heap.size w U → Calls Try.prog 43 #[.pointer (some ⟨M, 0, none⟩), .agg #[.int .i64 f.time, .bool f.key, .slice pa pn pc]] U fun e w' => e = .returned (.bool (decide (0 < C.length))) ∧ ∃ gv' ov', Blk w' M #[.int .i64 (first + trimD (L ++ C)), gv', ov'] 85 ∧ GrsIn (fun g => U.heap.size ≤ g) w' gv' ((L ++ C).drop (trimD (L ++ C))) ∧ FrsIn (fun g => U.heap.size ≤ g) w' ov' (growG O f) ∧ Kept [M] U w') := HADD.out hK hZ
  have HE2 : Hid (E = if 100000 < first + trimD (L ++ C) then 2 else 0) := by show _ = _; rw [HE.out, if_pos hK, if_pos hZ]
  obtain ⟨T, hT⟩ : ∃ T : Int, T = first + trimD (L ++ C) := ⟨_, rfl⟩
  obtain ⟨D, hD⟩ : ∃ D : Bool, D = decide (0 < C.length) := ⟨_, rfl⟩
  rw [← hT] at HAD2 HE2 HGOOD
  rw [← hD] at HAD2 HGOOD
  clear HADD HE HTR hT hD
  subst hK hZ
  obtain ⟨k0, k1, k2⟩ := K3.out.three
  obtain ⟨f0, f1, f2⟩ := F3.out.three
  have hFl : w.heap.size + 1 < w3.heap.size := F3.out.lt
  have hKl : w.heap.size < w3.heap.size := K3.out.lt
  go_wp2_with fail
  obtain ⟨U, hU⟩ : ∃ U, U = w3.alloc (.cells #[.int .i64 first, .slice ga ln gc, .slice oa lo oc] 85) := ⟨_, rfl⟩
  have BU : Hid (Below w.heap.size w U) := by rw [hU]; exact B3.out.alloc B3.out.size _
  have KU : Hid (Blk U w3.heap.size #[.int .i64 first, .slice ga ln gc, .slice oa lo oc] 85) := by rw [hU]; exact Blk.new _ _ _
  have RU : Hid (Blk U (w.heap.size + 1 + 1) #[.int .i64 0, .slice none 0 0, .slice none 0 0] 51) := by rw [hU]; exact R3.out.alloc _
  rw [← hU]
  have hMR : w.heap.size + 1 + 1 < w3.heap.size := R3.out.lt
  clear hU k0 k1 k2 f0 f1 f2 K3 F3 R3 B3
  refine (HAD2.out _ _ (by omega) KU.out BU.out).mono ?_
  rintro e w5 ⟨rfl, gv', ov', k5, v5, o5, p5⟩
  have B5 : Hid (Below w.heap.size w w5) := BU.out.trans (p5.toBelow BU.out.size (fun k hk => by simp at hk; omega))
  have R5 : Hid (Blk w5 (w.heap.size + 1 + 1) #[.int .i64 0, .slice none 0 0, .slice none 0 0] 51) := RU.out.kept p5 (by simp; omega)
  have hRU := RU.out.lt
  obtain ⟨va, vc, ev, _, _⟩ := v5.len
  obtain ⟨qa, qc, eq, _, _⟩ := o5.len
  obtain ⟨nv, hnv⟩ : ∃ n, n = ((L ++ C).drop (trimD (L ++ C))).length := ⟨_, rfl⟩
  obtain ⟨nq, hnq⟩ : ∃ n, n = (growG O f).length := ⟨_, rfl⟩
  rw [← hnv] at ev
  rw [← hnq] at eq
  clear hnv hnq
  subst ev eq
  have V5 : Hid (GrsIn (fun g => U.heap.size ≤ g) w5 (.slice va nv vc) ((L ++ C).drop (trimD (L ++ C)))) := v5
  have O5 : Hid (FrsIn (fun g => U.heap.size ≤ g) w5 (.slice qa nq qc) (growG O f)) := o5
  obtain ⟨k0, k1, k2⟩ := k5.three
  obtain ⟨r0, r1, r2⟩ := R5.out.three
  have fr := R5.out.free
  clear v5 o5 p5 HAD2 RU KU
  by_cases hT : 100000 < T
  · have HEK : Hid (E = 2) := by show _ = _; rw [HE2.out, if_pos hT]
    go_wp2
    obtain ⟨b1, b2, b3, b4⟩ := HBAD.out (by rw [HEK.out]; decide)
    rw [b1, b2, b3, b4, ← HEE.out, HEK.out]
    refine bodyPost_ret (v := .tuple #[.agg #[.int .i64 0, .slice none 0 0, .slice none 0 0], .bool false, .int .i64 2]) (by simp [results, Try.results21, go_sem, r0, r1, r2]) rfl ⟨_, _, rfl, GrsIn.nil _ _, FrsIn.nil _ _, ?_⟩
    first | exact B5.out | exact ((B5.out.setCell (by show _ ≤ w.heap.size + 1 + 1; omega) _).setCell (by show _ ≤ w.heap.size + 1 + 1; omega) _).setCell (by show _ ≤ w.heap.size + 1 + 1; omega) _
  · have HEK : Hid (E = 0) := by show _ = _; rw [HE2.out, if_neg hT]
    obtain ⟨V, hV⟩ : ∃ V, V = ((w5.setCell ⟨w.heap.size + 1 + 1, 0, none⟩ (.int .i64 T)).setCell ⟨w.heap.size + 1 + 1, 1, none⟩ (.slice va nv vc)).setCell ⟨w.heap.size + 1 + 1, 2, none⟩ (.slice qa nq qc) := ⟨_, rfl⟩
    have KV : Blk V (w.heap.size + 1 + 1) #[.int .i64 T, .slice va nv vc, .slice qa nq qc] 51 := by
      rw [hV]; exact ((R5.out.set 0 (.int .i64 T)).set 1 (.slice va nv vc)).set 2 (.slice qa nq qc)
    have hVo : ∀ g, g ≠ w.heap.size + 1 + 1 → V.heap[g]? = w5.heap[g]? := fun g hg => by
      rw [hV, Below.heap_setCell _ _ _ _ (by exact hg), Below.heap_setCell _ _ _ _ (by exact hg), Below.heap_setCell _ _ _ _ (by exact hg)]
    have hVs : V.heap.size = w5.heap.size := by rw [hV]; simp
    have GV : Hid (GrsIn (fun _ => True) V (.slice va nv vc) ((L ++ C).drop (trimD (L ++ C)))) := V5.out.to ⟨by omega, fun g _ hg => hVo g (by omega)⟩ (fun _ _ _ => trivial)
    have OV : Hid (FrsIn (fun _ => True) V (.slice qa nq qc) (growG O f)) := O5.out.to ⟨by omega, fun g _ hg => hVo g (by omega)⟩ (fun _ _ _ => trivial)
    have BV : Hid (Below w.heap.size w V) := by
      rw [hV]; exact ((B5.out.setCell (by show _ ≤ w.heap.size + 1 + 1; omega) _).setCell (by show _ ≤ w.heap.size + 1 + 1; omega) _).setCell (by show _ ≤ w.heap.size + 1 + 1; omega) _
    obtain ⟨c0, c1, c2⟩ := KV.three
    clear hVo hVs V5 O5 KV
    go_wp2_with fail
    rw [← hV]
    obtain ⟨b1, b2, b3, b4⟩ := HGOOD.out HEK.out
    rw [b1, b2, b3, b4, ← HEE.out, HEK.out]
    exact bodyPost_ret (v := .tuple #[.agg #[.int .i64 T, .slice va nv vc, .slice qa nq qc], .bool D, .int .i64 0]) (by simp [results, Try.results21, go_sem, c0, c1, c2]) rfl ⟨_, _, rfl, GV.out, OV.out, BV.out⟩

end Go.Proofs.Ytgmnhbmjnllhhac

namespace Go.Proofs.Ytgmnhbmjnllhhac
open Go.RowKit

/-- what Get says, and what it finds -/
def getE (first : Int) (L : List (List Fr)) (O : List Fr) (n : Int) : Int := if stchk first L O = 0 then (if n < first then 5 else if ((allG L O).length : Int) ≤ n - first then 5 else 0) else stchk first L O
def getG (first : Int) (L : List (List Fr)) (O : List Fr) (n : Int) : List Fr := if getE first L O n = 0 then grAt (allG L O) (n - first).toNat else []
theorem allG_len (L : List (List Fr)) (O : List Fr) (h : L.length ≤ 5) : (allG L O).length ≤ 6 := by
  unfold allG; split
  · simp; omega
  · omega
theorem allG_right {first : Int} {L : List (List Fr)} {O : List Fr} (h : stchk first L O = 0) : ∀ g ∈ allG L O, gchk g = 0 := by
  obtain ⟨_, _, _, h1, _, h2⟩ := stchk_zero.1 h
  intro g hg
  unfold allG at hg
  split at hg
  · rcases List.mem_append.1 hg with hg | hg
    · exact h1 g hg
    · simp at hg; subst hg
      rcases h2 with h2 | h2
      · rename_i h0; rw [h2] at h0; simp at h0
      · exact h2
  · exact h1 g hg

set_option maxHeartbeats 4000000 in
set_option maxRecDepth 100000 in
theorem storeGet_new (first : Int) (gv ov : Value) (L : List (List Fr)) (O : List Fr) (n : Int) (w : World) (hg : GrsIn (fun _ => True) w gv L) (ho : FrsIn (fun _ => True) w ov O) (hnb : n ≤ 9223372036854775807) :
    Calls Try.prog 23 #[.agg #[.int .i64 first, gv, ov], .int .i64 n] w fun e w' => ∃ a c, e = .returned (.tuple #[.agg #[.slice a (getG first L O n).length c], .int .i64 (getE first L O n)]) ∧ FrsIn (fun g => w.heap.size ≤ g) w' (.slice a (getG first L O n).length c) (getG first L O n) ∧ Below w.heap.size w w' := by
  obtain ⟨ga, gc, eg, _, _⟩ := hg.len
  obtain ⟨oa, oc, eo, _, _⟩ := ho.len
  obtain ⟨ln, hln⟩ : ∃ n, n = L.length := ⟨_, rfl⟩
  obtain ⟨lo, hlo⟩ : ∃ n, n = O.length := ⟨_, rfl⟩
  rw [← hln] at eg
  rw [← hlo] at eo
  have HG : Hid (GrsIn (fun _ => True) w gv L) := hg
  have HO : Hid (FrsIn (fun _ => True) w ov O) := ho
  obtain ⟨E, hE⟩ : ∃ E, E = getE first L O n := ⟨_, rfl⟩
  obtain ⟨G, hG⟩ : ∃ G, G = getG first L O n := ⟨_, rfl⟩
  obtain ⟨K, hK⟩ : ∃ K, K = stchk first L O := ⟨_, rfl⟩
  have HE : Hid (E = if K = 0 then (if n < first then 5 else if ((allG L O).length : Int) ≤ n - first then 5 else 0) else K) := by show _ = _; rw [hE, hK]; rfl
  have HGG : Hid (G = if E = 0 then grAt (allG L O) (n - first).toNat else []) := by show _ = _; rw [hG, hE]; rfl
  have HC : Hid (∀ U, Below w.heap.size w U → Calls Try.prog 30 #[.agg #[.int .i64 first, gv, ov]] U fun e w' => e = .returned (.int .i64 K) ∧ Below U.heap.size U w') := fun U hU => by
    rw [hK]; exact storeCheck_any _ first gv ov L O U (HG.out.below hU) (HO.out.below hU)
  have HK0 : Hid (K = 0 → 0 ≤ first ∧ first ≤ 100000 ∧ L.length ≤ 5 ∧ (∀ g ∈ allG L O, gchk g = 0)) := fun h => by
    have h' : stchk first L O = 0 := by rw [← hK]; exact h
    obtain ⟨h1, h2, h3, _⟩ := stchk_zero.1 h'
    exact ⟨h1, h2, h3, allG_right h'⟩
  rw [← hE, ← hG]
  clear hg ho hE hG hK hln hlo
  subst eg eo
  go_enter Try.func23, Try.ntmps23
  go_wp2_with fail
  have B1 : Hid (Below w.heap.size w ((w.alloc (.cells #[.int .i64 first, .slice ga ln gc, .slice oa lo oc] 51)).alloc (.cells #[.slice none 0 0] 35))) := ((Below.refl _ _).alloc (Nat.le_refl _) _).alloc (by simp) _
  have K1 : Hid (Blk ((w.alloc (.cells #[.int .i64 first, .slice ga ln gc, .slice oa lo oc] 51)).alloc (.cells #[.slice none 0 0] 35)) w.heap.size #[.int .i64 first, .slice ga ln gc, .slice oa lo oc] 51) := (Blk.new w _ _).alloc _
  have R1 : Hid (Blk ((w.alloc (.cells #[.int .i64 first, .slice ga ln gc, .slice oa lo oc] 51)).alloc (.cells #[.slice none 0 0] 35)) (w.heap.size + 1) #[.slice none 0 0] 35) := by
    have := Blk.new (w.alloc (.cells #[.int .i64 first, .slice ga ln gc, .slice oa lo oc] 51)) #[.slice none 0 0] 35
    simpa [Hid] using this
  refine (HC.out _ B1.out).mono ?_
  rintro e w2 ⟨rfl, hb2⟩
  have B2 : Hid (Below w.heap.size w w2) := B1.out.trans (hb2.mono B1.out.size)
  have K2 : Hid (Blk w2 w.heap.size #[.int .i64 first, .slice ga ln gc, .slice oa lo oc] 51) := K1.out.below hb2 K1.out.lt
  have R2 : Hid (Blk w2 (w.heap.size + 1) #[.slice none 0 0] 35) := R1.out.below hb2 R1.out.lt
  clear hb2 B1 K1 R1 HC
  obtain ⟨k0, k1, k2⟩ := K2.out.three
  have r0 := R2.out.one
  have r1 := R2.out.free 0
  by_cases hK : K = 0
  case neg =>
    have HEE : Hid (E = K ∧ G = []) := by
      have e1 : E = K := by rw [HE.out, if_neg hK]
      exact ⟨e1, by rw [HGG.out, if_neg (by rw [e1]; exact hK)]⟩
    go_wp2
    obtain ⟨e1, e2⟩ := HEE.out
    rw [e1, e2]
    exact bodyPost_ret (v := .tuple #[.agg #[.slice none 0 0], .int .i64 K]) (by simp [results, Try.results23, go_sem, r0]) rfl ⟨none, 0, rfl, FrsIn.nil _ _, by first | exact B2.out | exact B2.out.setCell (by simp) _⟩
  obtain ⟨hf0, hf1, hL5, hAR⟩ := HK0.out hK
  have HAR : Hid (∀ g ∈ allG L O, gchk g = 0) := hAR
  have HE2 : Hid (E = if n < first then 5 else if ((allG L O).length : Int) ≤ n - first then 5 else 0) := by show _ = _; rw [HE.out, if_pos hK]
  have HAL : Hid ((allG L O).length ≤ 6) := allG_len L O hL5
  have HL5 : Hid (L.length ≤ 100) := by show _ ≤ _; omega
  clear hAR HE HK0 hL5
  subst hK
  obtain ⟨A, hA⟩ : ∃ A, A = allG L O := ⟨_, rfl⟩
  rw [← hA] at HAR HE2 HAL HGG
  obtain ⟨q, hq⟩ : ∃ q, q = A.length := ⟨_, rfl⟩
  have HQ : Hid (q = A.length) := hq
  have hq6 : q ≤ 6 := by rw [hq]; exact HAL.out
  rw [← hq] at HE2
  have HALL : Hid (∀ (M : Nat) (U : World), Blk U M #[.int .i64 first, .slice ga ln gc, .slice oa lo oc] 85 → Below w.heap.size w U → Calls Try.prog 44 #[.pointer (some ⟨M, 0, none⟩)] U fun e w' => ∃ a c, e = .returned (.slice a q c) ∧ Hid (GrsIn (fun _ => True) w' (.slice a q c) A) ∧ Below U.heap.size U w') := fun M U h1 h2 => by
    refine (keeperAll_any M first _ _ L O U h1 (HG.out.below h2) (HO.out.below h2) HL5.out).mono ?_
    rintro e w' ⟨u, rfl, h3, h4⟩
    rw [← hA] at h3
    obtain ⟨a, c, e, _, _⟩ := h3.len
    rw [← hq] at e
    subst e
    exact ⟨a, c, rfl, h3, h4⟩
  clear hA hq
  go_wp2_with fail
  have B3 : Hid (Below w.heap.size w (w2.alloc (.cells #[.int .i64 first, .slice ga ln gc, .slice oa lo oc] 85))) := B2.out.alloc B2.out.size _
  have M3 : Hid (Blk (w2.alloc (.cells #[.int .i64 first, .slice ga ln gc, .slice oa lo oc] 85)) w2.heap.size #[.int .i64 first, .slice ga ln gc, .slice oa lo oc] 85) := Blk.new _ _ _
  refine (HALL.out _ _ M3.out B3.out).mono ?_
  rintro e w4 ⟨ua, uc, rfl, GU, hb4⟩
  have B4 : Hid (Below w.heap.size w w4) := B3.out.trans (hb4.mono B3.out.size)
  have M4 : Hid (Blk w4 w2.heap.size #[.int .i64 first, .slice ga ln gc, .slice oa lo oc] 85) := M3.out.below hb4 M3.out.lt
  have R4 : Hid (Blk w4 (w.heap.size + 1) #[.slice none 0 0] 35) := (R2.out.alloc _).below hb4 (by have := R2.out.lt; simp; omega)
  clear hb4 B3 M3 B2 K2 R2 k0 k1 k2 r0 r1 HALL
  obtain ⟨k0, k1, k2⟩ := M4.out.three
  have r0 := R4.out.one
  have r1 := R4.out.free 0
  by_cases hn1 : n < first
  · have HEE : Hid (E = 5 ∧ G = []) := by
      have e1 : E = 5 := by rw [HE2.out, if_pos hn1]
      exact ⟨e1, by rw [HGG.out, if_neg (by rw [e1]; decide)]⟩
    go_wp2
    obtain ⟨e1, e2⟩ := HEE.out
    rw [e1, e2]
    exact bodyPost_ret (v := .tuple #[.agg #[.slice none 0 0], .int .i64 5]) (by simp [results, Try.results23, go_sem, r0]) rfl ⟨none, 0, rfl, FrsIn.nil _ _, by first | exact B4.out | exact B4.out.setCell (by simp) _⟩
  by_cases hn2 : (q : Int) ≤ n - first
  · have HEE : Hid (E = 5 ∧ G = []) := by
      have e1 : E = 5 := by rw [HE2.out, if_neg hn1, if_pos hn2]
      exact ⟨e1, by rw [HGG.out, if_neg (by rw [e1]; decide)]⟩
    go_wp2
    obtain ⟨e1, e2⟩ := HEE.out
    rw [e1, e2]
    exact bodyPost_ret (v := .tuple #[.agg #[.slice none 0 0], .int .i64 5]) (by simp [results, Try.results23, go_sem, r0]) rfl ⟨none, 0, rfl, FrsIn.nil _ _, by first | exact B4.out | exact B4.out.setCell (by simp) _⟩
  obtain ⟨d, hd⟩ : ∃ d : Nat, (d : Int) = n - first := ⟨(n - first).toNat, by omega⟩
  have hdq : d < q := by omega
  have hnd : n = first + d := by omega
  have HEE : Hid (E = 0 ∧ G = grAt A d) := by
    have e1 : E = 0 := by rw [HE2.out, if_neg hn1, if_neg hn2]
    exact ⟨e1, by rw [HGG.out, if_pos e1, ← hd]; rfl⟩
  obtain ⟨ao, c', eu, _, _, hc⟩ := GU.out
  rw [← HQ.out] at eu
  injection eu with eu eu2 eu3
  clear eu2
  subst eu eu3
  obtain ⟨b, off, e1, hb, _, sv, c0, hsv⟩ := hc d (by rw [← HQ.out]; exact hdq)
  have hGd : grAt A d = G := HEE.out.2.symm
  rw [show A[d]?.getD [] = G from hGd] at hsv
  obtain ⟨sa, sc, es, _, _⟩ := hsv.len
  obtain ⟨gn, hgn⟩ : ∃ gn, gn = G.length := ⟨_, rfl⟩
  rw [← hgn] at es
  have HGN : Hid (gn = G.length) := hgn
  have hGR : gchk G = 0 := HAR.out G (by rw [← hGd]; unfold grAt; rw [List.getElem?_eq_getElem (by rw [← HQ.out]; exact hdq)]; exact List.getElem_mem _)
  have HCL : Hid (Calls Try.prog 45 #[.agg #[sv]] w4 fun e w' => ∃ a c, e = .returned (.agg #[.slice a gn c]) ∧ Hid (FrsIn (fun g => w4.heap.size ≤ g) w' (.slice a gn c) G) ∧ Below w4.heap.size w4 w') := by
    show Calls _ _ _ _ _
    rw [hgn]; exact cloneGroup_any _ sv G w4 hsv hGR
  have HE0 : Hid (E = 0) := HEE.out.1
  have hdw : IntKind.i64.wrap (d : Int) = (d : Int) := by rw [IntKind.wrap_i64]; omega
  have hdqi : (d : Int) < (q : Int) := by omega
  have hnf : first + (d : Int) - first = (d : Int) := by omega
  have hnl : ¬ first + (d : Int) < first := by omega
  have hqd : ¬ (q : Int) ≤ (d : Int) := by omega
  clear hc hsv hGd hGR hn1 hn2 hd HE2 HGG HEE hgn
  subst hnd es e1
  go_wp2_with fail
  refine HCL.out.mono ?_
  rintro e w5 ⟨a5, c5, rfl, HF5, hb5⟩
  have B5 : Hid (Below w.heap.size w w5) := B4.out.trans (hb5.mono B4.out.size)
  have K5 := R4.out.below hb5 R4.out.lt
  have q0 := K5.one
  have q1 := K5.free 0
  have c9 : (w5.setCell ⟨w.heap.size + 1, 0, none⟩ (.slice a5 gn c5)).cell? ⟨w.heap.size + 1, 0, none⟩ = some (.slice a5 gn c5) := (K5.set 0 _).cell rfl
  have hlt4 := R4.out.lt
  have F9 : Hid (FrsIn (fun g => w.heap.size ≤ g) (w5.setCell ⟨w.heap.size + 1, 0, none⟩ (.slice a5 gn c5)) (.slice a5 gn c5) G) := HF5.out.to (SameOn.setCell (fun g hg => by simp at hg ⊢; omega) _) (fun g _ h => by omega)
  clear hb5 K5 HF5 HCL c0 k0 k1 k2 r0 r1
  go_wp2
  rw [HE0.out, ← HGN.out]
  exact bodyPost_ret (v := .tuple #[.agg #[.slice a5 gn c5], .int .i64 0]) (by simp [results, Try.results23, go_sem, c9]) rfl ⟨a5, c5, rfl, F9.out, B5.out.setCell (by simp) _⟩

theorem storeGet_any (first : Int) (gv ov : Value) (L : List (List Fr)) (O : List Fr) (n : Int) (w : World) (hg : GrsIn (fun _ => True) w gv L) (ho : FrsIn (fun _ => True) w ov O) (hnb : n ≤ 9223372036854775807) :
    Calls Try.prog 23 #[.agg #[.int .i64 first, gv, ov], .int .i64 n] w fun e w' => ∃ a c, e = .returned (.tuple #[.agg #[.slice a (getG first L O n).length c], .int .i64 (getE first L O n)]) ∧ FrsIn (fun _ => True) w' (.slice a (getG first L O n).length c) (getG first L O n) ∧ Below w.heap.size w w' := by
  refine (storeGet_new first gv ov L O n w hg ho hnb).mono ?_
  rintro e w' ⟨a, c, rfl, h1, h2⟩
  exact ⟨a, c, rfl, h1.mono (fun _ _ _ => trivial), h2⟩

end Go.Proofs.Ytgmnhbmjnllhhac

namespace Go.Proofs.Ytgmnhbmjnllhhac
open Go.RowKit

/-- the last one behind the first that begins so early, or the first one -/
def seekI (A : List (List Fr)) (t : Int) : Nat → Nat
  | 0 => 0
  | i + 1 => if (frAt (grAt A (i + 1)) 0).time ≤ t then i + 1 else seekI A t i
theorem seekI_le (A : List (List Fr)) (t : Int) : ∀ i, seekI A t i ≤ i
  | 0 => Nat.le_refl _
  | i + 1 => by
    unfold seekI; split
    · exact Nat.le_refl _
    · exact Nat.le_succ_of_le (seekI_le A t i)
theorem seekI_hit {A : List (List Fr)} {t : Int} {i i1 : Nat} (h : i = i1 + 1) (hl : (frAt (grAt A i) 0).time ≤ t) : seekI A t i = i := by
  subst h; simp only [seekI]; rw [if_pos hl]
theorem seekI_miss {A : List (List Fr)} {t : Int} {i i1 : Nat} (h : i = i1 + 1) (hl : ¬ (frAt (grAt A i) 0).time ≤ t) : seekI A t i = seekI A t i1 := by
  subst h; simp only [seekI]; rw [if_neg hl]
def seekE (first : Int) (L : List (List Fr)) (O : List Fr) (t : Int) : Int := if stchk first L O = 0 then (if t < 0 then 3 else if 1000000 < t then 3 else if (allG L O).length = 0 then 5 else 0) else stchk first L O
def seekN (first : Int) (L : List (List Fr)) (O : List Fr) (t : Int) : Int := if seekE first L O t = 0 then first + seekI (allG L O) t ((allG L O).length - 1) else 0

set_option maxHeartbeats 4000000 in
set_option maxRecDepth 100000 in
theorem storeSeek_any (first : Int) (gv ov : Value) (L : List (List Fr)) (O : List Fr) (t : Int) (w : World) (hg : GrsIn (fun _ => True) w gv L) (ho : FrsIn (fun _ => True) w ov O) :
    Calls Try.prog 22 #[.agg #[.int .i64 first, gv, ov], .int .i64 t] w fun e w' => e = .returned (.tuple #[.int .i64 (seekN first L O t), .int .i64 (seekE first L O t)]) ∧ Below w.heap.size w w' := by
  obtain ⟨ga, gc, eg, _, _⟩ := hg.len
  obtain ⟨oa, oc, eo, _, _⟩ := ho.len
  obtain ⟨ln, hln⟩ : ∃ n, n = L.length := ⟨_, rfl⟩
  obtain ⟨lo, hlo⟩ : ∃ n, n = O.length := ⟨_, rfl⟩
  rw [← hln] at eg
  rw [← hlo] at eo
  have HG : Hid (GrsIn (fun _ => True) w gv L) := hg
  have HO : Hid (FrsIn (fun _ => True) w ov O) := ho
  obtain ⟨E, hE⟩ : ∃ E, E = seekE first L O t := ⟨_, rfl⟩
  obtain ⟨N, hN⟩ : ∃ N, N = seekN first L O t := ⟨_, rfl⟩
  obtain ⟨K, hK⟩ : ∃ K, K = stchk first L O := ⟨_, rfl⟩
  have HE : Hid (E = if K = 0 then (if t < 0 then 3 else if 1000000 < t then 3 else if (allG L O).length = 0 then 5 else 0) else K) := by show _ = _; rw [hE, hK]; rfl
  have HNN : Hid (N = if E = 0 then first + seekI (allG L O) t ((allG L O).length - 1) else 0) := by show _ = _; rw [hN, hE]; rfl
  have HC : Hid (∀ U, Below w.heap.size w U → Calls Try.prog 30 #[.agg #[.int .i64 first, gv, ov]] U fun e w' => e = .returned (.int .i64 K) ∧ Below U.heap.size U w') := fun U hU => by
    rw [hK]; exact storeCheck_any _ first gv ov L O U (HG.out.below hU) (HO.out.below hU)
  have HK0 : Hid (K = 0 → 0 ≤ first ∧ first ≤ 100000 ∧ L.length ≤ 5 ∧ (∀ g ∈ allG L O, gchk g = 0)) := fun h => by
    have h' : stchk first L O = 0 := by rw [← hK]; exact h
    obtain ⟨h1, h2, h3, _⟩ := stchk_zero.1 h'
    exact ⟨h1, h2, h3, allG_right h'⟩
  have HBAD : Hid (∀ e : Int, E = e → ¬ e = 0 → N = 0) := fun e h1 h2 => by rw [HNN.out, if_neg (by rw [h1]; exact h2)]
  rw [← hE, ← hN]
  clear hg ho hE hN hK hln hlo
  subst eg eo
  go_enter Try.func22, Try.ntmps22
  go_wp2_with fail
  have B1 : Hid (Below w.heap.size w (w.alloc (.cells #[.int .i64 first, .slice ga ln gc, .slice oa lo oc] 51))) := (Below.refl _ _).alloc (Nat.le_refl _) _
  have K1 : Hid (Blk (w.alloc (.cells #[.int .i64 first, .slice ga ln gc, .slice oa lo oc] 51)) w.heap.size #[.int .i64 first, .slice ga ln gc, .slice oa lo oc] 51) := Blk.new w _ _
  refine (HC.out _ B1.out).mono ?_
  rintro e w2 ⟨rfl, hb2⟩
  have B2 : Hid (Below w.heap.size w w2) := B1.out.trans (hb2.mono B1.out.size)
  have K2 : Hid (Blk w2 w.heap.size #[.int .i64 first, .slice ga ln gc, .slice oa lo oc] 51) := K1.out.below hb2 K1.out.lt
  clear hb2 B1 K1 HC
  obtain ⟨k0, k1, k2⟩ := K2.out.three
  by_cases hK : K = 0
  case neg =>
    have e1 : E = K := by rw [HE.out, if_neg hK]
    have HEE : Hid (E = K ∧ N = 0) := ⟨e1, HBAD.out K e1 hK⟩
    clear e1
    go_wp2
    obtain ⟨e1, e2⟩ := HEE.out
    rw [e1, e2]
    go_ret2
    exact ⟨rfl, B2.out⟩
  obtain ⟨hf0, hf1, hL5, hAR⟩ := HK0.out hK
  have HAR : Hid (∀ g ∈ allG L O, gchk g = 0) := hAR
  have HE2 : Hid (E = if t < 0 then 3 else if 1000000 < t then 3 else if (allG L O).length = 0 then 5 else 0) := by show _ = _; rw [HE.out, if_pos hK]
  have HAL : Hid ((allG L O).length ≤ 6) := allG_len L O hL5
  have HL5 : Hid (L.length ≤ 100) := by show _ ≤ _; omega
  clear hAR HE HK0 hL5
  subst hK
  by_cases ht1 : t < 0
  · have e1 : E = 3 := by rw [HE2.out, if_pos ht1]
    have HEE : Hid (E = 3 ∧ N = 0) := ⟨e1, HBAD.out 3 e1 (by decide)⟩
    clear e1
    go_wp2
    obtain ⟨e1, e2⟩ := HEE.out
    rw [e1, e2]
    go_ret2
    exact ⟨rfl, B2.out⟩
  by_cases ht2 : 1000000 < t
  · have e1 : E = 3 := by rw [HE2.out, if_neg ht1, if_pos ht2]
    have HEE : Hid (E = 3 ∧ N = 0) := ⟨e1, HBAD.out 3 e1 (by decide)⟩
    clear e1
    go_wp2
    obtain ⟨e1, e2⟩ := HEE.out
    rw [e1, e2]
    go_ret2
    exact ⟨rfl, B2.out⟩
  obtain ⟨A, hA⟩ : ∃ A, A = allG L O := ⟨_, rfl⟩
  rw [← hA] at HAR HE2 HAL HNN
  obtain ⟨q, hq⟩ : ∃ q, q = A.length := ⟨_, rfl⟩
  have HQ : Hid (q = A.length) := hq
  have hq6 : q ≤ 6 := by rw [hq]; exact HAL.out
  rw [← hq] at HE2 HNN
  have HALL : Hid (∀ (M : Nat) (U : World), Blk U M #[.int .i64 first, .slice ga ln gc, .slice oa lo oc] 85 → Below w.heap.size w U → Calls Try.prog 44 #[.pointer (some ⟨M, 0, none⟩)] U fun e w' => ∃ a c, e = .returned (.slice a q c) ∧ Hid (GrsIn (fun _ => True) w' (.slice a q c) A) ∧ Below U.heap.size U w') := fun M U h1 h2 => by
    refine (keeperAll_any M first _ _ L O U h1 (HG.out.below h2) (HO.out.below h2) HL5.out).mono ?_
    rintro e w' ⟨u, rfl, h3, h4⟩
    rw [← hA] at h3
    obtain ⟨a, c, e, _, _⟩ := h3.len
    rw [← hq] at e
    subst e
    exact ⟨a, c, rfl, h3, h4⟩
  clear hA hq
  go_wp2_with fail
  have B3 : Hid (Below w.heap.size w (w2.alloc (.cells #[.int .i64 first, .slice ga ln gc, .slice oa lo oc] 85))) := B2.out.alloc B2.out.size _
  have M3 : Hid (Blk (w2.alloc (.cells #[.int .i64 first, .slice ga ln gc, .slice oa lo oc] 85)) w2.heap.size #[.int .i64 first, .slice ga ln gc, .slice oa lo oc] 85) := Blk.new _ _ _
  refine (HALL.out _ _ M3.out B3.out).mono ?_
  rintro e w4 ⟨ua, uc, rfl, GU, hb4⟩
  have B4 : Hid (Below w.heap.size w w4) := B3.out.trans (hb4.mono B3.out.size)
  have M4 : Hid (Blk w4 w2.heap.size #[.int .i64 first, .slice ga ln gc, .slice oa lo oc] 85) := M3.out.below hb4 M3.out.lt
  clear hb4 B3 M3 B2 K2 k0 k1 k2 HALL
  obtain ⟨k0, k1, k2⟩ := M4.out.three
  by_cases hq0 : q = 0
  · have e1 : E = 5 := by rw [HE2.out, if_neg (by omega), if_neg (by omega), if_pos hq0]
    have HEE : Hid (E = 5 ∧ N = 0) := ⟨e1, HBAD.out 5 e1 (by decide)⟩
    clear e1
    subst hq0
    go_wp2
    obtain ⟨e1, e2⟩ := HEE.out
    rw [e1, e2]
    go_ret2
    exact ⟨rfl, B4.out⟩
  have e1 : E = 0 := by rw [HE2.out, if_neg (by omega), if_neg (by omega), if_neg hq0]
  have HEE : Hid (E = 0 ∧ N = first + seekI A t (q - 1)) := ⟨e1, by rw [HNN.out, if_pos e1]⟩
  obtain ⟨ao, c', eu, _, _, hc⟩ := GU.out
  rw [← HQ.out] at eu
  injection eu with eu eu2 eu3
  clear eu2
  subst eu eu3
  have HTM : Hid (∀ i, i < q → ∃ b off sa sn sc b2 off2, ua = some ⟨b, off, none⟩ ∧ b < w4.heap.size ∧ w4.cell? ⟨b, off + i, none⟩ = some (.slice (some ⟨b2, off2, none⟩) sn sc) ∧ 0 < sn ∧ sa = (frAt (grAt A i) 0).time ∧ w4.cell? ⟨b2, off2, none⟩ = some (.int .i64 sa)) := fun i hi => by
    obtain ⟨b, off, e1, hb, _, sv, c0, hsv⟩ := hc i (by rw [← HQ.out]; exact hi)
    have hgr : gchk (grAt A i) = 0 := HAR.out _ (by unfold grAt; rw [List.getElem?_eq_getElem (by rw [← HQ.out]; exact hi)]; exact List.getElem_mem _)
    obtain ⟨h0, _⟩ := gchk_zero.1 hgr
    obtain ⟨sa, sc, es, _, _, hf⟩ := hsv
    obtain ⟨b2, off2, e2, _, _, pv, d0, _⟩ := hf 0 h0
    subst e2
    exact ⟨b, off, _, _, sc, b2, off2, e1, hb, by rw [c0, es], h0, rfl, by simpa using d0⟩
  have hqi : ((q : Int) == 0) = false := by simp; omega
  obtain ⟨q1, hq1⟩ : ∃ q1, q1 = q - 1 := ⟨_, rfl⟩
  have hq1i : (q : Int) - 1 = (q1 : Int) := by omega
  rw [← hq1] at HEE
  have hq1l : q1 < q := by omega
  clear e1 hc HAR HE2 HNN HBAD hq1
  go_wp2_with fail
  go_loopw [9] (fun s wr => ∃ i : Nat, i ≤ q1 ∧ s = .int .i64 i ∧ Hid (seekI A t q1 = seekI A t i) ∧ wr = w4)
    (fun s _ => (intOf s).toNat)
  case atStart => exact ⟨q1, Nat.le_refl _, by go_num, (show _ = _ from rfl), rfl⟩
  case round =>
    obtain ⟨i, hi, rfl, HI, rfl⟩ := hrel
    by_cases hi0 : i = 0
    · subst hi0
      go_wp2
      obtain ⟨e1, e2⟩ := HEE.out
      rw [e1, e2, HI.out]
      go_ret2
      exact ⟨by simp [seekI], B4.out⟩
    · obtain ⟨b, off, sa, sn, sc, b2, off2, eu, hb, c0, hsn, hsa, d0⟩ := HTM.out i (by omega)
      have hi0i : (0 : Int) < (i : Int) := by omega
      have hiq : (i : Int) < (q : Int) := by omega
      have hsni : (0 : Int) < (sn : Int) := by omega
      have HSA : Hid (sa = (frAt (grAt A i) 0).time) := hsa
      obtain ⟨i1, hi1⟩ : ∃ i1, i = i1 + 1 := ⟨i - 1, by omega⟩
      have HI1 : Hid (i = i1 + 1) := hi1
      have hi1i : (i : Int) - 1 = (i1 : Int) := by omega
      clear hsa hi1
      subst eu
      by_cases hle : sa ≤ t
      · have HS : Hid (seekI A t i = i) := seekI_hit HI1.out (by rw [← HSA.out]; exact hle)
        go_wp2
        obtain ⟨e1, e2⟩ := HEE.out
        rw [e1, e2, HI.out, HS.out]
        go_ret2
        exact ⟨rfl, B4.out⟩
      · have HS : Hid (seekI A t q1 = seekI A t i1) := HI.out.trans (seekI_miss HI1.out (by rw [← HSA.out]; exact hle))
        go_wp2_with fail
        go_roundw
        case rel => exact ⟨i1, by have := HI1.out; omega, by go_num, HS, by first | rfl | trivial⟩
        case measure => simp [intOf]; omega

end Go.Proofs.Ytgmnhbmjnllhhac

namespace Go.Proofs.Ytgmnhbmjnllhhac

theorem trimD_le : ∀ L : List (List Fr), trimD L ≤ L.length - 1
  | [] => Nat.le_refl _
  | g :: r => by
    unfold trimD
    split
    · rename_i h
      have := fullB_len h
      have := trimD_le r
      simp at *
      omega
    · omega
theorem trimD_done : ∀ L : List (List Fr), fullB (L.drop (trimD L)) = false
  | [] => fullB_nil
  | g :: r => by
    unfold trimD
    split
    · rw [List.drop_succ_cons]; exact trimD_done r
    · rename_i h; simpa using h
theorem closedG_cases (O : List Fr) (f : Fr) : (closedG O f = [] ∧ ¬ (f.key = true ∧ 0 < O.length)) ∨ (closedG O f = [O] ∧ f.key = true ∧ 0 < O.length) := by
  unfold closedG
  by_cases h : (f.key && decide (0 < O.length)) = true
  · rw [if_pos h]
    simp only [Bool.and_eq_true, decide_eq_true_eq] at h
    exact .inr ⟨rfl, h⟩
  · rw [if_neg h]
    simp only [Bool.and_eq_true, decide_eq_true_eq] at h
    exact .inl ⟨rfl, h⟩
theorem addsE_zero {first : Int} {L : List (List Fr)} {O : List Fr} {f : Fr} (h : addsE first L O f = 0) : stchk first L O = 0 ∧ f.chk = 0 ∧ first + trimD (L ++ closedG O f) ≤ 100000 ∧ addsF first L O f = first + trimD (L ++ closedG O f) ∧ addsL first L O f = (L ++ closedG O f).drop (trimD (L ++ closedG O f)) ∧ addsO first L O f = growG O f ∧ addsB first L O f = decide (0 < (closedG O f).length) := by
  have h0 := h
  unfold addsE at h0
  by_cases h1 : stchk first L O = 0
  · rw [if_pos h1] at h0
    by_cases h2 : f.chk = 0
    · rw [if_pos h2] at h0
      by_cases h3 : 100000 < first + trimD (L ++ closedG O f)
      · rw [if_pos h3] at h0; cases h0
      · exact ⟨h1, h2, by omega, if_pos h, if_pos h, if_pos h, if_pos h⟩
    · rw [if_neg h2] at h0; exact absurd h0 h2
  · rw [if_neg h1] at h0; exact absurd h0 h1
theorem addsE_bad {first : Int} {L : List (List Fr)} {O : List Fr} {f : Fr} (h : ¬ addsE first L O f = 0) : addsF first L O f = 0 ∧ addsL first L O f = [] ∧ addsO first L O f = [] ∧ addsB first L O f = false := ⟨if_neg h, if_neg h, if_neg h, if_neg h⟩
theorem growG_right {O : List Fr} {f : Fr} (hO : O = [] ∨ gchk O = 0) (hf : f.chk = 0) : growG O f = [] ∨ gchk (growG O f) = 0 := by
  have := stepG_right (s := ([], O)) (f := f) ⟨fun g hg => absurd hg List.not_mem_nil, hO⟩ hf
  exact this.2
/-- what Add leaves is right -/
theorem adds_right {first : Int} {L : List (List Fr)} {O : List Fr} {f : Fr} (h : addsE first L O f = 0) : stchk (addsF first L O f) (addsL first L O f) (addsO first L O f) = 0 := by
  obtain ⟨h1, h2, h3, e1, e2, e3, _⟩ := addsE_zero h
  obtain ⟨a1, a2, a3, a4, a5, a6⟩ := stchk_zero.1 h1
  rw [e1, e2, e3]
  have hd := trimD_done (L ++ closedG O f)
  simp only [fullB, Bool.or_eq_false_iff, decide_eq_false_iff_not] at hd
  refine stchk_zero.2 ⟨by omega, h3, by omega, fun g hg => ?_, hd.2, growG_right a6 h2⟩
  have hm := List.mem_of_mem_drop hg
  rcases List.mem_append.1 hm with hm | hm
  · exact a4 g hm
  · rcases closedG_cases O f with ⟨e, _⟩ | ⟨e, _, h0⟩
    · rw [e] at hm; exact absurd hm List.not_mem_nil
    · rw [e] at hm
      simp at hm
      subst hm
      rcases a6 with a6 | a6
      · rw [a6] at h0; simp at h0
      · exact a6
theorem fullB_right {first : Int} {L : List (List Fr)} {O : List Fr} (h : stchk first L O = 0) : fullB L = false := by
  obtain ⟨_, _, a3, _, a5, _⟩ := stchk_zero.1 h
  simp only [fullB, Bool.or_eq_false_iff, decide_eq_false_iff_not]
  exact ⟨by omega, a5⟩
/-- a frame that closes none leaves the closed ones as they were -/
theorem adds_open {first : Int} {L : List (List Fr)} {O : List Fr} {f : Fr} (h : addsE first L O f = 0) (hb : addsB first L O f = false) : addsF first L O f = first ∧ addsL first L O f = L := by
  obtain ⟨h1, _, _, e1, e2, _, e4⟩ := addsE_zero h
  rw [e4, decide_eq_false_iff_not] at hb
  have hc : closedG O f = [] := List.eq_nil_of_length_eq_zero (by omega)
  rw [hc, List.append_nil] at e1 e2
  rw [trimD_no (fullB_right h1)] at e1 e2
  exact ⟨by rw [e1]; simp, by rw [e2]; simp⟩
theorem grAt_append (L M : List (List Fr)) (k : Nat) : grAt (L ++ M) k = if k < L.length then grAt L k else grAt M (k - L.length) := by
  unfold grAt
  split
  · rename_i h; rw [List.getElem?_append_left h]
  · rename_i h; rw [List.getElem?_append_right (by omega)]
theorem grAt_drop (L : List (List Fr)) (d k : Nat) : grAt (L.drop d) k = grAt L (d + k) := by
  unfold grAt; rw [List.getElem?_drop]
/-- what Get says of a store that is right -/
theorem getE_in {first : Int} {L : List (List Fr)} {O : List Fr} (h : stchk first L O = 0) {n : Int} {d : Nat} (hn : n = first + d) (hd : d < (allG L O).length) : getE first L O n = 0 ∧ getG first L O n = grAt (allG L O) d := by
  have e : getE first L O n = 0 := by
    unfold getE; rw [if_pos h, if_neg (by omega), if_neg (by omega)]
  refine ⟨e, ?_⟩
  unfold getG; rw [if_pos e]
  congr 1; omega
theorem getE_out {first : Int} {L : List (List Fr)} {O : List Fr} (h : stchk first L O = 0) {n : Int} (hn : n < first ∨ first + (allG L O).length ≤ n) : getE first L O n = 5 ∧ getG first L O n = [] := by
  have e : getE first L O n = 5 := by
    unfold getE; rw [if_pos h]
    by_cases h1 : n < first
    · rw [if_pos h1]
    · rw [if_neg h1, if_pos (by omega)]
  exact ⟨e, by unfold getG; rw [if_neg (by rw [e]; decide)]⟩
theorem allG_length (L : List (List Fr)) (O : List Fr) : (allG L O).length = L.length + (if 0 < O.length then 1 else 0) := by
  unfold allG; split <;> simp
/-- what was stored is there, by its number, or is gone -/
theorem adds_get {first : Int} {L : List (List Fr)} {O : List Fr} {f : Fr} (h : addsE first L O f = 0) {i : Nat} (hi : i < (L ++ closedG O f).length) :
    (first + i < addsF first L O f → getE (addsF first L O f) (addsL first L O f) (addsO first L O f) (first + i) = 5) ∧
    (¬ first + i < addsF first L O f → getE (addsF first L O f) (addsL first L O f) (addsO first L O f) (first + i) = 0 ∧ getG (addsF first L O f) (addsL first L O f) (addsO first L O f) (first + i) = grAt (L ++ closedG O f) i) := by
  have hr := adds_right h
  obtain ⟨_, _, _, e1, e2, _, _⟩ := addsE_zero h
  refine ⟨fun h1 => (getE_out hr (.inl h1)).1, fun h1 => ?_⟩
  rw [e1] at h1
  have hd : i - trimD (L ++ closedG O f) < (addsL first L O f).length := by rw [e2, List.length_drop]; omega
  obtain ⟨g1, g2⟩ := getE_in hr (n := first + i) (d := i - trimD (L ++ closedG O f)) (by rw [e1]; omega) (by rw [allG_length]; omega)
  refine ⟨g1, ?_⟩
  rw [g2]
  unfold allG
  have : grAt (addsL first L O f) (i - trimD (L ++ closedG O f)) = grAt (L ++ closedG O f) i := by
    rw [e2, grAt_drop]; congr 1; omega
  split
  · rw [grAt_append, if_pos hd, this]
  · exact this
/-- the newest one is there -/
theorem adds_last {first : Int} {L : List (List Fr)} {O : List Fr} {f : Fr} (h : addsE first L O f = 0) : addsF first L O f ≤ first + ((L ++ closedG O f).length - 1 : Nat) ∧ first ≤ addsF first L O f ∧ (0 < (L ++ closedG O f).length → 0 < (addsL first L O f).length) := by
  obtain ⟨_, _, _, e1, e2, _, _⟩ := addsE_zero h
  have := trimD_le (L ++ closedG O f)
  rw [e1, e2, List.length_drop]
  exact ⟨by omega, by omega, fun _ => by omega⟩
/-- what Seek finds -/
theorem seekI_spec (A : List (List Fr)) (t : Int) : ∀ i, (∀ j, seekI A t i < j → j ≤ i → t < (frAt (grAt A j) 0).time) ∧ (t < (frAt (grAt A (seekI A t i)) 0).time → seekI A t i = 0)
  | 0 => ⟨fun j h1 h2 => by simp [seekI] at h1; omega, fun _ => rfl⟩
  | i + 1 => by
    by_cases h : (frAt (grAt A (i + 1)) 0).time ≤ t
    · rw [seekI_hit rfl h]
      exact ⟨fun j h1 h2 => by omega, fun h2 => by omega⟩
    · rw [seekI_miss rfl h]
      have ih := seekI_spec A t i
      refine ⟨fun j h1 h2 => ?_, ih.2⟩
      by_cases hj : j = i + 1
      · subst hj; omega
      · exact ih.1 j h1 (by omega)
theorem seekE_zero {first : Int} {L : List (List Fr)} {O : List Fr} {t : Int} (h : seekE first L O t = 0) : stchk first L O = 0 ∧ 0 ≤ t ∧ t ≤ 1000000 ∧ 0 < (allG L O).length ∧ seekN first L O t = first + seekI (allG L O) t ((allG L O).length - 1) := by
  have h0 := h
  unfold seekE at h0
  by_cases h1 : stchk first L O = 0
  · rw [if_pos h1] at h0
    by_cases h2 : t < 0
    · rw [if_pos h2] at h0; cases h0
    rw [if_neg h2] at h0
    by_cases h3 : 1000000 < t
    · rw [if_pos h3] at h0; cases h0
    rw [if_neg h3] at h0
    by_cases h4 : (allG L O).length = 0
    · rw [if_pos h4] at h0; cases h0
    exact ⟨h1, by omega, by omega, by omega, if_pos h⟩
  · rw [if_neg h1] at h0; exact absurd h0 h1

end Go.Proofs.Ytgmnhbmjnllhhac

namespace Go.Proofs.Ytgmnhbmjnllhhac
open Go.RowKit

theorem gchk_first {l : List Fr} (h : gchk l = 0) : 0 < l.length ∧ l.length ≤ 6 ∧ (frAt l 0).key = true := by
  obtain ⟨h1, h2, h3⟩ := gchk_zero.1 h
  refine ⟨h1, h2, ?_⟩
  have := (h3 0 h1).2
  simpa [inPl] using this
theorem FrsIn.first {S : Nat → Prop} {w : World} {ao : Option Addr} {n c : Nat} {l : List Fr} (h : FrsIn S w (.slice ao n c) l) (h0 : 0 < l.length) : ∃ b off, ao = some ⟨b, off, none⟩ ∧ w.cell? ⟨b, off, none⟩ = some (.int .i64 (frAt l 0).time) ∧ w.cell? ⟨b, off + 1, none⟩ = some (.bool (frAt l 0).key) := by
  obtain ⟨ao', c', e, _, _, hc⟩ := h
  injection e with e1 _ _
  subst e1
  obtain ⟨b, off, e, _, _, pv, c0, c1, _⟩ := hc 0 h0
  exact ⟨b, off, e, by simpa using c0, by simpa using c1⟩
theorem grAt_mem {L : List (List Fr)} {k : Nat} (h : k < L.length) : grAt L k ∈ L := by
  unfold grAt; rw [List.getElem?_eq_getElem h]; exact List.getElem_mem _

end Go.Proofs.Ytgmnhbmjnllhhac

namespace Go.Proofs.Ytgmnhbmjnllhhac
open Go.RowKit

def Stay (w : World) (P : World → Prop) : Prop := ∀ w', Below w.heap.size w w' → P w'
theorem Stay.now {w : World} {P : World → Prop} (h : Stay w P) : P w := h w (Below.refl _ _)
theorem Stay.step {w w' : World} {P : World → Prop} (h : Stay w P) (hb : Below w.heap.size w w') : Stay w' P := fun w'' h2 => h w'' (hb.trans (h2.mono hb.size))
theorem Stay.alloc {w : World} {P : World → Prop} (h : Stay w P) (o : Obj) : Stay (w.alloc o) P := h.step ((Below.refl _ w).alloc (Nat.le_refl _) _)
theorem Stay.and {w : World} {P Q : World → Prop} (h : Stay w P) (k : Stay w Q) : Stay w (fun U => P U ∧ Q U) := fun w' hb => ⟨h w' hb, k w' hb⟩
theorem Stay.imp {w : World} {P Q : World → Prop} (h : Stay w P) (k : ∀ U, P U → Q U) : Stay w Q := fun w' hb => k w' (h w' hb)
theorem Blk.stay {w : World} {b : Nat} {C : Array Value} {t : TypeId} (h : Blk w b C t) : Stay w (fun U => Blk U b C t) := fun _ hb => h.below hb h.lt
theorem FrsIn.stay {S : Nat → Prop} {w : World} {v : Value} {l : List Fr} (h : FrsIn S w v l) : Stay w (fun U => FrsIn S U v l) := fun _ hb => h.below hb
theorem StrsIn.stay {S : Nat → Prop} {w : World} {v : Value} {l : List ByteArray} (h : StrsIn S w v l) : Stay w (fun U => StrsIn S U v l) := fun _ hb => h.below hb
theorem GrsIn.stay {S : Nat → Prop} {w : World} {v : Value} {L : List (List Fr)} (h : GrsIn S w v L) : Stay w (fun U => GrsIn S U v L) := fun _ hb => h.below hb
theorem below_stay {B : Nat} {a w : World} (h : Below B a w) (hB : B ≤ w.heap.size) : Stay w (fun U => Below B a U) := fun _ hb => h.trans (hb.mono hB)
theorem below_stay0 (w : World) : Stay w (fun U => Below w.heap.size w U) := below_stay (Below.refl _ _) (Nat.le_refl _)

theorem Stay.hid {w : World} {P : World → Prop} (h : Stay w P) : Hid (Stay w P) := h
theorem Stay.go {w w' : World} {P : World → Prop} (h : Hid (Stay w P)) (hb : Below w.heap.size w w') : Hid (Stay w' P) := Stay.step h hb
theorem Stay.allocE {w W : World} {P : World → Prop} {o : Obj} (h : Stay w P) (e : W = w.alloc o) : Hid (Stay W P) := by subst e; exact h.alloc _
theorem Blk.newE {w W : World} {C : Array Value} {t : TypeId} (e : W = w.alloc (.cells C t)) : Blk W w.heap.size C t := by subst e; exact Blk.new _ _ _
theorem FrsIn.allocE {S : Nat → Prop} {w W : World} {v : Value} {l : List Fr} {o : Obj} (h : FrsIn S w v l) (e : W = w.alloc o) : FrsIn S W v l := by subst e; exact h.alloc _
theorem GrsIn.allocE {S : Nat → Prop} {w W : World} {v : Value} {L : List (List Fr)} {o : Obj} (h : GrsIn S w v L) (e : W = w.alloc o) : GrsIn S W v L := by subst e; exact h.alloc _
theorem StrsIn.allocE {S : Nat → Prop} {w W : World} {v : Value} {l : List ByteArray} {o : Obj} (h : StrsIn S w v l) (e : W = w.alloc o) : StrsIn S W v l := by subst e; exact h.alloc _

end Go.Proofs.Ytgmnhbmjnllhhac

namespace Go.Proofs.Ytgmnhbmjnllhhac
open Go.RowKit

theorem gsize_right {g : List Fr} (h : gchk g = 0) : gsize g = szG g := by unfold gsize; rw [if_pos h]

set_option maxHeartbeats 2000000 in
set_option maxRecDepth 100000 in
theorem isFull_any (S : Nat → Prop) (v : Value) (L : List (List Fr)) (w : World) (hv : GrsIn S w v L) (hR : ∀ g ∈ L, gchk g = 0) (hL : L.length ≤ 1000) :
    Calls Try.prog 47 #[v] w fun e w' => e = .returned (.bool (fullB L)) ∧ Below w.heap.size w w' := by
  obtain ⟨ao, c, rfl, _, _, hc⟩ := hv
  obtain ⟨n, hn⟩ : ∃ n, n = L.length := ⟨_, rfl⟩
  have HN : Hid (n = L.length) := hn
  have HC : Hid (∀ k, k < L.length → ∃ b off, ao = some ⟨b, off, none⟩ ∧ b < w.heap.size ∧ S b ∧ ∃ sv, w.cell? ⟨b, off + k, none⟩ = some sv ∧ FrsIn S w sv (L[k]?.getD [])) := hc
  have HR : Hid (∀ g ∈ L, gchk g = 0) := hR
  obtain ⟨FB, hFB⟩ : ∃ b, b = fullB L := ⟨_, rfl⟩
  have HFB : Hid (∀ y, y = sumG L → FB = (decide (5 < n) || (decide (1 < n) && decide (100 < y)))) := fun y hy => by rw [hFB, hy, hn]; rfl
  rw [← hn, ← hFB]
  have hn1 : n ≤ 1000 := by omega
  clear hn hc hR hL hFB
  go_enter Try.func47, Try.ntmps47
  go_wp2
  go_loopw [3, 4] (fun s i wr => ∃ (k y : Nat), k ≤ n ∧ i = .int .i64 k ∧ s = .int .i64 y ∧ Hid (y = sumG (L.take k)) ∧ Hid (y ≤ k * 192) ∧ Hid (Below w.heap.size w wr))
    (fun _ i _ => n - (intOf i).toNat)
  case atStart => exact ⟨0, 0, Nat.zero_le _, rfl, rfl, (show 0 = sumG (L.take 0) from rfl), (show 0 ≤ _ from Nat.zero_le _), Below.refl _ _⟩
  case round =>
    obtain ⟨k, y, hk, rfl, rfl, HY, HYB, HB⟩ := hrel
    by_cases hlt : k < n
    · obtain ⟨b, off, rfl, hb, _, sv, c0, hs⟩ := HC.out k (by rw [← HN.out]; exact hlt)
      have c1 := (HB.out.cell (p := ⟨b, off + k, none⟩) hb).trans c0
      obtain ⟨x, hx⟩ : ∃ x, x = L[k]?.getD [] := ⟨_, rfl⟩
      rw [← hx] at hs
      have hgx : gchk x = 0 := HR.out x (by rw [hx]; exact grAt_mem (by rw [← HN.out]; exact hlt))
      obtain ⟨z, hz⟩ : ∃ z, z = szG x := ⟨_, rfl⟩
      have hz2 : z ≤ 192 := by rw [hz, ← gsize_right hgx]; exact gsize_le x
      have HZ : Hid (y + z = sumG (L.take (k + 1))) := by
        show _ = _
        rw [sumG_take L k (by rw [← HN.out]; exact hlt), ← HY.out, show grAt L k = x from hx.symm, gsize_right hgx, hz]
      obtain ⟨a1, a2, rfl, _, _⟩ := hs.len
      have HCF : Hid (Calls Try.prog 15 #[.agg #[.slice a1 x.length a2]] wr fun e w' => e = .returned (.int .i64 z) ∧ Below wr.heap.size wr w') := by
        show Calls _ _ _ _ _
        rw [hz]; exact sizeOf_any _ _ x wr (hs.below HB.out) hgx
      have hyb := HYB.out
      have hlti : (k : Int) < (n : Int) := by omega
      clear hx hgx hz hs c0
      go_wp2_with fail
      refine HCF.out.mono ?_
      rintro e w2 ⟨rfl, b2⟩
      have B2 : Hid (Below w.heap.size w w2) := HB.out.trans (b2.mono HB.out.size)
      clear b2 HB c1
      go_wp2_with fail
      go_roundw
      case rel => exact ⟨k + 1, y + z, by omega, by go_num, by go_num, HZ.out, (show y + z ≤ _ by omega), B2.out⟩
      case measure => simp [intOf]; omega
    · have hkl : k = n := by omega
      subst hkl
      have hfb := HFB.out y (by rw [HY.out, HN.out, List.take_length])
      have HH : Hid (FB = (decide (5 < k) || (decide (1 < k) && decide (100 < y)))) := hfb
      have BW : Hid (Below w.heap.size w wr) := HB.out
      clear hfb HFB HB HY
      by_cases h5 : 5 < k
      · have hr : FB = true := by rw [HH.out, decide_eq_true h5]; rfl
        have h5i : (5 : Int) < (k : Int) := by omega
        subst hr
        go_wp2
        go_ret
        exact ⟨rfl, BW.out⟩
      · by_cases h1 : 1 < k
        · have hr : FB = decide (100 < y) := by rw [HH.out, decide_eq_false h5, decide_eq_true h1]; rfl
          subst hr
          have h5i : ¬ (5 : Int) < (k : Int) := by omega
          have h1i : (1 : Int) < (k : Int) := by omega
          by_cases hy : 100 < y
          · have hyi : (100 : Int) < (y : Int) := by omega
            go_wp2
            go_ret
            exact ⟨by simp, BW.out⟩
          · have hyi : ¬ (100 : Int) < (y : Int) := by omega
            go_wp2
            go_ret
            exact ⟨by simp, BW.out⟩
        · have hr : FB = false := by rw [HH.out, decide_eq_false h5, decide_eq_false h1]; rfl
          subst hr
          have h5i : ¬ (5 : Int) < (k : Int) := by omega
          have h1i : ¬ (1 : Int) < (k : Int) := by omega
          go_wp2
          go_ret
          exact ⟨rfl, BW.out⟩

/-- what Trimmed must say -/
def TrimsWell (S : Nat → Prop) (L : List (List Fr)) : Prop := ∀ (first : Int) (v : Value) (w : World), GrsIn S w v L → (∀ g ∈ L, gchk g = 0) → L.length ≤ 1000 → -1000000000 ≤ first → first + L.length ≤ 1000000000 →
    Calls Try.prog 48 #[.int .i64 first, v] w fun e w' => ∃ v', e = .returned (.tuple #[.int .i64 (first + trimD L), v']) ∧ GrsIn S w' v' (L.drop (trimD L)) ∧ Below w.heap.size w w'

set_option maxHeartbeats 2000000 in
set_option maxRecDepth 100000 in
theorem trimmed_no (S : Nat → Prop) (L : List (List Fr)) (hb : fullB L = false) : TrimsWell S L := by
  intro first v w hv hR hL hf0 hf1
  have HF : Hid (Calls Try.prog 47 #[v] w fun e w' => e = .returned (.bool false) ∧ Below w.heap.size w w') := by
    have := isFull_any S v L w hv hR hL
    rw [hb] at this
    exact this
  have HV : Hid (Stay w (fun U => GrsIn S U v L)) := hv.stay
  have HT : Hid (trimD L = 0) := trimD_no hb
  obtain ⟨n, hn⟩ : ∃ n, n = L.length := ⟨_, rfl⟩
  obtain ⟨ao, c, ev, _⟩ := hv
  rw [← hn] at ev
  subst ev
  clear hb hR hL hf1 hn
  go_enter Try.func48, Try.ntmps48
  go_wp2_with fail
  refine HF.out.mono ?_
  rintro e w1 ⟨rfl, b1⟩
  go_wp2_with fail
  exact bodyPost_ret (v := .tuple #[.int .i64 first, .slice ao n c]) (by simp [results, Try.results48, go_sem]) rfl ⟨.slice ao n c, by rw [HT.out]; simp, by rw [HT.out]; exact HV.out _ b1, b1⟩

set_option maxHeartbeats 2000000 in
set_option maxRecDepth 100000 in
theorem trimmed_yes (S : Nat → Prop) (g : List Fr) (r : List (List Fr)) (hb : fullB (g :: r) = true) (ih : TrimsWell S r) : TrimsWell S (g :: r) := by
  intro first v w hv hR hL hf0 hf1
  have HF : Hid (Calls Try.prog 47 #[v] w fun e w' => e = .returned (.bool true) ∧ Below w.heap.size w w') := by
    have := isFull_any S v (g :: r) w hv hR hL
    rw [hb] at this
    exact this
  have HT : Hid (trimD (g :: r) = trimD r + 1) := trimD_yes hb
  have h1 := fullB_len hb
  obtain ⟨a0, c0, e0, hc0, _⟩ := hv.len
  subst e0
  obtain ⟨b, off, e1, _, hc1, hta⟩ := hv.tail h1
  subst e1
  obtain ⟨m, hm⟩ : ∃ m, m = (g :: r).length := ⟨_, rfl⟩
  rw [← hm] at hta h1 hL hc0 hc1 HF
  obtain ⟨D, hD⟩ : ∃ D, D = trimD r := ⟨_, rfl⟩
  have HTA : Hid (Stay w (fun U => GrsIn S U (.slice (some ⟨b, off + 1, none⟩) (m - 1) (c0 - 1)) r)) := hta.stay
  have HI : Hid (∀ U : World, GrsIn S U (.slice (some ⟨b, off + 1, none⟩) (m - 1) (c0 - 1)) r → Calls Try.prog 48 #[.int .i64 (first + 1), .slice (some ⟨b, off + 1, none⟩) (m - 1) (c0 - 1)] U fun e w' => ∃ v', e = .returned (.tuple #[.int .i64 (first + 1 + D), v']) ∧ GrsIn S w' v' (r.drop D) ∧ Below U.heap.size U w') := fun U hU => by
    rw [hD]
    exact ih (first + 1) _ U hU (fun x hx => hR x (List.mem_cons_of_mem _ hx)) (by simp at hm; omega) (by omega) (by simp at hf1 ⊢; omega)
  rw [← hD] at HT
  have hmi : (1 : Int) < (m : Int) := by omega
  have hmm : 1 ≤ m := by omega
  have hlast : first ≤ 1000000000 := by simp at hf1; omega
  rw [← hm]
  clear hv hta hm hR hf1 hb hD ih
  go_enter Try.func48, Try.ntmps48
  go_wp2_with fail
  refine HF.out.mono ?_
  rintro e w1 ⟨rfl, b1⟩
  have B1 : Hid (Below w.heap.size w w1) := b1
  clear b1
  go_wp2_with fail
  refine (HI.out _ (HTA.out _ B1.out)).mono ?_
  rintro e w2 ⟨v', rfl, h2, b2⟩
  have B2 : Hid (Below w.heap.size w w2) := B1.out.trans (b2.mono B1.out.size)
  have H2 : Hid (GrsIn S w2 v' (r.drop D)) := h2
  clear b2 h2
  go_wp2_with fail
  rw [HT.out]
  exact bodyPost_ret (v := .tuple #[.int .i64 (first + 1 + D), v']) (by simp [results, Try.results48, go_sem]) rfl ⟨v', by rw [show first + 1 + (D : Int) = first + ((D + 1 : Nat) : Int) by omega], by rw [List.drop_succ_cons]; exact H2.out, B2.out⟩

theorem trimmed_any (S : Nat → Prop) (L : List (List Fr)) : TrimsWell S L := by
  induction L with
  | nil => exact trimmed_no S [] fullB_nil
  | cons g r ih =>
    cases hb : fullB (g :: r)
    · exact trimmed_no S _ hb
    · exact trimmed_yes S g r hb ih

set_option maxHeartbeats 2000000 in
set_option maxRecDepth 100000 in
theorem refCheckStore_any (S : Nat → Prop) (first : Int) (gv ov : Value) (L : List (List Fr)) (O : List Fr) (w : World) (hg : GrsIn S w gv L) (ho : FrsIn S w ov O) :
    Calls Try.prog 24 #[.agg #[.int .i64 first, gv, ov]] w fun e w' => e = .returned (.int .i64 (stchk first L O)) ∧ Below w.heap.size w w' := by
  have HG : Hid (GrsIn S w gv L) := hg
  have HO : Hid (FrsIn S w ov O) := ho
  obtain ⟨ao, c, hva, h1, h2, hc⟩ := hg
  obtain ⟨oa, oc, eo, _, hol⟩ := ho.len
  obtain ⟨n, hn⟩ : ∃ n, n = L.length := ⟨_, rfl⟩
  obtain ⟨m, hm⟩ : ∃ m, m = O.length := ⟨_, rfl⟩
  have HN : Hid (n = L.length) := hn
  have HC : Hid (∀ k, k < L.length → ∃ b off, ao = some ⟨b, off, none⟩ ∧ b < w.heap.size ∧ S b ∧ ∃ sv, w.cell? ⟨b, off + k, none⟩ = some sv ∧ FrsIn S w sv (L[k]?.getD [])) := hc
  rw [← hn] at hva h1
  rw [← hm] at eo hol
  obtain ⟨E, hE⟩ : ∃ E, E = stchk first L O := ⟨_, rfl⟩
  have HE : Hid (E = if first < 0 then 3 else if 100000 < first then 3 else if 5 < n then 2 else
    if goN (fun k => gchk (grAt L k)) n 0 = 0 then (if tooB L then 2 else if 0 < m then gchk O else 0) else goN (fun k => gchk (grAt L k)) n 0) := by show _ = _; rw [hE, hn, hm]; rfl
  rw [← hE]
  clear hc hn hm hE ho
  subst hva eo
  by_cases f1 : first < 0
  · have e : E = 3 := by rw [HE.out, if_pos f1]
    have f1d : decide (0 ≤ first) = false := decide_eq_false (by omega)
    rw [e]
    go_enter Try.func24, Try.ntmps24
    go_wp2
    go_ret
    exact ⟨rfl, (Below.refl _ _).alloc (Nat.le_refl _) _⟩
  by_cases f2 : 100000 < first
  · have e : E = 3 := by rw [HE.out, if_neg f1, if_pos f2]
    have f1d : decide (0 ≤ first) = true := decide_eq_true (by omega)
    have f2d : decide (first ≤ 100000) = false := decide_eq_false (by omega)
    rw [e]
    go_enter Try.func24, Try.ntmps24
    go_wp2
    go_ret
    exact ⟨rfl, (Below.refl _ _).alloc (Nat.le_refl _) _⟩
  have f1d : decide (0 ≤ first) = true := decide_eq_true (by omega)
  have f2d : decide (first ≤ 100000) = true := decide_eq_true (by omega)
  by_cases f3 : 5 < n
  · have e : E = 2 := by rw [HE.out, if_neg f1, if_neg f2, if_pos f3]
    have f3i : (5 : Int) < (n : Int) := by omega
    rw [e]
    go_enter Try.func24, Try.ntmps24
    go_wp2
    go_ret
    exact ⟨rfl, (Below.refl _ _).alloc (Nat.le_refl _) _⟩
  have f3i : ¬ (5 : Int) < (n : Int) := by omega
  have HE2 : Hid (E = if goN (fun k => gchk (grAt L k)) n 0 = 0 then (if tooB L then 2 else if 0 < m then gchk O else 0) else goN (fun k => gchk (grAt L k)) n 0) := by show _ = _; rw [HE.out, if_neg f1, if_neg f2, if_neg f3]
  clear HE
  go_enter Try.func24, Try.ntmps24
  go_wp2
  go_loopw [3] (fun i wr => ∃ k : Nat, k ≤ n ∧ i = .int .i64 k ∧ Hid (∀ j, j < k → gchk (grAt L j) = 0) ∧ Hid (Blk wr w.heap.size #[.int .i64 first, .slice ao n c, .slice oa m oc] 51) ∧ Hid (Below w.heap.size w wr))
    (fun i _ => n - (intOf i).toNat)
  case atStart => exact ⟨0, Nat.zero_le _, rfl, (show ∀ j, _ → _ from fun j hj => absurd hj (Nat.not_lt_zero _)), Blk.new _ _ _, (Below.refl _ _).alloc (Nat.le_refl _) _⟩
  case round =>
    obtain ⟨k, hk, rfl, HK, KB, HB⟩ := hrel
    by_cases hlt : k < n
    · obtain ⟨b, off, rfl, hb, _, sv, c0, hs⟩ := HC.out k (by rw [← HN.out]; exact hlt)
      obtain ⟨g, hg⟩ : ∃ g, g = grAt L k := ⟨_, rfl⟩
      rw [show L[k]?.getD [] = g from hg.symm] at hs
      have c1 := (HB.out.cell (p := ⟨b, off + k, none⟩) hb).trans c0
      obtain ⟨sa, sc, esv, _, _⟩ := hs.len
      obtain ⟨gn, hgn⟩ : ∃ gn, gn = g.length := ⟨_, rfl⟩
      rw [← hgn] at esv
      obtain ⟨e, he⟩ : ∃ e, e = gchk g := ⟨_, rfl⟩
      have HS : Hid (∀ U, Below w.heap.size w U → Calls Try.prog 14 #[.agg #[sv]] U fun e' w'' => e' = .returned (.int .i64 e) ∧ Below U.heap.size U w'') := fun U hU => by
        rw [he]; exact refCheckGroup_any S sv g U (hs.below hU)
      have hlti : (k : Int) < (n : Int) := by omega
      have HGE : Hid (e = gchk (grAt L k)) := by show _ = _; rw [he, hg]
      clear hs hg hgn he c0
      subst esv
      obtain ⟨k0, k1, k2⟩ := KB.out.three
      go_wp2_with fail
      have B1 : Hid (Below w.heap.size w wr) := HB
      have K1 := KB
      refine (HS.out _ B1.out).mono ?_
      rintro e' w2 ⟨rfl, hb2⟩
      have B2 : Hid (Below w.heap.size w w2) := B1.out.trans (hb2.mono B1.out.size)
      have K2 : Hid (Blk w2 w.heap.size #[.int .i64 first, .slice (some ⟨b, off, none⟩) n c, .slice oa m oc] 51) := K1.out.below hb2 K1.out.lt
      clear hb2 c1 K1 B1 KB HB k0 k1 k2
      by_cases he0 : e = 0
      · have HK2 : Hid (∀ j, j < k + 1 → gchk (grAt L j) = 0) := fun j hj => by
          by_cases e' : j = k
          · subst e'; rw [← HGE.out]; exact he0
          · exact HK.out j (by omega)
        clear HGE
        subst he0
        go_wp2_with fail
        go_roundw
        case rel => exact ⟨k + 1, by omega, by go_num, HK2, K2, B2⟩
        case measure => simp [intOf]; omega
      · have hE : E = e := by
          have hh := goN_hit (e := fun k => gchk (grAt L k)) n 0 k (Nat.zero_le _) (by omega) (fun j _ hj => HK.out j hj) (by show ¬ gchk (grAt L k) = 0; rw [← HGE.out]; exact he0)
          change goN (fun k => gchk (grAt L k)) n 0 = gchk (grAt L k) at hh
          rw [← HGE.out] at hh
          rw [HE2.out, hh, if_neg he0]
        have HEE : Hid (E = e) := hE
        clear hE
        go_wp2
        go_ret
        exact ⟨by rw [HEE.out]; rfl, B2.out⟩
    · have hkl : k = n := by omega
      subst hkl
      have hz : goN (fun k => gchk (grAt L k)) k 0 = 0 := goN_all _ _ (fun j _ hj => HK.out j (by omega))
      have HE3 : Hid (E = if tooB L then 2 else if 0 < m then gchk O else 0) := by show _ = _; rw [HE2.out, if_pos hz]
      obtain ⟨T, hT⟩ : ∃ T, T = tooB L := ⟨_, rfl⟩
      have HTG : Hid (∀ U, Below w.heap.size w U → Calls Try.prog 47 #[.slice ao k c] U fun e' w'' => e' = .returned (.bool T) ∧ Below U.heap.size U w'') := fun U hU => by
        rw [hT, ← show fullB L = tooB L by unfold fullB; rw [decide_eq_false (by rw [← HN.out]; omega)]; rfl]
        refine isFull_any S _ L U (HG.out.below hU) (fun g hg => ?_) (by rw [← HN.out]; omega)
        obtain ⟨j, hj, e⟩ := List.mem_iff_getElem.1 hg
        have := HK.out j (by rw [HN.out]; exact hj)
        rw [show grAt L j = g by simp [grAt, List.getElem?_eq_getElem hj, e]] at this
        exact this
      have HE4 : Hid (E = if T then 2 else if 0 < m then gchk O else 0) := by show _ = _; rw [hT]; exact HE3.out
      clear hz hT HE3 HE2
      obtain ⟨k0, k1, k2⟩ := KB.out.three
      go_wp2_with fail
      refine (HTG.out _ HB.out).mono ?_
      rintro e' w2 ⟨rfl, hb2⟩
      have B2 : Hid (Below w.heap.size w w2) := HB.out.trans (hb2.mono HB.out.size)
      obtain ⟨j0, j1, j2⟩ := (KB.out.below hb2 KB.out.lt).three
      clear hb2 k0 k1 k2
      cases T
      case true =>
        have HEE : Hid (E = 2) := HE4.out
        go_wp2
        go_ret
        exact ⟨by rw [HEE.out]; rfl, B2.out⟩
      case false =>
        by_cases hm0 : 0 < m
        · have hm0i : (0 : Int) < (m : Int) := by omega
          have HEO : Hid (E = gchk O) := by show _ = _; rw [HE4.out]; simp [hm0]
          go_wp2_with fail
          refine (refCheckGroup_any S _ O _ (HO.out.below B2.out)).mono ?_
          rintro e' w3 ⟨rfl, hb3⟩
          rw [← HEO.out]
          have B3 : Hid (Below w.heap.size w w3) := B2.out.trans (hb3.mono B2.out.size)
          clear hb3 j0 j1 j2
          go_wp2
          go_ret
          exact ⟨rfl, B3.out⟩
        · have hm0i : ¬ (0 : Int) < (m : Int) := by omega
          have HEE : Hid (E = 0) := by show _ = _; rw [HE4.out]; simp [hm0]
          go_wp2
          go_ret
          exact ⟨by rw [HEE.out]; rfl, B2.out⟩

end Go.Proofs.Ytgmnhbmjnllhhac

namespace Go.Proofs.Ytgmnhbmjnllhhac
open Go.RowKit

theorem groups_copyS {S : Nat → Prop} {w : World} {u : Value} {L : List (List Fr)} (hS : ∀ g, S g → g < w.heap.size) (hu : GrsIn S w u L) (hb : L.length ≤ 1000) :
    ∃ v' w', (Builtin.append_ #[38, 38] 38 #[.slice (some ⟨w.heap.size, 0, none⟩) 0 0, u]).run Try.prog (w.alloc (.cells #[] 35)) = .ok v' w' ∧ OwnGrs w.heap.size S w' v' L ∧ Below w.heap.size w w' := by
  obtain ⟨qs, q1, q2, q3⟩ := (hu.alloc (.cells #[] 35)).sl
  have h0 : OwnGrs w.heap.size S (w.alloc (.cells #[] 35)) (.slice (some ⟨w.heap.size, 0, none⟩) 0 0) [] := ⟨[], rfl, World.ownsRow_lit (base := w.heap.size) (e := 35) (size := 1) w #[] 0 (Nat.le_refl _) (by unfold maxLen; omega) rfl, fun _ hp => absurd hp List.not_mem_nil⟩
  obtain ⟨v', w', r, o, g, _⟩ := groups_app h0 q1 q2 q3 (fun g hg e => by have := hS g hg; simp [Value.ownBlock] at e; omega) (by simpa using hb) (by simp)
  exact ⟨v', w', r, by simpa using o, ((Below.refl _ w).alloc (Nat.le_refl _) _).grown g (by simp) (fun j hj => by simp [Value.ownBlock] at hj; omega)⟩
theorem groups_snocS {base : Nat} {S : Nat → Prop} {w : World} {v ov : Value} {L : List (List Fr)} {o : List Fr} (hS : ∀ g, S g → g < base) (hv : OwnGrs base S w v L) (ho : FrsIn S w ov o) (hb : L.length ≤ 999) (hbase : base ≤ w.heap.size) :
    ∃ v' w', (Builtin.append_ #[38, 38] 38 #[v, .slice (some ⟨w.heap.size, 0, none⟩) 1 1]).run Try.prog (w.alloc (.cells #[ov] 35)) = .ok v' w' ∧ OwnGrs base S w' v' (L ++ [o]) ∧ Below base w w' := by
  have hS' : ∀ g, S g → some g ≠ v.ownBlock := fun g hg e => by have := (hv.lt g e.symm).1; have := hS g hg; omega
  obtain ⟨v', w', r, o', g, _⟩ := groups_app (qs := [(o, ov)]) (hv.below ((Below.refl _ w).alloc (Nat.le_refl _) (.cells #[ov] 35))) rfl (Sl.new w #[ov] 35 1 1 1 rfl) (fun p hp => by simp at hp; subst hp; exact ho.alloc _) hS' (by simpa using hb) (by simp; omega)
  exact ⟨v', w', r, o', ((Below.refl base w).alloc hbase _).grown g (by simp; omega) (fun j hj => (hv.lt j hj).1)⟩

set_option maxHeartbeats 2000000 in
set_option maxRecDepth 100000 in
theorem allOf_in (S : Nat → Prop) (first : Int) (gv ov : Value) (L : List (List Fr)) (O : List Fr) (w : World) (hg : GrsIn S w gv L) (ho : FrsIn S w ov O) (hL : L.length ≤ 999) :
    Calls Try.prog 28 #[.agg #[.int .i64 first, gv, ov]] w fun e w' => ∃ v', e = .returned v' ∧ GrsIn (fun g => S g ∨ w.heap.size ≤ g) w' v' (allG L O) ∧ Below w.heap.size w w' := by
  obtain ⟨ga, gc, eg, _, _⟩ := hg.len
  obtain ⟨oa, oc, eo, _, _⟩ := ho.len
  obtain ⟨ln, hln⟩ : ∃ n, n = L.length := ⟨_, rfl⟩
  obtain ⟨lo, hlo⟩ : ∃ n, n = O.length := ⟨_, rfl⟩
  rw [← hln] at eg
  rw [← hlo] at eo
  obtain ⟨W0, hW0⟩ : ∃ W0, W0 = w.alloc (.cells #[.int .i64 first, gv, ov] 51) := ⟨_, rfl⟩
  have B0 : Below w.heap.size w W0 := by rw [hW0]; exact (Below.refl _ _).alloc (Nat.le_refl _) _
  have K0 : Blk W0 w.heap.size #[.int .i64 first, gv, ov] 51 := Blk.newE hW0
  have hg0 : GrsIn (fun g => S g ∧ g < W0.heap.size) W0 gv L := (hg.below B0).mono fun g h h' => ⟨h', h⟩
  have ho0 : FrsIn (fun g => S g ∧ g < W0.heap.size) W0 ov O := (ho.below B0).mono fun g h h' => ⟨h', h⟩
  obtain ⟨v3, w3, r3, o3, b3⟩ := groups_copyS (fun g h => h.2) hg0 (by omega)
  have ho3 := ho0.below b3
  have K3 : Hid (Blk w3 w.heap.size #[.int .i64 first, gv, ov] 51) := K0.below b3 K0.lt
  have B3 : Hid (Below w.heap.size w w3) := B0.trans (b3.mono B0.size)
  obtain ⟨v5, w5, r5, o5, b5⟩ := groups_snocS (fun g h => h.2) o3 ho3 hL b3.size
  have HR3 : Hid (GrsIn (fun g => S g ∨ w.heap.size ≤ g) w3 v3 L) := o3.grsIn (fun _ _ h => .inl h.1) (fun g h => .inr (Nat.le_trans B0.size (o3.lt g h).1))
  have HR5 : Hid (GrsIn (fun g => S g ∨ w.heap.size ≤ g) w5 v5 (L ++ [O])) := o5.grsIn (fun _ _ h => .inl h.1) (fun g h => .inr (Nat.le_trans B0.size (o5.lt g h).1))
  have B5 : Hid (Below w.heap.size w w5) := B3.out.trans (b5.mono B0.size)
  have HA : Hid (allG L O = if 0 < lo then L ++ [O] else L) := by show _ = _; rw [hlo]; rfl
  have r3' : (Builtin.append_ #[38, 38] 38 #[.slice (some ⟨w.heap.size + 1, 0, none⟩) 0 0, gv]).run Try.prog (W0.alloc (.cells #[] 35)) = .ok v3 w3 := by
    rw [show w.heap.size + 1 = W0.heap.size by rw [hW0]; simp]; exact r3
  subst hW0
  clear hg ho hg0 ho0 o3 o5 b3 b5 ho3 hL hln hlo K0 B0 r3
  subst eg eo
  obtain ⟨k0, k1, k2⟩ := K3.out.three
  by_cases hl : 0 < lo
  · have hli : (0 : Int) < (lo : Int) := by omega
    have HA2 : Hid (allG L O = L ++ [O]) := by show _ = _; rw [HA.out, if_pos hl]
    go_enter Try.func28, Try.ntmps28
    go_wp2_with (at_builtin; first | refine wpList_append_run rfl (.tmp 4) (.tmp 6) 38 38 rfl _ _ rfl rfl r3' ?_ | refine wpList_append_run rfl (.tmp 13) (.tmp 16) 38 38 rfl _ _ rfl rfl r5 ?_)
    go_ret
    exact ⟨v5, rfl, by rw [HA2.out]; exact HR5.out, B5.out⟩
  · have hli : ¬ (0 : Int) < (lo : Int) := by omega
    have HA2 : Hid (allG L O = L) := by show _ = _; rw [HA.out, if_neg hl]
    go_enter Try.func28, Try.ntmps28
    go_wp2_with (at_builtin; refine wpList_append_run rfl (.tmp 4) (.tmp 6) 38 38 rfl _ _ rfl rfl r3' ?_)
    go_ret
    exact ⟨v3, rfl, by rw [HA2.out]; exact HR3.out, B3.out⟩

theorem allOf_any (first : Int) (gv ov : Value) (L : List (List Fr)) (O : List Fr) (w : World) (hg : GrsIn (fun _ => True) w gv L) (ho : FrsIn (fun _ => True) w ov O) (hL : L.length ≤ 999) :
    Calls Try.prog 28 #[.agg #[.int .i64 first, gv, ov]] w fun e w' => ∃ v', e = .returned v' ∧ GrsIn (fun _ => True) w' v' (allG L O) ∧ Below w.heap.size w w' := by
  refine (allOf_in (fun _ => True) first gv ov L O w hg ho hL).mono ?_
  rintro e w' ⟨v', rfl, h1, h2⟩
  exact ⟨v', rfl, h1.mono (fun _ _ _ => trivial), h2⟩

theorem GrsIn.firstTime {S : Nat → Prop} {w : World} {ao : Option Addr} {n c k : Nat} {L : List (List Fr)} (h : GrsIn S w (.slice ao n c) L) (hk : k < L.length) (h0 : 0 < (grAt L k).length) :
    ∃ b off b2 off2 sn sc, ao = some ⟨b, off, none⟩ ∧ w.cell? ⟨b, off + k, none⟩ = some (.slice (some ⟨b2, off2, none⟩) sn sc) ∧ 0 < sn ∧ w.cell? ⟨b2, off2, none⟩ = some (.int .i64 (frAt (grAt L k) 0).time) := by
  obtain ⟨ao', c', e, _, _, hc⟩ := h
  injection e with e1 e2 e3
  subst e1
  obtain ⟨b, off, e4, _, _, sv, c0, hs⟩ := hc k hk
  obtain ⟨sa, sc, es, _, _⟩ := hs.len
  subst es
  obtain ⟨b2, off2, e5, d0, _⟩ := hs.first h0
  subst e5
  exact ⟨b, off, b2, off2, _, sc, e4, c0, h0, d0⟩

set_option maxHeartbeats 4000000 in
set_option maxRecDepth 100000 in
theorem seekOf_any (first : Int) (gv ov : Value) (L : List (List Fr)) (O : List Fr) (t : Int) (w : World) (hg : GrsIn (fun _ => True) w gv L) (ho : FrsIn (fun _ => True) w ov O) (hr : stchk first L O = 0) :
    Calls Try.prog 27 #[.agg #[.int .i64 first, gv, ov], .int .i64 t] w fun e w' => e = .returned (.tuple #[.int .i64 (if (allG L O).length = 0 then 0 else first + seekI (allG L O) t ((allG L O).length - 1)), .bool (decide (0 < (allG L O).length))]) ∧ Below w.heap.size w w' := by
  obtain ⟨h1, h2, h3, _⟩ := stchk_zero.1 hr
  obtain ⟨A, hA⟩ : ∃ A, A = allG L O := ⟨_, rfl⟩
  have hAl : A.length ≤ 6 := by rw [hA]; exact allG_len L O h3
  have HAR : Hid (∀ k, k < A.length → 0 < (grAt A k).length) := fun k hk => (gchk_first (by rw [hA]; exact allG_right hr _ (grAt_mem (by rw [← hA]; exact hk)))).1
  obtain ⟨q, hq⟩ : ∃ q, q = A.length := ⟨_, rfl⟩
  have HQ : Hid (q = A.length) := hq
  have HALL : Hid (∀ U, Below w.heap.size w U → Calls Try.prog 28 #[.agg #[.int .i64 first, gv, ov]] U fun e w' => ∃ a c, e = .returned (.slice a q c) ∧ Hid (GrsIn (fun _ => True) w' (.slice a q c) A) ∧ Below U.heap.size U w') := fun U hU => by
    refine (allOf_any first gv ov L O U (hg.below hU) (ho.below hU) (by omega)).mono ?_
    rintro e w' ⟨v', rfl, h4, h5⟩
    rw [← hA] at h4
    obtain ⟨a, c, e, _, _⟩ := h4.len
    rw [← hq] at e
    subst e
    exact ⟨a, c, rfl, h4, h5⟩
  obtain ⟨ga, gc, eg, _, _⟩ := hg.len
  obtain ⟨oa, oc, eo, _, _⟩ := ho.len
  obtain ⟨ln, hln⟩ : ∃ n, n = L.length := ⟨_, rfl⟩
  obtain ⟨lo, hlo⟩ : ∃ n, n = O.length := ⟨_, rfl⟩
  rw [← hln] at eg
  rw [← hlo] at eo
  rw [← hA, ← hq]
  rw [← hq] at hAl
  obtain ⟨RN, hRN⟩ : ∃ R : Int, R = if q = 0 then 0 else first + seekI A t (q - 1) := ⟨_, rfl⟩
  obtain ⟨RB, hRB⟩ : ∃ R : Bool, R = decide (0 < q) := ⟨_, rfl⟩
  have HRN : Hid (q = 0 → RN = 0 ∧ RB = false) := fun h => ⟨by rw [hRN, if_pos h], by rw [hRB, h]; rfl⟩
  have HRY : Hid (∀ i : Nat, ¬ q = 0 → seekI A t (q - 1) = i → RN = first + i ∧ RB = true) := fun i h h' => ⟨by rw [hRN, if_neg h, h'], by rw [hRB]; exact decide_eq_true (by omega)⟩
  rw [← hRN, ← hRB]
  clear hg ho hr h3 hA hq hln hlo hRN hRB
  subst eg eo
  go_enter Try.func27, Try.ntmps27
  go_wp2_with fail
  obtain ⟨W0, hW0⟩ : ∃ W0, W0 = w.alloc (.cells #[.int .i64 first, .slice ga ln gc, .slice oa lo oc] 51) := ⟨_, rfl⟩
  have HS0 := (((Blk.newE hW0).stay).and ((below_stay0 w).allocE hW0).out).hid
  rw [← hW0]
  clear hW0
  refine (HALL.out _ HS0.out.now.2).mono ?_
  rintro e w1 ⟨va, vc, rfl, GA, b1⟩
  have HS1 := Stay.go HS0 b1
  clear b1 HS0
  obtain ⟨k0, k1, k2⟩ := HS1.out.now.1.three
  by_cases hq0 : q = 0
  · obtain ⟨rfl, rfl⟩ := HRN.out hq0
    subst hq0
    go_wp2_with fail
    go_loopw [7] (fun s wr => s = .int .i64 (-1) ∧ w1 = wr) (fun _ _ => 0)
    case atStart => exact ⟨by simp, rfl⟩
    case round =>
      obtain ⟨rfl, rfl⟩ := hrel
      go_wp2_with fail
      exact bodyPost_ret (v := .tuple #[.int .i64 0, .bool false]) (by simp [results, Try.results27, go_sem]) rfl ⟨rfl, HS1.out.now.2⟩
  obtain ⟨q1, hq1⟩ : ∃ q1, q = q1 + 1 := ⟨q - 1, by omega⟩
  have HQ1 : Hid (q1 + 1 = A.length) := by show _ = _; rw [← hq1]; exact HQ.out
  have HRES : Hid (∀ i : Nat, seekI A t q1 = i → RN = first + i ∧ RB = true) := fun i hi => HRY.out i hq0 (by rw [show q - 1 = q1 by omega, hi])
  have hqi : (q : Int) - 1 = (q1 : Int) := by omega
  clear hq1
  go_wp2_with fail
  go_loopw [7] (fun s wr => ∃ i : Nat, i ≤ q1 ∧ s = .int .i64 i ∧ Hid (seekI A t q1 = seekI A t i) ∧ w1 = wr) (fun s _ => (intOf s).toNat)
  case atStart => exact ⟨q1, Nat.le_refl _, by go_num, (show seekI A t q1 = seekI A t q1 from rfl), rfl⟩
  case round =>
    obtain ⟨i, hi, rfl, HI, rfl⟩ := hrel
    obtain ⟨b, off, b2, off2, sn, sc, e1, c0, c1, c2⟩ := GA.out.firstTime (k := i) (by rw [← HQ1.out]; omega) (HAR.out i (by rw [← HQ1.out]; omega))
    subst e1
    obtain ⟨T, hT⟩ : ∃ T, T = (frAt (grAt A i) 0).time := ⟨_, rfl⟩
    have HT : Hid (T = (frAt (grAt A i) 0).time) := hT
    rw [← hT] at c2
    clear hT
    have hiq : (i : Int) < (q : Int) := by omega
    have c1i : (0 : Int) < (sn : Int) := by omega
    by_cases hle : T ≤ t
    · have HR : Hid (seekI A t i = i) := by
        show _ = _
        cases i with
        | zero => rfl
        | succ i => exact seekI_hit rfl (by rw [← HT.out]; exact hle)
      obtain ⟨rfl, rfl⟩ := HRES.out i (HI.out.trans HR.out)
      go_wp2_with fail
      go_loopw [8] (fun s wr => s = .int .i64 i ∧ w1 = wr) (fun _ _ => 0)
      case atStart => exact ⟨rfl, rfl⟩
      case round =>
        obtain ⟨rfl, rfl⟩ := hrel
        go_wp2_with fail
        exact bodyPost_ret (v := .tuple #[.int .i64 (first + i), .bool true]) (by simp [results, Try.results27, go_sem]) rfl ⟨rfl, HS1.out.now.2⟩
    · by_cases hi0 : i = 0
      · have HF : Hid (RN = first + ((0 : Nat) : Int) ∧ RB = true) := HRES.out 0 (by rw [HI.out, hi0]; rfl)
        have HI0 : Hid (i = 0) := hi0
        have hz : ((i : Int) == 0) = true := by simpa using hi0
        have hneg : ¬ (0 : Int) ≤ (i : Int) - 1 := by omega
        clear hi0
        go_wp2_with fail
        go_loopw [8] (fun s wr => (s = .int .i64 i ∨ s = .int .i64 ((i : Int) - 1)) ∧ w1 = wr) (fun s _ => (intOf s + 1).toNat)
        case atStart => exact ⟨.inl (by simp), rfl⟩
        case round =>
          obtain ⟨h, rfl⟩ := hrel
          rcases h with rfl | rfl
          · go_wp2_with fail
            go_roundw
            case rel => exact ⟨.inr (by simp), by first | rfl | trivial⟩
            case measure => simp [intOf]
          · go_wp2_with fail
            exact bodyPost_ret (v := .tuple #[.int .i64 first, .bool true]) (by simp [results, Try.results27, go_sem]) rfl ⟨by rw [HF.out.1, HF.out.2]; simp, HS1.out.now.2⟩
      · obtain ⟨i1, hi1⟩ : ∃ i1, i = i1 + 1 := ⟨i - 1, by omega⟩
        have HR : Hid (seekI A t q1 = seekI A t i1) := by show _ = _; rw [HI.out]; exact seekI_miss hi1 (by rw [← HT.out]; exact hle)
        have hz : ((i : Int) == 0) = false := by simpa using hi0
        have hii : (i : Int) - 1 = (i1 : Int) := by omega
        have hl1 : i1 < i := by omega
        clear hi0 hi1
        go_wp2_with fail
        go_roundw
        case rel => exact ⟨i1, by omega, by go_num, HR.out, by first | rfl | trivial⟩
        case measure => simp [intOf]; omega

end Go.Proofs.Ytgmnhbmjnllhhac

namespace Go.Proofs.Ytgmnhbmjnllhhac
open Go.RowKit

set_option maxHeartbeats 8000000 in
set_option maxRecDepth 100000 in
theorem refStoreAdd_in (S : Nat → Prop) (first : Int) (gv ov pv : Value) (L : List (List Fr)) (O : List Fr) (f : Fr) (w : World) (hg : GrsIn S w gv L) (ho : FrsIn S w ov O) (hp : StrsIn S w pv f.parts) (hr : stchk first L O = 0) (hf : f.chk = 0) :
    Calls Try.prog 26 #[.agg #[.int .i64 first, gv, ov], .agg #[.int .i64 f.time, .bool f.key, pv]] w fun e w' => ∃ gv' ov', e = .returned (.tuple #[.agg #[.int .i64 (addsF first L O f), gv', ov'], .bool (addsB first L O f), .int .i64 (addsE first L O f)]) ∧ GrsIn (fun g => S g ∨ w.heap.size ≤ g) w' gv' (addsL first L O f) ∧ FrsIn (fun g => S g ∨ w.heap.size ≤ g) w' ov' (addsO first L O f) ∧ Below w.heap.size w w' := by
  obtain ⟨r1, r2, r3, r4, _, r6⟩ := stchk_zero.1 hr
  have hO6 : O.length ≤ 6 := by
    rcases r6 with r6 | r6
    · rw [r6]; simp
    · exact (gchk_zero.1 r6).2.1
  obtain ⟨ga, gc, eg, _, _⟩ := hg.len
  obtain ⟨oa, oc, eo, _, _⟩ := ho.len
  obtain ⟨pa, pc, ep⟩ := hp.1.len
  obtain ⟨ln, hln⟩ : ∃ n, n = L.length := ⟨_, rfl⟩
  obtain ⟨lo, hlo⟩ : ∃ n, n = O.length := ⟨_, rfl⟩
  obtain ⟨pn, hpn⟩ : ∃ n, n = f.parts.length := ⟨_, rfl⟩
  rw [← hln] at eg
  rw [← hlo] at eo
  rw [← hpn] at ep
  obtain ⟨ft, hft⟩ : ∃ t, t = f.time := ⟨_, rfl⟩
  obtain ⟨fk, hfk⟩ : ∃ t, t = f.key := ⟨_, rfl⟩
  obtain ⟨M, hM⟩ : ∃ M, M = L ++ closedG O f := ⟨_, rfl⟩
  obtain ⟨cl, hcl⟩ : ∃ c, c = (f.key && decide (0 < O.length)) := ⟨_, rfl⟩
  obtain ⟨D, hD⟩ : ∃ D, D = trimD M := ⟨_, rfl⟩
  obtain ⟨Q, hQ⟩ : ∃ Q, Q = growG O f := ⟨_, rfl⟩
  obtain ⟨nq, hnq⟩ : ∃ n, n = Q.length := ⟨_, rfl⟩
  obtain ⟨E, hE⟩ : ∃ E, E = addsE first L O f := ⟨_, rfl⟩
  have HE : Hid (E = if 100000 < first + (D : Int) then 2 else 0) := by show _ = _; rw [hE, hD, hM]; unfold addsE; rw [if_pos hr, if_pos hf]
  have HBAD : Hid (¬ E = 0 → addsF first L O f = 0 ∧ addsL first L O f = [] ∧ addsO first L O f = [] ∧ addsB first L O f = false) := fun h => addsE_bad (by rw [← hE]; exact h)
  have HGOOD : Hid (E = 0 → addsF first L O f = first + D ∧ addsL first L O f = M.drop D ∧ addsO first L O f = Q ∧ addsB first L O f = cl) := fun h => by
    rw [hE] at h
    obtain ⟨_, _, _, e1, e2, e3, e4⟩ := addsE_zero h
    rw [hD, hM, hQ, hcl]
    refine ⟨e1, e2, e3, ?_⟩
    rw [e4]
    unfold closedG
    cases (f.key && decide (0 < O.length)) <;> rfl
  have HMC : Hid ((cl = false → M = L) ∧ (cl = true → M = L ++ [O])) := by
    rw [hM, hcl]; unfold closedG
    exact ⟨fun h => by rw [h]; simp, fun h => by rw [h]; simp⟩
  have HM : Hid ((∀ g ∈ M, gchk g = 0) ∧ M.length ≤ 6) := by
    rw [hM]
    rcases closedG_cases O f with ⟨e, _⟩ | ⟨e, _, h0⟩
    · rw [e, List.append_nil]; exact ⟨r4, by omega⟩
    · rw [e]
      refine ⟨fun g hg => ?_, by simp; omega⟩
      rcases List.mem_append.1 hg with hg | hg
      · exact r4 g hg
      · simp at hg; subst hg
        rcases r6 with r6 | r6
        · rw [r6] at h0; simp at h0
        · exact r6
  have HTR : Hid (∀ (S : Nat → Prop) (v : Value) (U : World), GrsIn S U v M → Calls Try.prog 48 #[.int .i64 first, v] U fun e w' => ∃ v', e = .returned (.tuple #[.int .i64 (first + D), v']) ∧ GrsIn S w' v' (M.drop D) ∧ Below U.heap.size U w') := fun S v U h => by
    rw [hD]; exact trimmed_any S M first v U h HM.out.1 (by have := HM.out.2; omega) (by omega) (by have := HM.out.2; omega)
  have HGR : Hid (∀ U, Below w.heap.size w U → Calls Try.prog 40 #[.agg #[ov], .agg #[.int .i64 ft, .bool fk, pv]] U fun e w' => ∃ a c, e = .returned (.tuple #[.agg #[.slice a nq c], .bool cl]) ∧ Hid (FrsIn (fun b => (S b ∧ b < w.heap.size) ∨ U.heap.size ≤ b) w' (.slice a nq c) Q) ∧ Below U.heap.size U w') := fun U hU => by
    have := growOf_any (fun g => S g ∧ g < w.heap.size) ov O f pv U ((ho.mono fun g h h' => ⟨h', h⟩).below hU) ((hp.mono fun g h h' => ⟨h', h⟩).below hU) hO6
    rw [← hft, ← hfk, ← hQ, ← hnq, hfk, ← hcl, ← hfk] at this
    exact this
  have hD6 : D ≤ 5 := by have := trimD_le M; have := HM.out.2; omega
  have HG : Hid (GrsIn (fun g => S g ∧ g < w.heap.size) w gv L) := hg.mono fun g h h' => ⟨h', h⟩
  have HO : Hid (FrsIn (fun g => S g ∧ g < w.heap.size) w ov O) := ho.mono fun g h h' => ⟨h', h⟩
  have HL : Hid (L.length ≤ 5) := r3
  rw [← hft, ← hfk, ← hE]
  clear hg ho hp hr hf r3 r4 r6 hO6 hft hfk hM hcl hD hQ hnq hE hln hlo hpn
  subst eg eo ep
  go_enter Try.func26, Try.ntmps26
  go_wp2_with fail
  obtain ⟨W0, hW0⟩ : ∃ W0, W0 = ((w.alloc (.cells #[.int .i64 first, .slice ga ln gc, .slice oa lo oc] 51)).alloc (.cells #[.int .i64 ft, .bool fk, .slice pa pn pc] 48)).alloc (.cells #[.int .i64 0, .slice none 0 0, .slice none 0 0] 51) := ⟨_, rfl⟩
  have z0 : W0.heap.size = w.heap.size + 3 := by rw [hW0]; simp
  have HS0 : Hid (Stay W0 (fun U => Blk U w.heap.size #[.int .i64 first, .slice ga ln gc, .slice oa lo oc] 51 ∧ Blk U (w.heap.size + 2) #[.int .i64 0, .slice none 0 0, .slice none 0 0] 51 ∧ GrsIn (fun g => S g ∧ g < w.heap.size) U (.slice ga ln gc) L ∧ FrsIn (fun g => S g ∧ g < w.heap.size) U (.slice oa lo oc) O ∧ Below w.heap.size w U)) := by
    have hb : Below w.heap.size w W0 := by rw [hW0]; exact (((Below.refl _ _).alloc (Nat.le_refl _) _).alloc (by simp) _).alloc (by simp; omega) _
    have k1 : Blk W0 w.heap.size #[.int .i64 first, .slice ga ln gc, .slice oa lo oc] 51 := by rw [hW0]; exact ((Blk.new _ _ _).alloc _).alloc _
    have k2 : Blk W0 (w.heap.size + 2) #[.int .i64 0, .slice none 0 0, .slice none 0 0] 51 := by
      have := Blk.newE hW0
      simpa using this
    exact k1.stay.and (k2.stay.and ((HG.out.below hb).stay.and ((HO.out.below hb).stay.and (below_stay hb (by omega)))))
  rw [← hW0]
  clear hW0 HG HO
  refine (HGR.out _ HS0.out.now.2.2.2.2).mono ?_
  rintro e w1 ⟨a1, c1, rfl, F1, b1⟩
  have hs1 := b1.size
  obtain ⟨V, hV⟩ : ∃ V, V = (w1.alloc (.cells #[.slice a1 nq c1] 35)).alloc (.cells #[.int .i64 0, .slice none 0 0, .slice a1 nq c1] 51) := ⟨_, rfl⟩
  have zV : V.heap.size = w1.heap.size + 2 := by rw [hV]; simp
  have HSV : Hid (Stay V (fun U => (Blk U (w1.heap.size + 1) #[.int .i64 0, .slice none 0 0, .slice a1 nq c1] 51 ∧ FrsIn (fun g => ((S g ∧ g < w.heap.size) ∨ w.heap.size + 3 ≤ g) ∧ g < w1.heap.size) U (.slice a1 nq c1) Q) ∧ Blk U w.heap.size #[.int .i64 first, .slice ga ln gc, .slice oa lo oc] 51 ∧ Blk U (w.heap.size + 2) #[.int .i64 0, .slice none 0 0, .slice none 0 0] 51 ∧ GrsIn (fun g => S g ∧ g < w.heap.size) U (.slice ga ln gc) L ∧ FrsIn (fun g => S g ∧ g < w.heap.size) U (.slice oa lo oc) O ∧ Below w.heap.size w U)) := by
    have k1 : Blk V (w1.heap.size + 1) #[.int .i64 0, .slice none 0 0, .slice a1 nq c1] 51 := by
      have := Blk.newE hV
      simpa using this
    have k2 : FrsIn (fun g => ((S g ∧ g < w.heap.size) ∨ w.heap.size + 3 ≤ g) ∧ g < w1.heap.size) V (.slice a1 nq c1) Q := by
      rw [hV]; exact ((F1.out.mono fun g h1 h2 => ⟨h2.imp id (fun h => by omega), h1⟩).alloc _).alloc _
    have k3 := (((HS0.out.step b1).alloc (.cells #[.slice a1 nq c1] 35)).allocE hV).out
    exact (k1.stay.and k2.stay).and k3
  obtain ⟨v3, w3, r3, o3, b3⟩ := groups_copyS (S := fun g => S g ∧ g < w.heap.size) (fun g hg => by have := hg.2; omega) HSV.out.now.2.2.2.1 (by have := HL.out; omega)
  have HS3 := Stay.go HSV b3
  obtain ⟨v5, w5, r5, o5, b5⟩ := groups_snocS (S := fun g => S g ∧ g < w.heap.size) (fun g hg => by have := hg.2; omega) o3 HS3.out.now.2.2.2.2.1 (by have := HL.out; omega) b3.size
  have b35 : Below V.heap.size V w5 := b3.trans (b5.mono (Nat.le_refl _))
  have HS5 := Stay.go HSV b35
  have HR3 : Hid (GrsIn (fun g => (S g ∧ g < w.heap.size) ∨ V.heap.size ≤ g) w3 v3 L) := o3.grsIn (fun g _ h => .inl h) (fun g h => .inr (o3.lt g h).1)
  have HR5 : Hid (GrsIn (fun g => (S g ∧ g < w.heap.size) ∨ V.heap.size ≤ g) w5 v5 (L ++ [O])) := o5.grsIn (fun g _ h => .inl h) (fun g h => .inr (o5.lt g h).1)
  have r3' : (Builtin.append_ #[38, 38] 38 #[.slice (some ⟨w1.heap.size + 2, 0, none⟩) 0 0, .slice ga ln gc]).run Try.prog (((w1.alloc (.cells #[.slice a1 nq c1] 35)).alloc (.cells #[.int .i64 0, .slice none 0 0, .slice a1 nq c1] 51)).alloc (.cells #[] 35)) = .ok v3 w3 := by
    rw [show w1.heap.size + 2 = V.heap.size by omega, ← hV]; exact r3
  -- behind the groups: one way for both
  have HREST : Hid (∀ (v : Value) (U : World), GrsIn (fun g => (S g ∧ g < w.heap.size) ∨ V.heap.size ≤ g) U v M → True) := fun _ _ _ => trivial
  obtain ⟨k0, k1, k2⟩ := (HS0.out.step b1).now.1.three
  obtain ⟨m0, m1, m2⟩ := (HSV.out.alloc (.cells #[] 35)).now.2.1.three
  have hlt1 : w.heap.size < w1.heap.size := by omega
  have hlt2 : w.heap.size + 2 < w1.heap.size := by omega
  obtain ⟨q0, q1, q2⟩ := HS3.out.now.2.1.three
  obtain ⟨p0, p1, p2⟩ := HS5.out.now.2.1.three
  obtain ⟨Z, hZ⟩ : ∃ Z, Z = V.heap.size := ⟨_, rfl⟩
  rw [← hZ] at HR3 HR5
  have hZ2 : Z = w1.heap.size + 2 := by omega
  clear r3 o3 o5 b3 b5 b35 HREST HS0 b1 F1 HGR hZ HSV zV
  subst hV
  go_upto_if 24 with (at_builtin; refine wpList_append_run rfl (.tmp 20) (.tmp 22) 38 38 rfl _ _ rfl rfl r3' ?_)
  go_cut [10] (fun s10 wc => Hid (GrsIn (fun g => (S g ∧ g < w.heap.size) ∨ Z ≤ g) wc s10 M) ∧ Hid (Stay wc (fun U => (Blk U (w1.heap.size + 1) #[.int .i64 0, .slice none 0 0, .slice a1 nq c1] 51 ∧ FrsIn (fun g => ((S g ∧ g < w.heap.size) ∨ w.heap.size + 3 ≤ g) ∧ g < w1.heap.size) U (.slice a1 nq c1) Q) ∧ Blk U w.heap.size #[.int .i64 first, .slice ga ln gc, .slice oa lo oc] 51 ∧ Blk U (w.heap.size + 2) #[.int .i64 0, .slice none 0 0, .slice none 0 0] 51 ∧ GrsIn (fun g => S g ∧ g < w.heap.size) U (.slice ga ln gc) L ∧ FrsIn (fun g => S g ∧ g < w.heap.size) U (.slice oa lo oc) O ∧ Below w.heap.size w U)))
  case first =>
    cases cl
    · have hM : Hid (M = L) := HMC.out.1 rfl
      go_wp2_with fail
      go_meet
      case rel => exact ⟨by rw [hM.out]; exact HR3.out, HS3.out⟩
    · have hM : Hid (M = L ++ [O]) := HMC.out.2 rfl
      go_wp2_with (at_builtin; refine wpList_append_run rfl (.tmp 25) (.tmp 28) 38 38 rfl _ _ rfl rfl r5 ?_)
      go_meet
      case rel => exact ⟨by rw [hM.out]; exact HR5.out, HS5.out⟩
  case rest =>
    obtain ⟨HGM, HS6⟩ := hcut
    clear HR3 HR5 r3' r5 HS3 HS5 k0 k1 k2 m0 m1 m2 q0 q1 q2 p0 p1 p2 HMC
    obtain ⟨k0, k1, k2⟩ := HS6.out.now.2.1.three
    go_wp2_with fail
    refine (HTR.out _ _ _ HGM.out).mono ?_
    rintro e w7 ⟨v7, rfl, G7, b7⟩
    obtain ⟨va, vc, ev, _, _⟩ := G7.len
    obtain ⟨nv, hnv⟩ : ∃ n, n = (M.drop D).length := ⟨_, rfl⟩
    rw [← hnv] at ev
    clear hnv
    subst ev
    have HS7 := Stay.go HS6 b7
    have HG7 : Hid (GrsIn (fun g => (S g ∧ g < w.heap.size) ∨ Z ≤ g) w7 (.slice va nv vc) (M.drop D)) := G7
    clear b7 G7 HS6 k0 k1 k2 HGM HTR
    have X7 := HS7.out.now.1.1
    have R7 := HS7.out.now.2.2.1
    have hXl := X7.lt
    have hRl := R7.lt
    obtain ⟨x0, x1, x2⟩ := X7.three
    obtain ⟨y0, y1, y2⟩ := R7.three
    have f0 := X7.free
    have f1 := R7.free
    obtain ⟨Y, hY⟩ : ∃ Y, Y = (w7.setCell ⟨w1.heap.size + 1, 0, none⟩ (.int .i64 (first + D))).setCell ⟨w1.heap.size + 1, 1, none⟩ (.slice va nv vc) := ⟨_, rfl⟩
    have XY : Blk Y (w1.heap.size + 1) #[.int .i64 (first + D), .slice va nv vc, .slice a1 nq c1] 51 := by
      rw [hY]; exact (X7.set 0 (.int .i64 (first + D))).set 1 (.slice va nv vc)
    have RY : Blk Y (w.heap.size + 2) #[.int .i64 0, .slice none 0 0, .slice none 0 0] 51 := by
      rw [hY]; exact (R7.other (a := ⟨w1.heap.size + 1, 0, none⟩) (by simp; omega) _).other (a := ⟨w1.heap.size + 1, 1, none⟩) (by simp; omega) _
    have hYo : ∀ g, g ≠ w1.heap.size + 1 → Y.heap[g]? = w7.heap[g]? := fun g hg => by
      rw [hY, Below.heap_setCell _ _ _ _ (by exact hg), Below.heap_setCell _ _ _ _ (by exact hg)]
    have hYs : Y.heap.size = w7.heap.size := by rw [hY]; simp
    have BY : Below w.heap.size w Y := by
      rw [hY]; exact (HS7.out.now.2.2.2.2.2.setCell (by simp; omega) _).setCell (by simp; omega) _
    have finish : ∀ (u0 u1 u2 : Value) (U : World), U = ((Y.setCell ⟨w.heap.size + 1 + 1, 0, none⟩ u0).setCell ⟨w.heap.size + 1 + 1, 1, none⟩ u1).setCell ⟨w.heap.size + 1 + 1, 2, none⟩ u2 → Blk U (w.heap.size + 2) #[u0, u1, u2] 51 ∧ (∀ g, g ≠ w1.heap.size + 1 → g ≠ w.heap.size + 2 → U.heap[g]? = w7.heap[g]?) ∧ U.heap.size = w7.heap.size ∧ Below w.heap.size w U := fun u0 u1 u2 U hU => by
      refine ⟨by rw [hU]; exact ((RY.set 0 u0).set 1 u1).set 2 u2, fun g h1 h2 => ?_, by rw [hU]; simpa using hYs, ?_⟩
      · rw [hU, Below.heap_setCell _ _ _ _ (by exact h2), Below.heap_setCell _ _ _ _ (by exact h2), Below.heap_setCell _ _ _ _ (by exact h2)]
        exact hYo g h1
      · rw [hU]; exact ((BY.setCell (by simp; omega) _).setCell (by simp; omega) _).setCell (by simp; omega) _
    have HFIN : Hid (∀ (u0 u1 u2 : Value) (U : World), U = ((Y.setCell ⟨w.heap.size + 1 + 1, 0, none⟩ u0).setCell ⟨w.heap.size + 1 + 1, 1, none⟩ u1).setCell ⟨w.heap.size + 1 + 1, 2, none⟩ u2 → Blk U (w.heap.size + 2) #[u0, u1, u2] 51 ∧ (∀ g, g ≠ w1.heap.size + 1 → g ≠ w.heap.size + 2 → U.heap[g]? = w7.heap[g]?) ∧ U.heap.size = w7.heap.size ∧ Below w.heap.size w U) := finish
    have HQ7 : Hid (FrsIn (fun g => ((S g ∧ g < w.heap.size) ∨ w.heap.size + 3 ≤ g) ∧ g < w1.heap.size) w7 (.slice a1 nq c1) Q) := HS7.out.now.1.2
    have hne1 : ¬ w1.heap.size + 1 = w.heap.size + 1 + 1 := by omega
    have hne2 : ¬ w.heap.size + 1 + 1 = w1.heap.size + 1 := by omega
    clear finish X7 R7 XY RY hYo hYs BY HS7
    by_cases hbig : 100000 < first + (D : Int)
    · have hE : E = 2 := by rw [HE.out, if_pos hbig]
      obtain ⟨e1, e2, e3, e4⟩ := HBAD.out (by rw [hE]; decide)
      have HEE : Hid (E = 2 ∧ addsF first L O f = 0 ∧ addsL first L O f = [] ∧ addsO first L O f = [] ∧ addsB first L O f = false) := ⟨hE, e1, e2, e3, e4⟩
      obtain ⟨U, hU⟩ : ∃ U, U = ((Y.setCell ⟨w.heap.size + 1 + 1, 0, none⟩ (.int .i64 0)).setCell ⟨w.heap.size + 1 + 1, 1, none⟩ (.slice none 0 0)).setCell ⟨w.heap.size + 1 + 1, 2, none⟩ (.slice none 0 0) := ⟨_, rfl⟩
      obtain ⟨n1, n2, n3, n4⟩ := HFIN.out _ _ _ U hU
      have HU3 : Hid (Blk U (w.heap.size + 1 + 1) _ _) := n1
      have HN4 : Hid (Below w.heap.size w U) := n4
      rw [hY] at hU
      clear HBAD HGOOD HE hE e1 e2 e3 e4 HFIN n1 n2 n3 n4 hY
      go_wp2_with fail
      rw [← hU]
      obtain ⟨u0, u1, u2⟩ := HU3.out.three
      obtain ⟨h1, h2, h3, h4, h5⟩ := HEE.out
      rw [h1, h2, h3, h4, h5]
      exact bodyPost_ret (v := .tuple #[.agg #[.int .i64 0, .slice none 0 0, .slice none 0 0], .bool false, .int .i64 2]) (by simp [results, Try.results26, go_sem, u0, u1, u2]) rfl ⟨_, _, rfl, GrsIn.nil _ _, FrsIn.nil _ _, HN4.out⟩
    · have hE : E = 0 := by rw [HE.out, if_neg hbig]
      obtain ⟨e1, e2, e3, e4⟩ := HGOOD.out hE
      have HEE : Hid (E = 0 ∧ addsF first L O f = first + D ∧ addsL first L O f = M.drop D ∧ addsO first L O f = Q ∧ addsB first L O f = cl) := ⟨hE, e1, e2, e3, e4⟩
      obtain ⟨U, hU⟩ : ∃ U, U = ((Y.setCell ⟨w.heap.size + 1 + 1, 0, none⟩ (.int .i64 (first + D))).setCell ⟨w.heap.size + 1 + 1, 1, none⟩ (.slice va nv vc)).setCell ⟨w.heap.size + 1 + 1, 2, none⟩ (.slice a1 nq c1) := ⟨_, rfl⟩
      obtain ⟨n1, n2, n3, n4⟩ := HFIN.out _ _ _ U hU
      have GU : Hid (GrsIn (fun g => S g ∨ w.heap.size ≤ g) U (.slice va nv vc) (M.drop D)) := HG7.out.to ⟨by omega, fun g _ hg => n2 g (by rcases hg with hg | hg <;> omega) (by rcases hg with hg | hg <;> omega)⟩ (fun g _ h => h.imp (fun h => h.1) (fun h => by omega))
      have FU : Hid (FrsIn (fun g => S g ∨ w.heap.size ≤ g) U (.slice a1 nq c1) Q) := HQ7.out.to ⟨by omega, fun g _ hg => n2 g (by have := hg.2; omega) (by rcases hg.1 with h | h <;> omega)⟩ (fun g _ h => h.1.imp (fun h => h.1) (fun h => by omega))
      have HU3 : Hid (Blk U (w.heap.size + 1 + 1) _ _) := n1
      have HN4 : Hid (Below w.heap.size w U) := n4
      rw [hY] at hU
      clear HBAD HGOOD HE hE e1 e2 e3 e4 HFIN n1 n2 n3 n4 hY
      go_wp2_with fail
      rw [← hU]
      obtain ⟨u0, u1, u2⟩ := HU3.out.three
      obtain ⟨h1, h2, h3, h4, h5⟩ := HEE.out
      rw [h1, h2, h3, h4, h5]
      exact bodyPost_ret (v := .tuple #[.agg #[.int .i64 (first + D), .slice va nv vc, .slice a1 nq c1], .bool cl, .int .i64 0]) (by simp [results, Try.results26, go_sem, u0, u1, u2]) rfl ⟨_, _, rfl, GU.out, FU.out, HN4.out⟩

theorem refStoreAdd_any (first : Int) (gv ov pv : Value) (L : List (List Fr)) (O : List Fr) (f : Fr) (w : World) (hg : GrsIn (fun _ => True) w gv L) (ho : FrsIn (fun _ => True) w ov O) (hp : StrsIn (fun _ => True) w pv f.parts) (hr : stchk first L O = 0) (hf : f.chk = 0) :
    Calls Try.prog 26 #[.agg #[.int .i64 first, gv, ov], .agg #[.int .i64 f.time, .bool f.key, pv]] w fun e w' => ∃ gv' ov', e = .returned (.tuple #[.agg #[.int .i64 (addsF first L O f), gv', ov'], .bool (addsB first L O f), .int .i64 (addsE first L O f)]) ∧ GrsIn (fun _ => True) w' gv' (addsL first L O f) ∧ FrsIn (fun _ => True) w' ov' (addsO first L O f) ∧ Below w.heap.size w w' := by
  refine (refStoreAdd_in (fun _ => True) first gv ov pv L O f w hg ho hp hr hf).mono ?_
  rintro e w' ⟨gv', ov', rfl, h1, h2, h3⟩
  exact ⟨gv', ov', rfl, h1.mono (fun _ _ _ => trivial), h2.mono (fun _ _ _ => trivial), h3⟩

end Go.Proofs.Ytgmnhbmjnllhhac

namespace Go.Proofs.Ytgmnhbmjnllhhac
open Go.RowKit

def sameSt (f f' : Int) (L L' : List (List Fr)) (O O' : List Fr) : Bool := decide (f = f') && (sameGs L L' && sameFs O O')
theorem sameSt_self (f : Int) (L : List (List Fr)) (O : List Fr) : sameSt f f L L O O = true := by simp [sameSt, sameGs, sameFs]

set_option maxHeartbeats 2000000 in
set_option maxRecDepth 100000 in
theorem sameStore_any (f f' : Int) (gv ov gv' ov' : Value) (L L' : List (List Fr)) (O O' : List Fr) (w : World) (hg : GrsIn (fun _ => True) w gv L) (ho : FrsIn (fun _ => True) w ov O) (hg' : GrsIn (fun _ => True) w gv' L') (ho' : FrsIn (fun _ => True) w ov' O') :
    Calls Try.prog 51 #[.agg #[.int .i64 f, gv, ov], .agg #[.int .i64 f', gv', ov']] w fun e w' => e = .returned (.bool (sameSt f f' L L' O O')) ∧ Below w.heap.size w w' := by
  obtain ⟨ga, gc, eg, _, _⟩ := hg.len
  obtain ⟨oa, oc, eo, _, hol⟩ := ho.len
  obtain ⟨ga', gc', eg', _, _⟩ := hg'.len
  obtain ⟨oa', oc', eo', _, _⟩ := ho'.len
  obtain ⟨ln, hln⟩ : ∃ n, n = L.length := ⟨_, rfl⟩
  obtain ⟨lo, hlo⟩ : ∃ n, n = O.length := ⟨_, rfl⟩
  obtain ⟨ln', hln'⟩ : ∃ n, n = L'.length := ⟨_, rfl⟩
  obtain ⟨lo', hlo'⟩ : ∃ n, n = O'.length := ⟨_, rfl⟩
  rw [← hln] at eg
  rw [← hlo] at eo
  rw [← hln'] at eg'
  rw [← hlo'] at eo'
  obtain ⟨X, hX⟩ : ∃ X, X = sameGs L L' := ⟨_, rfl⟩
  obtain ⟨Y, hY⟩ : ∃ Y, Y = sameFs O O' := ⟨_, rfl⟩
  obtain ⟨R, hR⟩ : ∃ R, R = sameSt f f' L L' O O' := ⟨_, rfl⟩
  have HR : Hid (R = (decide (f = f') && (X && Y))) := by show _ = _; rw [hR, hX, hY]; rfl
  have HX : Hid (∀ U, Below w.heap.size w U → Calls Try.prog 19 #[gv, gv'] U fun e w' => e = .returned (.bool X) ∧ Below U.heap.size U w') := fun U hU => by
    rw [hX]; exact sameGroups_any _ _ _ _ _ _ U (hg.below hU) (hg'.below hU)
  have HY : Hid (∀ U, Below w.heap.size w U → Calls Try.prog 11 #[ov, ov'] U fun e w' => e = .returned (.bool Y) ∧ Below U.heap.size U w') := fun U hU => by
    rw [hY]; exact sameFrames_any _ _ _ _ U (ho.below hU).frs (ho'.below hU).frs hol
  rw [← hR]
  clear hg ho hg' ho' hX hY hR hln hlo hln' hlo' hol
  subst eg eo eg' eo'
  go_enter Try.func51, Try.ntmps51
  obtain ⟨W0, hW0⟩ : ∃ W0, W0 = (w.alloc (.cells #[.int .i64 f, .slice ga ln gc, .slice oa lo oc] 51)).alloc (.cells #[.int .i64 f', .slice ga' ln' gc', .slice oa' lo' oc'] 51) := ⟨_, rfl⟩
  have HS0 : Hid (Stay W0 (fun U => Blk U w.heap.size #[.int .i64 f, .slice ga ln gc, .slice oa lo oc] 51 ∧ Blk U (w.heap.size + 1) #[.int .i64 f', .slice ga' ln' gc', .slice oa' lo' oc'] 51 ∧ Below w.heap.size w U)) := by
    have k2 := Blk.newE hW0
    simp only [World.size_alloc] at k2
    have hb : Below w.heap.size w W0 := by rw [hW0]; exact ((Below.refl _ _).alloc (Nat.le_refl _) _).alloc (by simp) _
    exact (show Blk W0 w.heap.size _ _ by rw [hW0]; exact (Blk.new _ _ _).alloc _).stay.and (k2.stay.and (below_stay hb hb.size))
  by_cases hf : f = f'
  · subst hf
    have HR2 : Hid (R = (X && Y)) := by show _ = _; rw [HR.out]; simp
    go_wp2_with fail
    rw [← hW0]
    clear hW0
    refine (HX.out _ HS0.out.now.2.2).mono ?_
    rintro e w1 ⟨rfl, b1⟩
    have HS1 := Stay.go HS0 b1
    obtain ⟨k0, k1, k2⟩ := HS1.out.now.1.three
    obtain ⟨j0, j1, j2⟩ := HS1.out.now.2.1.three
    clear b1 HS0
    cases X
    · have hr : R = false := HR2.out
      subst hr
      go_wp2_with fail
      go_ret
      exact ⟨rfl, HS1.out.now.2.2⟩
    · have hr : R = Y := by rw [HR2.out]; rfl
      subst hr
      go_wp2_with fail
      refine (HY.out _ HS1.out.now.2.2).mono ?_
      rintro e w2 ⟨rfl, b2⟩
      have HS2 := Stay.go HS1 b2
      clear b2 HS1
      go_wp2_with fail
      go_ret
      exact ⟨rfl, HS2.out.now.2.2⟩
  · have hr : R = false := by rw [HR.out]; simp [hf]
    subst hr
    have hb := HS0.out.now.2.2
    subst hW0
    go_wp2_with fail
    go_ret
    exact ⟨rfl, hb⟩

set_option maxHeartbeats 2000000 in
set_option maxRecDepth 100000 in
theorem storeIs_any (E f f' : Int) (gv ov gv' ov' : Value) (L L' : List (List Fr)) (O O' : List Fr) (w : World) (hg : GrsIn (fun _ => True) w gv L) (ho : FrsIn (fun _ => True) w ov O) (hg' : GrsIn (fun _ => True) w gv' L') (ho' : FrsIn (fun _ => True) w ov' O')
    (h0 : E = 0 → f = f' ∧ L = L' ∧ O = O') (h1 : ¬ E = 0 → f = 0 ∧ L = [] ∧ O = []) :
    Calls Try.prog 31 #[.agg #[.int .i64 f, gv, ov], .int .i64 E, .int .i64 E, .agg #[.int .i64 f', gv', ov']] w fun e w' => e = .returned (.bool true) ∧ Below w.heap.size w w' := by
  obtain ⟨ga, gc, eg, _, _⟩ := hg.len
  obtain ⟨oa, oc, eo, _, _⟩ := ho.len
  obtain ⟨ga', gc', eg', _, _⟩ := hg'.len
  obtain ⟨oa', oc', eo', _, _⟩ := ho'.len
  obtain ⟨ln, hln⟩ : ∃ n, n = L.length := ⟨_, rfl⟩
  obtain ⟨lo, hlo⟩ : ∃ n, n = O.length := ⟨_, rfl⟩
  obtain ⟨ln', hln'⟩ : ∃ n, n = L'.length := ⟨_, rfl⟩
  obtain ⟨lo', hlo'⟩ : ∃ n, n = O'.length := ⟨_, rfl⟩
  rw [← hln] at eg
  rw [← hlo] at eo
  rw [← hln'] at eg'
  rw [← hlo'] at eo'
  by_cases hE : E = 0
  · obtain ⟨e1, e2, e3⟩ := h0 hE
    have HS : Hid (∀ U, Below w.heap.size w U → Calls Try.prog 51 #[.agg #[.int .i64 f, gv, ov], .agg #[.int .i64 f', gv', ov']] U fun e w' => e = .returned (.bool true) ∧ Below U.heap.size U w') := fun U hU => by
      have := sameStore_any f f' gv ov gv' ov' L L' O O' U (hg.below hU) (ho.below hU) (hg'.below hU) (ho'.below hU)
      rw [e1, e2, e3, sameSt_self] at this
      rw [e1]
      exact this
    have HB : Hid (Below w.heap.size w ((w.alloc (.cells #[.int .i64 f, gv, ov] 51)).alloc (.cells #[.int .i64 f', gv', ov'] 51))) := ((Below.refl _ _).alloc (Nat.le_refl _) _).alloc (by simp) _
    clear hg ho hg' ho' h0 h1 e1 e2 e3 hln hlo hln' hlo'
    subst eg eo eg' eo' hE
    go_enter Try.func31, Try.ntmps31
    go_wp2_with fail
    refine (HS.out _ HB.out).mono ?_
    rintro e w1 ⟨rfl, b1⟩
    have B1 : Hid (Below w.heap.size w w1) := HB.out.trans (b1.mono HB.out.size)
    clear b1
    go_wp2_with fail
    go_ret
    exact ⟨rfl, B1.out⟩
  · obtain ⟨e1, e2, e3⟩ := h1 hE
    have HS : Hid (∀ U, Below w.heap.size w U → Calls Try.prog 51 #[.agg #[.int .i64 f, gv, ov], .agg #[.int .i64 0, .slice none 0 0, .slice none 0 0]] U fun e w' => e = .returned (.bool true) ∧ Below U.heap.size U w') := fun U hU => by
      have := sameStore_any f 0 gv ov (.slice none 0 0) (.slice none 0 0) L [] O [] U (hg.below hU) (ho.below hU) (GrsIn.nil _ _) (FrsIn.nil _ _)
      rw [e1, e2, e3, sameSt_self] at this
      rw [e1]
      exact this
    have HB : Hid (Below w.heap.size w ((w.alloc (.cells #[.int .i64 f, gv, ov] 51)).alloc (.cells #[.int .i64 0, .slice none 0 0, .slice none 0 0] 51))) := ((Below.refl _ _).alloc (Nat.le_refl _) _).alloc (by simp) _
    clear hg ho hg' ho' h0 h1 e1 e2 e3 hln hlo hln' hlo'
    subst eg eo eg' eo'
    go_enter Try.func31, Try.ntmps31
    go_wp2_with fail
    refine (HS.out _ HB.out).mono ?_
    rintro e w1 ⟨rfl, b1⟩
    have B1 : Hid (Below w.heap.size w w1) := HB.out.trans (b1.mono HB.out.size)
    clear b1
    go_wp2_with fail
    go_ret
    exact ⟨rfl, B1.out⟩

end Go.Proofs.Ytgmnhbmjnllhhac

namespace Go.Proofs.Ytgmnhbmjnllhhac
open Go.RowKit

theorem FrsIn.pair {S : Nat → Prop} {w : World} {b : Nat} {f g : Fr} {pv qv : Value} (hb : Blk w b #[.int .i64 f.time, .bool f.key, pv, .int .i64 g.time, .bool g.key, qv] 48) (hS : S b) (hp : StrsIn S w pv f.parts) (hq : StrsIn S w qv g.parts) : FrsIn S w (.slice (some ⟨b, 0, none⟩) 2 2) [f, g] := by
  refine ⟨some ⟨b, 0, none⟩, 2, rfl, Nat.le_refl _, by omega, fun k hk => ⟨b, 0, rfl, hb.lt, hS, ?_⟩⟩
  have : k = 0 ∨ k = 1 := by simp at hk; omega
  rcases this with rfl | rfl
  · exact ⟨pv, hb.cell rfl, hb.cell rfl, hb.cell rfl, hp⟩
  · exact ⟨qv, hb.cell rfl, hb.cell rfl, hb.cell rfl, hq⟩
theorem GrsIn.pair {S : Nat → Prop} {w : World} {b : Nat} {f g : List Fr} {pv qv : Value} (hb : Blk w b #[pv, qv] 35) (hS : S b) (hp : FrsIn S w pv f) (hq : FrsIn S w qv g) : GrsIn S w (.slice (some ⟨b, 0, none⟩) 2 2) [f, g] := by
  refine ⟨some ⟨b, 0, none⟩, 2, rfl, Nat.le_refl _, by omega, fun k hk => ⟨b, 0, rfl, hb.lt, hS, ?_⟩⟩
  have : k = 0 ∨ k = 1 := by simp at hk; omega
  rcases this with rfl | rfl
  · exact ⟨pv, hb.cell rfl, hp⟩
  · exact ⟨qv, hb.cell rfl, hq⟩

def picF (t : Int) (k : Bool) : Fr := ⟨t, k, [⟨#[97, 98, 99]⟩]⟩
def shelfL : List (List Fr) := [[picF 10 true, picF 12 false], [picF 20 true]]
def shelfO : List Fr := [picF 30 true]

set_option maxHeartbeats 4000000 in
set_option maxRecDepth 100000 in
theorem shelf_any (w : World) :
    Calls Try.prog 49 #[] w fun e w' => ∃ gb ob, e = .returned (.agg #[.int .i64 3, .slice (some ⟨gb, 0, none⟩) 2 2, .slice (some ⟨ob, 0, none⟩) 1 1]) ∧ GrsIn (fun _ => True) w' (.slice (some ⟨gb, 0, none⟩) 2 2) shelfL ∧ FrsIn (fun _ => True) w' (.slice (some ⟨ob, 0, none⟩) 1 1) shelfO ∧ Below w.heap.size w w' := by
  have HPIC : Hid (∀ (t : Int) (k : Bool) (U : World), Calls Try.prog 41 #[.int .i64 t, .bool k] U fun e w' => ∃ p, e = .returned (.agg #[.int .i64 t, .bool k, .slice (some ⟨p, 0, none⟩) 1 1]) ∧ Hid (StrsIn (fun g => U.heap.size ≤ g) w' (.slice (some ⟨p, 0, none⟩) 1 1) [⟨#[97, 98, 99]⟩]) ∧ Below U.heap.size U w') := fun t k U => by
    refine (pic_any t k U).mono ?_
    rintro e w' ⟨rfl, h1, h2⟩
    exact ⟨_, rfl, h1, h2⟩
  go_enter Try.func49, Try.ntmps49
  go_wp2_with fail
  obtain ⟨w0, hw0⟩ : ∃ w0, w0 = w.alloc (.cells #[.int .i64 0, .slice none 0 0, .slice none 0 0] 51) := ⟨_, rfl⟩
  have B0 : Below w.heap.size w w0 := by rw [hw0]; exact (Below.refl _ _).alloc (Nat.le_refl _) _
  have R0 : Blk w0 w.heap.size #[.int .i64 0, .slice none 0 0, .slice none 0 0] 51 := by rw [hw0]; exact Blk.new _ _ _
  rw [← hw0]
  clear hw0
  refine (HPIC.out _ _ _).mono ?_
  rintro e w1 ⟨p1, rfl, S1, b1⟩
  go_wp2_with fail
  refine (HPIC.out _ _ _).mono ?_
  rintro e w2 ⟨p2, rfl, S2, b2⟩
  go_wp2_with fail
  have z0 := R0.lt
  have s1 := b1.size
  have s2 := b2.size
  have PA : StrsIn (fun g => w.heap.size < g) w2 (.slice (some ⟨p1, 0, none⟩) 1 1) [⟨#[97, 98, 99]⟩] := (S1.out.mono fun g _ h => by omega).below b2
  have PB : StrsIn (fun g => w.heap.size < g) w2 (.slice (some ⟨p2, 0, none⟩) 1 1) [⟨#[97, 98, 99]⟩] := S2.out.mono fun g _ h => by omega
  have R2 : Blk w2 w.heap.size #[.int .i64 0, .slice none 0 0, .slice none 0 0] 51 := (R0.below b1 R0.lt).below b2 (by omega)
  have B2 : Below w.heap.size w w2 := (B0.trans (b1.mono B0.size)).trans (b2.mono (by omega))
  obtain ⟨V2, hV2⟩ : ∃ V2, V2 = w2.alloc (.cells #[.int .i64 10, .bool true, .slice (some ⟨p1, 0, none⟩) 1 1, .int .i64 12, .bool false, .slice (some ⟨p2, 0, none⟩) 1 1] 48) := ⟨_, rfl⟩
  have FA : Hid (FrsIn (fun g => w.heap.size < g) V2 (.slice (some ⟨w2.heap.size, 0, none⟩) 2 2) [picF 10 true, picF 12 false]) := by
    rw [hV2]; exact FrsIn.pair (f := picF 10 true) (g := picF 12 false) (Blk.new w2 _ _) (by omega) (PA.alloc _) (PB.alloc _)
  have RV2 : Hid (Blk V2 w.heap.size #[.int .i64 0, .slice none 0 0, .slice none 0 0] 51) := by rw [hV2]; exact R2.alloc _
  have BV2 : Hid (Below w.heap.size w V2) := by rw [hV2]; exact B2.alloc B2.size _
  rw [← hV2]
  have sV2 : w2.heap.size < V2.heap.size := by rw [hV2]; simp
  clear hV2 PA PB R2 B2 S1 S2 b1 b2 R0 B0
  refine (HPIC.out _ _ _).mono ?_
  rintro e w3 ⟨p3, rfl, S3, b3⟩
  go_wp2_with fail
  have s3 := b3.size
  obtain ⟨V3, hV3⟩ : ∃ V3, V3 = (w3.alloc (.cells #[.int .i64 20, .bool true, .slice (some ⟨p3, 0, none⟩) 1 1] 48)).alloc (.cells #[.slice (some ⟨w2.heap.size, 0, none⟩) 2 2, .slice (some ⟨w3.heap.size, 0, none⟩) 1 1] 35) := ⟨_, rfl⟩
  have GV : Hid (GrsIn (fun g => w.heap.size < g) V3 (.slice (some ⟨w3.heap.size + 1, 0, none⟩) 2 2) shelfL) := by
    have hone : FrsIn (fun g => w.heap.size < g) (w3.alloc (.cells #[.int .i64 20, .bool true, .slice (some ⟨p3, 0, none⟩) 1 1] 48)) (.slice (some ⟨w3.heap.size, 0, none⟩) 1 1) [picF 20 true] := FrsIn.one (f := picF 20 true) (Blk.new w3 _ _) (by omega) ((S3.out.mono fun g _ h => (by omega)).alloc _)
    have hb : Blk V3 (w3.heap.size + 1) #[.slice (some ⟨w2.heap.size, 0, none⟩) 2 2, .slice (some ⟨w3.heap.size, 0, none⟩) 1 1] 35 := by
      have := Blk.new (w3.alloc (.cells #[.int .i64 20, .bool true, .slice (some ⟨p3, 0, none⟩) 1 1] 48)) #[.slice (some ⟨w2.heap.size, 0, none⟩) 2 2, .slice (some ⟨w3.heap.size, 0, none⟩) 1 1] 35
      rw [hV3]; simpa using this
    exact GrsIn.pair hb (by omega) (by rw [hV3]; exact ((FA.out.below b3).alloc _).alloc _) (by rw [hV3]; exact hone.alloc _)
  have RV3 : Hid (Blk V3 w.heap.size #[.int .i64 0, .slice none 0 0, .slice none 0 0] 51) := by rw [hV3]; exact ((RV2.out.below b3 RV2.out.lt).alloc _).alloc _
  have BV3 : Hid (Below w.heap.size w V3) := by
    have h := BV2.out.trans (b3.mono BV2.out.size)
    rw [hV3]; exact (h.alloc h.size _).alloc (by have := h.size; simp; omega) _
  rw [← hV3]
  clear hV3 S3 b3 FA RV2 BV2
  refine (HPIC.out _ _ _).mono ?_
  rintro e w4 ⟨p4, rfl, S4, b4⟩
  have s4 := b4.size
  have r4 := RV3.out.lt
  have RW4 := RV3.out.below b4 RV3.out.lt
  obtain ⟨r0, r1, r2⟩ := RW4.three
  have fr := RW4.free
  have hlw : w.heap.size < w4.heap.size := RW4.lt
  have B4 : Below w.heap.size w w4 := BV3.out.trans (b4.mono BV3.out.size)
  obtain ⟨X, hX⟩ : ∃ X, X = ((w4.setCell ⟨w.heap.size, 0, none⟩ (.int .i64 3)).setCell ⟨w.heap.size, 1, none⟩ (.slice (some ⟨w3.heap.size + 1, 0, none⟩) 2 2)).setCell ⟨w.heap.size, 2, none⟩ (.slice (some ⟨w4.heap.size, 0, none⟩) 1 1) := ⟨_, rfl⟩
  have KX : Blk X w.heap.size #[.int .i64 3, .slice (some ⟨w3.heap.size + 1, 0, none⟩) 2 2, .slice (some ⟨w4.heap.size, 0, none⟩) 1 1] 51 := by
    rw [hX]; exact ((RW4.set 0 (.int .i64 3)).set 1 (.slice (some ⟨w3.heap.size + 1, 0, none⟩) 2 2)).set 2 (.slice (some ⟨w4.heap.size, 0, none⟩) 1 1)
  have hXo : ∀ g, g ≠ w.heap.size → X.heap[g]? = w4.heap[g]? := fun g hg => by
    rw [hX, Below.heap_setCell _ _ _ _ (by exact hg), Below.heap_setCell _ _ _ _ (by exact hg), Below.heap_setCell _ _ _ _ (by exact hg)]
  have hXs : X.heap.size = w4.heap.size := by rw [hX]; simp
  have BX : Below w.heap.size w X := by
    rw [hX]; exact ((B4.setCell (Nat.le_refl _) _).setCell (Nat.le_refl _) _).setCell (Nat.le_refl _) _
  obtain ⟨V5, hV5⟩ : ∃ V5, V5 = X.alloc (.cells #[.int .i64 30, .bool true, .slice (some ⟨p4, 0, none⟩) 1 1] 48) := ⟨_, rfl⟩
  have KV : Blk V5 w.heap.size #[.int .i64 3, .slice (some ⟨w3.heap.size + 1, 0, none⟩) 2 2, .slice (some ⟨w4.heap.size, 0, none⟩) 1 1] 51 := by rw [hV5]; exact KX.alloc _
  have G5 : Hid (GrsIn (fun _ => True) V5 (.slice (some ⟨w3.heap.size + 1, 0, none⟩) 2 2) shelfL) := by
    rw [hV5]
    exact GrsIn.alloc ((GV.out.below b4).to (S' := fun _ => True) ⟨by omega, fun g _ hg => hXo g (by omega)⟩ (fun _ _ _ => trivial)) _
  have O5 : Hid (FrsIn (fun _ => True) V5 (.slice (some ⟨w4.heap.size, 0, none⟩) 1 1) shelfO) := by
    have hn : Blk V5 w4.heap.size #[.int .i64 30, .bool true, .slice (some ⟨p4, 0, none⟩) 1 1] 48 := by
      rw [hV5, ← hXs]; exact Blk.new _ _ _
    have hs : StrsIn (fun _ => True) V5 (.slice (some ⟨p4, 0, none⟩) 1 1) [⟨#[97, 98, 99]⟩] := by
      rw [hV5]
      exact StrsIn.alloc (S4.out.to (S' := fun _ => True) ⟨by omega, fun g _ hg => hXo g (by omega)⟩ (fun _ _ _ => trivial)) _
    exact FrsIn.one (f := picF 30 true) hn trivial hs
  have B5 : Hid (Below w.heap.size w V5) := by rw [hV5]; exact BX.alloc BX.size _
  obtain ⟨c0, c1, c2⟩ := KV.three
  rw [hX] at hV5
  clear hX hXo hXs KV KX BX B4 RW4 b4 S4 GV RV3 BV3
  go_wp2_with fail
  rw [← hV5]
  exact bodyPost_ret (v := .agg #[.int .i64 3, .slice (some ⟨w3.heap.size + 1, 0, none⟩) 2 2, .slice (some ⟨w4.heap.size, 0, none⟩) 1 1]) (by simp [results, Try.results49, go_sem, c0, c1, c2]) rfl ⟨_, _, rfl, G5.out, O5.out, B5.out⟩

end Go.Proofs.Ytgmnhbmjnllhhac

namespace Go.Proofs.Ytgmnhbmjnllhhac

theorem shelf_chk : stchk 3 shelfL shelfO = 0 := by kernel_rfl
theorem shelf_addE : addsE 3 shelfL shelfO (picF 40 true) = 0 := by kernel_rfl
theorem shelf_addB : addsB 3 shelfL shelfO (picF 40 true) = true := by kernel_rfl
theorem shelf_addL : (addsL 3 shelfL shelfO (picF 40 true)).length = 3 := by kernel_rfl
theorem shelf_seekE : seekE 3 shelfL shelfO 25 = 0 := by kernel_rfl
theorem shelf_seekN : seekN 3 shelfL shelfO 25 = 4 := by kernel_rfl
theorem shelf_get5E : getE 3 shelfL shelfO 5 = 0 := by kernel_rfl
theorem shelf_get5G : getG 3 shelfL shelfO 5 = shelfO := by kernel_rfl
theorem shelf_get6E : getE 3 shelfL shelfO 6 = 5 := by kernel_rfl
theorem shelf_get6G : getG 3 shelfL shelfO 6 = [] := by kernel_rfl

end Go.Proofs.Ytgmnhbmjnllhhac

namespace Go.Proofs.Ytgmnhbmjnllhhac
open Go.RowKit

theorem heldB {W X Y : World} {a b : Addr} {u v : Value} (h : X.cell? a = some u ∧ X.cell? b = some v ∧ Below W.heap.size W X) (k : Below X.heap.size X Y) : Y.cell? a = some u ∧ Y.cell? b = some v ∧ Below W.heap.size W Y :=
  ⟨(k.cell (block_lt_of_cell h.1)).trans h.1, (k.cell (block_lt_of_cell h.2.1)).trans h.2.1, h.2.2.trans (k.mono h.2.2.size)⟩

set_option maxHeartbeats 8000000 in
set_option maxRecDepth 100000 in
theorem storeBegun_any (w : World) :
    Calls Try.prog 29 #[] w fun e w' => e = .returned (.bool true) ∧ Below w.heap.size w w' := by
  have HSH : Hid (∀ U : World, Calls Try.prog 49 #[] U fun e w' => ∃ gb ob, e = .returned (.agg #[.int .i64 3, .slice (some ⟨gb, 0, none⟩) 2 2, .slice (some ⟨ob, 0, none⟩) 1 1]) ∧ Hid (GrsIn (fun _ => True) w' (.slice (some ⟨gb, 0, none⟩) 2 2) shelfL) ∧ Hid (FrsIn (fun _ => True) w' (.slice (some ⟨ob, 0, none⟩) 1 1) shelfO) ∧ Below U.heap.size U w') := shelf_any
  go_enter Try.func29, Try.ntmps29
  go_wp2_with fail
  refine (HSH.out _).mono ?_
  rintro e w1 ⟨g1, o1, rfl, G1, O1, b1⟩
  go_wp2_with fail
  refine (pic_any _ _ _).mono ?_
  rintro e w2 ⟨rfl, S2, b2⟩
  go_wp2_with fail
  have A1 := storeAdd_any 3 (.slice (some ⟨g1, 0, none⟩) 2 2) (.slice (some ⟨o1, 0, none⟩) 1 1) (.slice (some ⟨w1.heap.size + 1, 0, none⟩) 1 1) shelfL shelfO (picF 40 true) w2 (G1.out.below b2) (O1.out.below b2) (S2.mono fun _ _ _ => trivial)
  rw [shelf_addE, shelf_addB] at A1
  refine A1.mono ?_
  rintro e w3 ⟨gv, ov, rfl, hgv, hov, b3⟩
  obtain ⟨va, vc, ev, _, _⟩ := hgv.len
  rw [shelf_addL] at ev
  obtain ⟨qa, qc, eq, _, _⟩ := hov.len
  subst ev eq
  obtain ⟨F, hF⟩ : ∃ F, F = addsF 3 shelfL shelfO (picF 40 true) := ⟨_, rfl⟩
  obtain ⟨nq, hnq⟩ : ∃ n, n = (addsO 3 shelfL shelfO (picF 40 true)).length := ⟨_, rfl⟩
  rw [← hF, ← hnq]
  clear hF hgv hov A1 hnq
  have B3 : Below w.heap.size w w3 := (b1.trans (b2.mono b1.size)).trans (b3.mono (by have := b1.size; have := b2.size; omega))
  obtain ⟨W4, hW4⟩ : ∃ W4, W4 = w3.alloc (.cells #[.int .i64 F, .slice va 3 vc, .slice qa nq qc] 51) := ⟨_, rfl⟩
  have K4 : Hid (Blk W4 w3.heap.size #[.int .i64 F, .slice va 3 vc, .slice qa nq qc] 51) := by rw [hW4]; exact Blk.new _ _ _
  have B4 : Hid (Below w.heap.size w W4) := by rw [hW4]; exact B3.alloc B3.size _
  clear b1 b2 b3 B3 G1 O1 S2
  go_wp2_with fail
  rw [← hW4]
  clear hW4
  refine (HSH.out _).mono ?_
  rintro e w5 ⟨g5, o5, rfl, G5, O5, b5⟩
  have K5 : Hid (Blk w5 w3.heap.size #[.int .i64 F, .slice va 3 vc, .slice qa nq qc] 51) := K4.out.below b5 K4.out.lt
  have B5 : Hid (Below w.heap.size w w5) := B4.out.trans (b5.mono B4.out.size)
  clear b5 K4 B4
  have A5 := storeSeek_any 3 (.slice (some ⟨g5, 0, none⟩) 2 2) (.slice (some ⟨o5, 0, none⟩) 1 1) shelfL shelfO 25 w5 G5.out O5.out
  rw [shelf_seekE, shelf_seekN] at A5
  go_wp2_with fail
  refine A5.mono ?_
  rintro e w6 ⟨rfl, b6⟩
  have K6 : Hid (Blk w6 w3.heap.size #[.int .i64 F, .slice va 3 vc, .slice qa nq qc] 51) := K5.out.below b6 K5.out.lt
  have B6 : Hid (Below w.heap.size w w6) := B5.out.trans (b6.mono B5.out.size)
  clear b6 K5 B5 A5 G5 O5
  go_wp2_with fail
  refine (HSH.out _).mono ?_
  rintro e w7 ⟨g7, o7, rfl, G7, O7, b7⟩
  have A7 := storeGet_any 3 (.slice (some ⟨g7, 0, none⟩) 2 2) (.slice (some ⟨o7, 0, none⟩) 1 1) shelfL shelfO 5 w7 G7.out O7.out (by omega)
  rw [shelf_get5E, shelf_get5G, show shelfO.length = 1 from rfl] at A7
  have K7 : Hid (Blk w7 w3.heap.size #[.int .i64 F, .slice va 3 vc, .slice qa nq qc] 51) := K6.out.below b7 K6.out.lt
  have B7 : Hid (Below w.heap.size w w7) := B6.out.trans (b7.mono B6.out.size)
  clear b7 K6 B6
  go_wp2_with fail
  refine A7.mono ?_
  rintro e w8 ⟨a8, c8, rfl, F8, b8⟩
  obtain ⟨W9, hW9⟩ : ∃ W9, W9 = w8.alloc (.cells #[.slice a8 1 c8] 35) := ⟨_, rfl⟩
  have bb9 : Below w7.heap.size w7 W9 := by rw [hW9]; exact b8.alloc b8.size _
  have K9 : Hid (Blk W9 w3.heap.size #[.int .i64 F, .slice va 3 vc, .slice qa nq qc] 51) := K7.out.below bb9 K7.out.lt
  have J9 : Hid (Blk W9 w8.heap.size #[.slice a8 1 c8] 35) := by rw [hW9]; exact Blk.new _ _ _
  have F9 : Hid (FrsIn (fun _ => True) W9 (.slice a8 1 c8) shelfO) := by rw [hW9]; exact F8.alloc _
  have B9 : Hid (Below w.heap.size w W9) := B7.out.trans (bb9.mono B7.out.size)
  clear b8 bb9 K7 B7 A7 G7 O7 F8
  go_wp2_with fail
  rw [← hW9]
  clear hW9
  refine (HSH.out _).mono ?_
  rintro e w10 ⟨g10, o10, rfl, G10, O10, b10⟩
  have A10 := storeGet_any 3 (.slice (some ⟨g10, 0, none⟩) 2 2) (.slice (some ⟨o10, 0, none⟩) 1 1) shelfL shelfO 6 w10 G10.out O10.out (by omega)
  rw [shelf_get6E, shelf_get6G, show ([] : List Fr).length = 0 from rfl] at A10
  have K10 : Hid (Blk w10 w3.heap.size #[.int .i64 F, .slice va 3 vc, .slice qa nq qc] 51) := K9.out.below b10 K9.out.lt
  have J10 : Hid (Blk w10 w8.heap.size #[.slice a8 1 c8] 35) := J9.out.below b10 J9.out.lt
  have F10 : Hid (FrsIn (fun _ => True) w10 (.slice a8 1 c8) shelfO) := F9.out.below b10
  have B10 : Hid (Below w.heap.size w w10) := B9.out.trans (b10.mono B9.out.size)
  clear b10 K9 J9 F9 B9
  go_wp2_with fail
  refine A10.mono ?_
  rintro e w11 ⟨a11, c11, rfl, _, b11⟩
  obtain ⟨W, hW⟩ : ∃ W, W = w11.alloc (.cells #[.slice a11 0 c11] 35) := ⟨_, rfl⟩
  have bW : Below w10.heap.size w10 W := by rw [hW]; exact b11.alloc b11.size _
  have KW : Hid (Blk W w3.heap.size #[.int .i64 F, .slice va 3 vc, .slice qa nq qc] 51) := K10.out.below bW K10.out.lt
  have JW : Hid (Blk W w8.heap.size #[.slice a8 1 c8] 35) := J10.out.below bW J10.out.lt
  have FW : Hid (FrsIn (fun _ => True) W (.slice a8 1 c8) shelfO) := F10.out.below bW
  have BW : Hid (Below w.heap.size w W) := B10.out.trans (bW.mono B10.out.size)
  clear b11 bW K10 J10 F10 B10 A10 G10 O10
  go_wp2_with fail
  rw [← hW]
  clear hW
  obtain ⟨k0, k1, k2⟩ := KW.out.three
  have j0 := JW.out.one
  have HCK : Hid (∀ (U : World) (gb ob : Nat), GrsIn (fun _ => True) U (.slice (some ⟨gb, 0, none⟩) 2 2) shelfL → FrsIn (fun _ => True) U (.slice (some ⟨ob, 0, none⟩) 1 1) shelfO → Calls Try.prog 30 #[.agg #[.int .i64 3, .slice (some ⟨gb, 0, none⟩) 2 2, .slice (some ⟨ob, 0, none⟩) 1 1]] U fun e w' => e = .returned (.int .i64 0) ∧ Below U.heap.size U w') := fun U gb ob h1 h2 => by
    have := storeCheck_any _ 3 _ _ shelfL shelfO U h1 h2
    rw [shelf_chk] at this
    exact this
  have hfd : ∀ (g o : Nat) (U : World), (Instr.field 51 (.agg #[.int .i64 3, .slice (some ⟨g, 0, none⟩) 2 2, .slice (some ⟨o, 0, none⟩) 1 1]) 2).run Try.prog U = .ok (.agg #[.slice (some ⟨o, 0, none⟩) 1 1]) U := fun g o U => by kernel_rfl
  have hfe : ∀ (o : Nat) (U : World), (Instr.field 35 (.agg #[.slice (some ⟨o, 0, none⟩) 1 1]) 0).run Try.prog U = .ok (.slice (some ⟨o, 0, none⟩) 1 1) U := fun o U => by kernel_rfl
  have HSF : Hid (∀ (U : World) (o : Nat), (U.cell? ⟨w3.heap.size, 1, none⟩ = some (.slice va 3 vc) ∧ U.cell? ⟨w8.heap.size, 0, none⟩ = some (.slice a8 1 c8) ∧ Below W.heap.size W U) → FrsIn (fun _ => True) U (.slice (some ⟨o, 0, none⟩) 1 1) shelfO → Calls Try.prog 11 #[.slice a8 1 c8, .slice (some ⟨o, 0, none⟩) 1 1] U fun e w' => e = .returned (.bool true) ∧ Below U.heap.size U w') := fun U o h1 h2 => by
    have := sameFrames_any _ _ _ _ U (FW.out.below h1.2.2).frs h2.frs (by show 1 ≤ _; omega)
    rw [show sameFs shelfO shelfO = true from decide_eq_true rfl] at this
    exact this
  go_region_held3 (fun w' => w'.cell? ⟨w3.heap.size, 1, none⟩ = some (.slice va 3 vc) ∧ w'.cell? ⟨w8.heap.size, 0, none⟩ = some (.slice a8 1 c8) ∧ Below W.heap.size W w') (first | exact ⟨k1, j0, Below.drew (Below.refl _ _)⟩ | exact heldB (by assumption) (by assumption) | (refine heldB ?_ ?_ <;> assumption))
    (first
      | (go_at_call 49; refine (HSH.out _).mono ?_; rintro e w12 ⟨g12, o12, rfl, G12, O12, b12⟩)
      | (go_at_call 30; refine (HCK.out _ _ _ G12.out O12.out).mono ?_; rintro e w13 ⟨rfl, b13⟩)
      | (go_at_call 11; refine (HSF.out _ _ (by assumption) O12.out).mono ?_; rintro e w14 ⟨rfl, b14⟩))
  have hS : w14.cell? ⟨w3.heap.size, 1, none⟩ = some (.slice va 3 vc) ∧ w14.cell? ⟨w8.heap.size, 0, none⟩ = some (.slice a8 1 c8) ∧ Below W.heap.size W w14 := by assumption
  have B14 : Hid (Below w.heap.size w w14) := BW.out.trans (hS.2.2.mono BW.out.size)
  clear hS
  go_wp2_with fail
  go_ret
  exact ⟨rfl, B14.out⟩

end Go.Proofs.Ytgmnhbmjnllhhac

namespace Go.Proofs.Ytgmnhbmjnllhhac
open Go.RowKit

set_option maxHeartbeats 16000000 in
set_option maxRecDepth 100000 in
theorem storeTells_any (first : Int) (gv ov pv : Value) (L : List (List Fr)) (O : List Fr) (f : Fr) (t n : Int) (w : World) (hg : GrsIn (fun _ => True) w gv L) (ho : FrsIn (fun _ => True) w ov O) (hp : StrsIn (fun _ => True) w pv f.parts) (hnb : n ≤ 9223372036854775807) :
    Calls Try.prog 7 #[.agg #[.int .i64 first, gv, ov], .agg #[.int .i64 f.time, .bool f.key, pv], .int .i64 t, .int .i64 n] w fun e w' => e = .returned (.bool true) ∧ Below w.heap.size w w' := by
  obtain ⟨ga, gc, eg, _, _⟩ := hg.len
  obtain ⟨oa, oc, eo, _, _⟩ := ho.len
  obtain ⟨pa, pc, ep⟩ := hp.1.len
  obtain ⟨ln, hln⟩ : ∃ n, n = L.length := ⟨_, rfl⟩
  obtain ⟨lo, hlo⟩ : ∃ n, n = O.length := ⟨_, rfl⟩
  obtain ⟨pn, hpn⟩ : ∃ n, n = f.parts.length := ⟨_, rfl⟩
  rw [← hln] at eg
  rw [← hlo] at eo
  rw [← hpn] at ep
  obtain ⟨ft, hft⟩ : ∃ t, t = f.time := ⟨_, rfl⟩
  obtain ⟨fk, hfk⟩ : ∃ t, t = f.key := ⟨_, rfl⟩
  obtain ⟨E1, hE1⟩ : ∃ E, E = addsE first L O f := ⟨_, rfl⟩
  obtain ⟨F1, hF1⟩ : ∃ E, E = addsF first L O f := ⟨_, rfl⟩
  obtain ⟨L1, hL1⟩ : ∃ E, E = addsL first L O f := ⟨_, rfl⟩
  obtain ⟨O1, hO1⟩ : ∃ E, E = addsO first L O f := ⟨_, rfl⟩
  obtain ⟨B1, hB1⟩ : ∃ E, E = addsB first L O f := ⟨_, rfl⟩
  obtain ⟨nA, hnA⟩ : ∃ n, n = L1.length := ⟨_, rfl⟩
  obtain ⟨nO, hnO⟩ : ∃ n, n = O1.length := ⟨_, rfl⟩
  obtain ⟨E2, hE2⟩ : ∃ E, E = seekE first L O t := ⟨_, rfl⟩
  obtain ⟨N2, hN2⟩ : ∃ E, E = seekN first L O t := ⟨_, rfl⟩
  obtain ⟨E3, hE3⟩ : ∃ E, E = getE first L O n := ⟨_, rfl⟩
  obtain ⟨G3, hG3⟩ : ∃ E, E = getG first L O n := ⟨_, rfl⟩
  obtain ⟨nG, hnG⟩ : ∃ n, n = G3.length := ⟨_, rfl⟩
  obtain ⟨U, hU⟩ : ∃ E, E = stchk first L O := ⟨_, rfl⟩
  obtain ⟨Z, hZ⟩ : ∃ E, E = f.chk := ⟨_, rfl⟩
  obtain ⟨A, hA⟩ : ∃ E, E = allG L O := ⟨_, rfl⟩
  obtain ⟨q, hq⟩ : ∃ n, n = A.length := ⟨_, rfl⟩
  obtain ⟨V, hV⟩ : ∃ E : Int, E = if U = 0 then Z else U := ⟨_, rfl⟩
  obtain ⟨C, hC⟩ : ∃ b : Bool, b = decide (U = 0 ∧ (t < 0 ∨ 1000000 < t)) := ⟨_, rfl⟩
  obtain ⟨X, hX⟩ : ∃ E : Int, E = if C then 3 else U := ⟨_, rfl⟩
  have HADD : Hid (∀ U : World, Below w.heap.size w U → Calls Try.prog 21 #[.agg #[.int .i64 first, gv, ov], .agg #[.int .i64 ft, .bool fk, pv]] U fun e w' => ∃ va vc qa qc, e = .returned (.tuple #[.agg #[.int .i64 F1, .slice va nA vc, .slice qa nO qc], .bool B1, .int .i64 E1]) ∧ Hid (GrsIn (fun _ => True) w' (.slice va nA vc) L1) ∧ Hid (FrsIn (fun _ => True) w' (.slice qa nO qc) O1) ∧ Below U.heap.size U w') := fun U hU => by
    rw [hft, hfk]
    refine (storeAdd_any first gv ov pv L O f U (hg.below hU) (ho.below hU) (hp.below hU)).mono ?_
    rintro e w' ⟨gv', ov', rfl, h1, h2, h3⟩
    rw [← hL1] at h1
    rw [← hO1] at h2
    obtain ⟨va, vc, ev, _, _⟩ := h1.len
    obtain ⟨qa, qc, eq, _, _⟩ := h2.len
    rw [← hnA] at ev
    rw [← hnO] at eq
    subst ev eq
    rw [← hE1, ← hF1, ← hB1]
    exact ⟨va, vc, qa, qc, rfl, h1, h2, h3⟩
  have HSEEK : Hid (∀ U : World, Below w.heap.size w U → Calls Try.prog 22 #[.agg #[.int .i64 first, gv, ov], .int .i64 t] U fun e w' => e = .returned (.tuple #[.int .i64 N2, .int .i64 E2]) ∧ Below U.heap.size U w') := fun U hU => by
    rw [hN2, hE2]; exact storeSeek_any first gv ov L O t U (hg.below hU) (ho.below hU)
  have HGET : Hid (∀ U : World, Below w.heap.size w U → Calls Try.prog 23 #[.agg #[.int .i64 first, gv, ov], .int .i64 n] U fun e w' => ∃ a c, e = .returned (.tuple #[.agg #[.slice a nG c], .int .i64 E3]) ∧ Hid (FrsIn (fun _ => True) w' (.slice a nG c) G3) ∧ Below U.heap.size U w') := fun U hU => by
    rw [hnG, hG3, hE3]; exact storeGet_any first gv ov L O n U (hg.below hU) (ho.below hU) hnb
  have HCKR : Hid (∀ W : World, Below w.heap.size w W → Calls Try.prog 24 #[.agg #[.int .i64 first, gv, ov]] W fun e w' => e = .returned (.int .i64 U) ∧ Below W.heap.size W w') := fun W hW => by
    rw [hU]; exact refCheckStore_any _ first gv ov L O W (hg.below hW) (ho.below hW)
  have HCK : Hid (∀ W : World, Below w.heap.size w W → Calls Try.prog 30 #[.agg #[.int .i64 first, gv, ov]] W fun e w' => e = .returned (.int .i64 U) ∧ Below W.heap.size W w') := fun W hW => by
    rw [hU]; exact storeCheck_any _ first gv ov L O W (hg.below hW) (ho.below hW)
  have HCF : Hid (∀ W : World, Below w.heap.size w W → Calls Try.prog 25 #[.agg #[.int .i64 ft, .bool fk, pv]] W fun e w' => e = .returned (.int .i64 Z) ∧ Below W.heap.size W w') := fun W hW => by
    rw [hZ, hft, hfk]; exact refCheckFrame_any _ _ _ _ _ (hp.below hW).1 hp.2.1
  have HRADD : Hid (V = 0 → ∀ W : World, Below w.heap.size w W → Calls Try.prog 26 #[.agg #[.int .i64 first, gv, ov], .agg #[.int .i64 ft, .bool fk, pv]] W fun e w' => ∃ va vc qa qc, e = .returned (.tuple #[.agg #[.int .i64 F1, .slice va nA vc, .slice qa nO qc], .bool B1, .int .i64 E1]) ∧ Hid (GrsIn (fun g => g < w.heap.size ∨ W.heap.size ≤ g) w' (.slice va nA vc) L1) ∧ Hid (FrsIn (fun g => g < w.heap.size ∨ W.heap.size ≤ g) w' (.slice qa nO qc) O1) ∧ Below W.heap.size W w') := fun hv W hW => by
    have h12 : stchk first L O = 0 ∧ f.chk = 0 := by
      rw [hV] at hv
      by_cases h : U = 0
      · rw [if_pos h] at hv; exact ⟨by rw [← hU]; exact h, by rw [← hZ]; exact hv⟩
      · rw [if_neg h] at hv; exact absurd hv h
    rw [hft, hfk]
    refine (refStoreAdd_in (fun g => g < w.heap.size) first gv ov pv L O f W ((hg.mono fun g h _ => h).below hW) ((ho.mono fun g h _ => h).below hW) ((hp.mono fun g h _ => h).below hW) h12.1 h12.2).mono ?_
    rintro e w' ⟨gv', ov', rfl, h1, h2, h3⟩
    rw [← hL1] at h1
    rw [← hO1] at h2
    obtain ⟨va, vc, ev, _, _⟩ := h1.len
    obtain ⟨qa, qc, eq, _, _⟩ := h2.len
    rw [← hnA] at ev
    rw [← hnO] at eq
    subst ev eq
    rw [← hE1, ← hF1, ← hB1]
    exact ⟨va, vc, qa, qc, rfl, h1, h2, h3⟩
  have HVB : Hid (¬ V = 0 → E1 = V ∧ F1 = 0 ∧ L1 = [] ∧ O1 = [] ∧ B1 = false ∧ nA = 0 ∧ nO = 0) := fun h => by
    have e : E1 = V := by
      rw [hE1]; unfold addsE
      rw [hV] at h ⊢
      rw [← hU, ← hZ]
      by_cases h0 : U = 0
      · rw [if_pos h0] at h ⊢; rw [if_pos h0, if_neg h]
      · rw [if_neg h0] at h ⊢; rw [if_neg h0]
    obtain ⟨b1, b2, b3, b4⟩ := addsE_bad (first := first) (L := L) (O := O) (f := f) (by rw [← hE1, e]; exact h)
    refine ⟨e, by rw [hF1, b1], by rw [hL1, b2], by rw [hO1, b3], by rw [hB1, b4], by rw [hnA, hL1, b2]; rfl, by rw [hnO, hO1, b3]; rfl⟩
  have HRS : Hid (X = 0 → ∀ W : World, Below w.heap.size w W → Calls Try.prog 27 #[.agg #[.int .i64 first, gv, ov], .int .i64 t] W fun e w' => e = .returned (.tuple #[.int .i64 N2, .bool (decide (0 < q))]) ∧ Below W.heap.size W w') := fun hx W hW => by
    rw [hX, hC] at hx
    by_cases hc : U = 0 ∧ (t < 0 ∨ 1000000 < t)
    · rw [decide_eq_true hc, if_pos rfl] at hx; cases hx
    · rw [decide_eq_false hc, if_neg (by decide)] at hx
      have hr : stchk first L O = 0 := by rw [← hU]; exact hx
      have := seekOf_any first gv ov L O t W (hg.below hW) (ho.below hW) hr
      rw [← hA, ← hq] at this
      have he : seekE first L O t = if q = 0 then 5 else 0 := by
        unfold seekE; rw [if_pos hr, if_neg (by omega), if_neg (by omega), ← hA, ← hq]
      have hN : N2 = if q = 0 then 0 else first + seekI A t (q - 1) := by
        rw [hN2]; unfold seekN
        rw [he, ← hA, ← hq]
        by_cases h0 : q = 0
        · rw [if_pos h0, if_pos h0, if_neg (by decide)]
        · rw [if_neg h0, if_neg h0, if_pos rfl]
      rw [hN]
      exact this
  have HXB : Hid ((¬ X = 0 → E2 = X ∧ N2 = 0) ∧ (X = 0 → (q = 0 → E2 = 5) ∧ (¬ q = 0 → E2 = 0))) := by
    constructor
    · intro h
      have e : E2 = X := by
        rw [hE2]; unfold seekE
        rw [hX] at h ⊢
        rw [← hU]
        by_cases h0 : U = 0
        · rw [if_pos h0]
          by_cases h1 : t < 0
          · rw [if_pos h1, hC, decide_eq_true ⟨h0, .inl h1⟩]; rfl
          · rw [if_neg h1]
            by_cases h2 : 1000000 < t
            · rw [if_pos h2, hC, decide_eq_true ⟨h0, .inr h2⟩]; rfl
            · rw [hC, decide_eq_false (by omega), if_neg (by decide)] at h; exact absurd h0 h
        · rw [if_neg h0, hC, decide_eq_false (fun h => h0 h.1)]; rfl
      exact ⟨e, by rw [hN2]; unfold seekN; rw [← hE2, e, if_neg h]⟩
    · intro hx
      rw [hX, hC] at hx
      by_cases hc : U = 0 ∧ (t < 0 ∨ 1000000 < t)
      · rw [decide_eq_true hc, if_pos rfl] at hx; cases hx
      · rw [decide_eq_false hc, if_neg (by decide)] at hx
        have hr : stchk first L O = 0 := by rw [← hU]; exact hx
        refine ⟨fun h => ?_, fun h => ?_⟩
        · rw [hE2]; unfold seekE; rw [if_pos hr, if_neg (by omega), if_neg (by omega), ← hA, ← hq, if_pos h]
        · rw [hE2]; unfold seekE; rw [if_pos hr, if_neg (by omega), if_neg (by omega), ← hA, ← hq, if_neg h]
  have HALL : Hid (U = 0 → ∀ W : World, Below w.heap.size w W → Calls Try.prog 28 #[.agg #[.int .i64 first, gv, ov]] W fun e w' => ∃ a c, e = .returned (.slice a q c) ∧ Hid (GrsIn (fun g => g < w.heap.size ∨ W.heap.size ≤ g) w' (.slice a q c) A) ∧ Below W.heap.size W w') := fun h0 W hW => by
    have hr : stchk first L O = 0 := by rw [← hU]; exact h0
    obtain ⟨_, _, h3, _⟩ := stchk_zero.1 hr
    refine (allOf_in (fun g => g < w.heap.size) first gv ov L O W ((hg.mono fun g h _ => h).below hW) ((ho.mono fun g h _ => h).below hW) (by omega)).mono ?_
    rintro e w' ⟨v', rfl, h4, h5⟩
    rw [← hA] at h4
    obtain ⟨a, c, e, _, _⟩ := h4.len
    rw [← hq] at e
    subst e
    exact ⟨a, c, rfl, h4, h5⟩
  have HUB : Hid ((¬ U = 0 → E3 = U ∧ G3 = [] ∧ nG = 0) ∧ (U = 0 → 0 ≤ first ∧ first ≤ 100000 ∧ q ≤ 6 ∧ (n < first → E3 = 5 ∧ G3 = [] ∧ nG = 0) ∧ (first + q ≤ n → E3 = 5 ∧ G3 = [] ∧ nG = 0) ∧ (∀ d : Nat, n = first + d → d < q → E3 = 0 ∧ G3 = grAt A d))) := by
    constructor
    · intro h
      have e : E3 = U := by rw [hE3]; unfold getE; rw [← hU, if_neg h]
      have e2 : G3 = [] := by rw [hG3]; unfold getG; rw [← hE3, e, if_neg h]
      exact ⟨e, e2, by rw [hnG, e2]; rfl⟩
    · intro h
      have hr : stchk first L O = 0 := by rw [← hU]; exact h
      obtain ⟨h1, h2, h3, _⟩ := stchk_zero.1 hr
      refine ⟨h1, h2, by rw [hq, hA]; exact allG_len L O h3, fun h4 => ?_, fun h4 => ?_, fun d h4 h5 => ?_⟩
      · obtain ⟨u1, u2⟩ := getE_out hr (.inl h4)
        exact ⟨by rw [hE3, u1], by rw [hG3, u2], by rw [hnG, hG3, u2]; rfl⟩
      · obtain ⟨u1, u2⟩ := getE_out hr (n := n) (.inr (by rw [← hA, ← hq]; exact h4))
        exact ⟨by rw [hE3, u1], by rw [hG3, u2], by rw [hnG, hG3, u2]; rfl⟩
      · obtain ⟨u1, u2⟩ := getE_in hr h4 (by rw [← hA, ← hq]; exact h5)
        exact ⟨by rw [hE3, u1], by rw [hG3, u2, hA]⟩
  have HFIN : Hid (¬ E1 = 0 → F1 = 0 ∧ L1 = [] ∧ O1 = []) := fun h => by
    obtain ⟨b1, b2, b3, _⟩ := addsE_bad (first := first) (L := L) (O := O) (f := f) (by rw [← hE1]; exact h)
    exact ⟨by rw [hF1, b1], by rw [hL1, b2], by rw [hO1, b3]⟩
  have HG6 : Hid (nG ≤ 9223372036854775807) := by
    show _ ≤ _
    by_cases h0 : U = 0
    · have hr : stchk first L O = 0 := by rw [← hU]; exact h0
      rw [hnG, hG3]; unfold getG
      split
      · rename_i he
        have hd : (n - first).toNat < (allG L O).length := by
          unfold getE at he; rw [if_pos hr] at he
          by_cases h1 : n < first
          · rw [if_pos h1] at he; cases he
          · rw [if_neg h1] at he
            by_cases h2 : ((allG L O).length : Int) ≤ n - first
            · rw [if_pos h2] at he; cases he
            · omega
        have := gchk_first (allG_right hr _ (grAt_mem hd))
        omega
      · simp
    · rw [(HUB.out.1 h0).2.2]; omega
  have HNG : Hid (nG = G3.length) := hnG
  have HQ : Hid (q = A.length) := hq
  have HS : Hid (Stay w (fun U => Below w.heap.size w U)) := below_stay0 w
  have HVV : Hid ((U = 0 → V = Z) ∧ (¬ U = 0 → V = U)) := by rw [hV]; exact ⟨fun h => if_pos h, fun h => if_neg h⟩
  have HCC : Hid (C = decide (U = 0 ∧ (t < 0 ∨ 1000000 < t))) := hC
  have HXX : Hid ((C = true → X = 3) ∧ (C = false → X = U)) := by rw [hX]; exact ⟨fun h => by rw [h]; rfl, fun h => by rw [h]; rfl⟩
  rw [← hft, ← hfk]
  clear hg ho hp hE1 hF1 hL1 hO1 hB1 hnA hnO hE2 hN2 hE3 hG3 hnG hU hZ hA hq hV hC hX hft hfk hln hlo hpn hnb
  subst eg eo ep
  go_enter Try.func7, Try.ntmps7
  go_wp2_with fail
  obtain ⟨W0, hW0⟩ : ∃ W0, W0 = (w.alloc (.cells #[.int .i64 first, .slice ga ln gc, .slice oa lo oc] 51)).alloc (.cells #[.int .i64 ft, .bool fk, .slice pa pn pc] 48) := ⟨_, rfl⟩
  have HS0 : Hid (Stay W0 (fun U => Blk U w.heap.size #[.int .i64 first, .slice ga ln gc, .slice oa lo oc] 51 ∧ Blk U (w.heap.size + 1) #[.int .i64 ft, .bool fk, .slice pa pn pc] 48 ∧ Below w.heap.size w U)) := by
    have k2 := Blk.newE hW0
    simp only [World.size_alloc] at k2
    have hb : Below w.heap.size w W0 := by rw [hW0]; exact ((Below.refl _ _).alloc (Nat.le_refl _) _).alloc (by simp) _
    exact (show Blk W0 w.heap.size _ _ by rw [hW0]; exact (Blk.new _ _ _).alloc _).stay.and (k2.stay.and (below_stay hb hb.size))
  rw [← hW0]
  clear hW0 HS
  refine (HADD.out _ HS0.out.now.2.2).mono ?_
  rintro e w1 ⟨va, vc, qa, qc, rfl, G1, O1', b1⟩
  obtain ⟨W1, hW1⟩ : ∃ W1, W1 = w1.alloc (.cells #[.int .i64 F1, .slice va nA vc, .slice qa nO qc] 51) := ⟨_, rfl⟩
  have HS1 := (HS0.out.step b1).allocE hW1
  have HA1 := ((Blk.newE hW1).stay.and ((G1.out.allocE hW1).stay.and (O1'.out.allocE hW1).stay)).hid
  obtain ⟨k0, k1, k2⟩ := HS1.out.now.1.three
  clear b1 HS0 G1 O1' HADD
  subst hW1
  go_wp2_with fail
  refine (HSEEK.out _ HS1.out.now.2.2).mono ?_
  rintro e w2 ⟨rfl, b2⟩
  have HS2 := Stay.go HS1 b2
  have HA2 := Stay.go HA1 b2
  clear b2 HS1 HA1 HSEEK k0 k1 k2
  obtain ⟨k0, k1, k2⟩ := HS2.out.now.1.three
  go_wp2_with fail
  refine (HGET.out _ HS2.out.now.2.2).mono ?_
  rintro e w3 ⟨xa, xc, rfl, G3', b3⟩
  obtain ⟨W3, hW3⟩ : ∃ W3, W3 = w3.alloc (.cells #[.slice xa nG xc] 35) := ⟨_, rfl⟩
  have HS3 := (HS2.out.step b3).allocE hW3
  have HA3 := (HA2.out.step b3).allocE hW3
  have HX3 := ((Blk.newE hW3).stay.and (G3'.out.allocE hW3).stay).hid
  clear b3 HS2 HA2 G3' HGET k0 k1 k2
  obtain ⟨k0, k1, k2⟩ := HS3.out.now.1.three
  subst hW3
  go_wp2_with fail
  refine (HCKR.out _ HS3.out.now.2.2).mono ?_
  rintro e w4 ⟨rfl, b4⟩
  have HS4 := Stay.go HS3 b4
  have HA4 := Stay.go HA3 b4
  have HX4 := Stay.go HX3 b4
  clear b4 HS3 HA3 HX3 HCKR k0 k1 k2
  go_upto_if 52 with fail
  go_cut [17] (fun s17 wc => s17 = .int .i64 V ∧ Hid (Below w4.heap.size w4 wc))
  case first =>
    by_cases h0 : U = 0
    · have hv := HVV.out.1 h0
      subst h0 hv
      obtain ⟨k0, k1, k2⟩ := HS4.out.now.2.1.three
      go_wp2_with fail
      refine (HCF.out _ HS4.out.now.2.2).mono ?_
      rintro e w5 ⟨rfl, b5⟩
      go_wp2_with fail
      go_meet
      case rel => exact ⟨rfl, b5⟩
    · have hv := HVV.out.2 h0
      subst hv
      go_wp2_with fail
      go_meet
      case rel => exact ⟨rfl, Below.refl _ _⟩
  case rest =>
    obtain ⟨rfl, HB⟩ := hcut
    clear HVV HCF
    go_upto_region 8 with fail
    go_cut [64] (fun s64 wd => s64 = .bool C ∧ wd = wc)
    case first =>
      by_cases hU0 : U = 0
      · subst hU0
        by_cases h1 : t < 0
        · have hc : C = true := by rw [HCC.out]; exact decide_eq_true ⟨rfl, .inl h1⟩
          go_wp2_with fail
          go_meet
          case rel => exact ⟨by rw [hc], rfl⟩
        · by_cases h2 : 1000000 < t
          · have hc : C = true := by rw [HCC.out]; exact decide_eq_true ⟨rfl, .inr h2⟩
            go_wp2_with fail
            go_meet
            case rel => exact ⟨by rw [hc], rfl⟩
          · have hc : C = false := by rw [HCC.out]; exact decide_eq_false (by omega)
            go_wp2_with fail
            go_meet
            case rel => exact ⟨by rw [hc], rfl⟩
      · have hc : C = false := by rw [HCC.out]; exact decide_eq_false (by omega)
        go_wp2_with fail
        go_meet
        case rel => exact ⟨by rw [hc], rfl⟩
    case rest =>
      obtain ⟨rfl, rfl⟩ := hcut
      go_upto_if 64 with fail
      go_cut [18] (fun s18 we => s18 = .int .i64 X ∧ we = wc)
      case first =>
        cases C
        · have hx := HXX.out.2 rfl
          subst hx
          go_wp2_with fail
          go_meet
          case rel => exact ⟨rfl, rfl⟩
        · have hx := HXX.out.1 rfl
          subst hx
          go_wp2_with fail
          go_meet
          case rel => exact ⟨rfl, rfl⟩
      case rest =>
        obtain ⟨rfl, rfl⟩ := hcut
        clear HXX HCC
        obtain ⟨wA, hwA⟩ : ∃ x, x = wc := ⟨wc, rfl⟩
        subst hwA
        go_upto_if 66 with fail
        obtain ⟨W5, hW5⟩ : ∃ W5, W5 = (wA.alloc (.cells #[.int .i64 0, .slice none 0 0, .slice none 0 0] 51)).alloc (.cells #[.slice none 0 0] 35) := ⟨_, rfl⟩
        have s4 : w4.heap.size ≤ wA.heap.size := HB.out.size
        have HB5 : Hid (Below w4.heap.size w4 W5) := by rw [hW5]; exact (HB.out.alloc s4 _).alloc (by simp; omega) _
        have KW5 : Hid (Blk W5 wA.heap.size #[.int .i64 0, .slice none 0 0, .slice none 0 0] 51) := by rw [hW5]; exact (Blk.new _ _ _).alloc _
        have KG5 : Hid (Blk W5 (wA.heap.size + 1) #[.slice none 0 0] 35) := by
          have := Blk.newE hW5
          simp only [World.size_alloc] at this
          exact this
        have z5 : W5.heap.size = wA.heap.size + 2 := by rw [hW5]; simp
        have hws : w.heap.size ≤ w4.heap.size := HS4.out.now.2.2.size
        go_cut [17, 22] (fun s17 s22 wd => s17 = .int .i64 E1 ∧ s22 = .bool B1 ∧ ∃ a1 c1 a2 c2, Hid (Blk wd wA.heap.size #[.int .i64 F1, .slice a1 nA c1, .slice a2 nO c2] 51) ∧ Hid (GrsIn (fun g => g < w.heap.size ∨ wA.heap.size + 2 ≤ g) wd (.slice a1 nA c1) L1) ∧ Hid (FrsIn (fun g => g < w.heap.size ∨ wA.heap.size + 2 ≤ g) wd (.slice a2 nO c2) O1) ∧ Hid (Blk wd (wA.heap.size + 1) #[.slice none 0 0] 35) ∧ Hid (Below w4.heap.size w4 wd))
        case first =>
          by_cases h0 : V = 0
          · have HR : Hid (∀ W : World, Below w.heap.size w W → Calls Try.prog 26 #[.agg #[.int .i64 first, .slice ga ln gc, .slice oa lo oc], .agg #[.int .i64 ft, .bool fk, .slice pa pn pc]] W fun e w' => ∃ va vc qa qc, e = .returned (.tuple #[.agg #[.int .i64 F1, .slice va nA vc, .slice qa nO qc], .bool B1, .int .i64 E1]) ∧ Hid (GrsIn (fun g => g < w.heap.size ∨ W.heap.size ≤ g) w' (.slice va nA vc) L1) ∧ Hid (FrsIn (fun g => g < w.heap.size ∨ W.heap.size ≤ g) w' (.slice qa nO qc) O1) ∧ Below W.heap.size W w') := HRADD.out h0
            obtain ⟨k0, k1, k2⟩ := (HS4.out _ HB5.out).1.three
            obtain ⟨j0, j1, j2⟩ := (HS4.out _ HB5.out).2.1.three
            have HBW : Hid (Below w.heap.size w W5) := (HS4.out _ HB5.out).2.2
            subst h0
            rw [← hW5]
            clear hW5
            go_wp2_with fail
            refine (HR.out _ HBW.out).mono ?_
            rintro e w6 ⟨a1, c1, a2, c2, rfl, G6, O6, b6⟩
            have K6 := KW5.out.below b6 KW5.out.lt
            have J6 := KG5.out.below b6 KG5.out.lt
            have B6 := HB5.out.trans (b6.mono HB5.out.size)
            have s6 := b6.size
            obtain ⟨y0, y1, y2⟩ := K6.three
            have f6 := K6.free
            have l6 := K6.lt
            obtain ⟨W7, hW7⟩ : ∃ W7, W7 = ((w6.setCell ⟨wA.heap.size, 0, none⟩ (.int .i64 F1)).setCell ⟨wA.heap.size, 1, none⟩ (.slice a1 nA c1)).setCell ⟨wA.heap.size, 2, none⟩ (.slice a2 nO c2) := ⟨_, rfl⟩
            have K7 : Hid (Blk W7 wA.heap.size #[.int .i64 F1, .slice a1 nA c1, .slice a2 nO c2] 51) := by
              rw [hW7]; exact ((K6.set 0 (.int .i64 F1)).set 1 (.slice a1 nA c1)).set 2 (.slice a2 nO c2)
            have hno : ∀ g, g ≠ wA.heap.size → W7.heap[g]? = w6.heap[g]? := fun g hg => by
              rw [hW7, Below.heap_setCell _ _ _ _ (by exact hg), Below.heap_setCell _ _ _ _ (by exact hg), Below.heap_setCell _ _ _ _ (by exact hg)]
            have hs7 : W7.heap.size = w6.heap.size := by rw [hW7]; simp
            have G7 : Hid (GrsIn (fun g => g < w.heap.size ∨ wA.heap.size + 2 ≤ g) W7 (.slice a1 nA c1) L1) := G6.out.to ⟨by omega, fun g _ hg => hno g (by omega)⟩ (fun g _ h => h.imp id (fun h => by omega))
            have O7 : Hid (FrsIn (fun g => g < w.heap.size ∨ wA.heap.size + 2 ≤ g) W7 (.slice a2 nO c2) O1) := O6.out.to ⟨by omega, fun g _ hg => hno g (by omega)⟩ (fun g _ h => h.imp id (fun h => by omega))
            have J7 : Hid (Blk W7 (wA.heap.size + 1) #[.slice none 0 0] 35) := (hno _ (by omega)).trans J6
            have B7 : Hid (Below w4.heap.size w4 W7) := by rw [hW7]; exact ((B6.setCell (by simpa using s4) _).setCell (by simpa using s4) _).setCell (by simpa using s4) _
            clear b6 K6 J6 B6 G6 O6 hno hs7 k0 k1 k2 j0 j1 j2
            go_wp2_with fail
            rw [← hW7]
            go_meet
            case rel => exact ⟨rfl, rfl, a1, c1, a2, c2, K7.out, G7.out, O7.out, J7.out, B7.out⟩
          · obtain ⟨e1, e2, e3, e4, e5, e6, e7⟩ := HVB.out h0
            have HE : Hid (E1 = V ∧ F1 = 0 ∧ L1 = [] ∧ O1 = [] ∧ B1 = false ∧ nA = 0 ∧ nO = 0) := ⟨e1, e2, e3, e4, e5, e6, e7⟩
            clear e1 e2 e3 e4 e5 e6 e7
            rw [← hW5]
            clear hW5
            go_wp2_with fail
            go_meet
            case rel =>
              obtain ⟨e1, e2, e3, e4, e5, e6, e7⟩ := HE.out
              refine ⟨by rw [e1], by rw [e5], none, 0, none, 0, ?_, ?_, ?_, KG5.out, HB5.out⟩
              · rw [e2, e6, e7]; exact KW5.out
              · rw [e3, e6]; exact GrsIn.nil _ _
              · rw [e4, e7]; exact FrsIn.nil _ _
        case rest =>
          obtain ⟨rfl, rfl, a1, c1, a2, c2, KW, GW, OW, KG, HBd⟩ := hcut
          obtain ⟨wd, hwd⟩ : ∃ x, x = wc := ⟨wc, rfl⟩
          subst hwd
          clear HRADD HVB KW5 KG5 HB5 hW5 z5 HB
          go_upto_if 75 with fail
          go_cut [18, 23] (fun s18 s23 we => s18 = .int .i64 E2 ∧ s23 = .int .i64 N2 ∧ Hid (Below wd.heap.size wd we))
          case first =>
            by_cases h0 : X = 0
            · obtain ⟨k0, k1, k2⟩ := (HS4.out _ HBd.out).1.three
              have HBW : Hid (Below w.heap.size w wd) := (HS4.out _ HBd.out).2.2
              by_cases hq0 : q = 0
              · have HR : Hid (∀ W : World, Below w.heap.size w W → Calls Try.prog 27 #[.agg #[.int .i64 first, .slice ga ln gc, .slice oa lo oc], .int .i64 t] W fun e w' => e = .returned (.tuple #[.int .i64 N2, .bool false]) ∧ Below W.heap.size W w') := fun W hW => by
                  have := HRS.out h0 W hW
                  rw [show decide (0 < q) = false from decide_eq_false (by omega)] at this
                  exact this
                have he := (HXB.out.2 h0).1 hq0
                clear hq0
                subst h0 he
                go_wp2_with fail
                refine (HR.out _ HBW.out).mono ?_
                rintro e w6 ⟨rfl, b6⟩
                go_wp2_with fail
                go_meet
                case rel => exact ⟨rfl, rfl, b6⟩
              · have HR : Hid (∀ W : World, Below w.heap.size w W → Calls Try.prog 27 #[.agg #[.int .i64 first, .slice ga ln gc, .slice oa lo oc], .int .i64 t] W fun e w' => e = .returned (.tuple #[.int .i64 N2, .bool true]) ∧ Below W.heap.size W w') := fun W hW => by
                  have := HRS.out h0 W hW
                  rw [show decide (0 < q) = true from decide_eq_true (by omega)] at this
                  exact this
                have he := (HXB.out.2 h0).2 hq0
                clear hq0
                subst h0 he
                go_wp2_with fail
                refine (HR.out _ HBW.out).mono ?_
                rintro e w6 ⟨rfl, b6⟩
                go_wp2_with fail
                go_meet
                case rel => exact ⟨rfl, rfl, b6⟩
            · have HE : Hid (E2 = X ∧ N2 = 0) := HXB.out.1 h0
              go_wp2_with fail
              go_meet
              case rel => exact ⟨by rw [HE.out.1], by rw [HE.out.2], Below.refl _ _⟩
          case rest =>
            obtain ⟨rfl, rfl, HBe⟩ := hcut
            obtain ⟨we, hwe⟩ : ∃ x, x = wc := ⟨wc, rfl⟩
            subst hwe
            have HBf : Hid (Below w4.heap.size w4 we) := HBd.out.trans (HBe.out.mono HBd.out.size)
            have KWe : Hid (Blk we wA.heap.size #[.int .i64 F1, .slice a1 nA c1, .slice a2 nO c2] 51) := KW.out.below HBe.out KW.out.lt
            have KGe : Hid (Blk we (wA.heap.size + 1) #[.slice none 0 0] 35) := KG.out.below HBe.out KG.out.lt
            have GWe : Hid (GrsIn (fun g => g < w.heap.size ∨ wA.heap.size + 2 ≤ g) we (.slice a1 nA c1) L1) := GW.out.below HBe.out
            have OWe : Hid (FrsIn (fun g => g < w.heap.size ∨ wA.heap.size + 2 ≤ g) we (.slice a2 nO c2) O1) := OW.out.below HBe.out
            have sge := KGe.out.lt
            clear KW KG GW OW HBe HBd HRS HXB
            go_upto_if 86 with fail
            go_cut [19] (fun s19 wf => s19 = .int .i64 E3 ∧ ∃ a3 c3, Hid (Blk wf (wA.heap.size + 1) #[.slice a3 nG c3] 35) ∧ Hid (FrsIn (fun _ => True) wf (.slice a3 nG c3) G3) ∧ Hid (Blk wf wA.heap.size #[.int .i64 F1, .slice a1 nA c1, .slice a2 nO c2] 51) ∧ Hid (GrsIn (fun _ => True) wf (.slice a1 nA c1) L1) ∧ Hid (FrsIn (fun _ => True) wf (.slice a2 nO c2) O1) ∧ Hid (Below w4.heap.size w4 wf))
            case first =>
              by_cases h0 : U = 0
              · obtain ⟨f0, f1, q6, hlo, hhi, hin⟩ := HUB.out.2 h0
                have HLO : Hid (n < first → E3 = 5 ∧ G3 = [] ∧ nG = 0) := hlo
                have HHI : Hid (first + q ≤ n → E3 = 5 ∧ G3 = [] ∧ nG = 0) := hhi
                have HIN : Hid (∀ d : Nat, n = first + d → d < q → E3 = 0 ∧ G3 = grAt A d) := hin
                have HAL := HALL.out h0 we (HS4.out _ HBf.out).2.2
                obtain ⟨k0, k1, k2⟩ := (HS4.out _ HBf.out).1.three
                clear hlo hhi hin HUB HALL
                subst h0
                go_wp2_with fail
                refine HAL.mono ?_
                rintro e w8 ⟨va8, vc8, rfl, GA, b8⟩
                have s8 := b8.size
                have HB8 : Hid (Below w4.heap.size w4 w8) := HBf.out.trans (b8.mono HBf.out.size)
                have KW8 := KWe.out.below b8 KWe.out.lt
                have KG8 := KGe.out.below b8 KGe.out.lt
                have GW8 : Hid (GrsIn (fun g => g < w.heap.size ∨ wA.heap.size + 2 ≤ g) w8 (.slice a1 nA c1) L1) := GWe.out.below b8
                have OW8 : Hid (FrsIn (fun g => g < w.heap.size ∨ wA.heap.size + 2 ≤ g) w8 (.slice a2 nO c2) O1) := OWe.out.below b8
                clear b8 k0 k1 k2 HAL
                obtain ⟨k0, k1, k2⟩ := (HS4.out _ HB8.out).1.three
                have HOUT : Hid (E3 = 5 ∧ G3 = [] ∧ nG = 0 → ∃ a3 c3, Hid (Blk w8 (wA.heap.size + 1) #[.slice a3 nG c3] 35) ∧ Hid (FrsIn (fun _ => True) w8 (.slice a3 nG c3) G3) ∧ Hid (Blk w8 wA.heap.size #[.int .i64 F1, .slice a1 nA c1, .slice a2 nO c2] 51) ∧ Hid (GrsIn (fun _ => True) w8 (.slice a1 nA c1) L1) ∧ Hid (FrsIn (fun _ => True) w8 (.slice a2 nO c2) O1) ∧ Hid (Below w4.heap.size w4 w8)) := fun h => by
                  obtain ⟨_, h2, h3⟩ := h
                  rw [h2, h3]
                  exact ⟨none, 0, KG8, FrsIn.nil _ _, KW8, GW8.out.mono (fun _ _ _ => trivial), OW8.out.mono (fun _ _ _ => trivial), HB8.out⟩
                by_cases hn1 : n < first
                · have HO := HLO.out hn1
                  have HO' : Hid (E3 = 5 ∧ G3 = [] ∧ nG = 0) := HO
                  clear HO KW8 KG8
                  go_wp2_with fail
                  go_meet
                  case rel => exact ⟨by rw [HO'.out.1], HOUT.out HO'.out⟩
                · by_cases hn2 : first + (q : Int) ≤ n
                  · have HO' : Hid (E3 = 5 ∧ G3 = [] ∧ nG = 0) := HHI.out hn2
                    clear KW8 KG8
                    go_wp2_with fail
                    go_meet
                    case rel => exact ⟨by rw [HO'.out.1], HOUT.out HO'.out⟩
                  · obtain ⟨d, hd⟩ : ∃ d : Nat, (d : Int) = n - first := ⟨(n - first).toNat, by omega⟩
                    have hnd : n = first + d := by omega
                    have hdq : d < q := by omega
                    have HE : Hid (E3 = 0 ∧ G3 = grAt A d) := HIN.out d hnd hdq
                    obtain ⟨ao', c', eu, _, _, hc⟩ := GA.out
                    rw [← HQ.out] at eu
                    injection eu with eu eu2 eu3
                    clear eu2
                    subst eu eu3
                    obtain ⟨b, off, e1, hb, _, sv, c0, hsv⟩ := hc d (by rw [← HQ.out]; exact hdq)
                    rw [show A[d]?.getD [] = G3 from HE.out.2.symm] at hsv
                    obtain ⟨sa, sc, es, _, _⟩ := hsv.len
                    rw [← HNG.out] at es
                    subst e1 es
                    have y0 := KG8.one
                    have g8 := KG8.free 0
                    have l8 := KG8.lt
                    obtain ⟨W9, hW9⟩ : ∃ W9, W9 = w8.setCell ⟨wA.heap.size + 1, 0, none⟩ (.slice sa nG sc) := ⟨_, rfl⟩
                    have hno : ∀ g, g ≠ wA.heap.size + 1 → W9.heap[g]? = w8.heap[g]? := fun g hg => by
                      rw [hW9, Below.heap_setCell _ _ _ _ (by exact hg)]
                    have hs9 : W9.heap.size = w8.heap.size := by rw [hW9]; simp
                    have KG9 : Hid (Blk W9 (wA.heap.size + 1) #[.slice sa nG sc] 35) := by rw [hW9]; exact KG8.set 0 _
                    have FG9 : Hid (FrsIn (fun _ => True) W9 (.slice sa nG sc) G3) := hsv.to ⟨by omega, fun g _ hg => hno g (by omega)⟩ (fun _ _ _ => trivial)
                    have KW9 : Hid (Blk W9 wA.heap.size #[.int .i64 F1, .slice a1 nA c1, .slice a2 nO c2] 51) := (hno _ (by omega)).trans KW8
                    have GW9 : Hid (GrsIn (fun _ => True) W9 (.slice a1 nA c1) L1) := GW8.out.to ⟨by omega, fun g _ hg => hno g (by omega)⟩ (fun _ _ _ => trivial)
                    have OW9 : Hid (FrsIn (fun _ => True) W9 (.slice a2 nO c2) O1) := OW8.out.to ⟨by omega, fun g _ hg => hno g (by omega)⟩ (fun _ _ _ => trivial)
                    have HB9 : Hid (Below w4.heap.size w4 W9) := by rw [hW9]; exact HB8.out.setCell (by simp; omega) _
                    have hdw : IntKind.i64.wrap (d : Int) = (d : Int) := by rw [IntKind.wrap_i64]; omega
                    have hdqi : (d : Int) < (q : Int) := by omega
                    have hnf : first + (d : Int) - first = (d : Int) := by omega
                    have hnl : ¬ first + (d : Int) < first := by omega
                    have hqd : ¬ first + (q : Int) ≤ first + (d : Int) := by omega
                    have HE0 : Hid (E3 = 0) := HE.out.1
                    clear hc hsv hno hs9 KW8 KG8 GW8 OW8 HB8 HOUT HLO HHI HIN HE hn1 hn2 hd hb GA
                    subst hnd
                    go_wp2_with fail
                    rw [← hW9]
                    go_meet
                    case rel => exact ⟨by rw [HE0.out], sa, sc, KG9.out, FG9.out, KW9.out, GW9.out, OW9.out, HB9.out⟩
              · have HE : Hid (E3 = U ∧ G3 = [] ∧ nG = 0) := HUB.out.1 h0
                go_wp2_with fail
                go_meet
                case rel =>
                  obtain ⟨h1, h2, h3⟩ := HE.out
                  refine ⟨by rw [h1], none, 0, ?_, ?_, KWe.out, GWe.out.mono (fun _ _ _ => trivial), OWe.out.mono (fun _ _ _ => trivial), HBf.out⟩
                  · rw [h3]; exact KGe.out
                  · rw [h2, h3]; exact FrsIn.nil _ _
            case rest =>
              obtain ⟨rfl, a3, c3, KG9, FG9, KW9, GW9, OW9, HB9⟩ := hcut
              clear KWe KGe GWe OWe HBf HUB HALL sge
              go_wp2_with fail
              refine (storeBegun_any _).mono ?_
              rintro e x1 ⟨rfl, bx⟩
              have HS10 := (HS4.out.step HB9.out).step bx
              have HA10 := (HA4.out.step HB9.out).step bx
              have HX10 := (HX4.out.step HB9.out).step bx
              have HW10 := ((KG9.out.stay.and FG9.out.stay).and (KW9.out.stay.and (GW9.out.stay.and OW9.out.stay))).step bx
              clear bx KG9 FG9 KW9 GW9 OW9 HB9 HS4 HA4 HX4
              obtain ⟨k0, k1, k2⟩ := HS10.now.1.three
              have HHS := HS10.hid
              have HHA := HA10.hid
              have HHX := HX10.hid
              have HHW := HW10.hid
              clear HS10 HA10 HX10 HW10
              go_wp2_with fail
              refine (HCK.out _ HHS.out.now.2.2).mono ?_
              rintro e x2 ⟨rfl, bx⟩
              have HHS := Stay.go HHS bx
              have HHA := Stay.go HHA bx
              have HHX := Stay.go HHX bx
              have HHW := Stay.go HHW bx
              clear bx k0 k1 k2
              obtain ⟨k0, k1, k2⟩ := HHA.out.now.1.three
              obtain ⟨j0, j1, j2⟩ := HHW.out.now.2.1.three
              go_wp2_with fail
              refine (storeIs_any E1 F1 F1 _ _ _ _ L1 L1 O1 O1 x2 HHA.out.now.2.1 HHA.out.now.2.2 HHW.out.now.2.2.1 HHW.out.now.2.2.2 (fun _ => ⟨rfl, rfl, rfl⟩) HFIN.out).mono ?_
              rintro e x3 ⟨rfl, bx⟩
              have HHS := Stay.go HHS bx
              have HHX := Stay.go HHX bx
              have HHW := Stay.go HHW bx
              clear bx k0 k1 k2 j0 j1 j2
              have k0 := HHX.out.now.1.one
              have j0 := HHW.out.now.1.1.one
              go_wp2_with fail
              refine (sameFrames_any _ _ _ _ _ HHX.out.now.2.frs HHW.out.now.1.2.frs (by rw [← HNG.out]; exact HG6.out)).mono ?_
              rw [show sameFs G3 G3 = true from decide_eq_true rfl]
              rintro e x4 ⟨rfl, bx⟩
              have HHS := Stay.go HHS bx
              clear bx
              go_wp2
              go_ret
              exact ⟨rfl, HHS.out.now.2.2⟩

end Go.Proofs.Ytgmnhbmjnllhhac

namespace Go.Proofs.Ytgmnhbmjnllhhac
namespace storeTells
open Go.ChangeShapes Go.WideShapes Go.ChangeAt Go.RowKit

set_option maxRecDepth 100000 in
theorem lifted (os : Os) (started : os.Started) (H : Type) (enc : TypeId × Value → H) :
    ReturnsInHanded {} Try.checked os 7 .any (Rows.storeTellsSpec.pre6 enc Try.prog Try.f7 Rows.storeTellsRow.domain false) (Rows.storeTellsSpec.post enc Try.prog Try.f7 false true false false) := by
  refine returnsInHanded_of_change_sized (C := Try.checked) own started (by kernel_rfl) Try.func7
    (ChangeSpec.witness6 (enc := enc) (C := Try.checked) false ⟨#[], #[.agg #[.int .i64 0, .slice none 0 0, .slice none 0 0], .agg #[.int .i64 0, .bool false, .slice none 0 0], .int .i64 0, .int .i64 0], []⟩ 8 (by kernel_rfl) (by kernel_rfl) (by kernel_rfl) (by kernel_rfl)) ?_
  intro W base args ds gs before hval0 hW _ hsz0 _
  have hsz : (DataW.weightsEach Try.prog (Try.f7.params.toList ++ Rows.storeTellsSpec.plain.varTypes Try.prog) (ds ++ gs)).all (· ≤ reachBytes) = true := hsz0
  clear hsz0
  have hval : ∀ (j : Nat) t v, Try.f7.params[j]? = some t → args[j]? = some v → Value.okWide Try.prog W .any base t v := hval0
  have hW' := hW
  obtain ⟨p, q, hA0, hV, rfl, _, _⟩ := hW
  have hA : DataW.TrodAll enc Try.prog W 0 (fun _ => true) true Try.f7.params.toList args.toList ds p := hA0
  rw [Try.params7] at hA hval hsz
  obtain ⟨v0, vs0, d0, ds0, p0, q0, hargs, rfl, rfl, h0, r0⟩ := trodAll_cons hA
  obtain ⟨v1, vs1, d1, ds1, p1, q1, rfl, rfl, rfl, h1, r1⟩ := trodAll_cons r0
  obtain ⟨v2, vs2, d2, ds2, p2, q2, rfl, rfl, rfl, h2, r2⟩ := trodAll_cons r1
  obtain ⟨v3, vs3, d3, ds3, p3, q3, rfl, rfl, rfl, h3, r3⟩ := trodAll_cons r2
  obtain ⟨rfl, rfl, rfl⟩ := trodAll_nil r3
  obtain rfl : args = #[v0, v1, v2, v3] := by cases args; simp_all
  obtain ⟨rfl, rfl⟩ := trodVars_none hV
  have lt0 : ∀ x ∈ p0, x.block < W.heap.size := by obtain ⟨m, hm⟩ := h0; exact DataW.trod_lt m _ _ _ hm
  have lt1 : ∀ x ∈ p1, x.block < W.heap.size := by obtain ⟨m, hm⟩ := h1; exact DataW.trod_lt m _ _ _ hm
  have lt2 : ∀ x ∈ p2, x.block < W.heap.size := by obtain ⟨m, hm⟩ := h2; exact DataW.trod_lt m _ _ _ hm
  have lt3 : ∀ x ∈ p3, x.block < W.heap.size := by obtain ⟨m, hm⟩ := h3; exact DataW.trod_lt m _ _ _ hm
  obtain ⟨a0, g0, o0, L0, O0, ev0, wf0, sg0, so0⟩ := op_store (hval 0 51 v0 rfl rfl) h0
  obtain ⟨t1, k1, u1, l1, ev1, wf1, s1, f1, n1⟩ := op_frm (hval 1 48 v1 rfl rfl) h1
  obtain ⟨a2, ev2, b2⟩ := op_int Try.underlying3 (hval 2 3 v2 rfl rfl) h2
  obtain ⟨a3, ev3, b3⟩ := op_int Try.underlying3 (hval 3 3 v3 rfl rfl) h3
  clear hA0 hval0
  subst ev0
  subst ev1
  subst ev2
  subst ev3
  refine (storeTells_any a0 g0 o0 u1 L0 O0 ⟨t1, k1, l1⟩ a2 a3 W sg0 so0 (StrsIn.of s1 (by unfold maxLen at n1; omega)) (wf_i64 b3).2).mono fun e W1 ⟨he, bel⟩ => ?_
  subst he
  exact ⟨_, rfl, _, _, _, [], _, [], hW', trodAll_mk1 (shut_bool Try.underlying4 _), (trodAll_cons_mk (Below.trod laidOut (by kernel_rfl) (of_decide_eq_true (by kernel_rfl)) h0 bel lt0) (trodAll_cons_mk (Below.trod laidOut (by kernel_rfl) (of_decide_eq_true (by kernel_rfl)) h1 bel lt1) (trodAll_cons_mk (Below.trod laidOut (by kernel_rfl) (of_decide_eq_true (by kernel_rfl)) h2 bel lt2) (trodAll_cons_mk (Below.trod laidOut (by kernel_rfl) (of_decide_eq_true (by kernel_rfl)) h3 bel lt3) trodAll_mk0)))), rfl, bel.frame _, fun h => by cases h⟩

theorem proved : Rows.StoreTellsSaid :=
  OpenClaim.holds_of_wide 7 Try.f7 rfl rfl rfl rfl rfl rfl rfl ⟨rfl, rfl, rfl, rfl, rfl⟩ rfl rfl rfl rfl rfl (by kernel_rfl) Try.func7 (by kernel_rfl)
    (of_decide_eq_true (by kernel_rfl)) (by unfold Func.isWrapper; first | (rw [if_pos (by decide +kernel)]; kernel_rfl) | (rw [if_neg (by decide +kernel)]; exact ⟨rfl, rfl⟩))
    (fun os started H enc _ => lifted os started H enc)
end storeTells

theorem storeTells_holds : Rows.StoreTellsSaid := storeTells.proved
#print axioms storeTells_holds
end Go.Proofs.Ytgmnhbmjnllhhac
