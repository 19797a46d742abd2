/-
  'switchbacklaw.StoreStays' returns true for every input, and each argument reads behind the call as it read before: 'Rows.StoreStaysSaid'. No condition.
-/
import Derived.Test.YtgmnhbmjnllhhacRows
import Derived.Test.YtgmnhbmjnllhhacSlices
import Derived.ProofKit
import Derived.OpenShut
import Derived.ShutString
import Derived.ChangeOld
import Derived.Below
import Derived.SizedLaws
import Derived.Test.YtgmnhbmjnllhhacSlotRows
import Derived.Deep.Slices
import Derived.Test.YtgmnhbmjnllhhacFrameCheck
import Derived.Test.YtgmnhbmjnllhhacNest
import Derived.Test.YtgmnhbmjnllhhacStoreTrim
import Derived.Test.YtgmnhbmjnllhhacStoreAll
import Derived.Test.YtgmnhbmjnllhhacRefGrow
import Derived.Test.YtgmnhbmjnllhhacRegBox
import Derived.Test.YtgmnhbmjnllhhacGroupAll
import Derived.Test.YtgmnhbmjnllhhacGroupBegun
import Derived.Deep.RegionHeld3
import Derived.Test.YtgmnhbmjnllhhacBlocks
import Derived.Deep.DeepCutAuto

namespace Go.Proofs.Ytgmnhbmjnllhhac
open Go.ChangeShapes Go.WideShapes Go.ChangeAt Go.RowKit
open Go.ChangeMaps (open_string shut_string)

theorem own : ownKnob Try.prog.godebug = none := by kernel_rfl
theorem laidOut : laidOutB Try.prog = true := by kernel_rfl

section
variable {H : Type} {enc : TypeId × Value → H} {P : Program} {W : World} {r : Reach} {b0 : Nat} {t e : TypeId} {v : Value} {d : DataW H} {p : List MemPlace}

theorem op_int (ht : P.underlying t = some (.int .i64)) (hval : Value.okWide P W r b0 t v) (h : DataW.Trod enc P W 0 (fun _ => true) true t v d p) :
    ∃ a, v = .int .i64 a ∧ (Lit.int .i64 a).wf = true := by
  obtain ⟨a, rfl, _, _, w0⟩ := open_int ht hval h
  exact ⟨a, rfl, w0⟩

theorem op_ints (ht : P.underlying t = some (.slice e)) (he : P.underlying e = some (.int .i64)) (hc : P.cellsOf e = 1) (hval : Value.okWide P W r b0 t v) (h : DataW.Trod enc P W 0 (fun _ => true) true t v d p)
    (hsz : ∀ elems spare, d = .slice elems spare → (elems.length + spare.length) * 8 ≤ 140737488351232) :
    ∃ zs : List Int, Sl W v zs.length 1 (zs.map (Value.int .i64)) ∧ (∀ n ∈ zs, (Lit.int .i64 n).wf = true) ∧ zs.length * 8 ≤ 140737488351232 := by
  obtain ⟨a, len, cap, rfl⟩ := okWide_slice ht hval
  obtain ⟨fuel, hf⟩ := h
  rcases open_ints ht he hc hf with ⟨hcs, hx⟩ | ⟨x, l, c, zs, hcs, _, hl, hm, hz, hx, hcell, hwz⟩
  · simp [Value.cells] at hcs
    obtain ⟨rfl, rfl, rfl⟩ := hcs
    exact ⟨[], ⟨by simp, .inl ⟨rfl, none, 0, rfl⟩⟩, by simp, by simp⟩
  · simp [Value.cells] at hcs
    obtain ⟨rfl, rfl, rfl⟩ := hcs
    simp only [if_true] at hz
    simp only [Prod.mk.injEq] at hx
    have hb := hsz _ _ hx.1
    simp only [lits, List.length_map, List.length_take, List.length_drop] at hb
    obtain ⟨hs, hw⟩ := Sl.of_row (w := W) (a := some x) (len := len) (cap := cap) (zs := zs) (k := .i64) (.inr ⟨x, rfl, hl, hm, hz, hcell, hwz⟩)
    have hlen : (zs.take len).length = len := by simp; omega
    refine ⟨zs.take len, ?_, hw, by omega⟩
    rw [hlen]
    exact hs
end

theorem wf_i64 {a : Int} (h : (Lit.int .i64 a).wf = true) : -9223372036854775808 ≤ a ∧ a ≤ 9223372036854775807 := by
  have h1 : IntKind.i64.min = -9223372036854775808 := rfl
  have h2 : IntKind.i64.max = 9223372036854775807 := rfl
  simp only [Lit.wf, Bool.and_eq_true, decide_eq_true_eq] at h
  omega

end Go.Proofs.Ytgmnhbmjnllhhac

namespace Go.Proofs.Ytgmnhbmjnllhhac
open Go.ChangeShapes Go.WideShapes Go.ChangeAt Go.RowKit
open Go.ChangeMaps (open_string shut_string)

section
variable {H : Type} {enc : TypeId × Value → H} {W : World} {r : Reach} {b0 base : Nat} {spare : Nat → Bool} {held : Bool} {v : Value} {d : DataW H} {p : List MemPlace}

theorem Try.cellsPk : Try.prog.cellsOf 29 = 6 := by kernel_rfl
theorem Try.cellsSk : Try.prog.cellsOf 31 = 7 := by kernel_rfl
theorem Try.cellsI : Try.prog.cellsOf 3 = 1 := by kernel_rfl
theorem Try.cellsB : Try.prog.cellsOf 4 = 1 := by kernel_rfl
theorem Try.cellsS : Try.prog.cellsOf 9 = 1 := by kernel_rfl
theorem Try.cellsSl : Try.prog.cellsOf 22 = 1 := by kernel_rfl
theorem list7 {α : Type} {l : List α} (h : l.length = 7) : ∃ c0 c1 c2 c3 c4 c5 c6, l = [c0, c1, c2, c3, c4, c5, c6] := by
  match l, h with
  | [c0, c1, c2, c3, c4, c5, c6], _ => exact ⟨c0, c1, c2, c3, c4, c5, c6, rfl⟩
theorem list6' {α : Type} {l : List α} (h : l.length = 6) : ∃ c0 c1 c2 c3 c4 c5, l = [c0, c1, c2, c3, c4, c5] := by
  match l, h with
  | [c0, c1, c2, c3, c4, c5], _ => exact ⟨c0, c1, c2, c3, c4, c5, rfl⟩
theorem list2 {α : Type} {l : List α} (h : l.length = 2) : ∃ c0 c1, l = [c0, c1] := by
  match l, h with
  | [c0, c1], _ => exact ⟨c0, c1, rfl⟩

/-- within what an input can be -/
def Sk.fits (x : Sk) : Prop := (Lit.int .i64 x.n).wf = true ∧ (Lit.int .i64 x.p.seq).wf = true ∧ (Lit.int .i64 x.p.time).wf = true ∧ x.p.t.size ≤ maxLen

theorem trod_slot {fuel : Nat} {cs : List Value} {x : DataW H × List MemPlace} (h : DataW.trod enc Try.prog W base spare held fuel 31 cs = some x) :
    ∃ s : Sk, cs = s.cells.toList ∧ s.fits := by
  obtain ⟨xs, n, _, _, hl, hxl, hf⟩ := DataW.trod_struct Try.underlying31 h
  rw [Try.cellsSk] at hl
  obtain ⟨c0, c1, c2, c3, c4, c5, c6, rfl⟩ := list7 hl
  obtain ⟨x0, x1, rfl⟩ := list2 (show xs.length = 2 from hxl)
  have h0 : DataW.trod enc Try.prog W base spare held n 3 (([c0, c1, c2, c3, c4, c5, c6].drop 0).take (Try.prog.cellsOf 3)) = some x0 := hf 0 _ rfl
  have h1 : DataW.trod enc Try.prog W base spare held n 29 (([c0, c1, c2, c3, c4, c5, c6].drop 1).take (Try.prog.cellsOf 29)) = some x1 := hf 1 _ rfl
  rw [Try.cellsI] at h0
  rw [Try.cellsPk] at h1
  obtain ⟨a, ea, _, wa⟩ := DataW.trod_int Try.underlying3 h0
  obtain ⟨ys, m, _, _, hl2, hyl, hg⟩ := DataW.trod_struct Try.underlying29 h1
  obtain ⟨y0, y1, y2, y3, y4, y5, rfl⟩ := list6' (show ys.length = 6 from hyl)
  have g0 : DataW.trod enc Try.prog W base spare held m 3 (([c1, c2, c3, c4, c5, c6].drop 0).take (Try.prog.cellsOf 3)) = some y0 := hg 0 _ rfl
  have g1 : DataW.trod enc Try.prog W base spare held m 3 (([c1, c2, c3, c4, c5, c6].drop 1).take (Try.prog.cellsOf 3)) = some y1 := hg 1 _ rfl
  have g2 : DataW.trod enc Try.prog W base spare held m 4 (([c1, c2, c3, c4, c5, c6].drop 2).take (Try.prog.cellsOf 4)) = some y2 := hg 2 _ rfl
  have g3 : DataW.trod enc Try.prog W base spare held m 4 (([c1, c2, c3, c4, c5, c6].drop 3).take (Try.prog.cellsOf 4)) = some y3 := hg 3 _ rfl
  have g4 : DataW.trod enc Try.prog W base spare held m 4 (([c1, c2, c3, c4, c5, c6].drop 4).take (Try.prog.cellsOf 4)) = some y4 := hg 4 _ rfl
  have g5 : DataW.trod enc Try.prog W base spare held m 9 (([c1, c2, c3, c4, c5, c6].drop 5).take (Try.prog.cellsOf 9)) = some y5 := hg 5 _ rfl
  rw [Try.cellsI] at g0 g1
  rw [Try.cellsB] at g2 g3 g4
  rw [Try.cellsS] at g5
  obtain ⟨a0, e0, _, w0⟩ := DataW.trod_int Try.underlying3 g0
  obtain ⟨a1, e1, _, w1⟩ := DataW.trod_int Try.underlying3 g1
  obtain ⟨a2, e2, _⟩ := DataW.trod_bool Try.underlying4 g2
  obtain ⟨a3, e3, _⟩ := DataW.trod_bool Try.underlying4 g3
  obtain ⟨a4, e4, _⟩ := DataW.trod_bool Try.underlying4 g4
  obtain ⟨a5, e5, _, w5⟩ := DataW.trod_string Try.underlying9 g5
  simp at ea e0 e1 e2 e3 e4 e5
  subst ea e0 e1 e2 e3 e4 e5
  exact ⟨⟨a, ⟨a0, a1, a2, a3, a4, a5⟩⟩, rfl, wa, w0, w1, w5⟩

set_option maxRecDepth 100000 in
theorem op_slot (hval : Value.okWide Try.prog W r b0 31 v) (h : DataW.Trod enc Try.prog W base spare held 31 v d p) :
    ∃ s : Sk, v = s.val ∧ s.fits := by
  obtain ⟨cs, rfl, _⟩ := okWide_struct Try.underlying31 hval
  obtain ⟨fuel, hf⟩ := h
  obtain ⟨s, hs, hw⟩ := trod_slot hf
  refine ⟨s, ?_, hw⟩
  have : cs = s.cells := by
    apply Array.ext'
    simpa [Value.cells] using hs
  rw [this]
  rfl

theorem trod_slots {fuel : Nat} {cs : List Value} {x : DataW H × List MemPlace} (h : DataW.trod enc Try.prog W base spare held fuel 22 cs = some x) :
    ∃ (u : Value) (l : List Sk), cs = [u] ∧ Sls W u l ∧ (∀ s ∈ l, s.fits) ∧ l.length ≤ maxLen ∧ (∀ a n c, u = .slice a n c → n ≤ c) ∧ (∀ elems sp, x.1 = .slice elems sp → l.length ≤ elems.length + sp.length) ∧ (x.1 = .nil → l = []) ∧ (x.1 = .nil ∨ ∃ elems sp, x.1 = .slice elems sp) := by
  rcases Go.Deep.open_slice Try.underlying22 h with ⟨rfl, rfl⟩ | ⟨a, len, cap, m, n, D, Pl, rfl, hb, hl, hm, hmm, rfl, hx⟩
  · exact ⟨_, [], rfl, Sls.nil W, by simp, by simp, fun a n c e => by cases e; exact Nat.le_refl _, by simp, fun _ => rfl, .inl rfl⟩
  · have hlm : len ≤ m := by rw [hmm]; split <;> omega
    rw [Try.cellsSk] at hx
    have each : ∀ i, i < len → ∃ s : Sk, s.fits ∧ ∀ j u, s.cells[j]? = some u → W.cell? (a.add (i * 7 + j)) = some u := fun i hi => by
      obtain ⟨cs', h1, h2⟩ := hx i (by omega)
      obtain ⟨s, hs, hw⟩ := trod_slot h2
      refine ⟨s, hw, fun j u hj => ?_⟩
      obtain ⟨_, hl7, hc⟩ := World.cells?_some h1
      have hj7 : j < 7 := by
        have := (Array.getElem?_eq_some_iff.1 hj).1
        exact this
      rw [← Go.Deep.add_add, hc j hj7, hs]
      simpa using hj
    obtain ⟨f, hf⟩ := Go.Deep.choose_lt each
    have hll : ((List.range len).map f).length = len := by simp
    refine ⟨_, (List.range len).map f, rfl, ⟨?_, ?_⟩, ?_, by rw [hll]; omega, fun a' n' c' e => by cases e; exact hl, ?_, fun e => by simp at e, .inr ⟨_, _, rfl⟩⟩
    · rw [skCells_len, hll]
    · rw [hll]
      by_cases h0 : len = 0
      · subst h0
        exact .inl ⟨rfl, _, _, rfl⟩
      · right
        obtain ⟨b, off, spot⟩ := a
        have hc0 := (hf 0 (by omega)).2 0 _ rfl
        have hspot : spot = none := by simpa [Addr.add] using World.cell?_spot hc0
        subst hspot
        refine ⟨b, off, cap, rfl, by simpa [Addr.add] using World.block_lt_of_cell? W _ hc0, fun j u hj => ?_⟩
        have hjl : j < len * 7 := by
          have := (List.getElem?_eq_some_iff.1 hj).1
          rwa [skCells_len, hll] at this
        have hjk : j = j / 7 * 7 + j % 7 := by omega
        rw [hjk, skCells_at _ (j / 7) (j % 7) (by omega) (by rw [hll]; omega)] at hj
        have hel : ((List.range len).map f)[j / 7]?.getD Sk.zero = f (j / 7) := by
          rw [List.getElem?_map, List.getElem?_range (by omega)]; rfl
        rw [hel] at hj
        have := (hf (j / 7) (by omega)).2 (j % 7) u hj
        rw [← hjk, Addr.add_lit] at this
        exact this
    · intro s hs
      obtain ⟨i, hi, rfl⟩ := List.mem_map.1 hs
      exact (hf i (by simpa using hi)).1
    · intro elems sp e
      simp only [DataW.slice.injEq] at e
      rw [hll, ← e.1]
      simp

end
end Go.Proofs.Ytgmnhbmjnllhhac

namespace Go.Proofs.Ytgmnhbmjnllhhac
open Go.ChangeShapes Go.WideShapes Go.ChangeAt Go.RowKit

section
variable {H : Type} {enc : TypeId × Value → H} {W : World} {r : Reach} {b0 base : Nat} {spare : Nat → Bool} {held : Bool} {v : Value} {d : DataW H} {p : List MemPlace}

theorem Try.cellsBld : Try.prog.cellsOf 66 = 1 := by kernel_rfl
theorem Try.cellsFrm : Try.prog.cellsOf 48 = 3 := by kernel_rfl
theorem Try.cellsStrs : Try.prog.cellsOf 46 = 1 := by kernel_rfl

theorem list1 {α : Type} {l : List α} (h : l.length = 1) : ∃ c0, l = [c0] := by
  match l, h with
  | [c0], _ => exact ⟨c0, rfl⟩
theorem list3 {α : Type} {l : List α} (h : l.length = 3) : ∃ c0 c1 c2, l = [c0, c1, c2] := by
  match l, h with
  | [c0, c1, c2], _ => exact ⟨c0, c1, c2, rfl⟩

set_option maxRecDepth 100000 in
theorem op_slots (hval : Value.okWide Try.prog W r b0 22 v) (h : DataW.Trod enc Try.prog W base spare held 22 v d p)
    (hsz : ∀ elems sp, d = .slice elems sp → (elems.length + sp.length) * 48 ≤ 140737488351232) :
    ∃ l : List Sk, Sls W v l ∧ (∀ s ∈ l, s.fits) ∧ l.length * 48 ≤ 140737488351232 ∧ (∀ a n c, v = .slice a n c → n ≤ c) := by
  obtain ⟨a, len, cap, rfl⟩ := okWide_slice Try.underlying22 hval
  obtain ⟨fuel, hf⟩ := h
  obtain ⟨u, l, eu, hS, hfit, _, hcap, hb, hnil, hor⟩ := trod_slots hf
  simp [Value.cells] at eu
  subst eu
  refine ⟨l, hS, hfit, ?_, hcap⟩
  rcases hor with hn | ⟨elems, sp, he⟩
  · rw [hnil hn]; simp
  · have h1 := hb elems sp he
    have h2 := hsz elems sp he
    have : l.length * 48 ≤ (elems.length + sp.length) * 48 := Nat.mul_le_mul_right _ h1
    omega

set_option maxRecDepth 100000 in
theorem op_bld (hval : Value.okWide Try.prog W r b0 66 v) (h : DataW.Trod enc Try.prog W base spare held 66 v d p) :
    ∃ (u : Value) (l : List Sk), v = .agg #[u] ∧ Sls W u l ∧ (∀ s ∈ l, s.fits) ∧ l.length ≤ maxLen ∧ (∀ a n c, u = .slice a n c → n ≤ c) := by
  obtain ⟨cs, rfl, _⟩ := okWide_struct Try.underlying66 hval
  obtain ⟨fuel, hf⟩ := h
  obtain ⟨xs, n, _, _, hl, hxl, hg⟩ := DataW.trod_struct Try.underlying66 hf
  rw [Try.cellsBld] at hl
  obtain ⟨c0, hcs⟩ := list1 hl
  obtain ⟨x0, rfl⟩ := list1 (show xs.length = 1 from hxl)
  rw [hcs] at hg
  have h0 : DataW.trod enc Try.prog W base spare held n 22 (([c0].drop 0).take (Try.prog.cellsOf 22)) = some x0 := hg 0 _ rfl
  rw [Try.cellsSl] at h0
  obtain ⟨u, l, eu, hS, hfit, hlen, hcap, _⟩ := trod_slots h0
  simp at eu
  subst eu
  refine ⟨c0, l, ?_, hS, hfit, hlen, hcap⟩
  have : cs = #[c0] := by
    apply Array.ext'
    simpa [Value.cells] using hcs
  rw [this]

set_option maxRecDepth 100000 in
theorem trod_strs {fuel : Nat} {cs : List Value} {x : DataW H × List MemPlace} (h : DataW.trod enc Try.prog W base spare held fuel 46 cs = some x) :
    ∃ (u : Value) (l : List ByteArray), cs = [u] ∧ Strs W u l ∧ (∀ s ∈ l, s.size ≤ maxLen) ∧ l.length ≤ maxLen ∧ (∀ a n c, u = .slice a n c → n ≤ c) := by
  rcases Go.Deep.open_slice Try.underlying46 h with ⟨rfl, rfl⟩ | ⟨a, len, cap, m, n, D, Pl, rfl, hb, hl, hm, hmm, rfl, hx⟩
  · exact ⟨_, [], rfl, Strs.nil W, by simp, by simp, fun a n c e => by cases e; exact Nat.le_refl _⟩
  · have hlm : len ≤ m := by rw [hmm]; split <;> omega
    rw [Try.cellsS] at hx
    have each : ∀ i, i < len → ∃ s : ByteArray, s.size ≤ maxLen ∧ W.cell? (a.add i) = some (.string s) := fun i hi => by
      obtain ⟨cs', h1, h2⟩ := hx i (by omega)
      obtain ⟨s, hs, _, hw⟩ := DataW.trod_string Try.underlying9 h2
      obtain ⟨_, hl1, hc⟩ := World.cells?_some h1
      refine ⟨s, hw, ?_⟩
      have := hc 0 (by omega)
      rw [hs, Go.Deep.add_add] at this
      simpa using this
    obtain ⟨f, hf⟩ := Go.Deep.choose_lt each
    have hll : ((List.range len).map f).length = len := by simp
    refine ⟨_, (List.range len).map f, rfl, ?_, ?_, by rw [hll]; omega, fun a' n' c' e => by cases e; exact hl⟩
    · show Sl W _ _ 1 _
      rw [hll]
      refine ⟨by simp, ?_⟩
      by_cases h0 : len = 0
      · subst h0
        exact .inl ⟨rfl, _, _, rfl⟩
      · right
        obtain ⟨b, off, spot⟩ := a
        have hc0 := (hf 0 (by omega)).2
        have hspot : spot = none := by simpa [Addr.add] using World.cell?_spot hc0
        subst hspot
        refine ⟨b, off, cap, rfl, by simpa [Addr.add] using World.block_lt_of_cell? W _ hc0, fun j u hj => ?_⟩
        have hjl : j < len := by
          have := (List.getElem?_eq_some_iff.1 hj).1
          simpa using this
        rw [List.getElem?_map, List.getElem?_map, List.getElem?_range hjl] at hj
        simp at hj
        subst hj
        have := (hf j hjl).2
        rw [Addr.add_lit] at this
        exact this
    · intro s hs
      obtain ⟨i, hi, rfl⟩ := List.mem_map.1 hs
      exact (hf i (by simpa using hi)).1

set_option maxRecDepth 100000 in
theorem op_frm (hval : Value.okWide Try.prog W r b0 48 v) (h : DataW.Trod enc Try.prog W base spare held 48 v d p) :
    ∃ (time : Int) (key : Bool) (u : Value) (l : List ByteArray), v = .agg #[.int .i64 time, .bool key, u] ∧ (Lit.int .i64 time).wf = true ∧ Strs W u l ∧ (∀ s ∈ l, s.size ≤ maxLen) ∧ l.length ≤ maxLen := by
  obtain ⟨cs, rfl, _⟩ := okWide_struct Try.underlying48 hval
  obtain ⟨fuel, hf⟩ := h
  obtain ⟨xs, n, _, _, hl, hxl, hg⟩ := DataW.trod_struct Try.underlying48 hf
  rw [Try.cellsFrm] at hl
  obtain ⟨c0, c1, c2, hcs⟩ := list3 hl
  obtain ⟨x0, x1, x2, rfl⟩ := list3 (show xs.length = 3 from hxl)
  rw [hcs] at hg
  have h0 : DataW.trod enc Try.prog W base spare held n 3 (([c0, c1, c2].drop 0).take (Try.prog.cellsOf 3)) = some x0 := hg 0 _ rfl
  have h1 : DataW.trod enc Try.prog W base spare held n 4 (([c0, c1, c2].drop 1).take (Try.prog.cellsOf 4)) = some x1 := hg 1 _ rfl
  have h2 : DataW.trod enc Try.prog W base spare held n 46 (([c0, c1, c2].drop 2).take (Try.prog.cellsOf 46)) = some x2 := hg 2 _ rfl
  rw [Try.cellsI] at h0
  rw [Try.cellsB] at h1
  rw [Try.cellsStrs] at h2
  obtain ⟨a, ea, _, wa⟩ := DataW.trod_int Try.underlying3 h0
  obtain ⟨k, ek, _⟩ := DataW.trod_bool Try.underlying4 h1
  obtain ⟨u, l, eu, hS, hfit, hlen, _⟩ := trod_strs h2
  simp at ea ek eu
  subst ea ek eu
  refine ⟨a, k, c2, l, ?_, wa, hS, hfit, hlen⟩
  have : cs = #[.int .i64 a, .bool k, c2] := by
    apply Array.ext'
    simpa [Value.cells] using hcs
  rw [this]

end
end Go.Proofs.Ytgmnhbmjnllhhac

namespace Go.Proofs.Ytgmnhbmjnllhhac
open Go.ChangeShapes Go.WideShapes Go.ChangeAt Go.RowKit

theorem StrsIn.of {w : World} {v : Value} {l : List ByteArray} (h : Strs w v l) (hl : l.length ≤ 9223372036854775807) : StrsIn (fun _ => True) w v l := by
  refine ⟨h, hl, fun g hg h0 => ⟨trivial, ?_⟩⟩
  obtain ⟨_, ⟨h1, _⟩ | ⟨b, off, c, rfl, hb, _⟩⟩ := h
  · omega
  · simp [Value.ownBlock] at hg
    subst hg
    exact hb

instance : Inhabited Fr := ⟨Fr.zero⟩

section
variable {H : Type} {enc : TypeId × Value → H} {W : World} {r : Reach} {b0 base : Nat} {spare : Nat → Bool} {held : Bool} {v : Value} {d : DataW H} {p : List MemPlace}

theorem Try.cellsFrs : Try.prog.cellsOf 23 = 1 := by kernel_rfl
theorem Try.cellsGrp : Try.prog.cellsOf 35 = 1 := by kernel_rfl

set_option maxRecDepth 100000 in
theorem trod_frm {fuel : Nat} {cs : List Value} {x : DataW H × List MemPlace} (h : DataW.trod enc Try.prog W base spare held fuel 48 cs = some x) :
    ∃ (f : Fr) (u : Value), cs = [.int .i64 f.time, .bool f.key, u] ∧ StrsIn (fun _ => True) W u f.parts := by
  obtain ⟨xs, n, _, _, hl, hxl, hg⟩ := DataW.trod_struct Try.underlying48 h
  rw [Try.cellsFrm] at hl
  obtain ⟨c0, c1, c2, hcs⟩ := list3 hl
  obtain ⟨x0, x1, x2, rfl⟩ := list3 (show xs.length = 3 from hxl)
  rw [hcs] at hg
  have h0 : DataW.trod enc Try.prog W base spare held n 3 (([c0, c1, c2].drop 0).take (Try.prog.cellsOf 3)) = some x0 := hg 0 _ rfl
  have h1 : DataW.trod enc Try.prog W base spare held n 4 (([c0, c1, c2].drop 1).take (Try.prog.cellsOf 4)) = some x1 := hg 1 _ rfl
  have h2 : DataW.trod enc Try.prog W base spare held n 46 (([c0, c1, c2].drop 2).take (Try.prog.cellsOf 46)) = some x2 := hg 2 _ rfl
  rw [Try.cellsI] at h0
  rw [Try.cellsB] at h1
  rw [Try.cellsStrs] at h2
  obtain ⟨a, ea, _, wa⟩ := DataW.trod_int Try.underlying3 h0
  obtain ⟨k, ek, _⟩ := DataW.trod_bool Try.underlying4 h1
  obtain ⟨u, l, eu, hS, hfit, hlen, _⟩ := trod_strs h2
  simp at ea ek eu
  subst ea ek eu
  exact ⟨⟨a, k, l⟩, c2, hcs, StrsIn.of hS (by unfold maxLen at hlen; omega)⟩

set_option maxRecDepth 100000 in
theorem trod_frs {fuel : Nat} {cs : List Value} {x : DataW H × List MemPlace} (h : DataW.trod enc Try.prog W base spare held fuel 23 cs = some x) :
    ∃ (u : Value) (l : List Fr), cs = [u] ∧ FrsIn (fun _ => True) W u l := by
  rcases Go.Deep.open_slice Try.underlying23 h with ⟨rfl, rfl⟩ | ⟨a, len, cap, m, n, D, Pl, rfl, hb, hl, hm, hmm, rfl, hx⟩
  · exact ⟨_, [], rfl, FrsIn.nil _ W⟩
  · have hlm : len ≤ m := by rw [hmm]; split <;> omega
    rw [Try.cellsFrm] at hx
    have each : ∀ i, i < len → ∃ q : Fr × Value, StrsIn (fun _ => True) W q.2 q.1.parts ∧ ∀ j u, [Value.int .i64 q.1.time, .bool q.1.key, q.2][j]? = some u → W.cell? (a.add (i * 3 + j)) = some u := fun i hi => by
      obtain ⟨cs', h1, h2⟩ := hx i (by omega)
      obtain ⟨f, u, hs, hw⟩ := trod_frm h2
      refine ⟨(f, u), hw, fun j y hj => ?_⟩
      obtain ⟨_, hl3, hc⟩ := World.cells?_some h1
      have hj3 : j < 3 := by
        have := (List.getElem?_eq_some_iff.1 hj).1
        simpa using this
      rw [← Go.Deep.add_add, hc j hj3, hs]
      simpa using hj
    obtain ⟨f, hf⟩ := Go.Deep.choose_lt each
    have hll : ((List.range len).map fun i => (f i).1).length = len := by simp
    refine ⟨_, (List.range len).map fun i => (f i).1, rfl, some a, cap, by rw [hll], by rw [hll]; omega, by unfold maxLen at hm; omega, fun k hk => ?_⟩
    rw [hll] at hk
    obtain ⟨b, off, spot⟩ := a
    have hc0 := (hf 0 (by omega)).2 0 _ rfl
    have hspot : spot = none := by simpa [Addr.add] using World.cell?_spot hc0
    subst hspot
    have hel : ((List.range len).map fun i => (f i).1)[k]?.getD Fr.zero = (f k).1 := by
      rw [List.getElem?_map, List.getElem?_range hk]; rfl
    rw [hel]
    have g : ∀ j u, [Value.int .i64 (f k).1.time, .bool (f k).1.key, (f k).2][j]? = some u → W.cell? ⟨b, off + k * 3 + j, none⟩ = some u := fun j u hj => by
      have := (hf k hk).2 j u hj
      rw [Addr.add_lit, ← Nat.add_assoc] at this
      exact this
    exact ⟨b, off, rfl, by simpa [Addr.add] using World.block_lt_of_cell? W _ hc0, trivial, (f k).2, g 0 _ rfl, g 1 _ rfl, g 2 _ rfl, (hf k hk).1⟩

set_option maxRecDepth 100000 in
theorem op_frs (hval : Value.okWide Try.prog W r b0 23 v) (h : DataW.Trod enc Try.prog W base spare held 23 v d p) :
    ∃ l : List Fr, FrsIn (fun _ => True) W v l := by
  obtain ⟨a, len, cap, rfl⟩ := okWide_slice Try.underlying23 hval
  obtain ⟨fuel, hf⟩ := h
  obtain ⟨u, l, eu, hS⟩ := trod_frs hf
  simp [Value.cells] at eu
  subst eu
  exact ⟨l, hS⟩

set_option maxRecDepth 100000 in
theorem op_grp (hval : Value.okWide Try.prog W r b0 35 v) (h : DataW.Trod enc Try.prog W base spare held 35 v d p) :
    ∃ (u : Value) (l : List Fr), v = .agg #[u] ∧ FrsIn (fun _ => True) W u l := by
  obtain ⟨cs, rfl, _⟩ := okWide_struct Try.underlying35 hval
  obtain ⟨fuel, hf⟩ := h
  obtain ⟨xs, n, _, _, hl, hxl, hg⟩ := DataW.trod_struct Try.underlying35 hf
  rw [Try.cellsGrp] at hl
  obtain ⟨c0, hcs⟩ := list1 hl
  obtain ⟨x0, rfl⟩ := list1 (show xs.length = 1 from hxl)
  rw [hcs] at hg
  have h0 : DataW.trod enc Try.prog W base spare held n 23 (([c0].drop 0).take (Try.prog.cellsOf 23)) = some x0 := hg 0 _ rfl
  rw [Try.cellsFrs] at h0
  obtain ⟨u, l, eu, hS⟩ := trod_frs h0
  simp at eu
  subst eu
  refine ⟨c0, l, ?_, hS⟩
  have : cs = #[c0] := by
    apply Array.ext'
    simpa [Value.cells] using hcs
  rw [this]
end
end Go.Proofs.Ytgmnhbmjnllhhac

namespace Go.Proofs.Ytgmnhbmjnllhhac
open Go.ChangeShapes Go.WideShapes Go.ChangeAt Go.RowKit

section
variable {H : Type} {enc : TypeId × Value → H} {W : World} {r : Reach} {b0 base : Nat} {spare : Nat → Bool} {held : Bool} {v : Value} {d : DataW H} {p : List MemPlace}

theorem Try.cellsGrs : Try.prog.cellsOf 38 = 1 := by kernel_rfl
theorem Try.cellsStore : Try.prog.cellsOf 51 = 3 := by kernel_rfl
theorem Try.cellsIntS : Try.prog.cellsOf 3 = 1 := by kernel_rfl

set_option maxRecDepth 100000 in
theorem trod_grp {fuel : Nat} {cs : List Value} {x : DataW H × List MemPlace} (h : DataW.trod enc Try.prog W base spare held fuel 35 cs = some x) :
    ∃ (u : Value) (l : List Fr), cs = [u] ∧ FrsIn (fun _ => True) W u l := by
  obtain ⟨xs, n, _, _, hl, hxl, hg⟩ := DataW.trod_struct Try.underlying35 h
  rw [Try.cellsGrp] at hl
  obtain ⟨c0, hcs⟩ := list1 hl
  obtain ⟨x0, rfl⟩ := list1 (show xs.length = 1 from hxl)
  rw [hcs] at hg
  have h0 : DataW.trod enc Try.prog W base spare held n 23 (([c0].drop 0).take (Try.prog.cellsOf 23)) = some x0 := hg 0 _ rfl
  rw [Try.cellsFrs] at h0
  obtain ⟨u, l, eu, hS⟩ := trod_frs h0
  simp at eu
  subst eu
  exact ⟨c0, l, hcs, hS⟩

set_option maxRecDepth 100000 in
theorem trod_grs {fuel : Nat} {cs : List Value} {x : DataW H × List MemPlace} (h : DataW.trod enc Try.prog W base spare held fuel 38 cs = some x) :
    ∃ (u : Value) (L : List (List Fr)), cs = [u] ∧ GrsIn (fun _ => True) W u L := by
  rcases Go.Deep.open_slice Try.underlying38 h with ⟨rfl, rfl⟩ | ⟨a, len, cap, m, n, D, Pl, rfl, hb, hl, hm, hmm, rfl, hx⟩
  · exact ⟨_, [], rfl, GrsIn.nil _ W⟩
  · have hlm : len ≤ m := by rw [hmm]; split <;> omega
    rw [Try.cellsGrp] at hx
    have each : ∀ i, i < len → ∃ q : List Fr × Value, FrsIn (fun _ => True) W q.2 q.1 ∧ W.cell? (a.add i) = some q.2 := fun i hi => by
      obtain ⟨cs', h1, h2⟩ := hx i (by omega)
      obtain ⟨u, l, hs, hw⟩ := trod_grp h2
      refine ⟨(l, u), hw, ?_⟩
      obtain ⟨_, hl1, hc⟩ := World.cells?_some h1
      have := hc 0 (by omega)
      rw [hs, Go.Deep.add_add] at this
      simpa using this
    obtain ⟨f, hf⟩ := Go.Deep.choose_lt each
    have hll : ((List.range len).map fun i => (f i).1).length = len := by simp
    refine ⟨_, (List.range len).map fun i => (f i).1, rfl, some a, cap, by rw [hll], by rw [hll]; omega, by unfold maxLen at hm; omega, fun k hk => ?_⟩
    rw [hll] at hk
    obtain ⟨b, off, spot⟩ := a
    have hc0 := (hf 0 (by omega)).2
    have hspot : spot = none := by simpa [Addr.add] using World.cell?_spot hc0
    subst hspot
    have hel : ((List.range len).map fun i => (f i).1)[k]?.getD [] = (f k).1 := by
      rw [List.getElem?_map, List.getElem?_range hk]; rfl
    rw [hel]
    have g : W.cell? ⟨b, off + k, none⟩ = some (f k).2 := by
      have := (hf k hk).2
      rw [Addr.add_lit] at this
      exact this
    exact ⟨b, off, rfl, by simpa [Addr.add] using World.block_lt_of_cell? W _ hc0, trivial, (f k).2, g, (hf k hk).1⟩

set_option maxRecDepth 100000 in
theorem op_store (hval : Value.okWide Try.prog W r b0 51 v) (h : DataW.Trod enc Try.prog W base spare held 51 v d p) :
    ∃ (first : Int) (gv ov : Value) (L : List (List Fr)) (O : List Fr), v = .agg #[.int .i64 first, gv, ov] ∧ (Lit.int .i64 first).wf = true ∧ GrsIn (fun _ => True) W gv L ∧ FrsIn (fun _ => True) W ov O := by
  obtain ⟨cs, rfl, _⟩ := okWide_struct Try.underlying51 hval
  obtain ⟨fuel, hf⟩ := h
  obtain ⟨xs, n, _, _, hl, hxl, hg⟩ := DataW.trod_struct Try.underlying51 hf
  rw [Try.cellsStore] at hl
  obtain ⟨c0, c1, c2, hcs⟩ := list3 hl
  obtain ⟨x0, x1, x2, rfl⟩ := list3 (show xs.length = 3 from hxl)
  rw [hcs] at hg
  have h0 : DataW.trod enc Try.prog W base spare held n 3 (([c0, c1, c2].drop 0).take (Try.prog.cellsOf 3)) = some x0 := hg 0 _ rfl
  have h1 : DataW.trod enc Try.prog W base spare held n 38 (([c0, c1, c2].drop 1).take (Try.prog.cellsOf 38)) = some x1 := hg 1 _ rfl
  have h2 : DataW.trod enc Try.prog W base spare held n 35 (([c0, c1, c2].drop 2).take (Try.prog.cellsOf 35)) = some x2 := hg 2 _ rfl
  rw [Try.cellsIntS] at h0
  rw [Try.cellsGrs] at h1
  rw [Try.cellsGrp] at h2
  obtain ⟨a, ea, _, wa⟩ := DataW.trod_int Try.underlying3 h0
  obtain ⟨u1, L, eu1, hL⟩ := trod_grs h1
  obtain ⟨u2, O, eu2, hO⟩ := trod_grp h2
  simp at ea eu1 eu2
  subst ea eu1 eu2
  refine ⟨a, c1, c2, L, O, ?_, wa, hL, hO⟩
  have : cs = #[.int .i64 a, c1, c2] := by
    apply Array.ext'
    simpa [Value.cells] using hcs
  rw [this]
end
end Go.Proofs.Ytgmnhbmjnllhhac

namespace Go.Proofs.Ytgmnhbmjnllhhac
open Go.RowKit

theorem FrsIn.two {S : Nat → Prop} {w : World} {b : Nat} {f : Fr} {pv : Value} (hb : Blk w b #[.int .i64 f.time, .bool f.key, pv] 48) (hS : S b) (hp : StrsIn S w pv f.parts) : FrsIn S w (.slice (some ⟨b, 0, none⟩) 1 1) [f] := FrsIn.one hb hS hp

/-- what is known behind each step -/
def AddI (w1 : World) (f : Fr) (pa : Option Addr) (pn pc : Nat) (oa : Option Addr) (lo oc : Nat) (X : List Fr) (C : List (List Fr)) (R : List Fr) (E : Int) (s : Nat) (r : Nat → Value) (b : Option Nat) (w' : World) : Prop :=
  Below w1.heap.size w1 w' ∧ (s ≤ 4 → ∀ g, b = some g → w1.heap.size ≤ g ∧ Blk w' g #[.slice none 0 0] 35) ∧ match s with
    | 0 => True
    | 1 => ∃ g1, r 0 = .slice (some ⟨g1, 0, none⟩) 1 1 ∧ Blk w' g1 #[.int .i64 f.time, .bool f.key, .slice pa pn pc] 48
    | 2 => ∃ g1 g2, r 1 = .slice (some ⟨g2, 0, none⟩) 2 2 ∧ Blk w' g1 #[.int .i64 f.time, .bool f.key, .slice pa pn pc] 48 ∧ Blk w' g2 #[.slice oa lo oc, .slice (some ⟨g1, 0, none⟩) 1 1] 23
    | 3 => FrsIn (fun _ => True) w' (r 2) X
    | 4 => ∃ ca cc fa fc, r 3 = .tuple #[.slice ca C.length cc, .agg #[.slice fa R.length fc], .int .i64 E] ∧ GrsIn (fun x => b ≠ some x ∧ w1.heap.size ≤ x) w' (.slice ca C.length cc) C ∧ FrsIn (fun x => b ≠ some x ∧ w1.heap.size ≤ x) w' (.slice fa R.length fc) R
    | _ => ∃ g ca cc fa fc, b = some g ∧ w1.heap.size ≤ g ∧ r 3 = .tuple #[.slice ca C.length cc, .agg #[.slice fa R.length fc], .int .i64 E] ∧ GrsIn (fun x => b ≠ some x ∧ w1.heap.size ≤ x) w' (.slice ca C.length cc) C ∧ FrsIn (fun x => b ≠ some x ∧ w1.heap.size ≤ x) w' (.slice fa R.length fc) R ∧ Blk w' g #[.slice fa R.length fc] 35

theorem AddI.box {w1 : World} {f : Fr} {pa : Option Addr} {pn pc : Nat} {oa : Option Addr} {lo oc : Nat} {X : List Fr} {C : List (List Fr)} {R : List Fr} {E : Int} {s : Nat} {r : Nat → Value} {w' : World} (h : AddI w1 f pa pn pc oa lo oc X C R E s r none w') : AddI w1 f pa pn pc oa lo oc X C R E s r (some w'.heap.size) (w'.alloc (.cells #[.slice none 0 0] 35)) := by
  obtain ⟨h1, _, h3⟩ := h
  refine ⟨h1.alloc h1.size _, fun _ g hg => by injection hg with hg; subst hg; exact ⟨h1.size, Blk.new _ _ _⟩, ?_⟩
  match s, h3 with
  | 0, _ => trivial
  | 1, ⟨g1, e1, e2⟩ => exact ⟨g1, e1, e2.alloc _⟩
  | 2, ⟨g1, g2, e1, e2, e3⟩ => exact ⟨g1, g2, e1, e2.alloc _, e3.alloc _⟩
  | 3, h => exact FrsIn.alloc h _
  | 4, ⟨ca, cc, fa, fc, e1, e2, e3⟩ => exact ⟨ca, cc, fa, fc, e1, (e2.mono fun g hg h => ⟨fun e => (by injection e with e; omega), h.2⟩).alloc _, (e3.mono fun g hg h => ⟨fun e => (by injection e with e; omega), h.2⟩).alloc _⟩
  | _ + 5, ⟨g, _, _, _, _, e, _⟩ => cases e

end Go.Proofs.Ytgmnhbmjnllhhac

namespace Go.Proofs.Ytgmnhbmjnllhhac
open Go.RowKit

/-- what the frames of a right group make: that group -/
theorem upG_group {O : List Fr} (h : O = [] ∨ gchk O = 0) : ∀ k, k ≤ O.length → upG O k = ([], O.take k) := by
  rcases h with h | h
  · subst h; intro k hk
    have : k = 0 := by simpa using hk
    subst this; rfl
  · obtain ⟨_, h6, hc⟩ := gchk_zero.1 h
    intro k
    induction k with
    | zero => intro _; rfl
    | succ k ih =>
      intro hk
      rw [upG_succ O k (by omega), ih (by omega), take_one (by omega) Fr.zero]
      have hin := (hc k (by omega)).2
      unfold inPl at hin
      by_cases h0 : k = 0
      · subst h0
        rw [if_pos rfl] at hin
        simp [stepG, growG, hin]
      · rw [if_neg h0] at hin
        simp only [Bool.and_eq_true, Bool.not_eq_true', decide_eq_true_eq] at hin
        have hl : (O.take k).length = k := by simp; omega
        have hlast : frAt (O.take k) (k - 1) = frAt O (k - 1) := by
          unfold frAt; rw [List.getElem?_take_of_lt (by omega)]
        simp only [stepG, hin.1, Bool.false_and, Bool.false_eq_true, if_false]
        unfold growG
        rw [if_neg (by rw [hin.1]; simp), hl, hlast, if_neg (by omega)]
theorem groups_more {O : List Fr} {f : Fr} (h : O = [] ∨ gchk O = 0) (hf : f.chk = 0) : groupsE (O ++ [f]) = 0 ∧ groupsR (O ++ [f]) = (if f.key && decide (0 < O.length) then [O] else [], growG O f) := by
  have hO6 : O.length ≤ 6 := by
    rcases h with h | h
    · rw [h]; simp
    · exact (gchk_zero.1 h).2.1
  have hok : ∀ k, k < (O ++ [f]).length → (frAt (O ++ [f]) k).chk = 0 := fun k hk => by
    by_cases hkl : k < O.length
    · have e : frAt (O ++ [f]) k = frAt O k := by unfold frAt; rw [List.getElem?_append_left hkl]
      rw [e]
      rcases h with h | h
      · rw [h] at hkl; simp at hkl
      · exact ((gchk_zero.1 h).2.2 k hkl).1
    · have : k = O.length := by simp at hk; omega
      subst this
      have e : frAt (O ++ [f]) O.length = f := by unfold frAt; simp
      rw [e]; exact hf
  have hE : groupsE (O ++ [f]) = 0 := by
    unfold groupsE
    rw [if_neg (by simp; omega)]
    exact goN_all _ _ (fun j _ hj => hok j (by omega))
  refine ⟨hE, ?_⟩
  unfold groupsR
  rw [if_pos hE]
  have h1 : upG (O ++ [f]) (O ++ [f]).length = stepG (upG O O.length) f := by
    unfold upG
    rw [List.take_length, List.take_length, List.foldl_append]; rfl
  rw [h1, upG_group h O.length (Nat.le_refl _), List.take_length]
  simp [stepG]

set_option maxHeartbeats 8000000 in
set_option maxRecDepth 100000 in
theorem keeperAdd_any (M : Nat) (first : Int) (gv ov pv : Value) (L : List (List Fr)) (O : List Fr) (f : Fr) (w : World) (hM : Blk w M #[.int .i64 first, gv, ov] 85) (hg : GrsIn (fun g => g ≠ M) w gv L) (ho : FrsIn (fun g => g ≠ M) w ov O) (hp : StrsIn (fun g => g ≠ M) w pv f.parts)
    (hL : L.length ≤ 5) (hLr : ∀ g ∈ L, gchk g = 0) (hOr : O = [] ∨ gchk O = 0) (hf : f.chk = 0) (hf0 : 0 ≤ first) (hf1 : first ≤ 100000) (C : List (List Fr)) (hC : C = if f.key && decide (0 < O.length) then [O] else []) :
    Calls Try.prog 43 #[.pointer (some ⟨M, 0, none⟩), .agg #[.int .i64 f.time, .bool f.key, pv]] w fun e w' => e = .returned (.bool (decide (0 < C.length))) ∧ ∃ gv' ov', Blk w' M #[.int .i64 (first + trimD (L ++ C)), gv', ov'] 85 ∧ GrsIn (fun g => w.heap.size ≤ g) w' gv' ((L ++ C).drop (trimD (L ++ C))) ∧ FrsIn (fun g => w.heap.size ≤ g) w' ov' (growG O f) ∧ Kept [M] w w' := by
  obtain ⟨hE, hR⟩ := groups_more hOr hf
  rw [← hC] at hR
  obtain ⟨R, hRR⟩ : ∃ R, R = growG O f := ⟨_, rfl⟩
  rw [← hRR] at hR
  obtain ⟨ga, gc, eg, _, _⟩ := hg.len
  obtain ⟨oa, oc, eo, _, _⟩ := ho.len
  obtain ⟨pa, pc, ep⟩ := hp.1.len
  obtain ⟨ln, hln⟩ : ∃ n, n = L.length := ⟨_, rfl⟩
  obtain ⟨lo, hlo⟩ : ∃ n, n = O.length := ⟨_, rfl⟩
  obtain ⟨pn, hpn⟩ : ∃ n, n = f.parts.length := ⟨_, rfl⟩
  rw [← hln] at eg
  rw [← hlo] at eo
  rw [← hpn] at ep
  have hO6 : O.length ≤ 6 := by
    rcases hOr with h | h
    · rw [h]; simp
    · exact (gchk_zero.1 h).2.1
  have hC1 : C.length ≤ 1 := by rw [hC]; split <;> simp
  have HX : Hid (∀ (U : World) (x : Value), FrsIn (fun _ => True) U x (O ++ [f]) → Calls Try.prog 13 #[x] U fun e w'' => ∃ ca cc fa fc, e = .returned (.tuple #[.slice ca C.length cc, .agg #[.slice fa R.length fc], .int .i64 0]) ∧ GrsIn (fun g => U.heap.size ≤ g) w'' (.slice ca C.length cc) C ∧ FrsIn (fun g => U.heap.size ≤ g) w'' (.slice fa R.length fc) R ∧ Below U.heap.size U w'') := fun U x hx => by
    have := groupAll_any x (O ++ [f]) U _ hx
    rw [hE, hR] at this
    exact this
  have HG : Hid (GrsIn (fun g => g ≠ M) w gv L) := hg
  have HO : Hid (FrsIn (fun g => g ≠ M) w ov O) := ho
  have HP : Hid (StrsIn (fun g => g ≠ M) w pv f.parts) := hp
  have HM : Hid (Blk w M #[.int .i64 first, gv, ov] 85) := hM
  have HLR : Hid (∀ g ∈ L, gchk g = 0) := hLr
  have HO6 : Hid (O.length ≤ 6) := hO6
  have HLO : Hid (lo = O.length) := hlo
  have hMw : M < w.heap.size := hM.lt
  rw [← hRR]
  clear hE hR hg ho hp hM hLr hOr hf hRR hC hln hpn hlo
  subst eg eo ep
  go_enter Try.func43, Try.ntmps43
  go_wp2_with fail
  obtain ⟨w1, hw1⟩ : ∃ w1, w1 = w.alloc (.cells #[.int .i64 f.time, .bool f.key, .slice pa pn pc] 48) := ⟨_, rfl⟩
  have B1 : Below w.heap.size w w1 := by rw [hw1]; exact (Below.refl _ _).alloc (Nat.le_refl _) _
  have KF : Blk w1 w.heap.size #[.int .i64 f.time, .bool f.key, .slice pa pn pc] 48 := by rw [hw1]; exact Blk.new _ _ _
  have KM : Blk w1 M #[.int .i64 first, .slice ga ln gc, .slice oa lo oc] 85 := HM.out.below B1 hMw
  have hw1s : w1.heap.size = w.heap.size + 1 := by rw [hw1]; simp
  rw [← hw1]
  have BB1 : Hid (Below w.heap.size w w1) := B1
  have KMH : Hid (Blk w1 M #[.int .i64 first, .slice ga ln gc, .slice oa lo oc] 85) := KM
  clear hw1 B1
  refine region_box (by kernel_rfl) (by kernel_rfl) [.quiet (.pointer (some ⟨M, 0, none⟩)) 5, .quiet (.pointer (some ⟨M, 0, none⟩)) 5, .quiet (.pointer (some ⟨M, 0, none⟩)) 5, .quiet (.pointer (some ⟨M, 2, none⟩)) 5, .quiet (.pointer (some ⟨M, 2, none⟩)) 5, .quiet (.slice oa lo oc) 5, .quiet (.agg #[.int .i64 f.time, .bool f.key, .slice pa pn pc]) 5, .step 0, .step 1, .step 2, .step 3, .fin 3 (fun x => x), .fin 3 (exT 0), .fin 3 (exT 1), .fin 3 (exT 2), .box, .fin 3 (exT 0), .step 4, .fin 3 (exT 2)] [7, 8, 9, 10, 17] 15 (by kernel_rfl)
    (AddI w1 f pa pn pc oa lo oc (O ++ [f]) C R 0) ?i0 ?step ?fin
  case i0 => exact ⟨⟨rfl, rfl, rfl, Nat.le_refl _, fun _ _ => rfl⟩, fun _ g hg => (by cases hg), trivial⟩
  case step =>
    intro i o ho a' w' s r b hI hfree hvals hbx
    have f0 : a'.eval (.tmp 0) = .pointer (some ⟨M, 0, none⟩) := (hfree 0 (by kernel_rfl)).trans rfl
    have f3 : a'.eval (.tmp 3) = .pointer (some ⟨w.heap.size, 0, none⟩) := (hfree 3 (by kernel_rfl)).trans rfl
    have hBw : Below w1.heap.size w1 w' := hI.1
    have hMw1 := KM.lt
    have hFw1 := KF.lt
    obtain ⟨_, _, y2⟩ := (KM.below hBw hMw1).three
    obtain ⟨z0, z1, z2⟩ := (KF.below hBw hFw1).three
    have hR3 : 3 < s → ∃ ca cc fa fc, r 3 = .tuple #[.slice ca C.length cc, .agg #[.slice fa R.length fc], .int .i64 0] := fun hs => by
      match s, hs, hI.2.2 with
      | 4, _, ⟨ca, cc, fa, fc, e, _⟩ => exact ⟨ca, cc, fa, fc, e⟩
      | _ + 5, _, ⟨_, ca, cc, fa, fc, _, _, e, _⟩ => exact ⟨ca, cc, fa, fc, e⟩
    match i, ho with
    | 0, ho =>
      simp at ho; subst ho
      show s ≤ 5 → (execOp a'.eval _).run _ w' = .ok (.value _) w'
      intro _
      generalize a'.eval = ρ at *
      simp [execOp, go_sem, f0]
    | 1, ho =>
      simp at ho; subst ho
      have e1 : a'.eval (.tmp 9) = .pointer (some ⟨M, 0, none⟩) := hvals 0 _ _ (by kernel_rfl) rfl rfl
      show s ≤ 5 → (execOp a'.eval _).run _ w' = .ok (.value _) w'
      intro _
      generalize a'.eval = ρ at *
      simp [execOp, go_sem, e1]
    | 2, ho =>
      simp at ho; subst ho
      have e1 : a'.eval (.tmp 10) = .pointer (some ⟨M, 0, none⟩) := hvals 1 _ _ (by kernel_rfl) rfl rfl
      show s ≤ 5 → (execOp a'.eval _).run _ w' = .ok (.value _) w'
      intro _
      generalize a'.eval = ρ at *
      simp [execOp, go_sem, e1]
    | 3, ho =>
      simp at ho; subst ho
      have e1 : a'.eval (.tmp 11) = .pointer (some ⟨M, 0, none⟩) := hvals 2 _ _ (by kernel_rfl) rfl rfl
      show s ≤ 5 → (execOp a'.eval _).run _ w' = .ok (.value _) w'
      intro _
      generalize a'.eval = ρ at *
      simp [execOp, go_sem, e1]
    | 4, ho =>
      simp at ho; subst ho
      have e1 : a'.eval (.tmp 12) = .pointer (some ⟨M, 2, none⟩) := hvals 3 _ _ (by kernel_rfl) rfl rfl
      show s ≤ 5 → (execOp a'.eval _).run _ w' = .ok (.value _) w'
      intro _
      generalize a'.eval = ρ at *
      simp [execOp, go_sem, e1]
    | 5, ho =>
      simp at ho; subst ho
      have e1 : a'.eval (.tmp 13) = .pointer (some ⟨M, 2, none⟩) := hvals 4 _ _ (by kernel_rfl) rfl rfl
      show s ≤ 5 → (execOp a'.eval _).run _ w' = .ok (.value _) w'
      intro _
      generalize a'.eval = ρ at *
      simp [execOp, go_sem, e1, y2]
    | 6, ho =>
      simp at ho; subst ho
      show s ≤ 5 → (execOp a'.eval _).run _ w' = .ok (.value _) w'
      intro _
      generalize a'.eval = ρ at *
      simp [execOp, go_sem, f3, z0, z1, z2]
    | 7, ho =>
      simp at ho; subst ho
      have e1 : a'.eval (.tmp 15) = .agg #[.int .i64 f.time, .bool f.key, .slice pa pn pc] := hvals 6 _ _ (by kernel_rfl) rfl rfl
      show s = 0 → _
      intro hs
      subst hs
      refine oper_wp_ok (v := .slice (some ⟨w'.heap.size, 0, none⟩) 1 1) (w' := w'.alloc (.cells #[.int .i64 f.time, .bool f.key, .slice pa pn pc] 48)) ?_ ⟨_, rfl, hBw.alloc hBw.size _, fun _ g hg => ⟨(hI.2.1 (by omega) g hg).1, (hI.2.1 (by omega) g hg).2.alloc _⟩, w'.heap.size, updR_at _ _ _, Blk.new _ _ _⟩
      generalize a'.eval = ρ at *
      simp [execOp, go_sem, e1]
    | 8, ho =>
      simp at ho; subst ho
      show s = 1 → _
      intro hs
      subst hs
      obtain ⟨g1, q1, q2⟩ := hI.2.2
      have e1 : a'.eval (.tmp 14) = .slice oa lo oc := hvals 5 _ _ (by kernel_rfl) rfl rfl
      have e2 : a'.eval (.tmp 16) = .slice (some ⟨g1, 0, none⟩) 1 1 := (hvals 7 _ _ (by kernel_rfl) rfl rfl).trans q1
      refine oper_wp_ok (v := .slice (some ⟨w'.heap.size, 0, none⟩) 2 2) (w' := w'.alloc (.cells #[.slice oa lo oc, .slice (some ⟨g1, 0, none⟩) 1 1] 23)) ?_ ⟨_, rfl, hBw.alloc hBw.size _, fun _ g hg => ⟨(hI.2.1 (by omega) g hg).1, (hI.2.1 (by omega) g hg).2.alloc _⟩, g1, w'.heap.size, updR_at _ _ _, q2.alloc _, Blk.new _ _ _⟩
      generalize a'.eval = ρ at *
      simp [execOp, go_sem, e1, e2]
    | 9, ho =>
      simp at ho; subst ho
      show s = 2 → _
      intro hs
      subst hs
      obtain ⟨g1, g2, q1, q2, q3⟩ := hI.2.2
      have e1 : a'.eval (.tmp 17) = .slice (some ⟨g2, 0, none⟩) 2 2 := (hvals 8 _ _ (by kernel_rfl) rfl rfl).trans q1
      have ef : a'.eval (.func 63) = .func (.func 63) #[] #[] := rfl
      obtain ⟨t0, t1⟩ := q3.two
      have hbw : Below w.heap.size w w' := BB1.out.trans (hBw.mono BB1.out.size)
      have hc := concatFrs_any (fun _ => True) g2 (.slice oa lo oc) (.slice (some ⟨g1, 0, none⟩) 1 1) O [f] w' t0 t1 ((HO.out.below hbw).mono fun _ _ _ => trivial) (FrsIn.one q2 trivial ((HP.out.below hbw).mono fun _ _ _ => trivial)) (by have := HO6.out; simp; omega)
      refine oper_wp_call (f := 63) (args := #[.slice (some ⟨g2, 0, none⟩) 2 2]) ?_ (hc.mono ?_)
      · generalize a'.eval = ρ at *
        simp [execOp, go_sem, e1, ef]
      · rintro e w'' ⟨u, rfl, o1, b1⟩
        exact ⟨u, rfl, u, rfl, hBw.trans (b1.mono hBw.size), fun _ g hg => ⟨(hI.2.1 (by omega) g hg).1, (hI.2.1 (by omega) g hg).2.below b1 (hI.2.1 (by omega) g hg).2.lt⟩, by show FrsIn _ _ _ _; rw [updR_at]; exact o1.frsIn (fun _ _ _ => trivial) (fun _ _ => trivial)⟩
    | 10, ho =>
      simp at ho; subst ho
      show s = 3 → _
      intro hs
      subst hs
      have e1 : a'.eval (.tmp 18) = r 2 := hvals 9 _ _ (by kernel_rfl) rfl rfl
      have ef : a'.eval (.func 13) = .func (.func 13) #[] #[] := rfl
      refine oper_wp_call (f := 13) (args := #[r 2]) ?_ ((HX.out w' (r 2) hI.2.2).mono ?_)
      · generalize a'.eval = ρ at *
        simp [execOp, go_sem, e1, ef]
      · rintro e w'' ⟨ca, cc, fa, fc, rfl, s1, s2, b1⟩
        have hne : ∀ x, w'.heap.size ≤ x → b ≠ some x := fun x hx e => by have := (hI.2.1 (by omega) x e).2.lt; omega
        exact ⟨_, rfl, _, rfl, hBw.trans (b1.mono hBw.size), fun _ g hg => ⟨(hI.2.1 (by omega) g hg).1, (hI.2.1 (by omega) g hg).2.below b1 (hI.2.1 (by omega) g hg).2.lt⟩, ca, cc, fa, fc, updR_at _ _ _, s1.mono fun x _ hx => ⟨hne x hx, by have := hBw.size; omega⟩, s2.mono fun x _ hx => ⟨hne x hx, by have := hBw.size; omega⟩⟩
    | 11, ho =>
      simp at ho; subst ho
      have e1 : a'.eval (.tmp 19) = r 3 := hvals 10 _ _ (by kernel_rfl) rfl rfl
      show 3 < s → (execOp a'.eval _).run _ w' = .ok (.value _) w'
      intro hs
      obtain ⟨ca, cc, fa, fc, er⟩ := hR3 hs
      rw [er] at e1 ⊢
      generalize a'.eval = ρ at *
      simp [execOp, go_sem, e1]
    | 12, ho =>
      simp at ho; subst ho
      have e1 : a'.eval (.tmp 8) = r 3 := hvals 11 _ _ (by kernel_rfl) rfl rfl
      show 3 < s → (execOp a'.eval _).run _ w' = .ok (.value _) w'
      intro hs
      obtain ⟨ca, cc, fa, fc, er⟩ := hR3 hs
      rw [er] at e1 ⊢
      simp only [exT] at e1 ⊢
      generalize a'.eval = ρ at *
      simp [execOp, go_sem, e1]
    | 13, ho =>
      simp at ho; subst ho
      have e1 : a'.eval (.tmp 8) = r 3 := hvals 11 _ _ (by kernel_rfl) rfl rfl
      show 3 < s → (execOp a'.eval _).run _ w' = .ok (.value _) w'
      intro hs
      obtain ⟨ca, cc, fa, fc, er⟩ := hR3 hs
      rw [er] at e1 ⊢
      simp only [exT] at e1 ⊢
      generalize a'.eval = ρ at *
      simp [execOp, go_sem, e1]
    | 14, ho =>
      simp at ho; subst ho
      have e1 : a'.eval (.tmp 8) = r 3 := hvals 11 _ _ (by kernel_rfl) rfl rfl
      show 3 < s → (execOp a'.eval _).run _ w' = .ok (.value _) w'
      intro hs
      obtain ⟨ca, cc, fa, fc, er⟩ := hR3 hs
      rw [er] at e1 ⊢
      simp only [exT] at e1 ⊢
      generalize a'.eval = ρ at *
      simp [execOp, go_sem, e1]
    | 15, ho =>
      simp at ho; subst ho
      show b = none → _
      intro hb
      subst hb
      refine ⟨.cells #[.slice none 0 0] 35, ?_, hI.box⟩
      generalize a'.eval = ρ at *
      simp [execOp, go_sem]
    | 16, ho =>
      simp at ho; subst ho
      have e1 : a'.eval (.tmp 20) = exT 0 (r 3) := hvals 12 _ _ (by kernel_rfl) rfl rfl
      show 3 < s → (execOp a'.eval _).run _ w' = .ok (.value _) w'
      intro hs
      obtain ⟨ca, cc, fa, fc, er⟩ := hR3 hs
      rw [er] at e1 ⊢
      simp only [exT] at e1 ⊢
      generalize a'.eval = ρ at *
      simp [execOp, go_sem, e1]
    | 17, ho =>
      simp at ho; subst ho
      show s = 4 → _
      intro hs
      subst hs
      obtain ⟨ca, cc, fa, fc, er, s1, s2⟩ := hI.2.2
      obtain ⟨g, hg⟩ := Option.isSome_iff_exists.1 (hbx (by kernel_rfl))
      subst hg
      obtain ⟨hgb, kg⟩ := hI.2.1 (by omega) g rfl
      have e1 : a'.eval (.tmp 6) = .pointer (some ⟨g, 0, none⟩) := hvals 15 _ _ (by kernel_rfl) rfl rfl
      have e2 : a'.eval (.tmp 21) = .agg #[.slice fa R.length fc] := (hvals 13 _ _ (by kernel_rfl) rfl rfl).trans (by show exT 1 (r 3) = _; rw [er]; rfl)
      have t0 := kg.one
      have t1 := kg.free 0
      refine oper_wp_skip (w' := w'.setCell ⟨g, 0, none⟩ (.slice fa R.length fc)) ?_ ⟨_, rfl, hBw.setCell hgb _, fun h => absurd h (by omega), ?_⟩
      · generalize a'.eval = ρ at *
        simp [execOp, go_sem, e1, e2, t0, t1]
      · exact ⟨g, ca, cc, fa, fc, rfl, hgb, by rw [updR_ne (by omega)]; exact er, s1.to (SameOn.setCell (fun x hx e => hx.1 (by rw [e])) _) (fun _ _ h => h), s2.to (SameOn.setCell (fun x hx e => hx.1 (by rw [e])) _) (fun _ _ h => h), kg.set 0 _⟩
    | 18, ho =>
      simp at ho; subst ho
      have e1 : a'.eval (.tmp 22) = exT 2 (r 3) := hvals 14 _ _ (by kernel_rfl) rfl rfl
      show 3 < s → (execOp a'.eval _).run _ w' = .ok (.value _) w'
      intro hs
      obtain ⟨ca, cc, fa, fc, er⟩ := hR3 hs
      rw [er] at e1 ⊢
      simp only [exT] at e1 ⊢
      generalize a'.eval = ρ at *
      simp [execOp, go_sem, e1]
    | i + 19, ho => simp at ho
  case fin =>
    rintro r g W ⟨hB, _, g', ca, cc, fa, fc, hgg, hg1, er, s1, s2, kg⟩
    injection hgg with hgg
    subst hgg
    simp only [putB, Cb.out, er, exT]
    obtain ⟨nC, hnC⟩ : ∃ n, n = C.length := ⟨_, rfl⟩
    obtain ⟨nR, hnR⟩ : ∃ n, n = R.length := ⟨_, rfl⟩
    rw [← hnC] at s1
    rw [← hnR] at s2 kg
    have HNC : Hid (nC = C.length) := hnC
    simp only [← hnC, ← hnR]
    have KMW : Blk W M #[.int .i64 first, .slice ga ln gc, .slice oa lo oc] 85 := KMH.out.below hB KMH.out.lt
    have BW : Below w.heap.size w W := BB1.out.trans (hB.mono BB1.out.size)
    have GW : GrsIn (fun x => x ≠ M) W (.slice ga ln gc) L := HG.out.below BW
    have hMW : M < W.heap.size := KMW.lt
    have HCLN : Hid (Calls Try.prog 64 #[.slice ga ln gc] W fun e w' => ∃ u, e = .returned u ∧ OwnGrs W.heap.size (NS W.heap.size u) w' u L ∧ Below W.heap.size W w') := cloneGroups_any _ _ L W GW (by omega) HLR.out
    have S1 : Hid (GrsIn (fun x => w1.heap.size ≤ x ∧ x < W.heap.size) W (.slice ca nC cc) C) := s1.mono fun x hx h => ⟨h.2, hx⟩
    have S2 : Hid (FrsIn (fun x => w1.heap.size ≤ x ∧ x < W.heap.size) W (.slice fa nR fc) R) := s2.mono fun x hx h => ⟨h.2, hx⟩
    have KG : Hid (Blk W g #[.slice fa nR fc] 35) := kg
    have KMW2 : Hid (Blk W M #[.int .i64 first, .slice ga ln gc, .slice oa lo oc] 85) := KMW
    have HKW : Hid (Kept [M] w W) := (Kept.refl [M] w).below BW
    have hgM : g ≠ M := by omega
    have hWw : w.heap.size ≤ W.heap.size := BW.size
    obtain ⟨q0, q1, q2⟩ := KMW.three
    clear s1 s2 kg hB er BW GW KMW
    have HNR : Hid (nR = R.length) := hnR
    clear hnC hnR KM KF
    go_wp2_with fail
    refine HCLN.out.mono ?_
    rintro e w2 ⟨u, rfl, ou, bu⟩
    have hu : ∀ x, u.ownBlock = some x → W.heap.size ≤ x ∧ x < w2.heap.size := ou.lt
    have O2 : OwnGrs W.heap.size (fun x => w.heap.size ≤ x ∧ some x ≠ u.ownBlock ∧ x < w2.heap.size) w2 u L := ou.to (SameOn.refl _ _) (fun x hx h => ⟨by have := h.1; omega, h.2, hx⟩) (fun _ _ => rfl)
    have S3 : GrsIn (fun x => w.heap.size ≤ x ∧ some x ≠ u.ownBlock ∧ x < w2.heap.size) w2 (.slice ca nC cc) C := (S1.out.below bu).mono fun x hx h => ⟨by have := h.1; omega, fun e => (by have := (hu x e.symm).1; omega), hx⟩
    obtain ⟨qs, t1, t2, t3⟩ := S3.sl
    obtain ⟨v', w3, r3, o3, g3, dd⟩ := groups_app O2 t1 t2 t3 (fun x hx => hx.2.1) (by omega) bu.size
    have hg3 : ∀ x, x < W.heap.size → w3.heap[x]? = W.heap[x]? := fun x hx => (g3.block x (Nat.lt_of_lt_of_le hx bu.size) (fun e => by have := (hu x e.symm).1; omega)).trans (bu.block x hx)
    have hs3 : w2.heap.size ≤ w3.heap.size := g3.size
    have hWs3 : W.heap.size ≤ w3.heap.size := Nat.le_trans bu.size hs3
    have BW3 : Below W.heap.size W w3 := bu.grown g3 bu.size (fun x hx => (hu x hx).1)
    have K3 : Blk w3 M #[.int .i64 first, .slice ga ln gc, .slice oa lo oc] 85 := (hg3 M hMW).trans KMW2.out
    have G3 : Blk w3 g #[.slice fa nR fc] 35 := (hg3 g KG.out.lt).trans KG.out
    have hv' : ∀ x, v'.ownBlock = some x → W.heap.size ≤ x := fun x hx => (o3.lt x hx).1
    have V3 : GrsIn (fun x => w.heap.size ≤ x) w3 v' (L ++ C) := o3.grsIn (fun x _ h => h.1) (fun x hx => by have := hv' x hx; omega)
    have R3 : FrsIn (fun x => w.heap.size ≤ x) w3 (.slice fa nR fc) R := S2.out.to ⟨hWs3, fun x hx _ => hg3 x hx⟩ (fun x _ h => by have := h.1; omega)
    obtain ⟨va, vc, ev, _, _⟩ := V3.len
    obtain ⟨nV, hnV⟩ : ∃ n, n = (L ++ C).length := ⟨_, rfl⟩
    rw [← hnV] at ev
    clear hnV
    have c1 := K3.three
    obtain ⟨c10, c11, c12⟩ := c1
    have fr := K3.free
    have cg := G3.one
    obtain ⟨w5, hw5⟩ : ∃ w5, w5 = (w3.setCell ⟨M, 1, none⟩ v').setCell ⟨M, 2, none⟩ (.slice fa nR fc) := ⟨_, rfl⟩
    have K5 : Blk w5 M #[.int .i64 first, v', .slice fa nR fc] 85 := by
      rw [hw5]; exact (K3.set 1 v').set 2 (.slice fa nR fc)
    have same5 : SameOn (fun x => w.heap.size ≤ x) w3 w5 := by
      rw [hw5]
      exact (SameOn.setCell (S := fun x => w.heap.size ≤ x) (w := w3) (a := ⟨M, 1, none⟩) (fun x hx => (by show x ≠ M; omega)) v').trans (SameOn.setCell (S := fun x => w.heap.size ≤ x) (w := w3.setCell ⟨M, 1, none⟩ v') (a := ⟨M, 2, none⟩) (fun x hx => (by show x ≠ M; omega)) (.slice fa nR fc))
    have V5 : GrsIn (fun x => w.heap.size ≤ x) w5 v' (L ++ C) := V3.to same5 (fun _ _ h => h)
    have R5 : Hid (FrsIn (fun x => w.heap.size ≤ x) w5 (.slice fa nR fc) R) := R3.to same5 (fun _ _ h => h)
    have P5 : Hid (Kept [M] w w5) := by
      rw [hw5]; exact ((HKW.out.below BW3).setCell (by simp) _).setCell (by simp) _
    have HLG : Hid (Calls Try.prog 65 #[.pointer (some ⟨M, 0, none⟩)] w5 fun e w' => e = .returned (.tuple #[]) ∧ ∃ gv', Blk w' M #[.int .i64 (first + trimD (L ++ C)), gv', .slice fa nR fc] 85 ∧ GrsIn (fun x => w.heap.size ≤ x) w' gv' ((L ++ C).drop (trimD (L ++ C))) ∧ Kept [M] w5 w') := letGo_any M first v' _ (L ++ C) _ w5 K5 V5 (fun x hx => (by show x ≠ M; omega)) (by simp; omega) hf0 (by omega)
    clear ou bu hu O2 S3 t1 t2 t3 o3 g3 dd hg3 hs3 BW3 K3 G3 hv' V3 R3 K5 V5 same5 q0 q1 q2 HCLN
    subst ev
    go_wp2_with (at_builtin; refine wpList_append_run rfl (.tmp 29) (.tmp 30) 38 38 rfl _ _ rfl rfl r3 ?_)
    rw [← hw5]
    refine HLG.out.mono ?_
    rintro e w6 ⟨rfl, gv', k6, v6, p6⟩
    have R6 : FrsIn (fun x => w.heap.size ≤ x) w6 (.slice fa nR fc) R := R5.out.to ⟨p6.size, fun x hx h => p6.block x hx (by simp; omega)⟩ (fun _ _ h => h)
    have FIN : Hid (∃ gv' ov', Blk w6 M #[.int .i64 (first + trimD (L ++ C)), gv', ov'] 85 ∧ GrsIn (fun g => w.heap.size ≤ g) w6 gv' ((L ++ C).drop (trimD (L ++ C))) ∧ FrsIn (fun g => w.heap.size ≤ g) w6 ov' R ∧ Kept [M] w w6) := ⟨gv', .slice fa nR fc, k6, v6, R6, P5.out.trans p6⟩
    clear k6 v6 p6 R6 R5 P5 HLG hw5 c10 c11 c12 fr cg r3
    go_wp2
    go_ret
    exact ⟨by rw [← HNC.out]; first | rfl | simp, FIN.out⟩

end Go.Proofs.Ytgmnhbmjnllhhac

namespace Go.Proofs.Ytgmnhbmjnllhhac
open Go.RowKit

/-- the group that a frame closes -/
def closedG (O : List Fr) (f : Fr) : List (List Fr) := if f.key && decide (0 < O.length) then [O] else []
/-- what Add says, and what it leaves -/
def addsE (first : Int) (L : List (List Fr)) (O : List Fr) (f : Fr) : Int := if stchk first L O = 0 then (if f.chk = 0 then (if 100000 < first + trimD (L ++ closedG O f) then 2 else 0) else f.chk) else stchk first L O
def addsF (first : Int) (L : List (List Fr)) (O : List Fr) (f : Fr) : Int := if addsE first L O f = 0 then first + trimD (L ++ closedG O f) else 0
def addsL (first : Int) (L : List (List Fr)) (O : List Fr) (f : Fr) : List (List Fr) := if addsE first L O f = 0 then (L ++ closedG O f).drop (trimD (L ++ closedG O f)) else []
def addsO (first : Int) (L : List (List Fr)) (O : List Fr) (f : Fr) : List Fr := if addsE first L O f = 0 then growG O f else []
def addsB (first : Int) (L : List (List Fr)) (O : List Fr) (f : Fr) : Bool := if addsE first L O f = 0 then decide (0 < (closedG O f).length) else false

set_option maxHeartbeats 8000000 in
set_option maxRecDepth 100000 in
theorem storeAdd_any (first : Int) (gv ov pv : Value) (L : List (List Fr)) (O : List Fr) (f : Fr) (w : World) (hg : GrsIn (fun _ => True) w gv L) (ho : FrsIn (fun _ => True) w ov O) (hp : StrsIn (fun _ => True) w pv f.parts) :
    Calls Try.prog 21 #[.agg #[.int .i64 first, gv, ov], .agg #[.int .i64 f.time, .bool f.key, pv]] w fun e w' => ∃ gv' ov', e = .returned (.tuple #[.agg #[.int .i64 (addsF first L O f), gv', ov'], .bool (addsB first L O f), .int .i64 (addsE first L O f)]) ∧ GrsIn (fun _ => True) w' gv' (addsL first L O f) ∧ FrsIn (fun _ => True) w' ov' (addsO first L O f) ∧ Below w.heap.size w w' := by
  obtain ⟨ga, gc, eg, _, _⟩ := hg.len
  obtain ⟨oa, oc, eo, _, _⟩ := ho.len
  obtain ⟨pa, pc, ep⟩ := hp.1.len
  obtain ⟨ln, hln⟩ : ∃ n, n = L.length := ⟨_, rfl⟩
  obtain ⟨lo, hlo⟩ : ∃ n, n = O.length := ⟨_, rfl⟩
  obtain ⟨pn, hpn⟩ : ∃ n, n = f.parts.length := ⟨_, rfl⟩
  rw [← hln] at eg
  rw [← hlo] at eo
  rw [← hpn] at ep
  have HG : Hid (GrsIn (fun g => g < w.heap.size) w gv L) := hg.mono fun g h _ => h
  have HO : Hid (FrsIn (fun g => g < w.heap.size) w ov O) := ho.mono fun g h _ => h
  have HP : Hid (StrsIn (fun g => g < w.heap.size) w pv f.parts) := hp.mono fun g h _ => h
  obtain ⟨E, hE⟩ : ∃ E, E = addsE first L O f := ⟨_, rfl⟩
  obtain ⟨K, hK⟩ : ∃ K, K = stchk first L O := ⟨_, rfl⟩
  obtain ⟨Z, hZ⟩ : ∃ Z, Z = f.chk := ⟨_, rfl⟩
  obtain ⟨C, hC⟩ : ∃ C, C = closedG O f := ⟨_, rfl⟩
  have HE : Hid (E = if K = 0 then (if Z = 0 then (if 100000 < first + trimD (L ++ C) then 2 else 0) else Z) else K) := by show _ = _; rw [hE, hK, hZ, hC]; rfl
  have HBAD : Hid (¬ E = 0 → addsF first L O f = 0 ∧ addsL first L O f = [] ∧ addsO first L O f = [] ∧ addsB first L O f = false) := fun h => by
    rw [hE] at h
    exact ⟨if_neg h, if_neg h, if_neg h, if_neg h⟩
  have HGOOD : Hid (E = 0 → addsF first L O f = first + trimD (L ++ C) ∧ addsL first L O f = (L ++ C).drop (trimD (L ++ C)) ∧ addsO first L O f = growG O f ∧ addsB first L O f = decide (0 < C.length)) := fun h => by
    rw [hE] at h
    rw [hC]
    exact ⟨if_pos h, if_pos h, if_pos h, if_pos h⟩
  have HCK : Hid (∀ U, Below w.heap.size w U → Calls Try.prog 30 #[.agg #[.int .i64 first, gv, ov]] U fun e w' => e = .returned (.int .i64 K) ∧ Below U.heap.size U w') := fun U hU => by
    rw [hK]; exact storeCheck_any _ first gv ov L O U (HG.out.below hU) (HO.out.below hU)
  have HCF : Hid (∀ U, Below w.heap.size w U → Calls Try.prog 37 #[.agg #[.int .i64 f.time, .bool f.key, pv]] U fun e w' => e = .returned (.int .i64 Z) ∧ Below U.heap.size U w') := fun U hU => by
    rw [hZ]; exact frameCheck_any _ _ _ _ _ (HP.out.below hU).1 HP.out.2.1
  have HADD : Hid (K = 0 → Z = 0 → ∀ (M : Nat) (U : World), w.heap.size ≤ M → Blk U M #[.int .i64 first, gv, ov] 85 → Below w.heap.size w U → Calls Try.prog 43 #[.pointer (some ⟨M, 0, none⟩), .agg #[.int .i64 f.time, .bool f.key, pv]] U fun e w' => e = .returned (.bool (decide (0 < C.length))) ∧ ∃ gv' ov', Blk w' M #[.int .i64 (first + trimD (L ++ C)), gv', ov'] 85 ∧ GrsIn (fun g => U.heap.size ≤ g) w' gv' ((L ++ C).drop (trimD (L ++ C))) ∧ FrsIn (fun g => U.heap.size ≤ g) w' ov' (growG O f) ∧ Kept [M] U w') := fun h1 h2 M U hM hk hU => by
    have h1' : stchk first L O = 0 := by rw [← hK]; exact h1
    obtain ⟨a1, a2, a3, a4, _, a6⟩ := stchk_zero.1 h1'
    exact keeperAdd_any M first gv ov pv L O f U hk ((HG.out.below hU).mono fun g _ h => by omega) ((HO.out.below hU).mono fun g _ h => by omega) ((HP.out.below hU).mono fun g _ h => by omega) a3 a4 a6 (by rw [← hZ]; exact h2) a1 a2 C hC
  have HTR : Hid (K = 0 → 0 ≤ first ∧ first ≤ 100000) := fun h => by
    have h1' : stchk first L O = 0 := by rw [← hK]; exact h
    obtain ⟨a1, a2, _⟩ := stchk_zero.1 h1'
    exact ⟨a1, a2⟩
  have HEE : Hid (E = addsE first L O f) := hE
  clear hg ho hp hE hK hZ hC hln hlo hpn
  subst eg eo ep
  go_enter Try.func21, Try.ntmps21
  go_wp2_with fail
  obtain ⟨w1, hw1⟩ : ∃ w1, w1 = ((w.alloc (.cells #[.int .i64 first, .slice ga ln gc, .slice oa lo oc] 51)).alloc (.cells #[.int .i64 f.time, .bool f.key, .slice pa pn pc] 48)).alloc (.cells #[.int .i64 0, .slice none 0 0, .slice none 0 0] 51) := ⟨_, rfl⟩
  have B1 : Hid (Below w.heap.size w w1) := by
    rw [hw1]; exact (((Below.refl _ _).alloc (Nat.le_refl _) _).alloc (by simp) _).alloc (by simp; omega) _
  have K1 : Hid (Blk w1 w.heap.size #[.int .i64 first, .slice ga ln gc, .slice oa lo oc] 51) := by rw [hw1]; exact ((Blk.new w _ _).alloc _).alloc _
  have F1 : Hid (Blk w1 (w.heap.size + 1) #[.int .i64 f.time, .bool f.key, .slice pa pn pc] 48) := by
    have := (Blk.new (w.alloc (.cells #[.int .i64 first, .slice ga ln gc, .slice oa lo oc] 51)) #[.int .i64 f.time, .bool f.key, .slice pa pn pc] 48).alloc (.cells #[.int .i64 0, .slice none 0 0, .slice none 0 0] 51)
    rw [hw1]; simpa [Hid] using this
  have R1 : Hid (Blk w1 (w.heap.size + 1 + 1) #[.int .i64 0, .slice none 0 0, .slice none 0 0] 51) := by
    have := Blk.new ((w.alloc (.cells #[.int .i64 first, .slice ga ln gc, .slice oa lo oc] 51)).alloc (.cells #[.int .i64 f.time, .bool f.key, .slice pa pn pc] 48)) #[.int .i64 0, .slice none 0 0, .slice none 0 0] 51
    rw [hw1]; simpa [Hid] using this
  rw [← hw1]
  clear hw1
  refine (HCK.out _ B1.out).mono ?_
  rintro e w2 ⟨rfl, hb⟩
  have B2 : Hid (Below w.heap.size w w2) := B1.out.trans (hb.mono B1.out.size)
  have K2 : Hid (Blk w2 w.heap.size #[.int .i64 first, .slice ga ln gc, .slice oa lo oc] 51) := K1.out.below hb K1.out.lt
  have F2 : Hid (Blk w2 (w.heap.size + 1) #[.int .i64 f.time, .bool f.key, .slice pa pn pc] 48) := F1.out.below hb F1.out.lt
  have R2 : Hid (Blk w2 (w.heap.size + 1 + 1) #[.int .i64 0, .slice none 0 0, .slice none 0 0] 51) := R1.out.below hb R1.out.lt
  clear hb B1 K1 F1 R1 HCK
  by_cases hK : K = 0
  case neg =>
    have HEK : Hid (E = K) := by show _ = _; rw [HE.out, if_neg hK]
    obtain ⟨r0, r1, r2⟩ := R2.out.three
    have fr := R2.out.free
    go_wp2
    obtain ⟨b1, b2, b3, b4⟩ := HBAD.out (by rw [HEK.out]; exact hK)
    rw [b1, b2, b3, b4, ← HEE.out, HEK.out]
    refine bodyPost_ret (v := .tuple #[.agg #[.int .i64 0, .slice none 0 0, .slice none 0 0], .bool false, .int .i64 K]) (by simp [results, Try.results21, go_sem, r0, r1, r2]) rfl ⟨_, _, rfl, GrsIn.nil _ _, FrsIn.nil _ _, ?_⟩
    first | exact B2.out | exact ((B2.out.setCell (by show _ ≤ w.heap.size + 1 + 1; omega) _).setCell (by show _ ≤ w.heap.size + 1 + 1; omega) _).setCell (by show _ ≤ w.heap.size + 1 + 1; omega) _
  obtain ⟨hf0, hf1⟩ := HTR.out hK
  obtain ⟨f0, f1, f2⟩ := F2.out.three
  go_wp2_with fail
  refine (HCF.out _ B2.out).mono ?_
  rintro e w3 ⟨rfl, hb⟩
  have B3 : Hid (Below w.heap.size w w3) := B2.out.trans (hb.mono B2.out.size)
  have K3 : Hid (Blk w3 w.heap.size #[.int .i64 first, .slice ga ln gc, .slice oa lo oc] 51) := K2.out.below hb K2.out.lt
  have F3 : Hid (Blk w3 (w.heap.size + 1) #[.int .i64 f.time, .bool f.key, .slice pa pn pc] 48) := F2.out.below hb F2.out.lt
  have R3 : Hid (Blk w3 (w.heap.size + 1 + 1) #[.int .i64 0, .slice none 0 0, .slice none 0 0] 51) := R2.out.below hb R2.out.lt
  clear hb B2 K2 F2 R2 HCF f0 f1 f2
  by_cases hZ : Z = 0
  case neg =>
    have HEK : Hid (E = Z) := by show _ = _; rw [HE.out, if_pos hK, if_neg hZ]
    obtain ⟨r0, r1, r2⟩ := R3.out.three
    have fr := R3.out.free
    subst hK
    go_wp2
    obtain ⟨b1, b2, b3, b4⟩ := HBAD.out (by rw [HEK.out]; exact hZ)
    rw [b1, b2, b3, b4, ← HEE.out, HEK.out]
    refine bodyPost_ret (v := .tuple #[.agg #[.int .i64 0, .slice none 0 0, .slice none 0 0], .bool false, .int .i64 Z]) (by simp [results, Try.results21, go_sem, r0, r1, r2]) rfl ⟨_, _, rfl, GrsIn.nil _ _, FrsIn.nil _ _, ?_⟩
    first | exact B3.out | exact ((B3.out.setCell (by show _ ≤ w.heap.size + 1 + 1; omega) _).setCell (by show _ ≤ w.heap.size + 1 + 1; omega) _).setCell (by show _ ≤ w.heap.size + 1 + 1; omega) _
  have HAD2 : Hid (∀ (M : Nat) (U : World), w.heap.size ≤ M → Blk U M #[.int .i64 first, .slice ga ln gc, .slice oa lo oc] 85 → Below w.heap.size w U → Calls Try.prog 43 #[.pointer (some ⟨M, 0, none⟩), .agg #[.int .i64 f.time, .bool f.key, .slice pa pn pc]] U fun e w' => e = .returned (.bool (decide (0 < C.length))) ∧ ∃ gv' ov', Blk w' M #[.int .i64 (first + trimD (L ++ C)), gv', ov'] 85 ∧ GrsIn (fun g => U.heap.size ≤ g) w' gv' ((L ++ C).drop (trimD (L ++ C))) ∧ FrsIn (fun g => U.heap.size ≤ g) w' ov' (growG O f) ∧ Kept [M] U w') := HADD.out hK hZ
  have HE2 : Hid (E = if 100000 < first + trimD (L ++ C) then 2 else 0) := by show _ = _; rw [HE.out, if_pos hK, if_pos hZ]
  obtain ⟨T, hT⟩ : ∃ T : Int, T = first + trimD (L ++ C) := ⟨_, rfl⟩
  obtain ⟨D, hD⟩ : ∃ D : Bool, D = decide (0 < C.length) := ⟨_, rfl⟩
  rw [← hT] at HAD2 HE2 HGOOD
  rw [← hD] at HAD2 HGOOD
  clear HADD HE HTR hT hD
  subst hK hZ
  obtain ⟨k0, k1, k2⟩ := K3.out.three
  obtain ⟨f0, f1, f2⟩ := F3.out.three
  have hFl : w.heap.size + 1 < w3.heap.size := F3.out.lt
  have hKl : w.heap.size < w3.heap.size := K3.out.lt
  go_wp2_with fail
  obtain ⟨U, hU⟩ : ∃ U, U = w3.alloc (.cells #[.int .i64 first, .slice ga ln gc, .slice oa lo oc] 85) := ⟨_, rfl⟩
  have BU : Hid (Below w.heap.size w U) := by rw [hU]; exact B3.out.alloc B3.out.size _
  have KU : Hid (Blk U w3.heap.size #[.int .i64 first, .slice ga ln gc, .slice oa lo oc] 85) := by rw [hU]; exact Blk.new _ _ _
  have RU : Hid (Blk U (w.heap.size + 1 + 1) #[.int .i64 0, .slice none 0 0, .slice none 0 0] 51) := by rw [hU]; exact R3.out.alloc _
  rw [← hU]
  have hMR : w.heap.size + 1 + 1 < w3.heap.size := R3.out.lt
  clear hU k0 k1 k2 f0 f1 f2 K3 F3 R3 B3
  refine (HAD2.out _ _ (by omega) KU.out BU.out).mono ?_
  rintro e w5 ⟨rfl, gv', ov', k5, v5, o5, p5⟩
  have B5 : Hid (Below w.heap.size w w5) := BU.out.trans (p5.toBelow BU.out.size (fun k hk => by simp at hk; omega))
  have R5 : Hid (Blk w5 (w.heap.size + 1 + 1) #[.int .i64 0, .slice none 0 0, .slice none 0 0] 51) := RU.out.kept p5 (by simp; omega)
  have hRU := RU.out.lt
  obtain ⟨va, vc, ev, _, _⟩ := v5.len
  obtain ⟨qa, qc, eq, _, _⟩ := o5.len
  obtain ⟨nv, hnv⟩ : ∃ n, n = ((L ++ C).drop (trimD (L ++ C))).length := ⟨_, rfl⟩
  obtain ⟨nq, hnq⟩ : ∃ n, n = (growG O f).length := ⟨_, rfl⟩
  rw [← hnv] at ev
  rw [← hnq] at eq
  clear hnv hnq
  subst ev eq
  have V5 : Hid (GrsIn (fun g => U.heap.size ≤ g) w5 (.slice va nv vc) ((L ++ C).drop (trimD (L ++ C)))) := v5
  have O5 : Hid (FrsIn (fun g => U.heap.size ≤ g) w5 (.slice qa nq qc) (growG O f)) := o5
  obtain ⟨k0, k1, k2⟩ := k5.three
  obtain ⟨r0, r1, r2⟩ := R5.out.three
  have fr := R5.out.free
  clear v5 o5 p5 HAD2 RU KU
  by_cases hT : 100000 < T
  · have HEK : Hid (E = 2) := by show _ = _; rw [HE2.out, if_pos hT]
    go_wp2
    obtain ⟨b1, b2, b3, b4⟩ := HBAD.out (by rw [HEK.out]; decide)
    rw [b1, b2, b3, b4, ← HEE.out, HEK.out]
    refine bodyPost_ret (v := .tuple #[.agg #[.int .i64 0, .slice none 0 0, .slice none 0 0], .bool false, .int .i64 2]) (by simp [results, Try.results21, go_sem, r0, r1, r2]) rfl ⟨_, _, rfl, GrsIn.nil _ _, FrsIn.nil _ _, ?_⟩
    first | exact B5.out | exact ((B5.out.setCell (by show _ ≤ w.heap.size + 1 + 1; omega) _).setCell (by show _ ≤ w.heap.size + 1 + 1; omega) _).setCell (by show _ ≤ w.heap.size + 1 + 1; omega) _
  · have HEK : Hid (E = 0) := by show _ = _; rw [HE2.out, if_neg hT]
    obtain ⟨V, hV⟩ : ∃ V, V = ((w5.setCell ⟨w.heap.size + 1 + 1, 0, none⟩ (.int .i64 T)).setCell ⟨w.heap.size + 1 + 1, 1, none⟩ (.slice va nv vc)).setCell ⟨w.heap.size + 1 + 1, 2, none⟩ (.slice qa nq qc) := ⟨_, rfl⟩
    have KV : Blk V (w.heap.size + 1 + 1) #[.int .i64 T, .slice va nv vc, .slice qa nq qc] 51 := by
      rw [hV]; exact ((R5.out.set 0 (.int .i64 T)).set 1 (.slice va nv vc)).set 2 (.slice qa nq qc)
    have hVo : ∀ g, g ≠ w.heap.size + 1 + 1 → V.heap[g]? = w5.heap[g]? := fun g hg => by
      rw [hV, Below.heap_setCell _ _ _ _ (by exact hg), Below.heap_setCell _ _ _ _ (by exact hg), Below.heap_setCell _ _ _ _ (by exact hg)]
    have hVs : V.heap.size = w5.heap.size := by rw [hV]; simp
    have GV : Hid (GrsIn (fun _ => True) V (.slice va nv vc) ((L ++ C).drop (trimD (L ++ C)))) := V5.out.to ⟨by omega, fun g _ hg => hVo g (by omega)⟩ (fun _ _ _ => trivial)
    have OV : Hid (FrsIn (fun _ => True) V (.slice qa nq qc) (growG O f)) := O5.out.to ⟨by omega, fun g _ hg => hVo g (by omega)⟩ (fun _ _ _ => trivial)
    have BV : Hid (Below w.heap.size w V) := by
      rw [hV]; exact ((B5.out.setCell (by show _ ≤ w.heap.size + 1 + 1; omega) _).setCell (by show _ ≤ w.heap.size + 1 + 1; omega) _).setCell (by show _ ≤ w.heap.size + 1 + 1; omega) _
    obtain ⟨c0, c1, c2⟩ := KV.three
    clear hVo hVs V5 O5 KV
    go_wp2_with fail
    rw [← hV]
    obtain ⟨b1, b2, b3, b4⟩ := HGOOD.out HEK.out
    rw [b1, b2, b3, b4, ← HEE.out, HEK.out]
    exact bodyPost_ret (v := .tuple #[.agg #[.int .i64 T, .slice va nv vc, .slice qa nq qc], .bool D, .int .i64 0]) (by simp [results, Try.results21, go_sem, c0, c1, c2]) rfl ⟨_, _, rfl, GV.out, OV.out, BV.out⟩

end Go.Proofs.Ytgmnhbmjnllhhac

namespace Go.Proofs.Ytgmnhbmjnllhhac
open Go.RowKit

/-- what Get says, and what it finds -/
def getE (first : Int) (L : List (List Fr)) (O : List Fr) (n : Int) : Int := if stchk first L O = 0 then (if n < first then 5 else if ((allG L O).length : Int) ≤ n - first then 5 else 0) else stchk first L O
def getG (first : Int) (L : List (List Fr)) (O : List Fr) (n : Int) : List Fr := if getE first L O n = 0 then grAt (allG L O) (n - first).toNat else []
theorem allG_len (L : List (List Fr)) (O : List Fr) (h : L.length ≤ 5) : (allG L O).length ≤ 6 := by
  unfold allG; split
  · simp; omega
  · omega
theorem allG_right {first : Int} {L : List (List Fr)} {O : List Fr} (h : stchk first L O = 0) : ∀ g ∈ allG L O, gchk g = 0 := by
  obtain ⟨_, _, _, h1, _, h2⟩ := stchk_zero.1 h
  intro g hg
  unfold allG at hg
  split at hg
  · rcases List.mem_append.1 hg with hg | hg
    · exact h1 g hg
    · simp at hg; subst hg
      rcases h2 with h2 | h2
      · rename_i h0; rw [h2] at h0; simp at h0
      · exact h2
  · exact h1 g hg

set_option maxHeartbeats 4000000 in
set_option maxRecDepth 100000 in
theorem storeGet_new (first : Int) (gv ov : Value) (L : List (List Fr)) (O : List Fr) (n : Int) (w : World) (hg : GrsIn (fun _ => True) w gv L) (ho : FrsIn (fun _ => True) w ov O) (hnb : n ≤ 9223372036854775807) :
    Calls Try.prog 23 #[.agg #[.int .i64 first, gv, ov], .int .i64 n] w fun e w' => ∃ a c, e = .returned (.tuple #[.agg #[.slice a (getG first L O n).length c], .int .i64 (getE first L O n)]) ∧ FrsIn (fun g => w.heap.size ≤ g) w' (.slice a (getG first L O n).length c) (getG first L O n) ∧ Below w.heap.size w w' := by
  obtain ⟨ga, gc, eg, _, _⟩ := hg.len
  obtain ⟨oa, oc, eo, _, _⟩ := ho.len
  obtain ⟨ln, hln⟩ : ∃ n, n = L.length := ⟨_, rfl⟩
  obtain ⟨lo, hlo⟩ : ∃ n, n = O.length := ⟨_, rfl⟩
  rw [← hln] at eg
  rw [← hlo] at eo
  have HG : Hid (GrsIn (fun _ => True) w gv L) := hg
  have HO : Hid (FrsIn (fun _ => True) w ov O) := ho
  obtain ⟨E, hE⟩ : ∃ E, E = getE first L O n := ⟨_, rfl⟩
  obtain ⟨G, hG⟩ : ∃ G, G = getG first L O n := ⟨_, rfl⟩
  obtain ⟨K, hK⟩ : ∃ K, K = stchk first L O := ⟨_, rfl⟩
  have HE : Hid (E = if K = 0 then (if n < first then 5 else if ((allG L O).length : Int) ≤ n - first then 5 else 0) else K) := by show _ = _; rw [hE, hK]; rfl
  have HGG : Hid (G = if E = 0 then grAt (allG L O) (n - first).toNat else []) := by show _ = _; rw [hG, hE]; rfl
  have HC : Hid (∀ U, Below w.heap.size w U → Calls Try.prog 30 #[.agg #[.int .i64 first, gv, ov]] U fun e w' => e = .returned (.int .i64 K) ∧ Below U.heap.size U w') := fun U hU => by
    rw [hK]; exact storeCheck_any _ first gv ov L O U (HG.out.below hU) (HO.out.below hU)
  have HK0 : Hid (K = 0 → 0 ≤ first ∧ first ≤ 100000 ∧ L.length ≤ 5 ∧ (∀ g ∈ allG L O, gchk g = 0)) := fun h => by
    have h' : stchk first L O = 0 := by rw [← hK]; exact h
    obtain ⟨h1, h2, h3, _⟩ := stchk_zero.1 h'
    exact ⟨h1, h2, h3, allG_right h'⟩
  rw [← hE, ← hG]
  clear hg ho hE hG hK hln hlo
  subst eg eo
  go_enter Try.func23, Try.ntmps23
  go_wp2_with fail
  have B1 : Hid (Below w.heap.size w ((w.alloc (.cells #[.int .i64 first, .slice ga ln gc, .slice oa lo oc] 51)).alloc (.cells #[.slice none 0 0] 35))) := ((Below.refl _ _).alloc (Nat.le_refl _) _).alloc (by simp) _
  have K1 : Hid (Blk ((w.alloc (.cells #[.int .i64 first, .slice ga ln gc, .slice oa lo oc] 51)).alloc (.cells #[.slice none 0 0] 35)) w.heap.size #[.int .i64 first, .slice ga ln gc, .slice oa lo oc] 51) := (Blk.new w _ _).alloc _
  have R1 : Hid (Blk ((w.alloc (.cells #[.int .i64 first, .slice ga ln gc, .slice oa lo oc] 51)).alloc (.cells #[.slice none 0 0] 35)) (w.heap.size + 1) #[.slice none 0 0] 35) := by
    have := Blk.new (w.alloc (.cells #[.int .i64 first, .slice ga ln gc, .slice oa lo oc] 51)) #[.slice none 0 0] 35
    simpa [Hid] using this
  refine (HC.out _ B1.out).mono ?_
  rintro e w2 ⟨rfl, hb2⟩
  have B2 : Hid (Below w.heap.size w w2) := B1.out.trans (hb2.mono B1.out.size)
  have K2 : Hid (Blk w2 w.heap.size #[.int .i64 first, .slice ga ln gc, .slice oa lo oc] 51) := K1.out.below hb2 K1.out.lt
  have R2 : Hid (Blk w2 (w.heap.size + 1) #[.slice none 0 0] 35) := R1.out.below hb2 R1.out.lt
  clear hb2 B1 K1 R1 HC
  obtain ⟨k0, k1, k2⟩ := K2.out.three
  have r0 := R2.out.one
  have r1 := R2.out.free 0
  by_cases hK : K = 0
  case neg =>
    have HEE : Hid (E = K ∧ G = []) := by
      have e1 : E = K := by rw [HE.out, if_neg hK]
      exact ⟨e1, by rw [HGG.out, if_neg (by rw [e1]; exact hK)]⟩
    go_wp2
    obtain ⟨e1, e2⟩ := HEE.out
    rw [e1, e2]
    exact bodyPost_ret (v := .tuple #[.agg #[.slice none 0 0], .int .i64 K]) (by simp [results, Try.results23, go_sem, r0]) rfl ⟨none, 0, rfl, FrsIn.nil _ _, by first | exact B2.out | exact B2.out.setCell (by simp) _⟩
  obtain ⟨hf0, hf1, hL5, hAR⟩ := HK0.out hK
  have HAR : Hid (∀ g ∈ allG L O, gchk g = 0) := hAR
  have HE2 : Hid (E = if n < first then 5 else if ((allG L O).length : Int) ≤ n - first then 5 else 0) := by show _ = _; rw [HE.out, if_pos hK]
  have HAL : Hid ((allG L O).length ≤ 6) := allG_len L O hL5
  have HL5 : Hid (L.length ≤ 100) := by show _ ≤ _; omega
  clear hAR HE HK0 hL5
  subst hK
  obtain ⟨A, hA⟩ : ∃ A, A = allG L O := ⟨_, rfl⟩
  rw [← hA] at HAR HE2 HAL HGG
  obtain ⟨q, hq⟩ : ∃ q, q = A.length := ⟨_, rfl⟩
  have HQ : Hid (q = A.length) := hq
  have hq6 : q ≤ 6 := by rw [hq]; exact HAL.out
  rw [← hq] at HE2
  have HALL : Hid (∀ (M : Nat) (U : World), Blk U M #[.int .i64 first, .slice ga ln gc, .slice oa lo oc] 85 → Below w.heap.size w U → Calls Try.prog 44 #[.pointer (some ⟨M, 0, none⟩)] U fun e w' => ∃ a c, e = .returned (.slice a q c) ∧ Hid (GrsIn (fun _ => True) w' (.slice a q c) A) ∧ Below U.heap.size U w') := fun M U h1 h2 => by
    refine (keeperAll_any M first _ _ L O U h1 (HG.out.below h2) (HO.out.below h2) HL5.out).mono ?_
    rintro e w' ⟨u, rfl, h3, h4⟩
    rw [← hA] at h3
    obtain ⟨a, c, e, _, _⟩ := h3.len
    rw [← hq] at e
    subst e
    exact ⟨a, c, rfl, h3, h4⟩
  clear hA hq
  go_wp2_with fail
  have B3 : Hid (Below w.heap.size w (w2.alloc (.cells #[.int .i64 first, .slice ga ln gc, .slice oa lo oc] 85))) := B2.out.alloc B2.out.size _
  have M3 : Hid (Blk (w2.alloc (.cells #[.int .i64 first, .slice ga ln gc, .slice oa lo oc] 85)) w2.heap.size #[.int .i64 first, .slice ga ln gc, .slice oa lo oc] 85) := Blk.new _ _ _
  refine (HALL.out _ _ M3.out B3.out).mono ?_
  rintro e w4 ⟨ua, uc, rfl, GU, hb4⟩
  have B4 : Hid (Below w.heap.size w w4) := B3.out.trans (hb4.mono B3.out.size)
  have M4 : Hid (Blk w4 w2.heap.size #[.int .i64 first, .slice ga ln gc, .slice oa lo oc] 85) := M3.out.below hb4 M3.out.lt
  have R4 : Hid (Blk w4 (w.heap.size + 1) #[.slice none 0 0] 35) := (R2.out.alloc _).below hb4 (by have := R2.out.lt; simp; omega)
  clear hb4 B3 M3 B2 K2 R2 k0 k1 k2 r0 r1 HALL
  obtain ⟨k0, k1, k2⟩ := M4.out.three
  have r0 := R4.out.one
  have r1 := R4.out.free 0
  by_cases hn1 : n < first
  · have HEE : Hid (E = 5 ∧ G = []) := by
      have e1 : E = 5 := by rw [HE2.out, if_pos hn1]
      exact ⟨e1, by rw [HGG.out, if_neg (by rw [e1]; decide)]⟩
    go_wp2
    obtain ⟨e1, e2⟩ := HEE.out
    rw [e1, e2]
    exact bodyPost_ret (v := .tuple #[.agg #[.slice none 0 0], .int .i64 5]) (by simp [results, Try.results23, go_sem, r0]) rfl ⟨none, 0, rfl, FrsIn.nil _ _, by first | exact B4.out | exact B4.out.setCell (by simp) _⟩
  by_cases hn2 : (q : Int) ≤ n - first
  · have HEE : Hid (E = 5 ∧ G = []) := by
      have e1 : E = 5 := by rw [HE2.out, if_neg hn1, if_pos hn2]
      exact ⟨e1, by rw [HGG.out, if_neg (by rw [e1]; decide)]⟩
    go_wp2
    obtain ⟨e1, e2⟩ := HEE.out
    rw [e1, e2]
    exact bodyPost_ret (v := .tuple #[.agg #[.slice none 0 0], .int .i64 5]) (by simp [results, Try.results23, go_sem, r0]) rfl ⟨none, 0, rfl, FrsIn.nil _ _, by first | exact B4.out | exact B4.out.setCell (by simp) _⟩
  obtain ⟨d, hd⟩ : ∃ d : Nat, (d : Int) = n - first := ⟨(n - first).toNat, by omega⟩
  have hdq : d < q := by omega
  have hnd : n = first + d := by omega
  have HEE : Hid (E = 0 ∧ G = grAt A d) := by
    have e1 : E = 0 := by rw [HE2.out, if_neg hn1, if_neg hn2]
    exact ⟨e1, by rw [HGG.out, if_pos e1, ← hd]; rfl⟩
  obtain ⟨ao, c', eu, _, _, hc⟩ := GU.out
  rw [← HQ.out] at eu
  injection eu with eu eu2 eu3
  clear eu2
  subst eu eu3
  obtain ⟨b, off, e1, hb, _, sv, c0, hsv⟩ := hc d (by rw [← HQ.out]; exact hdq)
  have hGd : grAt A d = G := HEE.out.2.symm
  rw [show A[d]?.getD [] = G from hGd] at hsv
  obtain ⟨sa, sc, es, _, _⟩ := hsv.len
  obtain ⟨gn, hgn⟩ : ∃ gn, gn = G.length := ⟨_, rfl⟩
  rw [← hgn] at es
  have HGN : Hid (gn = G.length) := hgn
  have hGR : gchk G = 0 := HAR.out G (by rw [← hGd]; unfold grAt; rw [List.getElem?_eq_getElem (by rw [← HQ.out]; exact hdq)]; exact List.getElem_mem _)
  have HCL : Hid (Calls Try.prog 45 #[.agg #[sv]] w4 fun e w' => ∃ a c, e = .returned (.agg #[.slice a gn c]) ∧ Hid (FrsIn (fun g => w4.heap.size ≤ g) w' (.slice a gn c) G) ∧ Below w4.heap.size w4 w') := by
    show Calls _ _ _ _ _
    rw [hgn]; exact cloneGroup_any _ sv G w4 hsv hGR
  have HE0 : Hid (E = 0) := HEE.out.1
  have hdw : IntKind.i64.wrap (d : Int) = (d : Int) := by rw [IntKind.wrap_i64]; omega
  have hdqi : (d : Int) < (q : Int) := by omega
  have hnf : first + (d : Int) - first = (d : Int) := by omega
  have hnl : ¬ first + (d : Int) < first := by omega
  have hqd : ¬ (q : Int) ≤ (d : Int) := by omega
  clear hc hsv hGd hGR hn1 hn2 hd HE2 HGG HEE hgn
  subst hnd es e1
  go_wp2_with fail
  refine HCL.out.mono ?_
  rintro e w5 ⟨a5, c5, rfl, HF5, hb5⟩
  have B5 : Hid (Below w.heap.size w w5) := B4.out.trans (hb5.mono B4.out.size)
  have K5 := R4.out.below hb5 R4.out.lt
  have q0 := K5.one
  have q1 := K5.free 0
  have c9 : (w5.setCell ⟨w.heap.size + 1, 0, none⟩ (.slice a5 gn c5)).cell? ⟨w.heap.size + 1, 0, none⟩ = some (.slice a5 gn c5) := (K5.set 0 _).cell rfl
  have hlt4 := R4.out.lt
  have F9 : Hid (FrsIn (fun g => w.heap.size ≤ g) (w5.setCell ⟨w.heap.size + 1, 0, none⟩ (.slice a5 gn c5)) (.slice a5 gn c5) G) := HF5.out.to (SameOn.setCell (fun g hg => by simp at hg ⊢; omega) _) (fun g _ h => by omega)
  clear hb5 K5 HF5 HCL c0 k0 k1 k2 r0 r1
  go_wp2
  rw [HE0.out, ← HGN.out]
  exact bodyPost_ret (v := .tuple #[.agg #[.slice a5 gn c5], .int .i64 0]) (by simp [results, Try.results23, go_sem, c9]) rfl ⟨a5, c5, rfl, F9.out, B5.out.setCell (by simp) _⟩

theorem storeGet_any (first : Int) (gv ov : Value) (L : List (List Fr)) (O : List Fr) (n : Int) (w : World) (hg : GrsIn (fun _ => True) w gv L) (ho : FrsIn (fun _ => True) w ov O) (hnb : n ≤ 9223372036854775807) :
    Calls Try.prog 23 #[.agg #[.int .i64 first, gv, ov], .int .i64 n] w fun e w' => ∃ a c, e = .returned (.tuple #[.agg #[.slice a (getG first L O n).length c], .int .i64 (getE first L O n)]) ∧ FrsIn (fun _ => True) w' (.slice a (getG first L O n).length c) (getG first L O n) ∧ Below w.heap.size w w' := by
  refine (storeGet_new first gv ov L O n w hg ho hnb).mono ?_
  rintro e w' ⟨a, c, rfl, h1, h2⟩
  exact ⟨a, c, rfl, h1.mono (fun _ _ _ => trivial), h2⟩

end Go.Proofs.Ytgmnhbmjnllhhac

namespace Go.Proofs.Ytgmnhbmjnllhhac
open Go.RowKit

/-- the last one behind the first that begins so early, or the first one -/
def seekI (A : List (List Fr)) (t : Int) : Nat → Nat
  | 0 => 0
  | i + 1 => if (frAt (grAt A (i + 1)) 0).time ≤ t then i + 1 else seekI A t i
theorem seekI_le (A : List (List Fr)) (t : Int) : ∀ i, seekI A t i ≤ i
  | 0 => Nat.le_refl _
  | i + 1 => by
    unfold seekI; split
    · exact Nat.le_refl _
    · exact Nat.le_succ_of_le (seekI_le A t i)
theorem seekI_hit {A : List (List Fr)} {t : Int} {i i1 : Nat} (h : i = i1 + 1) (hl : (frAt (grAt A i) 0).time ≤ t) : seekI A t i = i := by
  subst h; simp only [seekI]; rw [if_pos hl]
theorem seekI_miss {A : List (List Fr)} {t : Int} {i i1 : Nat} (h : i = i1 + 1) (hl : ¬ (frAt (grAt A i) 0).time ≤ t) : seekI A t i = seekI A t i1 := by
  subst h; simp only [seekI]; rw [if_neg hl]
def seekE (first : Int) (L : List (List Fr)) (O : List Fr) (t : Int) : Int := if stchk first L O = 0 then (if t < 0 then 3 else if 1000000 < t then 3 else if (allG L O).length = 0 then 5 else 0) else stchk first L O
def seekN (first : Int) (L : List (List Fr)) (O : List Fr) (t : Int) : Int := if seekE first L O t = 0 then first + seekI (allG L O) t ((allG L O).length - 1) else 0

set_option maxHeartbeats 4000000 in
set_option maxRecDepth 100000 in
theorem storeSeek_any (first : Int) (gv ov : Value) (L : List (List Fr)) (O : List Fr) (t : Int) (w : World) (hg : GrsIn (fun _ => True) w gv L) (ho : FrsIn (fun _ => True) w ov O) :
    Calls Try.prog 22 #[.agg #[.int .i64 first, gv, ov], .int .i64 t] w fun e w' => e = .returned (.tuple #[.int .i64 (seekN first L O t), .int .i64 (seekE first L O t)]) ∧ Below w.heap.size w w' := by
  obtain ⟨ga, gc, eg, _, _⟩ := hg.len
  obtain ⟨oa, oc, eo, _, _⟩ := ho.len
  obtain ⟨ln, hln⟩ : ∃ n, n = L.length := ⟨_, rfl⟩
  obtain ⟨lo, hlo⟩ : ∃ n, n = O.length := ⟨_, rfl⟩
  rw [← hln] at eg
  rw [← hlo] at eo
  have HG : Hid (GrsIn (fun _ => True) w gv L) := hg
  have HO : Hid (FrsIn (fun _ => True) w ov O) := ho
  obtain ⟨E, hE⟩ : ∃ E, E = seekE first L O t := ⟨_, rfl⟩
  obtain ⟨N, hN⟩ : ∃ N, N = seekN first L O t := ⟨_, rfl⟩
  obtain ⟨K, hK⟩ : ∃ K, K = stchk first L O := ⟨_, rfl⟩
  have HE : Hid (E = if K = 0 then (if t < 0 then 3 else if 1000000 < t then 3 else if (allG L O).length = 0 then 5 else 0) else K) := by show _ = _; rw [hE, hK]; rfl
  have HNN : Hid (N = if E = 0 then first + seekI (allG L O) t ((allG L O).length - 1) else 0) := by show _ = _; rw [hN, hE]; rfl
  have HC : Hid (∀ U, Below w.heap.size w U → Calls Try.prog 30 #[.agg #[.int .i64 first, gv, ov]] U fun e w' => e = .returned (.int .i64 K) ∧ Below U.heap.size U w') := fun U hU => by
    rw [hK]; exact storeCheck_any _ first gv ov L O U (HG.out.below hU) (HO.out.below hU)
  have HK0 : Hid (K = 0 → 0 ≤ first ∧ first ≤ 100000 ∧ L.length ≤ 5 ∧ (∀ g ∈ allG L O, gchk g = 0)) := fun h => by
    have h' : stchk first L O = 0 := by rw [← hK]; exact h
    obtain ⟨h1, h2, h3, _⟩ := stchk_zero.1 h'
    exact ⟨h1, h2, h3, allG_right h'⟩
  have HBAD : Hid (∀ e : Int, E = e → ¬ e = 0 → N = 0) := fun e h1 h2 => by rw [HNN.out, if_neg (by rw [h1]; exact h2)]
  rw [← hE, ← hN]
  clear hg ho hE hN hK hln hlo
  subst eg eo
  go_enter Try.func22, Try.ntmps22
  go_wp2_with fail
  have B1 : Hid (Below w.heap.size w (w.alloc (.cells #[.int .i64 first, .slice ga ln gc, .slice oa lo oc] 51))) := (Below.refl _ _).alloc (Nat.le_refl _) _
  have K1 : Hid (Blk (w.alloc (.cells #[.int .i64 first, .slice ga ln gc, .slice oa lo oc] 51)) w.heap.size #[.int .i64 first, .slice ga ln gc, .slice oa lo oc] 51) := Blk.new w _ _
  refine (HC.out _ B1.out).mono ?_
  rintro e w2 ⟨rfl, hb2⟩
  have B2 : Hid (Below w.heap.size w w2) := B1.out.trans (hb2.mono B1.out.size)
  have K2 : Hid (Blk w2 w.heap.size #[.int .i64 first, .slice ga ln gc, .slice oa lo oc] 51) := K1.out.below hb2 K1.out.lt
  clear hb2 B1 K1 HC
  obtain ⟨k0, k1, k2⟩ := K2.out.three
  by_cases hK : K = 0
  case neg =>
    have e1 : E = K := by rw [HE.out, if_neg hK]
    have HEE : Hid (E = K ∧ N = 0) := ⟨e1, HBAD.out K e1 hK⟩
    clear e1
    go_wp2
    obtain ⟨e1, e2⟩ := HEE.out
    rw [e1, e2]
    go_ret2
    exact ⟨rfl, B2.out⟩
  obtain ⟨hf0, hf1, hL5, hAR⟩ := HK0.out hK
  have HAR : Hid (∀ g ∈ allG L O, gchk g = 0) := hAR
  have HE2 : Hid (E = if t < 0 then 3 else if 1000000 < t then 3 else if (allG L O).length = 0 then 5 else 0) := by show _ = _; rw [HE.out, if_pos hK]
  have HAL : Hid ((allG L O).length ≤ 6) := allG_len L O hL5
  have HL5 : Hid (L.length ≤ 100) := by show _ ≤ _; omega
  clear hAR HE HK0 hL5
  subst hK
  by_cases ht1 : t < 0
  · have e1 : E = 3 := by rw [HE2.out, if_pos ht1]
    have HEE : Hid (E = 3 ∧ N = 0) := ⟨e1, HBAD.out 3 e1 (by decide)⟩
    clear e1
    go_wp2
    obtain ⟨e1, e2⟩ := HEE.out
    rw [e1, e2]
    go_ret2
    exact ⟨rfl, B2.out⟩
  by_cases ht2 : 1000000 < t
  · have e1 : E = 3 := by rw [HE2.out, if_neg ht1, if_pos ht2]
    have HEE : Hid (E = 3 ∧ N = 0) := ⟨e1, HBAD.out 3 e1 (by decide)⟩
    clear e1
    go_wp2
    obtain ⟨e1, e2⟩ := HEE.out
    rw [e1, e2]
    go_ret2
    exact ⟨rfl, B2.out⟩
  obtain ⟨A, hA⟩ : ∃ A, A = allG L O := ⟨_, rfl⟩
  rw [← hA] at HAR HE2 HAL HNN
  obtain ⟨q, hq⟩ : ∃ q, q = A.length := ⟨_, rfl⟩
  have HQ : Hid (q = A.length) := hq
  have hq6 : q ≤ 6 := by rw [hq]; exact HAL.out
  rw [← hq] at HE2 HNN
  have HALL : Hid (∀ (M : Nat) (U : World), Blk U M #[.int .i64 first, .slice ga ln gc, .slice oa lo oc] 85 → Below w.heap.size w U → Calls Try.prog 44 #[.pointer (some ⟨M, 0, none⟩)] U fun e w' => ∃ a c, e = .returned (.slice a q c) ∧ Hid (GrsIn (fun _ => True) w' (.slice a q c) A) ∧ Below U.heap.size U w') := fun M U h1 h2 => by
    refine (keeperAll_any M first _ _ L O U h1 (HG.out.below h2) (HO.out.below h2) HL5.out).mono ?_
    rintro e w' ⟨u, rfl, h3, h4⟩
    rw [← hA] at h3
    obtain ⟨a, c, e, _, _⟩ := h3.len
    rw [← hq] at e
    subst e
    exact ⟨a, c, rfl, h3, h4⟩
  clear hA hq
  go_wp2_with fail
  have B3 : Hid (Below w.heap.size w (w2.alloc (.cells #[.int .i64 first, .slice ga ln gc, .slice oa lo oc] 85))) := B2.out.alloc B2.out.size _
  have M3 : Hid (Blk (w2.alloc (.cells #[.int .i64 first, .slice ga ln gc, .slice oa lo oc] 85)) w2.heap.size #[.int .i64 first, .slice ga ln gc, .slice oa lo oc] 85) := Blk.new _ _ _
  refine (HALL.out _ _ M3.out B3.out).mono ?_
  rintro e w4 ⟨ua, uc, rfl, GU, hb4⟩
  have B4 : Hid (Below w.heap.size w w4) := B3.out.trans (hb4.mono B3.out.size)
  have M4 : Hid (Blk w4 w2.heap.size #[.int .i64 first, .slice ga ln gc, .slice oa lo oc] 85) := M3.out.below hb4 M3.out.lt
  clear hb4 B3 M3 B2 K2 k0 k1 k2 HALL
  obtain ⟨k0, k1, k2⟩ := M4.out.three
  by_cases hq0 : q = 0
  · have e1 : E = 5 := by rw [HE2.out, if_neg (by omega), if_neg (by omega), if_pos hq0]
    have HEE : Hid (E = 5 ∧ N = 0) := ⟨e1, HBAD.out 5 e1 (by decide)⟩
    clear e1
    subst hq0
    go_wp2
    obtain ⟨e1, e2⟩ := HEE.out
    rw [e1, e2]
    go_ret2
    exact ⟨rfl, B4.out⟩
  have e1 : E = 0 := by rw [HE2.out, if_neg (by omega), if_neg (by omega), if_neg hq0]
  have HEE : Hid (E = 0 ∧ N = first + seekI A t (q - 1)) := ⟨e1, by rw [HNN.out, if_pos e1]⟩
  obtain ⟨ao, c', eu, _, _, hc⟩ := GU.out
  rw [← HQ.out] at eu
  injection eu with eu eu2 eu3
  clear eu2
  subst eu eu3
  have HTM : Hid (∀ i, i < q → ∃ b off sa sn sc b2 off2, ua = some ⟨b, off, none⟩ ∧ b < w4.heap.size ∧ w4.cell? ⟨b, off + i, none⟩ = some (.slice (some ⟨b2, off2, none⟩) sn sc) ∧ 0 < sn ∧ sa = (frAt (grAt A i) 0).time ∧ w4.cell? ⟨b2, off2, none⟩ = some (.int .i64 sa)) := fun i hi => by
    obtain ⟨b, off, e1, hb, _, sv, c0, hsv⟩ := hc i (by rw [← HQ.out]; exact hi)
    have hgr : gchk (grAt A i) = 0 := HAR.out _ (by unfold grAt; rw [List.getElem?_eq_getElem (by rw [← HQ.out]; exact hi)]; exact List.getElem_mem _)
    obtain ⟨h0, _⟩ := gchk_zero.1 hgr
    obtain ⟨sa, sc, es, _, _, hf⟩ := hsv
    obtain ⟨b2, off2, e2, _, _, pv, d0, _⟩ := hf 0 h0
    subst e2
    exact ⟨b, off, _, _, sc, b2, off2, e1, hb, by rw [c0, es], h0, rfl, by simpa using d0⟩
  have hqi : ((q : Int) == 0) = false := by simp; omega
  obtain ⟨q1, hq1⟩ : ∃ q1, q1 = q - 1 := ⟨_, rfl⟩
  have hq1i : (q : Int) - 1 = (q1 : Int) := by omega
  rw [← hq1] at HEE
  have hq1l : q1 < q := by omega
  clear e1 hc HAR HE2 HNN HBAD hq1
  go_wp2_with fail
  go_loopw [9] (fun s wr => ∃ i : Nat, i ≤ q1 ∧ s = .int .i64 i ∧ Hid (seekI A t q1 = seekI A t i) ∧ wr = w4)
    (fun s _ => (intOf s).toNat)
  case atStart => exact ⟨q1, Nat.le_refl _, by go_num, (show _ = _ from rfl), rfl⟩
  case round =>
    obtain ⟨i, hi, rfl, HI, rfl⟩ := hrel
    by_cases hi0 : i = 0
    · subst hi0
      go_wp2
      obtain ⟨e1, e2⟩ := HEE.out
      rw [e1, e2, HI.out]
      go_ret2
      exact ⟨by simp [seekI], B4.out⟩
    · obtain ⟨b, off, sa, sn, sc, b2, off2, eu, hb, c0, hsn, hsa, d0⟩ := HTM.out i (by omega)
      have hi0i : (0 : Int) < (i : Int) := by omega
      have hiq : (i : Int) < (q : Int) := by omega
      have hsni : (0 : Int) < (sn : Int) := by omega
      have HSA : Hid (sa = (frAt (grAt A i) 0).time) := hsa
      obtain ⟨i1, hi1⟩ : ∃ i1, i = i1 + 1 := ⟨i - 1, by omega⟩
      have HI1 : Hid (i = i1 + 1) := hi1
      have hi1i : (i : Int) - 1 = (i1 : Int) := by omega
      clear hsa hi1
      subst eu
      by_cases hle : sa ≤ t
      · have HS : Hid (seekI A t i = i) := seekI_hit HI1.out (by rw [← HSA.out]; exact hle)
        go_wp2
        obtain ⟨e1, e2⟩ := HEE.out
        rw [e1, e2, HI.out, HS.out]
        go_ret2
        exact ⟨rfl, B4.out⟩
      · have HS : Hid (seekI A t q1 = seekI A t i1) := HI.out.trans (seekI_miss HI1.out (by rw [← HSA.out]; exact hle))
        go_wp2_with fail
        go_roundw
        case rel => exact ⟨i1, by have := HI1.out; omega, by go_num, HS, by first | rfl | trivial⟩
        case measure => simp [intOf]; omega

end Go.Proofs.Ytgmnhbmjnllhhac

namespace Go.Proofs.Ytgmnhbmjnllhhac

theorem trimD_le : ∀ L : List (List Fr), trimD L ≤ L.length - 1
  | [] => Nat.le_refl _
  | g :: r => by
    unfold trimD
    split
    · rename_i h
      have := fullB_len h
      have := trimD_le r
      simp at *
      omega
    · omega
theorem trimD_done : ∀ L : List (List Fr), fullB (L.drop (trimD L)) = false
  | [] => fullB_nil
  | g :: r => by
    unfold trimD
    split
    · rw [List.drop_succ_cons]; exact trimD_done r
    · rename_i h; simpa using h
theorem closedG_cases (O : List Fr) (f : Fr) : (closedG O f = [] ∧ ¬ (f.key = true ∧ 0 < O.length)) ∨ (closedG O f = [O] ∧ f.key = true ∧ 0 < O.length) := by
  unfold closedG
  by_cases h : (f.key && decide (0 < O.length)) = true
  · rw [if_pos h]
    simp only [Bool.and_eq_true, decide_eq_true_eq] at h
    exact .inr ⟨rfl, h⟩
  · rw [if_neg h]
    simp only [Bool.and_eq_true, decide_eq_true_eq] at h
    exact .inl ⟨rfl, h⟩
theorem addsE_zero {first : Int} {L : List (List Fr)} {O : List Fr} {f : Fr} (h : addsE first L O f = 0) : stchk first L O = 0 ∧ f.chk = 0 ∧ first + trimD (L ++ closedG O f) ≤ 100000 ∧ addsF first L O f = first + trimD (L ++ closedG O f) ∧ addsL first L O f = (L ++ closedG O f).drop (trimD (L ++ closedG O f)) ∧ addsO first L O f = growG O f ∧ addsB first L O f = decide (0 < (closedG O f).length) := by
  have h0 := h
  unfold addsE at h0
  by_cases h1 : stchk first L O = 0
  · rw [if_pos h1] at h0
    by_cases h2 : f.chk = 0
    · rw [if_pos h2] at h0
      by_cases h3 : 100000 < first + trimD (L ++ closedG O f)
      · rw [if_pos h3] at h0; cases h0
      · exact ⟨h1, h2, by omega, if_pos h, if_pos h, if_pos h, if_pos h⟩
    · rw [if_neg h2] at h0; exact absurd h0 h2
  · rw [if_neg h1] at h0; exact absurd h0 h1
theorem addsE_bad {first : Int} {L : List (List Fr)} {O : List Fr} {f : Fr} (h : ¬ addsE first L O f = 0) : addsF first L O f = 0 ∧ addsL first L O f = [] ∧ addsO first L O f = [] ∧ addsB first L O f = false := ⟨if_neg h, if_neg h, if_neg h, if_neg h⟩
theorem growG_right {O : List Fr} {f : Fr} (hO : O = [] ∨ gchk O = 0) (hf : f.chk = 0) : growG O f = [] ∨ gchk (growG O f) = 0 := by
  have := stepG_right (s := ([], O)) (f := f) ⟨fun g hg => absurd hg List.not_mem_nil, hO⟩ hf
  exact this.2
/-- what Add leaves is right -/
theorem adds_right {first : Int} {L : List (List Fr)} {O : List Fr} {f : Fr} (h : addsE first L O f = 0) : stchk (addsF first L O f) (addsL first L O f) (addsO first L O f) = 0 := by
  obtain ⟨h1, h2, h3, e1, e2, e3, _⟩ := addsE_zero h
  obtain ⟨a1, a2, a3, a4, a5, a6⟩ := stchk_zero.1 h1
  rw [e1, e2, e3]
  have hd := trimD_done (L ++ closedG O f)
  simp only [fullB, Bool.or_eq_false_iff, decide_eq_false_iff_not] at hd
  refine stchk_zero.2 ⟨by omega, h3, by omega, fun g hg => ?_, hd.2, growG_right a6 h2⟩
  have hm := List.mem_of_mem_drop hg
  rcases List.mem_append.1 hm with hm | hm
  · exact a4 g hm
  · rcases closedG_cases O f with ⟨e, _⟩ | ⟨e, _, h0⟩
    · rw [e] at hm; exact absurd hm List.not_mem_nil
    · rw [e] at hm
      simp at hm
      subst hm
      rcases a6 with a6 | a6
      · rw [a6] at h0; simp at h0
      · exact a6
theorem fullB_right {first : Int} {L : List (List Fr)} {O : List Fr} (h : stchk first L O = 0) : fullB L = false := by
  obtain ⟨_, _, a3, _, a5, _⟩ := stchk_zero.1 h
  simp only [fullB, Bool.or_eq_false_iff, decide_eq_false_iff_not]
  exact ⟨by omega, a5⟩
/-- a frame that closes none leaves the closed ones as they were -/
theorem adds_open {first : Int} {L : List (List Fr)} {O : List Fr} {f : Fr} (h : addsE first L O f = 0) (hb : addsB first L O f = false) : addsF first L O f = first ∧ addsL first L O f = L := by
  obtain ⟨h1, _, _, e1, e2, _, e4⟩ := addsE_zero h
  rw [e4, decide_eq_false_iff_not] at hb
  have hc : closedG O f = [] := List.eq_nil_of_length_eq_zero (by omega)
  rw [hc, List.append_nil] at e1 e2
  rw [trimD_no (fullB_right h1)] at e1 e2
  exact ⟨by rw [e1]; simp, by rw [e2]; simp⟩
theorem grAt_append (L M : List (List Fr)) (k : Nat) : grAt (L ++ M) k = if k < L.length then grAt L k else grAt M (k - L.length) := by
  unfold grAt
  split
  · rename_i h; rw [List.getElem?_append_left h]
  · rename_i h; rw [List.getElem?_append_right (by omega)]
theorem grAt_drop (L : List (List Fr)) (d k : Nat) : grAt (L.drop d) k = grAt L (d + k) := by
  unfold grAt; rw [List.getElem?_drop]
/-- what Get says of a store that is right -/
theorem getE_in {first : Int} {L : List (List Fr)} {O : List Fr} (h : stchk first L O = 0) {n : Int} {d : Nat} (hn : n = first + d) (hd : d < (allG L O).length) : getE first L O n = 0 ∧ getG first L O n = grAt (allG L O) d := by
  have e : getE first L O n = 0 := by
    unfold getE; rw [if_pos h, if_neg (by omega), if_neg (by omega)]
  refine ⟨e, ?_⟩
  unfold getG; rw [if_pos e]
  congr 1; omega
theorem getE_out {first : Int} {L : List (List Fr)} {O : List Fr} (h : stchk first L O = 0) {n : Int} (hn : n < first ∨ first + (allG L O).length ≤ n) : getE first L O n = 5 ∧ getG first L O n = [] := by
  have e : getE first L O n = 5 := by
    unfold getE; rw [if_pos h]
    by_cases h1 : n < first
    · rw [if_pos h1]
    · rw [if_neg h1, if_pos (by omega)]
  exact ⟨e, by unfold getG; rw [if_neg (by rw [e]; decide)]⟩
theorem allG_length (L : List (List Fr)) (O : List Fr) : (allG L O).length = L.length + (if 0 < O.length then 1 else 0) := by
  unfold allG; split <;> simp
/-- what was stored is there, by its number, or is gone -/
theorem adds_get {first : Int} {L : List (List Fr)} {O : List Fr} {f : Fr} (h : addsE first L O f = 0) {i : Nat} (hi : i < (L ++ closedG O f).length) :
    (first + i < addsF first L O f → getE (addsF first L O f) (addsL first L O f) (addsO first L O f) (first + i) = 5) ∧
    (¬ first + i < addsF first L O f → getE (addsF first L O f) (addsL first L O f) (addsO first L O f) (first + i) = 0 ∧ getG (addsF first L O f) (addsL first L O f) (addsO first L O f) (first + i) = grAt (L ++ closedG O f) i) := by
  have hr := adds_right h
  obtain ⟨_, _, _, e1, e2, _, _⟩ := addsE_zero h
  refine ⟨fun h1 => (getE_out hr (.inl h1)).1, fun h1 => ?_⟩
  rw [e1] at h1
  have hd : i - trimD (L ++ closedG O f) < (addsL first L O f).length := by rw [e2, List.length_drop]; omega
  obtain ⟨g1, g2⟩ := getE_in hr (n := first + i) (d := i - trimD (L ++ closedG O f)) (by rw [e1]; omega) (by rw [allG_length]; omega)
  refine ⟨g1, ?_⟩
  rw [g2]
  unfold allG
  have : grAt (addsL first L O f) (i - trimD (L ++ closedG O f)) = grAt (L ++ closedG O f) i := by
    rw [e2, grAt_drop]; congr 1; omega
  split
  · rw [grAt_append, if_pos hd, this]
  · exact this
/-- the newest one is there -/
theorem adds_last {first : Int} {L : List (List Fr)} {O : List Fr} {f : Fr} (h : addsE first L O f = 0) : addsF first L O f ≤ first + ((L ++ closedG O f).length - 1 : Nat) ∧ first ≤ addsF first L O f ∧ (0 < (L ++ closedG O f).length → 0 < (addsL first L O f).length) := by
  obtain ⟨_, _, _, e1, e2, _, _⟩ := addsE_zero h
  have := trimD_le (L ++ closedG O f)
  rw [e1, e2, List.length_drop]
  exact ⟨by omega, by omega, fun _ => by omega⟩
/-- what Seek finds -/
theorem seekI_spec (A : List (List Fr)) (t : Int) : ∀ i, (∀ j, seekI A t i < j → j ≤ i → t < (frAt (grAt A j) 0).time) ∧ (t < (frAt (grAt A (seekI A t i)) 0).time → seekI A t i = 0)
  | 0 => ⟨fun j h1 h2 => by simp [seekI] at h1; omega, fun _ => rfl⟩
  | i + 1 => by
    by_cases h : (frAt (grAt A (i + 1)) 0).time ≤ t
    · rw [seekI_hit rfl h]
      exact ⟨fun j h1 h2 => by omega, fun h2 => by omega⟩
    · rw [seekI_miss rfl h]
      have ih := seekI_spec A t i
      refine ⟨fun j h1 h2 => ?_, ih.2⟩
      by_cases hj : j = i + 1
      · subst hj; omega
      · exact ih.1 j h1 (by omega)
theorem seekE_zero {first : Int} {L : List (List Fr)} {O : List Fr} {t : Int} (h : seekE first L O t = 0) : stchk first L O = 0 ∧ 0 ≤ t ∧ t ≤ 1000000 ∧ 0 < (allG L O).length ∧ seekN first L O t = first + seekI (allG L O) t ((allG L O).length - 1) := by
  have h0 := h
  unfold seekE at h0
  by_cases h1 : stchk first L O = 0
  · rw [if_pos h1] at h0
    by_cases h2 : t < 0
    · rw [if_pos h2] at h0; cases h0
    rw [if_neg h2] at h0
    by_cases h3 : 1000000 < t
    · rw [if_pos h3] at h0; cases h0
    rw [if_neg h3] at h0
    by_cases h4 : (allG L O).length = 0
    · rw [if_pos h4] at h0; cases h0
    exact ⟨h1, by omega, by omega, by omega, if_pos h⟩
  · rw [if_neg h1] at h0; exact absurd h0 h1

end Go.Proofs.Ytgmnhbmjnllhhac

namespace Go.Proofs.Ytgmnhbmjnllhhac
open Go.RowKit

theorem FrsIn.pair {S : Nat → Prop} {w : World} {b : Nat} {f g : Fr} {pv qv : Value} (hb : Blk w b #[.int .i64 f.time, .bool f.key, pv, .int .i64 g.time, .bool g.key, qv] 48) (hS : S b) (hp : StrsIn S w pv f.parts) (hq : StrsIn S w qv g.parts) : FrsIn S w (.slice (some ⟨b, 0, none⟩) 2 2) [f, g] := by
  refine ⟨some ⟨b, 0, none⟩, 2, rfl, Nat.le_refl _, by omega, fun k hk => ⟨b, 0, rfl, hb.lt, hS, ?_⟩⟩
  have : k = 0 ∨ k = 1 := by simp at hk; omega
  rcases this with rfl | rfl
  · exact ⟨pv, hb.cell rfl, hb.cell rfl, hb.cell rfl, hp⟩
  · exact ⟨qv, hb.cell rfl, hb.cell rfl, hb.cell rfl, hq⟩
theorem GrsIn.pair {S : Nat → Prop} {w : World} {b : Nat} {f g : List Fr} {pv qv : Value} (hb : Blk w b #[pv, qv] 35) (hS : S b) (hp : FrsIn S w pv f) (hq : FrsIn S w qv g) : GrsIn S w (.slice (some ⟨b, 0, none⟩) 2 2) [f, g] := by
  refine ⟨some ⟨b, 0, none⟩, 2, rfl, Nat.le_refl _, by omega, fun k hk => ⟨b, 0, rfl, hb.lt, hS, ?_⟩⟩
  have : k = 0 ∨ k = 1 := by simp at hk; omega
  rcases this with rfl | rfl
  · exact ⟨pv, hb.cell rfl, hp⟩
  · exact ⟨qv, hb.cell rfl, hq⟩

def picF (t : Int) (k : Bool) : Fr := ⟨t, k, [⟨#[97, 98, 99]⟩]⟩
def shelfL : List (List Fr) := [[picF 10 true, picF 12 false], [picF 20 true]]
def shelfO : List Fr := [picF 30 true]

set_option maxHeartbeats 4000000 in
set_option maxRecDepth 100000 in
theorem shelf_any (w : World) :
    Calls Try.prog 49 #[] w fun e w' => ∃ gb ob, e = .returned (.agg #[.int .i64 3, .slice (some ⟨gb, 0, none⟩) 2 2, .slice (some ⟨ob, 0, none⟩) 1 1]) ∧ GrsIn (fun _ => True) w' (.slice (some ⟨gb, 0, none⟩) 2 2) shelfL ∧ FrsIn (fun _ => True) w' (.slice (some ⟨ob, 0, none⟩) 1 1) shelfO ∧ Below w.heap.size w w' := by
  have HPIC : Hid (∀ (t : Int) (k : Bool) (U : World), Calls Try.prog 41 #[.int .i64 t, .bool k] U fun e w' => ∃ p, e = .returned (.agg #[.int .i64 t, .bool k, .slice (some ⟨p, 0, none⟩) 1 1]) ∧ Hid (StrsIn (fun g => U.heap.size ≤ g) w' (.slice (some ⟨p, 0, none⟩) 1 1) [⟨#[97, 98, 99]⟩]) ∧ Below U.heap.size U w') := fun t k U => by
    refine (pic_any t k U).mono ?_
    rintro e w' ⟨rfl, h1, h2⟩
    exact ⟨_, rfl, h1, h2⟩
  go_enter Try.func49, Try.ntmps49
  go_wp2_with fail
  obtain ⟨w0, hw0⟩ : ∃ w0, w0 = w.alloc (.cells #[.int .i64 0, .slice none 0 0, .slice none 0 0] 51) := ⟨_, rfl⟩
  have B0 : Below w.heap.size w w0 := by rw [hw0]; exact (Below.refl _ _).alloc (Nat.le_refl _) _
  have R0 : Blk w0 w.heap.size #[.int .i64 0, .slice none 0 0, .slice none 0 0] 51 := by rw [hw0]; exact Blk.new _ _ _
  rw [← hw0]
  clear hw0
  refine (HPIC.out _ _ _).mono ?_
  rintro e w1 ⟨p1, rfl, S1, b1⟩
  go_wp2_with fail
  refine (HPIC.out _ _ _).mono ?_
  rintro e w2 ⟨p2, rfl, S2, b2⟩
  go_wp2_with fail
  have z0 := R0.lt
  have s1 := b1.size
  have s2 := b2.size
  have PA : StrsIn (fun g => w.heap.size < g) w2 (.slice (some ⟨p1, 0, none⟩) 1 1) [⟨#[97, 98, 99]⟩] := (S1.out.mono fun g _ h => by omega).below b2
  have PB : StrsIn (fun g => w.heap.size < g) w2 (.slice (some ⟨p2, 0, none⟩) 1 1) [⟨#[97, 98, 99]⟩] := S2.out.mono fun g _ h => by omega
  have R2 : Blk w2 w.heap.size #[.int .i64 0, .slice none 0 0, .slice none 0 0] 51 := (R0.below b1 R0.lt).below b2 (by omega)
  have B2 : Below w.heap.size w w2 := (B0.trans (b1.mono B0.size)).trans (b2.mono (by omega))
  obtain ⟨V2, hV2⟩ : ∃ V2, V2 = w2.alloc (.cells #[.int .i64 10, .bool true, .slice (some ⟨p1, 0, none⟩) 1 1, .int .i64 12, .bool false, .slice (some ⟨p2, 0, none⟩) 1 1] 48) := ⟨_, rfl⟩
  have FA : Hid (FrsIn (fun g => w.heap.size < g) V2 (.slice (some ⟨w2.heap.size, 0, none⟩) 2 2) [picF 10 true, picF 12 false]) := by
    rw [hV2]; exact FrsIn.pair (f := picF 10 true) (g := picF 12 false) (Blk.new w2 _ _) (by omega) (PA.alloc _) (PB.alloc _)
  have RV2 : Hid (Blk V2 w.heap.size #[.int .i64 0, .slice none 0 0, .slice none 0 0] 51) := by rw [hV2]; exact R2.alloc _
  have BV2 : Hid (Below w.heap.size w V2) := by rw [hV2]; exact B2.alloc B2.size _
  rw [← hV2]
  have sV2 : w2.heap.size < V2.heap.size := by rw [hV2]; simp
  clear hV2 PA PB R2 B2 S1 S2 b1 b2 R0 B0
  refine (HPIC.out _ _ _).mono ?_
  rintro e w3 ⟨p3, rfl, S3, b3⟩
  go_wp2_with fail
  have s3 := b3.size
  obtain ⟨V3, hV3⟩ : ∃ V3, V3 = (w3.alloc (.cells #[.int .i64 20, .bool true, .slice (some ⟨p3, 0, none⟩) 1 1] 48)).alloc (.cells #[.slice (some ⟨w2.heap.size, 0, none⟩) 2 2, .slice (some ⟨w3.heap.size, 0, none⟩) 1 1] 35) := ⟨_, rfl⟩
  have GV : Hid (GrsIn (fun g => w.heap.size < g) V3 (.slice (some ⟨w3.heap.size + 1, 0, none⟩) 2 2) shelfL) := by
    have hone : FrsIn (fun g => w.heap.size < g) (w3.alloc (.cells #[.int .i64 20, .bool true, .slice (some ⟨p3, 0, none⟩) 1 1] 48)) (.slice (some ⟨w3.heap.size, 0, none⟩) 1 1) [picF 20 true] := FrsIn.one (f := picF 20 true) (Blk.new w3 _ _) (by omega) ((S3.out.mono fun g _ h => (by omega)).alloc _)
    have hb : Blk V3 (w3.heap.size + 1) #[.slice (some ⟨w2.heap.size, 0, none⟩) 2 2, .slice (some ⟨w3.heap.size, 0, none⟩) 1 1] 35 := by
      have := Blk.new (w3.alloc (.cells #[.int .i64 20, .bool true, .slice (some ⟨p3, 0, none⟩) 1 1] 48)) #[.slice (some ⟨w2.heap.size, 0, none⟩) 2 2, .slice (some ⟨w3.heap.size, 0, none⟩) 1 1] 35
      rw [hV3]; simpa using this
    exact GrsIn.pair hb (by omega) (by rw [hV3]; exact ((FA.out.below b3).alloc _).alloc _) (by rw [hV3]; exact hone.alloc _)
  have RV3 : Hid (Blk V3 w.heap.size #[.int .i64 0, .slice none 0 0, .slice none 0 0] 51) := by rw [hV3]; exact ((RV2.out.below b3 RV2.out.lt).alloc _).alloc _
  have BV3 : Hid (Below w.heap.size w V3) := by
    have h := BV2.out.trans (b3.mono BV2.out.size)
    rw [hV3]; exact (h.alloc h.size _).alloc (by have := h.size; simp; omega) _
  rw [← hV3]
  clear hV3 S3 b3 FA RV2 BV2
  refine (HPIC.out _ _ _).mono ?_
  rintro e w4 ⟨p4, rfl, S4, b4⟩
  have s4 := b4.size
  have r4 := RV3.out.lt
  have RW4 := RV3.out.below b4 RV3.out.lt
  obtain ⟨r0, r1, r2⟩ := RW4.three
  have fr := RW4.free
  have hlw : w.heap.size < w4.heap.size := RW4.lt
  have B4 : Below w.heap.size w w4 := BV3.out.trans (b4.mono BV3.out.size)
  obtain ⟨X, hX⟩ : ∃ X, X = ((w4.setCell ⟨w.heap.size, 0, none⟩ (.int .i64 3)).setCell ⟨w.heap.size, 1, none⟩ (.slice (some ⟨w3.heap.size + 1, 0, none⟩) 2 2)).setCell ⟨w.heap.size, 2, none⟩ (.slice (some ⟨w4.heap.size, 0, none⟩) 1 1) := ⟨_, rfl⟩
  have KX : Blk X w.heap.size #[.int .i64 3, .slice (some ⟨w3.heap.size + 1, 0, none⟩) 2 2, .slice (some ⟨w4.heap.size, 0, none⟩) 1 1] 51 := by
    rw [hX]; exact ((RW4.set 0 (.int .i64 3)).set 1 (.slice (some ⟨w3.heap.size + 1, 0, none⟩) 2 2)).set 2 (.slice (some ⟨w4.heap.size, 0, none⟩) 1 1)
  have hXo : ∀ g, g ≠ w.heap.size → X.heap[g]? = w4.heap[g]? := fun g hg => by
    rw [hX, Below.heap_setCell _ _ _ _ (by exact hg), Below.heap_setCell _ _ _ _ (by exact hg), Below.heap_setCell _ _ _ _ (by exact hg)]
  have hXs : X.heap.size = w4.heap.size := by rw [hX]; simp
  have BX : Below w.heap.size w X := by
    rw [hX]; exact ((B4.setCell (Nat.le_refl _) _).setCell (Nat.le_refl _) _).setCell (Nat.le_refl _) _
  obtain ⟨V5, hV5⟩ : ∃ V5, V5 = X.alloc (.cells #[.int .i64 30, .bool true, .slice (some ⟨p4, 0, none⟩) 1 1] 48) := ⟨_, rfl⟩
  have KV : Blk V5 w.heap.size #[.int .i64 3, .slice (some ⟨w3.heap.size + 1, 0, none⟩) 2 2, .slice (some ⟨w4.heap.size, 0, none⟩) 1 1] 51 := by rw [hV5]; exact KX.alloc _
  have G5 : Hid (GrsIn (fun _ => True) V5 (.slice (some ⟨w3.heap.size + 1, 0, none⟩) 2 2) shelfL) := by
    rw [hV5]
    exact GrsIn.alloc ((GV.out.below b4).to (S' := fun _ => True) ⟨by omega, fun g _ hg => hXo g (by omega)⟩ (fun _ _ _ => trivial)) _
  have O5 : Hid (FrsIn (fun _ => True) V5 (.slice (some ⟨w4.heap.size, 0, none⟩) 1 1) shelfO) := by
    have hn : Blk V5 w4.heap.size #[.int .i64 30, .bool true, .slice (some ⟨p4, 0, none⟩) 1 1] 48 := by
      rw [hV5, ← hXs]; exact Blk.new _ _ _
    have hs : StrsIn (fun _ => True) V5 (.slice (some ⟨p4, 0, none⟩) 1 1) [⟨#[97, 98, 99]⟩] := by
      rw [hV5]
      exact StrsIn.alloc (S4.out.to (S' := fun _ => True) ⟨by omega, fun g _ hg => hXo g (by omega)⟩ (fun _ _ _ => trivial)) _
    exact FrsIn.one (f := picF 30 true) hn trivial hs
  have B5 : Hid (Below w.heap.size w V5) := by rw [hV5]; exact BX.alloc BX.size _
  obtain ⟨c0, c1, c2⟩ := KV.three
  rw [hX] at hV5
  clear hX hXo hXs KV KX BX B4 RW4 b4 S4 GV RV3 BV3
  go_wp2_with fail
  rw [← hV5]
  exact bodyPost_ret (v := .agg #[.int .i64 3, .slice (some ⟨w3.heap.size + 1, 0, none⟩) 2 2, .slice (some ⟨w4.heap.size, 0, none⟩) 1 1]) (by simp [results, Try.results49, go_sem, c0, c1, c2]) rfl ⟨_, _, rfl, G5.out, O5.out, B5.out⟩

end Go.Proofs.Ytgmnhbmjnllhhac

namespace Go.Proofs.Ytgmnhbmjnllhhac

theorem shelf_chk : stchk 3 shelfL shelfO = 0 := by kernel_rfl
theorem shelf_addE : addsE 3 shelfL shelfO (picF 40 true) = 0 := by kernel_rfl
theorem shelf_addB : addsB 3 shelfL shelfO (picF 40 true) = true := by kernel_rfl
theorem shelf_addL : (addsL 3 shelfL shelfO (picF 40 true)).length = 3 := by kernel_rfl
theorem shelf_seekE : seekE 3 shelfL shelfO 25 = 0 := by kernel_rfl
theorem shelf_seekN : seekN 3 shelfL shelfO 25 = 4 := by kernel_rfl
theorem shelf_get5E : getE 3 shelfL shelfO 5 = 0 := by kernel_rfl
theorem shelf_get5G : getG 3 shelfL shelfO 5 = shelfO := by kernel_rfl
theorem shelf_get6E : getE 3 shelfL shelfO 6 = 5 := by kernel_rfl
theorem shelf_get6G : getG 3 shelfL shelfO 6 = [] := by kernel_rfl

end Go.Proofs.Ytgmnhbmjnllhhac

namespace Go.Proofs.Ytgmnhbmjnllhhac
open Go.RowKit

theorem heldB {W X Y : World} {a b : Addr} {u v : Value} (h : X.cell? a = some u ∧ X.cell? b = some v ∧ Below W.heap.size W X) (k : Below X.heap.size X Y) : Y.cell? a = some u ∧ Y.cell? b = some v ∧ Below W.heap.size W Y :=
  ⟨(k.cell (block_lt_of_cell h.1)).trans h.1, (k.cell (block_lt_of_cell h.2.1)).trans h.2.1, h.2.2.trans (k.mono h.2.2.size)⟩

set_option maxHeartbeats 8000000 in
set_option maxRecDepth 100000 in
theorem storeBegun_any (w : World) :
    Calls Try.prog 29 #[] w fun e w' => e = .returned (.bool true) ∧ Below w.heap.size w w' := by
  have HSH : Hid (∀ U : World, Calls Try.prog 49 #[] U fun e w' => ∃ gb ob, e = .returned (.agg #[.int .i64 3, .slice (some ⟨gb, 0, none⟩) 2 2, .slice (some ⟨ob, 0, none⟩) 1 1]) ∧ Hid (GrsIn (fun _ => True) w' (.slice (some ⟨gb, 0, none⟩) 2 2) shelfL) ∧ Hid (FrsIn (fun _ => True) w' (.slice (some ⟨ob, 0, none⟩) 1 1) shelfO) ∧ Below U.heap.size U w') := shelf_any
  go_enter Try.func29, Try.ntmps29
  go_wp2_with fail
  refine (HSH.out _).mono ?_
  rintro e w1 ⟨g1, o1, rfl, G1, O1, b1⟩
  go_wp2_with fail
  refine (pic_any _ _ _).mono ?_
  rintro e w2 ⟨rfl, S2, b2⟩
  go_wp2_with fail
  have A1 := storeAdd_any 3 (.slice (some ⟨g1, 0, none⟩) 2 2) (.slice (some ⟨o1, 0, none⟩) 1 1) (.slice (some ⟨w1.heap.size + 1, 0, none⟩) 1 1) shelfL shelfO (picF 40 true) w2 (G1.out.below b2) (O1.out.below b2) (S2.mono fun _ _ _ => trivial)
  rw [shelf_addE, shelf_addB] at A1
  refine A1.mono ?_
  rintro e w3 ⟨gv, ov, rfl, hgv, hov, b3⟩
  obtain ⟨va, vc, ev, _, _⟩ := hgv.len
  rw [shelf_addL] at ev
  obtain ⟨qa, qc, eq, _, _⟩ := hov.len
  subst ev eq
  obtain ⟨F, hF⟩ : ∃ F, F = addsF 3 shelfL shelfO (picF 40 true) := ⟨_, rfl⟩
  obtain ⟨nq, hnq⟩ : ∃ n, n = (addsO 3 shelfL shelfO (picF 40 true)).length := ⟨_, rfl⟩
  rw [← hF, ← hnq]
  clear hF hgv hov A1 hnq
  have B3 : Below w.heap.size w w3 := (b1.trans (b2.mono b1.size)).trans (b3.mono (by have := b1.size; have := b2.size; omega))
  obtain ⟨W4, hW4⟩ : ∃ W4, W4 = w3.alloc (.cells #[.int .i64 F, .slice va 3 vc, .slice qa nq qc] 51) := ⟨_, rfl⟩
  have K4 : Hid (Blk W4 w3.heap.size #[.int .i64 F, .slice va 3 vc, .slice qa nq qc] 51) := by rw [hW4]; exact Blk.new _ _ _
  have B4 : Hid (Below w.heap.size w W4) := by rw [hW4]; exact B3.alloc B3.size _
  clear b1 b2 b3 B3 G1 O1 S2
  go_wp2_with fail
  rw [← hW4]
  clear hW4
  refine (HSH.out _).mono ?_
  rintro e w5 ⟨g5, o5, rfl, G5, O5, b5⟩
  have K5 : Hid (Blk w5 w3.heap.size #[.int .i64 F, .slice va 3 vc, .slice qa nq qc] 51) := K4.out.below b5 K4.out.lt
  have B5 : Hid (Below w.heap.size w w5) := B4.out.trans (b5.mono B4.out.size)
  clear b5 K4 B4
  have A5 := storeSeek_any 3 (.slice (some ⟨g5, 0, none⟩) 2 2) (.slice (some ⟨o5, 0, none⟩) 1 1) shelfL shelfO 25 w5 G5.out O5.out
  rw [shelf_seekE, shelf_seekN] at A5
  go_wp2_with fail
  refine A5.mono ?_
  rintro e w6 ⟨rfl, b6⟩
  have K6 : Hid (Blk w6 w3.heap.size #[.int .i64 F, .slice va 3 vc, .slice qa nq qc] 51) := K5.out.below b6 K5.out.lt
  have B6 : Hid (Below w.heap.size w w6) := B5.out.trans (b6.mono B5.out.size)
  clear b6 K5 B5 A5 G5 O5
  go_wp2_with fail
  refine (HSH.out _).mono ?_
  rintro e w7 ⟨g7, o7, rfl, G7, O7, b7⟩
  have A7 := storeGet_any 3 (.slice (some ⟨g7, 0, none⟩) 2 2) (.slice (some ⟨o7, 0, none⟩) 1 1) shelfL shelfO 5 w7 G7.out O7.out (by omega)
  rw [shelf_get5E, shelf_get5G, show shelfO.length = 1 from rfl] at A7
  have K7 : Hid (Blk w7 w3.heap.size #[.int .i64 F, .slice va 3 vc, .slice qa nq qc] 51) := K6.out.below b7 K6.out.lt
  have B7 : Hid (Below w.heap.size w w7) := B6.out.trans (b7.mono B6.out.size)
  clear b7 K6 B6
  go_wp2_with fail
  refine A7.mono ?_
  rintro e w8 ⟨a8, c8, rfl, F8, b8⟩
  obtain ⟨W9, hW9⟩ : ∃ W9, W9 = w8.alloc (.cells #[.slice a8 1 c8] 35) := ⟨_, rfl⟩
  have bb9 : Below w7.heap.size w7 W9 := by rw [hW9]; exact b8.alloc b8.size _
  have K9 : Hid (Blk W9 w3.heap.size #[.int .i64 F, .slice va 3 vc, .slice qa nq qc] 51) := K7.out.below bb9 K7.out.lt
  have J9 : Hid (Blk W9 w8.heap.size #[.slice a8 1 c8] 35) := by rw [hW9]; exact Blk.new _ _ _
  have F9 : Hid (FrsIn (fun _ => True) W9 (.slice a8 1 c8) shelfO) := by rw [hW9]; exact F8.alloc _
  have B9 : Hid (Below w.heap.size w W9) := B7.out.trans (bb9.mono B7.out.size)
  clear b8 bb9 K7 B7 A7 G7 O7 F8
  go_wp2_with fail
  rw [← hW9]
  clear hW9
  refine (HSH.out _).mono ?_
  rintro e w10 ⟨g10, o10, rfl, G10, O10, b10⟩
  have A10 := storeGet_any 3 (.slice (some ⟨g10, 0, none⟩) 2 2) (.slice (some ⟨o10, 0, none⟩) 1 1) shelfL shelfO 6 w10 G10.out O10.out (by omega)
  rw [shelf_get6E, shelf_get6G, show ([] : List Fr).length = 0 from rfl] at A10
  have K10 : Hid (Blk w10 w3.heap.size #[.int .i64 F, .slice va 3 vc, .slice qa nq qc] 51) := K9.out.below b10 K9.out.lt
  have J10 : Hid (Blk w10 w8.heap.size #[.slice a8 1 c8] 35) := J9.out.below b10 J9.out.lt
  have F10 : Hid (FrsIn (fun _ => True) w10 (.slice a8 1 c8) shelfO) := F9.out.below b10
  have B10 : Hid (Below w.heap.size w w10) := B9.out.trans (b10.mono B9.out.size)
  clear b10 K9 J9 F9 B9
  go_wp2_with fail
  refine A10.mono ?_
  rintro e w11 ⟨a11, c11, rfl, _, b11⟩
  obtain ⟨W, hW⟩ : ∃ W, W = w11.alloc (.cells #[.slice a11 0 c11] 35) := ⟨_, rfl⟩
  have bW : Below w10.heap.size w10 W := by rw [hW]; exact b11.alloc b11.size _
  have KW : Hid (Blk W w3.heap.size #[.int .i64 F, .slice va 3 vc, .slice qa nq qc] 51) := K10.out.below bW K10.out.lt
  have JW : Hid (Blk W w8.heap.size #[.slice a8 1 c8] 35) := J10.out.below bW J10.out.lt
  have FW : Hid (FrsIn (fun _ => True) W (.slice a8 1 c8) shelfO) := F10.out.below bW
  have BW : Hid (Below w.heap.size w W) := B10.out.trans (bW.mono B10.out.size)
  clear b11 bW K10 J10 F10 B10 A10 G10 O10
  go_wp2_with fail
  rw [← hW]
  clear hW
  obtain ⟨k0, k1, k2⟩ := KW.out.three
  have j0 := JW.out.one
  have HCK : Hid (∀ (U : World) (gb ob : Nat), GrsIn (fun _ => True) U (.slice (some ⟨gb, 0, none⟩) 2 2) shelfL → FrsIn (fun _ => True) U (.slice (some ⟨ob, 0, none⟩) 1 1) shelfO → Calls Try.prog 30 #[.agg #[.int .i64 3, .slice (some ⟨gb, 0, none⟩) 2 2, .slice (some ⟨ob, 0, none⟩) 1 1]] U fun e w' => e = .returned (.int .i64 0) ∧ Below U.heap.size U w') := fun U gb ob h1 h2 => by
    have := storeCheck_any _ 3 _ _ shelfL shelfO U h1 h2
    rw [shelf_chk] at this
    exact this
  have hfd : ∀ (g o : Nat) (U : World), (Instr.field 51 (.agg #[.int .i64 3, .slice (some ⟨g, 0, none⟩) 2 2, .slice (some ⟨o, 0, none⟩) 1 1]) 2).run Try.prog U = .ok (.agg #[.slice (some ⟨o, 0, none⟩) 1 1]) U := fun g o U => by kernel_rfl
  have hfe : ∀ (o : Nat) (U : World), (Instr.field 35 (.agg #[.slice (some ⟨o, 0, none⟩) 1 1]) 0).run Try.prog U = .ok (.slice (some ⟨o, 0, none⟩) 1 1) U := fun o U => by kernel_rfl
  have HSF : Hid (∀ (U : World) (o : Nat), (U.cell? ⟨w3.heap.size, 1, none⟩ = some (.slice va 3 vc) ∧ U.cell? ⟨w8.heap.size, 0, none⟩ = some (.slice a8 1 c8) ∧ Below W.heap.size W U) → FrsIn (fun _ => True) U (.slice (some ⟨o, 0, none⟩) 1 1) shelfO → Calls Try.prog 11 #[.slice a8 1 c8, .slice (some ⟨o, 0, none⟩) 1 1] U fun e w' => e = .returned (.bool true) ∧ Below U.heap.size U w') := fun U o h1 h2 => by
    have := sameFrames_any _ _ _ _ U (FW.out.below h1.2.2).frs h2.frs (by show 1 ≤ _; omega)
    rw [show sameFs shelfO shelfO = true from decide_eq_true rfl] at this
    exact this
  go_region_held3 (fun w' => w'.cell? ⟨w3.heap.size, 1, none⟩ = some (.slice va 3 vc) ∧ w'.cell? ⟨w8.heap.size, 0, none⟩ = some (.slice a8 1 c8) ∧ Below W.heap.size W w') (first | exact ⟨k1, j0, Below.drew (Below.refl _ _)⟩ | exact heldB (by assumption) (by assumption) | (refine heldB ?_ ?_ <;> assumption))
    (first
      | (go_at_call 49; refine (HSH.out _).mono ?_; rintro e w12 ⟨g12, o12, rfl, G12, O12, b12⟩)
      | (go_at_call 30; refine (HCK.out _ _ _ G12.out O12.out).mono ?_; rintro e w13 ⟨rfl, b13⟩)
      | (go_at_call 11; refine (HSF.out _ _ (by assumption) O12.out).mono ?_; rintro e w14 ⟨rfl, b14⟩))
  have hS : w14.cell? ⟨w3.heap.size, 1, none⟩ = some (.slice va 3 vc) ∧ w14.cell? ⟨w8.heap.size, 0, none⟩ = some (.slice a8 1 c8) ∧ Below W.heap.size W w14 := by assumption
  have B14 : Hid (Below w.heap.size w w14) := BW.out.trans (hS.2.2.mono BW.out.size)
  clear hS
  go_wp2_with fail
  go_ret
  exact ⟨rfl, B14.out⟩

end Go.Proofs.Ytgmnhbmjnllhhac

namespace Go.Proofs.Ytgmnhbmjnllhhac
open Go.RowKit

def Stay (w : World) (P : World → Prop) : Prop := ∀ w', Below w.heap.size w w' → P w'
theorem Stay.now {w : World} {P : World → Prop} (h : Stay w P) : P w := h w (Below.refl _ _)
theorem Stay.step {w w' : World} {P : World → Prop} (h : Stay w P) (hb : Below w.heap.size w w') : Stay w' P := fun w'' h2 => h w'' (hb.trans (h2.mono hb.size))
theorem Stay.alloc {w : World} {P : World → Prop} (h : Stay w P) (o : Obj) : Stay (w.alloc o) P := h.step ((Below.refl _ w).alloc (Nat.le_refl _) _)
theorem Stay.and {w : World} {P Q : World → Prop} (h : Stay w P) (k : Stay w Q) : Stay w (fun U => P U ∧ Q U) := fun w' hb => ⟨h w' hb, k w' hb⟩
theorem Stay.imp {w : World} {P Q : World → Prop} (h : Stay w P) (k : ∀ U, P U → Q U) : Stay w Q := fun w' hb => k w' (h w' hb)
theorem Blk.stay {w : World} {b : Nat} {C : Array Value} {t : TypeId} (h : Blk w b C t) : Stay w (fun U => Blk U b C t) := fun _ hb => h.below hb h.lt
theorem FrsIn.stay {S : Nat → Prop} {w : World} {v : Value} {l : List Fr} (h : FrsIn S w v l) : Stay w (fun U => FrsIn S U v l) := fun _ hb => h.below hb
theorem StrsIn.stay {S : Nat → Prop} {w : World} {v : Value} {l : List ByteArray} (h : StrsIn S w v l) : Stay w (fun U => StrsIn S U v l) := fun _ hb => h.below hb
theorem GrsIn.stay {S : Nat → Prop} {w : World} {v : Value} {L : List (List Fr)} (h : GrsIn S w v L) : Stay w (fun U => GrsIn S U v L) := fun _ hb => h.below hb
theorem below_stay {B : Nat} {a w : World} (h : Below B a w) (hB : B ≤ w.heap.size) : Stay w (fun U => Below B a U) := fun _ hb => h.trans (hb.mono hB)
theorem below_stay0 (w : World) : Stay w (fun U => Below w.heap.size w U) := below_stay (Below.refl _ _) (Nat.le_refl _)

theorem Stay.hid {w : World} {P : World → Prop} (h : Stay w P) : Hid (Stay w P) := h
theorem Stay.go {w w' : World} {P : World → Prop} (h : Hid (Stay w P)) (hb : Below w.heap.size w w') : Hid (Stay w' P) := Stay.step h hb
theorem Stay.allocE {w W : World} {P : World → Prop} {o : Obj} (h : Stay w P) (e : W = w.alloc o) : Hid (Stay W P) := by subst e; exact h.alloc _
theorem Blk.newE {w W : World} {C : Array Value} {t : TypeId} (e : W = w.alloc (.cells C t)) : Blk W w.heap.size C t := by subst e; exact Blk.new _ _ _
theorem FrsIn.allocE {S : Nat → Prop} {w W : World} {v : Value} {l : List Fr} {o : Obj} (h : FrsIn S w v l) (e : W = w.alloc o) : FrsIn S W v l := by subst e; exact h.alloc _
theorem GrsIn.allocE {S : Nat → Prop} {w W : World} {v : Value} {L : List (List Fr)} {o : Obj} (h : GrsIn S w v L) (e : W = w.alloc o) : GrsIn S W v L := by subst e; exact h.alloc _
theorem StrsIn.allocE {S : Nat → Prop} {w W : World} {v : Value} {l : List ByteArray} {o : Obj} (h : StrsIn S w v l) (e : W = w.alloc o) : StrsIn S W v l := by subst e; exact h.alloc _

end Go.Proofs.Ytgmnhbmjnllhhac

namespace Go.Proofs.Ytgmnhbmjnllhhac
open Go.RowKit

theorem heldB3 {W X Y : World} {a b c : Addr} {u v z : Value} (h : X.cell? a = some u ∧ X.cell? b = some v ∧ X.cell? c = some z ∧ Below W.heap.size W X) (k : Below X.heap.size X Y) : Y.cell? a = some u ∧ Y.cell? b = some v ∧ Y.cell? c = some z ∧ Below W.heap.size W Y :=
  ⟨(k.cell (block_lt_of_cell h.1)).trans h.1, (k.cell (block_lt_of_cell h.2.1)).trans h.2.1, (k.cell (block_lt_of_cell h.2.2.1)).trans h.2.2.1, h.2.2.2.trans (k.mono h.2.2.2.size)⟩

set_option maxHeartbeats 8000000 in
set_option maxRecDepth 100000 in
theorem storeStays_any (first : Int) (gv ov pv : Value) (L : List (List Fr)) (O : List Fr) (f : Fr) (w : World) (hg : GrsIn (fun _ => True) w gv L) (ho : FrsIn (fun _ => True) w ov O) (hp : StrsIn (fun _ => True) w pv f.parts) :
    Calls Try.prog 8 #[.agg #[.int .i64 first, gv, ov], .agg #[.int .i64 f.time, .bool f.key, pv]] w fun e w' => e = .returned (.bool true) ∧ Below w.heap.size w w' := by
  obtain ⟨ga, gc, eg, _, _⟩ := hg.len
  obtain ⟨oa, oc, eo, _, _⟩ := ho.len
  obtain ⟨pa, pc, ep⟩ := hp.1.len
  obtain ⟨ln, hln⟩ : ∃ n, n = L.length := ⟨_, rfl⟩
  obtain ⟨lo, hlo⟩ : ∃ n, n = O.length := ⟨_, rfl⟩
  obtain ⟨pn, hpn⟩ : ∃ n, n = f.parts.length := ⟨_, rfl⟩
  rw [← hln] at eg
  rw [← hlo] at eo
  rw [← hpn] at ep
  obtain ⟨ft, hft⟩ : ∃ t, t = f.time := ⟨_, rfl⟩
  obtain ⟨fk, hfk⟩ : ∃ t, t = f.key := ⟨_, rfl⟩
  obtain ⟨E, hE⟩ : ∃ E, E = addsE first L O f := ⟨_, rfl⟩
  obtain ⟨F, hF⟩ : ∃ E, E = addsF first L O f := ⟨_, rfl⟩
  obtain ⟨LA, hLA⟩ : ∃ E, E = addsL first L O f := ⟨_, rfl⟩
  obtain ⟨OA, hOA⟩ : ∃ E, E = addsO first L O f := ⟨_, rfl⟩
  obtain ⟨B, hB⟩ : ∃ E, E = addsB first L O f := ⟨_, rfl⟩
  obtain ⟨nA, hnA⟩ : ∃ n, n = LA.length := ⟨_, rfl⟩
  obtain ⟨nO, hnO⟩ : ∃ n, n = OA.length := ⟨_, rfl⟩
  have HADD : Hid (∀ U, Below w.heap.size w U → Calls Try.prog 21 #[.agg #[.int .i64 first, gv, ov], .agg #[.int .i64 ft, .bool fk, pv]] U fun e w' => ∃ va vc qa qc, e = .returned (.tuple #[.agg #[.int .i64 F, .slice va nA vc, .slice qa nO qc], .bool B, .int .i64 E]) ∧ Hid (GrsIn (fun _ => True) w' (.slice va nA vc) LA) ∧ Hid (FrsIn (fun _ => True) w' (.slice qa nO qc) OA) ∧ Below U.heap.size U w') := fun U hU => by
    rw [hft, hfk]
    refine (storeAdd_any first gv ov pv L O f U (hg.below hU) (ho.below hU) (hp.below hU)).mono ?_
    rintro e w' ⟨gv', ov', rfl, h1, h2, h3⟩
    rw [← hLA] at h1
    rw [← hOA] at h2
    obtain ⟨va, vc, ev, _, _⟩ := h1.len
    obtain ⟨qa, qc, eq, _, _⟩ := h2.len
    rw [← hnA] at ev
    rw [← hnO] at eq
    subst ev eq
    rw [← hE, ← hF, ← hB]
    exact ⟨va, vc, qa, qc, rfl, h1, h2, h3⟩
  have HBAD : Hid (¬ E = 0 → B = false ∧ nA = 0) := fun h => by
    rw [hE] at h
    obtain ⟨_, h2, _, h4⟩ := addsE_bad h
    rw [hB, hnA, hLA, h2, h4]; exact ⟨rfl, rfl⟩
  have HGOOD : Hid (E = 0 → stchk F LA OA = 0 ∧ first ≤ F ∧ 0 ≤ first ∧ F ≤ 100000 ∧ ln ≤ 5 ∧ (B = true → 0 < nA) ∧ (0 < ln → 0 < nA) ∧ (∀ i, i < ln → (first + i < F → getE F LA OA (first + i) = 5) ∧ (F ≤ first + i → getE F LA OA (first + i) = 0 ∧ getG F LA OA (first + i) = grAt L i)) ∧ (B = true → getE F LA OA (first + ln) = 0 ∧ getG F LA OA (first + ln) = O) ∧ (B = false → F = first ∧ nA = ln)) := fun h => by
    rw [hE] at h
    have r1 := adds_right h
    obtain ⟨r2, r3, r4⟩ := adds_last h
    obtain ⟨s1, s2, s3, s4, s5, s6, s7⟩ := addsE_zero h
    obtain ⟨t1, t2, t3, _⟩ := stchk_zero.1 s1
    rw [hF, hLA, hOA, hB, hnA, hln, hLA]
    refine ⟨r1, r3, t1, by omega, t3, fun hb => ?_, fun hl => r4 (by simp; omega), fun i hi => ?_, fun hb => ?_, fun hb => ?_⟩
    · rw [s7, decide_eq_true_eq] at hb
      exact r4 (by simp; omega)
    · obtain ⟨u1, u2⟩ := adds_get h (i := i) (by simp; omega)
      refine ⟨u1, fun hn => ⟨(u2 (by omega)).1, ?_⟩⟩
      rw [(u2 (by omega)).2, grAt_append, if_pos hi]
    · rcases closedG_cases O f with ⟨e, _⟩ | ⟨e, _, _⟩
      · rw [s7, e] at hb; simp at hb
      · obtain ⟨u1, u2⟩ := adds_get h (i := L.length) (by rw [e]; simp)
        rw [e] at r2
        have hn : ¬ first + (L.length : Int) < addsF first L O f := by simp at r2; omega
        refine ⟨(u2 hn).1, ?_⟩
        rw [(u2 hn).2, e, grAt_append, if_neg (by omega), Nat.sub_self]; rfl
    · obtain ⟨u1, u2⟩ := adds_open h hb
      exact ⟨u1, by rw [u2]⟩
  have HLL : Hid (∀ i, i < ln → (grAt L i).length ≤ 9223372036854775807) := fun i hi => by
    obtain ⟨ao, c, _, _, _, hc⟩ := hg
    obtain ⟨b, off, _, _, _, sv, _, h5⟩ := hc i (by rw [← hln]; exact hi)
    obtain ⟨_, _, _, _, h7⟩ := h5.len
    exact h7
  have HOL : Hid (O.length ≤ 9223372036854775807) := by
    obtain ⟨_, _, _, _, h7⟩ := ho.len
    exact h7
  have HS : Hid (Stay w (fun U => GrsIn (fun _ => True) U gv L ∧ FrsIn (fun _ => True) U ov O ∧ Below w.heap.size w U)) := hg.stay.and (ho.stay.and (below_stay0 w))
  have HLN : Hid (ln = L.length) := hln
  have HLO : Hid (lo = O.length) := hlo
  rw [← hft, ← hfk]
  clear hg ho hp hE hF hLA hOA hB hnA hnO hft hfk hln hlo hpn
  subst eg eo ep
  go_enter Try.func8, Try.ntmps8
  go_wp2_with fail
  obtain ⟨W0, hW0⟩ : ∃ W0, W0 = (w.alloc (.cells #[.int .i64 first, .slice ga ln gc, .slice oa lo oc] 51)).alloc (.cells #[.int .i64 ft, .bool fk, .slice pa pn pc] 48) := ⟨_, rfl⟩
  have HS0 : Hid (Stay W0 (fun U => Blk U w.heap.size #[.int .i64 first, .slice ga ln gc, .slice oa lo oc] 51 ∧ GrsIn (fun _ => True) U (.slice ga ln gc) L ∧ FrsIn (fun _ => True) U (.slice oa lo oc) O ∧ Below w.heap.size w U)) := by
    rw [hW0]; exact (((Blk.new _ _ _).alloc _).stay).and ((HS.out.alloc _).alloc _)
  rw [← hW0]
  clear hW0 HS
  refine (HADD.out _ HS0.out.now.2.2.2).mono ?_
  rintro e w1 ⟨va, vc, qa, qc, rfl, G1, O1, b1⟩
  obtain ⟨W1, hW1⟩ : ∃ W1, W1 = w1.alloc (.cells #[.int .i64 F, .slice va nA vc, .slice qa nO qc] 51) := ⟨_, rfl⟩
  have HS1 : Hid (Stay W1 (fun U => (Blk U w1.heap.size #[.int .i64 F, .slice va nA vc, .slice qa nO qc] 51 ∧ GrsIn (fun _ => True) U (.slice va nA vc) LA ∧ FrsIn (fun _ => True) U (.slice qa nO qc) OA) ∧ (Blk U w.heap.size #[.int .i64 first, .slice ga ln gc, .slice oa lo oc] 51 ∧ GrsIn (fun _ => True) U (.slice ga ln gc) L ∧ FrsIn (fun _ => True) U (.slice oa lo oc) O ∧ Below w.heap.size w U))) := by
    rw [hW1]; exact ((Blk.new _ _ _).stay.and ((G1.out.alloc _).stay.and (O1.out.alloc _).stay)).and ((HS0.out.step b1).alloc _)
  clear b1 HS0 G1 O1 HADD
  go_wp2_with fail
  rw [← hW1]
  clear hW1
  refine (storeBegun_any _).mono ?_
  rintro e w2 ⟨rfl, b2⟩
  have HS2 := HS1.out.step b2
  clear b2 HS1
  by_cases hE : E = 0
  case neg =>
    obtain ⟨rfl, rfl⟩ := HBAD.out hE
    obtain ⟨k0, k1, k2⟩ := HS2.now.1.1.three
    have BW : Hid (Below w.heap.size w w2) := HS2.now.2.2.2.2
    clear HS2
    go_wp2
    go_ret
    exact ⟨rfl, BW.out⟩
  obtain ⟨hck, hF1, hf0, hF2, hl5, hB1, hl1, hget, hget2, hopen⟩ := HGOOD.out hE
  subst hE
  have HCK : Hid (Calls Try.prog 30 #[.agg #[.int .i64 F, .slice va nA vc, .slice qa nO qc]] w2 fun e w' => e = .returned (.int .i64 0) ∧ Below w2.heap.size w2 w') := by
    have := storeCheck_any _ F _ _ LA OA w2 HS2.now.1.2.1 HS2.now.1.2.2
    rw [hck] at this
    exact this
  have HGET : Hid (∀ (i : Int) (U : World), i ≤ 1000000 → (GrsIn (fun _ => True) U (.slice va nA vc) LA ∧ FrsIn (fun _ => True) U (.slice qa nO qc) OA) → Calls Try.prog 23 #[.agg #[.int .i64 F, .slice va nA vc, .slice qa nO qc], .int .i64 i] U fun e w' => ∃ a c, e = .returned (.tuple #[.agg #[.slice a (getG F LA OA i).length c], .int .i64 (getE F LA OA i)]) ∧ FrsIn (fun _ => True) w' (.slice a (getG F LA OA i).length c) (getG F LA OA i) ∧ Below U.heap.size U w') := fun i U hi h => storeGet_any F _ _ LA OA i U h.1 h.2 (by omega)
  have HB1 : Hid (B = true → 0 < nA) := hB1
  have HL1 : Hid (0 < ln → 0 < nA) := hl1
  have HG1 : Hid (∀ i, i < ln → (first + i < F → getE F LA OA (first + i) = 5) ∧ (F ≤ first + i → getE F LA OA (first + i) = 0 ∧ getG F LA OA (first + i) = grAt L i)) := hget
  have HG2 : Hid (B = true → getE F LA OA (first + ln) = 0 ∧ getG F LA OA (first + ln) = O) := hget2
  have HOP : Hid (B = false → F = first ∧ nA = ln) := hopen
  have hFl : ¬ F < first := by omega
  clear hck hB1 hl1 hget hget2 hopen HGOOD HBAD
  have HS3 : Hid (Stay w2 _) := HS2
  clear HS2
  obtain ⟨k0, k1, k2⟩ := HS3.out.now.1.1.three
  obtain ⟨j0, j1, j2⟩ := HS3.out.now.2.1.three
  go_upto_region 6 with fail
  go_cut [62] (fun s62 wc => s62 = .bool false ∧ Hid (Below w2.heap.size w2 wc))
  case first =>
    go_wp2_with fail
    refine HCK.out.mono ?_
    rintro e w3 ⟨rfl, b3⟩
    have HS4 : Hid (Stay w3 _) := HS3.out.step b3
    have B3 : Hid (Below w2.heap.size w2 w3) := b3
    clear b3 k0 k1 k2 j0 j1 j2
    obtain ⟨k0, k1, k2⟩ := HS4.out.now.1.1.three
    obtain ⟨j0, j1, j2⟩ := HS4.out.now.2.1.three
    have hnn : B = true → ¬ (nA : Int) = 0 := fun h => by have := HB1.out h; omega
    have hnl : 0 < ln → ¬ (nA : Int) = 0 := fun h => by have := HL1.out h; omega
    cases B
    · by_cases hl : 0 < ln
      · have hz : ¬ (nA : Int) = 0 := hnl hl
        clear hnn hnl
        go_wp2_with fail
        go_meet
        case rel => exact ⟨by simp; omega, B3.out⟩
      · clear hnn hnl
        go_wp2_with fail
        go_meet
        case rel => exact ⟨by simp; omega, B3.out⟩
    · have hz : ¬ (nA : Int) = 0 := hnn rfl
      by_cases hl : 0 < ln
      · clear hnn hnl
        go_wp2_with fail
        go_meet
        case rel => exact ⟨by simp; omega, B3.out⟩
      · clear hnn hnl
        go_wp2_with fail
        go_meet
        case rel => exact ⟨by simp; omega, B3.out⟩
  case rest =>
    obtain ⟨rfl, HB⟩ := hcut
    have HS5 : Hid (Stay wc _) := HS3.out.step HB.out
    clear HS3 HB k0 k1 k2 j0 j1 j2 HCK HB1 HL1
    go_wp2_with fail
    go_loopw [8] (fun i wr => ∃ k : Nat, k ≤ ln ∧ i = .int .i64 k ∧ Hid (Stay wr (fun U => (Blk U w1.heap.size #[.int .i64 F, .slice va nA vc, .slice qa nO qc] 51 ∧ GrsIn (fun _ => True) U (.slice va nA vc) LA ∧ FrsIn (fun _ => True) U (.slice qa nO qc) OA) ∧ (Blk U w.heap.size #[.int .i64 first, .slice ga ln gc, .slice oa lo oc] 51 ∧ GrsIn (fun _ => True) U (.slice ga ln gc) L ∧ FrsIn (fun _ => True) U (.slice oa lo oc) O ∧ Below w.heap.size w U))))
      (fun i _ => ln - (intOf i).toNat)
    case atStart => exact ⟨0, Nat.zero_le _, rfl, HS5.out⟩
    case round =>
      obtain ⟨k, hk, rfl, HS6⟩ := hrel
      clear HS5
      obtain ⟨k0, k1, k2⟩ := HS6.out.now.1.1.three
      obtain ⟨j0, j1, j2⟩ := HS6.out.now.2.1.three
      by_cases hlt : k < ln
      · have hlti : (k : Int) < (ln : Int) := by omega
        obtain ⟨X, hX⟩ : ∃ X, X = getG F LA OA (first + k) := ⟨_, rfl⟩
        obtain ⟨Y, hY⟩ : ∃ Y, Y = getE F LA OA (first + k) := ⟨_, rfl⟩
        obtain ⟨nX, hnX⟩ : ∃ n, n = X.length := ⟨_, rfl⟩
        have HC : Hid (∀ U : World, (GrsIn (fun _ => True) U (.slice va nA vc) LA ∧ FrsIn (fun _ => True) U (.slice qa nO qc) OA) → Calls Try.prog 23 #[.agg #[.int .i64 F, .slice va nA vc, .slice qa nO qc], .int .i64 (first + k)] U fun e w' => ∃ a c, e = .returned (.tuple #[.agg #[.slice a nX c], .int .i64 Y]) ∧ Hid (FrsIn (fun _ => True) w' (.slice a nX c) X) ∧ Below U.heap.size U w') := fun U h => by
          rw [hnX, hX, hY]; exact HGET.out (first + k) U (by omega) h
        have HXY : Hid ((first + k < F → Y = 5) ∧ (F ≤ first + k → Y = 0 ∧ X = grAt L k)) := by rw [hX, hY]; exact HG1.out k hlt
        have HNX : Hid (nX = X.length) := hnX
        clear hX hY hnX
        go_wp2_with fail
        refine (HC.out _ ⟨HS6.out.now.1.2.1, HS6.out.now.1.2.2⟩).mono ?_
        rintro e w7 ⟨xa, xc, rfl, F7, b7⟩
        obtain ⟨W7, hW7⟩ : ∃ W7, W7 = w7.alloc (.cells #[.slice xa nX xc] 35) := ⟨_, rfl⟩
        have HS7 := (HS6.out.step b7).allocE hW7
        have X7 := ((Blk.newE hW7).stay.and (F7.out.allocE hW7).stay).hid
        clear HC F7 b7 HS6 k0 k1 k2 j0 j1 j2
        obtain ⟨k0, k1, k2⟩ := HS7.out.now.1.1.three
        obtain ⟨j0, j1, j2⟩ := HS7.out.now.2.1.three
        have x0 := X7.out.now.1.one
        by_cases hF : first + k < F
        · have hY := HXY.out.1 hF
          subst hY hW7
          go_wp2_with fail
          go_roundw
          case rel => exact ⟨k + 1, by omega, by go_num, HS7.out⟩
          case measure => simp [intOf]; omega
        · obtain ⟨hY, hXL⟩ := HXY.out.2 (by omega)
          subst hY
          have HXL : Hid (X = grAt L k) := hXL
          clear hXL
          obtain ⟨ao', c', eu, _, _, hc⟩ := HS7.out.now.2.2.1
          rw [← HLN.out] at eu
          injection eu with eu eu2 eu3
          clear eu2
          subst eu eu3
          obtain ⟨b, off, e1, hb, _, sv, c0, hsv⟩ := hc k (by rw [← HLN.out]; exact hlt)
          rw [show L[k]?.getD [] = X from HXL.out.symm] at hsv
          obtain ⟨sa, sc, es, _, hsl⟩ := hsv.len
          rw [← HNX.out] at es hsl
          have HX9 : Hid (Stay W7 (fun U => FrsIn (fun _ => True) U (.slice sa nX sc) X)) := by rw [← es]; exact hsv.stay
          have HSL : Hid (nX ≤ 9223372036854775807) := hsl
          have HSF : Hid (∀ U : World, Below W7.heap.size W7 U → Calls Try.prog 11 #[.slice xa nX xc, .slice sa nX sc] U fun e w' => e = .returned (.bool true) ∧ Below U.heap.size U w') := fun U h1 => by
            have := sameFrames_any _ _ _ _ U (X7.out U h1).2.frs (HX9.out U h1).frs (by rw [← HNX.out]; exact HSL.out)
            rw [show sameFs X X = true from decide_eq_true rfl] at this
            exact this
          have HSG : Hid (∀ U : World, (U.cell? ⟨w7.heap.size, 0, none⟩ = some (.slice xa nX xc) ∧ U.cell? ⟨w.heap.size, 1, none⟩ = some (.slice (some ⟨b, off, none⟩) ln gc) ∧ U.cell? ⟨b, off + k, none⟩ = some (.slice sa nX sc) ∧ Below W7.heap.size W7 U) → Calls Try.prog 11 #[.slice xa nX xc, .slice sa nX sc] U fun e w' => e = .returned (.bool true) ∧ Below U.heap.size U w') := fun U h => HSF.out U h.2.2.2
          have hFk : ¬ first + (k : Int) < F := hF
          have hkl : (k : Int) < (ln : Int) := by omega
          subst e1 es hW7
          clear hc hsv hF
          go_wp2_with fail
          go_region_held3 (fun w' => w'.cell? ⟨w7.heap.size, 0, none⟩ = some (.slice xa nX xc) ∧ w'.cell? ⟨w.heap.size, 1, none⟩ = some (.slice (some ⟨b, off, none⟩) ln gc) ∧ w'.cell? ⟨b, off + k, none⟩ = some (.slice sa nX sc) ∧ Below (w7.alloc (.cells #[.slice xa nX xc] 35)).heap.size (w7.alloc (.cells #[.slice xa nX xc] 35)) w') (first | exact ⟨x0, j1, c0, Below.drew (Below.refl _ _)⟩ | exact heldB3 (by assumption) (by assumption) | (refine heldB3 ?_ ?_ <;> assumption))
            (first
              | (go_at_call 11; refine (HSG.out _ (by assumption)).mono ?_; rintro e w14 ⟨rfl, b14⟩))
          have hS : Below (w7.alloc (.cells #[.slice xa nX xc] 35)).heap.size (w7.alloc (.cells #[.slice xa nX xc] 35)) w14 := by
            have hh : w14.cell? ⟨w7.heap.size, 0, none⟩ = some (.slice xa nX xc) ∧ w14.cell? ⟨w.heap.size, 1, none⟩ = some (.slice (some ⟨b, off, none⟩) ln gc) ∧ w14.cell? ⟨b, off + k, none⟩ = some (.slice sa nX sc) ∧ Below (w7.alloc (.cells #[.slice xa nX xc] 35)).heap.size (w7.alloc (.cells #[.slice xa nX xc] 35)) w14 := by assumption
            exact hh.2.2.2
          have HS9 := Stay.go HS7 hS
          clear hS HS7 X7 HSG HSF HX9
          go_wp2_with fail
          go_roundw
          case rel => exact ⟨k + 1, by omega, by go_num, HS9.out⟩
          case measure => simp [intOf]; omega
      · have hkl : k = ln := by omega
        have HKL : Hid (k = ln) := hkl
        cases B
        · obtain ⟨e1, e2⟩ := HOP.out rfl
          subst hkl e1 e2
          have BW : Hid (Below w.heap.size w wr) := HS6.out.now.2.2.2.2
          go_wp2
          go_ret
          exact ⟨rfl, BW.out⟩
        · obtain ⟨e1, e2⟩ := HG2.out rfl
          have HC := HGET.out (first + ln) wr (by omega) ⟨HS6.out.now.1.2.1, HS6.out.now.1.2.2⟩
          rw [e1, e2, ← HLO.out] at HC
          subst hkl
          go_wp2_with fail
          refine HC.mono ?_
          rintro e w7 ⟨xa, xc, rfl, F7, b7⟩
          obtain ⟨W7, hW7⟩ : ∃ W7, W7 = w7.alloc (.cells #[.slice xa lo xc] 35) := ⟨_, rfl⟩
          have HS7 := (HS6.out.step b7).allocE hW7
          have X7 := ((Blk.newE hW7).stay.and (F7.allocE hW7).stay).hid
          clear HC F7 b7 HS6 k0 k1 k2 j0 j1 j2
          obtain ⟨k0, k1, k2⟩ := HS7.out.now.1.1.three
          obtain ⟨j0, j1, j2⟩ := HS7.out.now.2.1.three
          have x0 := X7.out.now.1.one
          subst hW7
          go_wp2_with fail
          refine (sameFrames_any _ _ _ _ _ X7.out.now.2.frs HS7.out.now.2.2.2.1.frs HOL.out).mono ?_
          rw [show sameFs O O = true from decide_eq_true rfl]
          rintro e w8 ⟨rfl, b8⟩
          have BW : Hid (Below w.heap.size w w8) := (HS7.out.step b8).now.2.2.2.2
          clear b8 HS7 X7
          go_wp2
          go_ret
          exact ⟨rfl, BW.out⟩

end Go.Proofs.Ytgmnhbmjnllhhac

namespace Go.Proofs.Ytgmnhbmjnllhhac
namespace storeStays
open Go.ChangeShapes Go.WideShapes Go.ChangeAt Go.RowKit

set_option maxRecDepth 100000 in
theorem lifted (os : Os) (started : os.Started) (H : Type) (enc : TypeId × Value → H) :
    ReturnsInHanded {} Try.checked os 8 .any (Rows.storeStaysSpec.pre6 enc Try.prog Try.f8 Rows.storeStaysRow.domain false) (Rows.storeStaysSpec.post enc Try.prog Try.f8 false true false false) := by
  refine returnsInHanded_of_change_sized (C := Try.checked) own started (by kernel_rfl) Try.func8
    (ChangeSpec.witness6 (enc := enc) (C := Try.checked) false ⟨#[], #[.agg #[.int .i64 0, .slice none 0 0, .slice none 0 0], .agg #[.int .i64 0, .bool false, .slice none 0 0]], []⟩ 8 (by kernel_rfl) (by kernel_rfl) (by kernel_rfl) (by kernel_rfl)) ?_
  intro W base args ds gs before hval0 hW _ hsz0 _
  have hsz : (DataW.weightsEach Try.prog (Try.f8.params.toList ++ Rows.storeStaysSpec.plain.varTypes Try.prog) (ds ++ gs)).all (· ≤ reachBytes) = true := hsz0
  clear hsz0
  have hval : ∀ (j : Nat) t v, Try.f8.params[j]? = some t → args[j]? = some v → Value.okWide Try.prog W .any base t v := hval0
  have hW' := hW
  obtain ⟨p, q, hA0, hV, rfl, _, _⟩ := hW
  have hA : DataW.TrodAll enc Try.prog W 0 (fun _ => true) true Try.f8.params.toList args.toList ds p := hA0
  rw [Try.params8] at hA hval hsz
  obtain ⟨v0, vs0, d0, ds0, p0, q0, hargs, rfl, rfl, h0, r0⟩ := trodAll_cons hA
  obtain ⟨v1, vs1, d1, ds1, p1, q1, rfl, rfl, rfl, h1, r1⟩ := trodAll_cons r0
  obtain ⟨rfl, rfl, rfl⟩ := trodAll_nil r1
  obtain rfl : args = #[v0, v1] := by cases args; simp_all
  obtain ⟨rfl, rfl⟩ := trodVars_none hV
  have lt0 : ∀ x ∈ p0, x.block < W.heap.size := by obtain ⟨m, hm⟩ := h0; exact DataW.trod_lt m _ _ _ hm
  have lt1 : ∀ x ∈ p1, x.block < W.heap.size := by obtain ⟨m, hm⟩ := h1; exact DataW.trod_lt m _ _ _ hm
  obtain ⟨a0, g0, o0, L0, O0, ev0, wf0, sg0, so0⟩ := op_store (hval 0 51 v0 rfl rfl) h0
  obtain ⟨t1, k1, u1, l1, ev1, wf1, s1, f1, n1⟩ := op_frm (hval 1 48 v1 rfl rfl) h1
  clear hA0 hval0
  subst ev0
  subst ev1
  refine (storeStays_any a0 g0 o0 u1 L0 O0 ⟨t1, k1, l1⟩ W sg0 so0 (StrsIn.of s1 (by unfold maxLen at n1; omega))).mono fun e W1 ⟨he, bel⟩ => ?_
  subst he
  exact ⟨_, rfl, _, _, _, [], _, [], hW', trodAll_mk1 (shut_bool Try.underlying4 _), (trodAll_cons_mk (Below.trod laidOut (by kernel_rfl) (of_decide_eq_true (by kernel_rfl)) h0 bel lt0) (trodAll_cons_mk (Below.trod laidOut (by kernel_rfl) (of_decide_eq_true (by kernel_rfl)) h1 bel lt1) trodAll_mk0)), rfl, bel.frame _, fun h => by cases h⟩

theorem proved : Rows.StoreStaysSaid :=
  OpenClaim.holds_of_wide 8 Try.f8 rfl rfl rfl rfl rfl rfl rfl ⟨rfl, rfl, rfl, rfl, rfl⟩ rfl rfl rfl rfl rfl (by kernel_rfl) Try.func8 (by kernel_rfl)
    (of_decide_eq_true (by kernel_rfl)) (by unfold Func.isWrapper; first | (rw [if_pos (by decide +kernel)]; kernel_rfl) | (rw [if_neg (by decide +kernel)]; exact ⟨rfl, rfl⟩))
    (fun os started H enc _ => lifted os started H enc)
end storeStays

theorem storeStays_holds : Rows.StoreStaysSaid := storeStays.proved
#print axioms storeStays_holds
end Go.Proofs.Ytgmnhbmjnllhhac
