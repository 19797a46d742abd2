/-
  'switchbacklaw.OutGoes' returns true for every input, and each argument reads behind the call as it read before: 'Rows.OutGoesSaid'. No condition.
-/
import Derived.Test.YtnpaejknoipicafRows
import Derived.Test.YtnpaejknoipicafSlices
import Derived.ProofKit
import Derived.OpenShut
import Derived.ShutString
import Derived.ChangeOld
import Derived.Below
import Derived.SizedLaws
import Derived.Test.YtnpaejknoipicafSlotRows
import Derived.Deep.Slices
import Derived.Test.YtnpaejknoipicafFrameCheck
import Derived.Test.YtnpaejknoipicafNest
import Derived.Test.YtnpaejknoipicafOutWalk2
import Derived.Test.YtnpaejknoipicafPktRows
import Derived.Test.YtnpaejknoipicafRegChainG
import Derived.Test.YtnpaejknoipicafStrClone
import Derived.Test.YtnpaejknoipicafGroupPlain
import Derived.Test.YtnpaejknoipicafStayK
import Derived.Deep.DeepCutAuto
import Derived.Test.YtnpaejknoipicafOutCheck
import Derived.Test.YtnpaejknoipicafFrameAll2
import Derived.Test.YtnpaejknoipicafRegBoxes
import Derived.OneCell
import Derived.Test.YtnpaejknoipicafLawPic
import Derived.Test.YtnpaejknoipicafFrameBegun
import Derived.Test.YtnpaejknoipicafSkSnoc
import Derived.Lib.QuietBelow

namespace Go.Proofs.Ytnpaejknoipicaf
open Go.ChangeShapes Go.WideShapes Go.ChangeAt Go.RowKit
open Go.ChangeMaps (open_string shut_string)

theorem own : ownKnob Try.prog.godebug = none := by kernel_rfl
theorem laidOut : laidOutB Try.prog = true := by kernel_rfl

section
variable {H : Type} {enc : TypeId × Value → H} {P : Program} {W : World} {r : Reach} {b0 : Nat} {t e : TypeId} {v : Value} {d : DataW H} {p : List MemPlace}

theorem op_int (ht : P.underlying t = some (.int .i64)) (hval : Value.okWide P W r b0 t v) (h : DataW.Trod enc P W 0 (fun _ => true) true t v d p) :
    ∃ a, v = .int .i64 a ∧ (Lit.int .i64 a).wf = true := by
  obtain ⟨a, rfl, _, _, w0⟩ := open_int ht hval h
  exact ⟨a, rfl, w0⟩

theorem op_ints (ht : P.underlying t = some (.slice e)) (he : P.underlying e = some (.int .i64)) (hc : P.cellsOf e = 1) (hval : Value.okWide P W r b0 t v) (h : DataW.Trod enc P W 0 (fun _ => true) true t v d p)
    (hsz : ∀ elems spare, d = .slice elems spare → (elems.length + spare.length) * 8 ≤ 140737488351232) :
    ∃ zs : List Int, Sl W v zs.length 1 (zs.map (Value.int .i64)) ∧ (∀ n ∈ zs, (Lit.int .i64 n).wf = true) ∧ zs.length * 8 ≤ 140737488351232 := by
  obtain ⟨a, len, cap, rfl⟩ := okWide_slice ht hval
  obtain ⟨fuel, hf⟩ := h
  rcases open_ints ht he hc hf with ⟨hcs, hx⟩ | ⟨x, l, c, zs, hcs, _, hl, hm, hz, hx, hcell, hwz⟩
  · simp [Value.cells] at hcs
    obtain ⟨rfl, rfl, rfl⟩ := hcs
    exact ⟨[], ⟨by simp, .inl ⟨rfl, none, 0, rfl⟩⟩, by simp, by simp⟩
  · simp [Value.cells] at hcs
    obtain ⟨rfl, rfl, rfl⟩ := hcs
    simp only [if_true] at hz
    simp only [Prod.mk.injEq] at hx
    have hb := hsz _ _ hx.1
    simp only [lits, List.length_map, List.length_take, List.length_drop] at hb
    obtain ⟨hs, hw⟩ := Sl.of_row (w := W) (a := some x) (len := len) (cap := cap) (zs := zs) (k := .i64) (.inr ⟨x, rfl, hl, hm, hz, hcell, hwz⟩)
    have hlen : (zs.take len).length = len := by simp; omega
    refine ⟨zs.take len, ?_, hw, by omega⟩
    rw [hlen]
    exact hs
end

theorem wf_i64 {a : Int} (h : (Lit.int .i64 a).wf = true) : -9223372036854775808 ≤ a ∧ a ≤ 9223372036854775807 := by
  have h1 : IntKind.i64.min = -9223372036854775808 := rfl
  have h2 : IntKind.i64.max = 9223372036854775807 := rfl
  simp only [Lit.wf, Bool.and_eq_true, decide_eq_true_eq] at h
  omega

end Go.Proofs.Ytnpaejknoipicaf

namespace Go.Proofs.Ytnpaejknoipicaf
open Go.ChangeShapes Go.WideShapes Go.ChangeAt Go.RowKit
open Go.ChangeMaps (open_string shut_string)

section
variable {H : Type} {enc : TypeId × Value → H} {W : World} {r : Reach} {b0 base : Nat} {spare : Nat → Bool} {held : Bool} {v : Value} {d : DataW H} {p : List MemPlace}

theorem Try.cellsPk : Try.prog.cellsOf 38 = 6 := by kernel_rfl
theorem Try.cellsSk : Try.prog.cellsOf 41 = 7 := by kernel_rfl
theorem Try.cellsI : Try.prog.cellsOf 3 = 1 := by kernel_rfl
theorem Try.cellsB : Try.prog.cellsOf 4 = 1 := by kernel_rfl
theorem Try.cellsS : Try.prog.cellsOf 9 = 1 := by kernel_rfl
theorem Try.cellsSl : Try.prog.cellsOf 36 = 1 := by kernel_rfl
theorem Try.cellsBuf : Try.prog.cellsOf 48 = 2 := by kernel_rfl

theorem list7 {α : Type} {l : List α} (h : l.length = 7) : ∃ c0 c1 c2 c3 c4 c5 c6, l = [c0, c1, c2, c3, c4, c5, c6] := by
  match l, h with
  | [c0, c1, c2, c3, c4, c5, c6], _ => exact ⟨c0, c1, c2, c3, c4, c5, c6, rfl⟩
theorem list6' {α : Type} {l : List α} (h : l.length = 6) : ∃ c0 c1 c2 c3 c4 c5, l = [c0, c1, c2, c3, c4, c5] := by
  match l, h with
  | [c0, c1, c2, c3, c4, c5], _ => exact ⟨c0, c1, c2, c3, c4, c5, rfl⟩
theorem list2 {α : Type} {l : List α} (h : l.length = 2) : ∃ c0 c1, l = [c0, c1] := by
  match l, h with
  | [c0, c1], _ => exact ⟨c0, c1, rfl⟩

/-- within what an input can be -/
def Sk.fits (x : Sk) : Prop := (Lit.int .i64 x.n).wf = true ∧ (Lit.int .i64 x.p.seq).wf = true ∧ (Lit.int .i64 x.p.time).wf = true ∧ x.p.t.size ≤ maxLen

theorem trod_slot {fuel : Nat} {cs : List Value} {x : DataW H × List MemPlace} (h : DataW.trod enc Try.prog W base spare held fuel 41 cs = some x) :
    ∃ s : Sk, cs = s.cells.toList ∧ s.fits := by
  obtain ⟨xs, n, _, _, hl, hxl, hf⟩ := DataW.trod_struct Try.underlying41 h
  rw [Try.cellsSk] at hl
  obtain ⟨c0, c1, c2, c3, c4, c5, c6, rfl⟩ := list7 hl
  obtain ⟨x0, x1, rfl⟩ := list2 (show xs.length = 2 from hxl)
  have h0 : DataW.trod enc Try.prog W base spare held n 3 (([c0, c1, c2, c3, c4, c5, c6].drop 0).take (Try.prog.cellsOf 3)) = some x0 := hf 0 _ rfl
  have h1 : DataW.trod enc Try.prog W base spare held n 38 (([c0, c1, c2, c3, c4, c5, c6].drop 1).take (Try.prog.cellsOf 38)) = some x1 := hf 1 _ rfl
  rw [Try.cellsI] at h0
  rw [Try.cellsPk] at h1
  obtain ⟨a, ea, _, wa⟩ := DataW.trod_int Try.underlying3 h0
  obtain ⟨ys, m, _, _, hl2, hyl, hg⟩ := DataW.trod_struct Try.underlying38 h1
  obtain ⟨y0, y1, y2, y3, y4, y5, rfl⟩ := list6' (show ys.length = 6 from hyl)
  have g0 : DataW.trod enc Try.prog W base spare held m 3 (([c1, c2, c3, c4, c5, c6].drop 0).take (Try.prog.cellsOf 3)) = some y0 := hg 0 _ rfl
  have g1 : DataW.trod enc Try.prog W base spare held m 3 (([c1, c2, c3, c4, c5, c6].drop 1).take (Try.prog.cellsOf 3)) = some y1 := hg 1 _ rfl
  have g2 : DataW.trod enc Try.prog W base spare held m 4 (([c1, c2, c3, c4, c5, c6].drop 2).take (Try.prog.cellsOf 4)) = some y2 := hg 2 _ rfl
  have g3 : DataW.trod enc Try.prog W base spare held m 4 (([c1, c2, c3, c4, c5, c6].drop 3).take (Try.prog.cellsOf 4)) = some y3 := hg 3 _ rfl
  have g4 : DataW.trod enc Try.prog W base spare held m 4 (([c1, c2, c3, c4, c5, c6].drop 4).take (Try.prog.cellsOf 4)) = some y4 := hg 4 _ rfl
  have g5 : DataW.trod enc Try.prog W base spare held m 9 (([c1, c2, c3, c4, c5, c6].drop 5).take (Try.prog.cellsOf 9)) = some y5 := hg 5 _ rfl
  rw [Try.cellsI] at g0 g1
  rw [Try.cellsB] at g2 g3 g4
  rw [Try.cellsS] at g5
  obtain ⟨a0, e0, _, w0⟩ := DataW.trod_int Try.underlying3 g0
  obtain ⟨a1, e1, _, w1⟩ := DataW.trod_int Try.underlying3 g1
  obtain ⟨a2, e2, _⟩ := DataW.trod_bool Try.underlying4 g2
  obtain ⟨a3, e3, _⟩ := DataW.trod_bool Try.underlying4 g3
  obtain ⟨a4, e4, _⟩ := DataW.trod_bool Try.underlying4 g4
  obtain ⟨a5, e5, _, w5⟩ := DataW.trod_string Try.underlying9 g5
  simp at ea e0 e1 e2 e3 e4 e5
  subst ea e0 e1 e2 e3 e4 e5
  exact ⟨⟨a, ⟨a0, a1, a2, a3, a4, a5⟩⟩, rfl, wa, w0, w1, w5⟩

set_option maxRecDepth 100000 in
theorem op_slot (hval : Value.okWide Try.prog W r b0 41 v) (h : DataW.Trod enc Try.prog W base spare held 41 v d p) :
    ∃ s : Sk, v = s.val ∧ s.fits := by
  obtain ⟨cs, rfl, _⟩ := okWide_struct Try.underlying41 hval
  obtain ⟨fuel, hf⟩ := h
  obtain ⟨s, hs, hw⟩ := trod_slot hf
  refine ⟨s, ?_, hw⟩
  have : cs = s.cells := by
    apply Array.ext'
    simpa [Value.cells] using hs
  rw [this]
  rfl

theorem trod_slots {fuel : Nat} {cs : List Value} {x : DataW H × List MemPlace} (h : DataW.trod enc Try.prog W base spare held fuel 36 cs = some x) :
    ∃ (u : Value) (l : List Sk), cs = [u] ∧ Sls W u l ∧ (∀ s ∈ l, s.fits) ∧ l.length ≤ maxLen ∧ (∀ a n c, u = .slice a n c → n ≤ c) ∧ (∀ elems sp, x.1 = .slice elems sp → l.length ≤ elems.length + sp.length) ∧ (x.1 = .nil → l = []) ∧ (x.1 = .nil ∨ ∃ elems sp, x.1 = .slice elems sp) := by
  rcases Go.Deep.open_slice Try.underlying36 h with ⟨rfl, rfl⟩ | ⟨a, len, cap, m, n, D, Pl, rfl, hb, hl, hm, hmm, rfl, hx⟩
  · exact ⟨_, [], rfl, Sls.nil W, by simp, by simp, fun a n c e => by cases e; exact Nat.le_refl _, by simp, fun _ => rfl, .inl rfl⟩
  · have hlm : len ≤ m := by rw [hmm]; split <;> omega
    rw [Try.cellsSk] at hx
    have each : ∀ i, i < len → ∃ s : Sk, s.fits ∧ ∀ j u, s.cells[j]? = some u → W.cell? (a.add (i * 7 + j)) = some u := fun i hi => by
      obtain ⟨cs', h1, h2⟩ := hx i (by omega)
      obtain ⟨s, hs, hw⟩ := trod_slot h2
      refine ⟨s, hw, fun j u hj => ?_⟩
      obtain ⟨_, hl7, hc⟩ := World.cells?_some h1
      have hj7 : j < 7 := by
        have := (Array.getElem?_eq_some_iff.1 hj).1
        exact this
      rw [← Go.Deep.add_add, hc j hj7, hs]
      simpa using hj
    obtain ⟨f, hf⟩ := Go.Deep.choose_lt each
    have hll : ((List.range len).map f).length = len := by simp
    refine ⟨_, (List.range len).map f, rfl, ⟨?_, ?_⟩, ?_, by rw [hll]; omega, fun a' n' c' e => by cases e; exact hl, ?_, fun e => by simp at e, .inr ⟨_, _, rfl⟩⟩
    · rw [skCells_len, hll]
    · rw [hll]
      by_cases h0 : len = 0
      · subst h0
        exact .inl ⟨rfl, _, _, rfl⟩
      · right
        obtain ⟨b, off, spot⟩ := a
        have hc0 := (hf 0 (by omega)).2 0 _ rfl
        have hspot : spot = none := by simpa [Addr.add] using World.cell?_spot hc0
        subst hspot
        refine ⟨b, off, cap, rfl, by simpa [Addr.add] using World.block_lt_of_cell? W _ hc0, fun j u hj => ?_⟩
        have hjl : j < len * 7 := by
          have := (List.getElem?_eq_some_iff.1 hj).1
          rwa [skCells_len, hll] at this
        have hjk : j = j / 7 * 7 + j % 7 := by omega
        rw [hjk, skCells_at _ (j / 7) (j % 7) (by omega) (by rw [hll]; omega)] at hj
        have hel : ((List.range len).map f)[j / 7]?.getD Sk.zero = f (j / 7) := by
          rw [List.getElem?_map, List.getElem?_range (by omega)]; rfl
        rw [hel] at hj
        have := (hf (j / 7) (by omega)).2 (j % 7) u hj
        rw [← hjk, Addr.add_lit] at this
        exact this
    · intro s hs
      obtain ⟨i, hi, rfl⟩ := List.mem_map.1 hs
      exact (hf i (by simpa using hi)).1
    · intro elems sp e
      simp only [DataW.slice.injEq] at e
      rw [hll, ← e.1]
      simp

set_option maxRecDepth 100000 in
theorem op_buf (hval : Value.okWide Try.prog W r b0 48 v) (h : DataW.Trod enc Try.prog W base spare held 48 v d p) :
    ∃ (next : Int) (u : Value) (l : List Sk), v = .agg #[.int .i64 next, u] ∧ (Lit.int .i64 next).wf = true ∧ Sls W u l ∧ (∀ s ∈ l, s.fits) ∧ l.length ≤ maxLen ∧ (∀ a n c, u = .slice a n c → n ≤ c) := by
  obtain ⟨cs, rfl, _⟩ := okWide_struct Try.underlying48 hval
  obtain ⟨fuel, hf⟩ := h
  obtain ⟨xs, n, _, _, hl, hxl, hg⟩ := DataW.trod_struct Try.underlying48 hf
  rw [Try.cellsBuf] at hl
  obtain ⟨c0, c1, hcs⟩ := list2 hl
  obtain ⟨x0, x1, rfl⟩ := list2 (show xs.length = 2 from hxl)
  rw [hcs] at hg
  have h0 : DataW.trod enc Try.prog W base spare held n 3 (([c0, c1].drop 0).take (Try.prog.cellsOf 3)) = some x0 := hg 0 _ rfl
  have h1 : DataW.trod enc Try.prog W base spare held n 36 (([c0, c1].drop 1).take (Try.prog.cellsOf 36)) = some x1 := hg 1 _ rfl
  rw [Try.cellsI] at h0
  rw [Try.cellsSl] at h1
  obtain ⟨a, ea, _, wa⟩ := DataW.trod_int Try.underlying3 h0
  obtain ⟨u, l, eu, hS, hfit, hlen, hcap, _⟩ := trod_slots h1
  simp at ea eu
  subst ea eu
  refine ⟨a, c1, l, ?_, wa, hS, hfit, hlen, hcap⟩
  have : cs = #[.int .i64 a, c1] := by
    apply Array.ext'
    simpa [Value.cells] using hcs
  rw [this]

end
end Go.Proofs.Ytnpaejknoipicaf

namespace Go.Proofs.Ytnpaejknoipicaf
open Go.ChangeShapes Go.WideShapes Go.ChangeAt Go.RowKit

section
variable {H : Type} {enc : TypeId × Value → H} {W : World} {r : Reach} {b0 base : Nat} {spare : Nat → Bool} {held : Bool} {v : Value} {d : DataW H} {p : List MemPlace}

theorem Try.cellsBld : Try.prog.cellsOf 50 = 1 := by kernel_rfl
theorem Try.cellsFrm : Try.prog.cellsOf 26 = 3 := by kernel_rfl
theorem Try.cellsStrs : Try.prog.cellsOf 24 = 1 := by kernel_rfl

theorem list1 {α : Type} {l : List α} (h : l.length = 1) : ∃ c0, l = [c0] := by
  match l, h with
  | [c0], _ => exact ⟨c0, rfl⟩
theorem list3 {α : Type} {l : List α} (h : l.length = 3) : ∃ c0 c1 c2, l = [c0, c1, c2] := by
  match l, h with
  | [c0, c1, c2], _ => exact ⟨c0, c1, c2, rfl⟩

set_option maxRecDepth 100000 in
theorem op_slots (hval : Value.okWide Try.prog W r b0 36 v) (h : DataW.Trod enc Try.prog W base spare held 36 v d p)
    (hsz : ∀ elems sp, d = .slice elems sp → (elems.length + sp.length) * 48 ≤ 140737488351232) :
    ∃ l : List Sk, Sls W v l ∧ (∀ s ∈ l, s.fits) ∧ l.length * 48 ≤ 140737488351232 ∧ (∀ a n c, v = .slice a n c → n ≤ c) := by
  obtain ⟨a, len, cap, rfl⟩ := okWide_slice Try.underlying36 hval
  obtain ⟨fuel, hf⟩ := h
  obtain ⟨u, l, eu, hS, hfit, _, hcap, hb, hnil, hor⟩ := trod_slots hf
  simp [Value.cells] at eu
  subst eu
  refine ⟨l, hS, hfit, ?_, hcap⟩
  rcases hor with hn | ⟨elems, sp, he⟩
  · rw [hnil hn]; simp
  · have h1 := hb elems sp he
    have h2 := hsz elems sp he
    have : l.length * 48 ≤ (elems.length + sp.length) * 48 := Nat.mul_le_mul_right _ h1
    omega

set_option maxRecDepth 100000 in
theorem op_bld (hval : Value.okWide Try.prog W r b0 50 v) (h : DataW.Trod enc Try.prog W base spare held 50 v d p) :
    ∃ (u : Value) (l : List Sk), v = .agg #[u] ∧ Sls W u l ∧ (∀ s ∈ l, s.fits) ∧ l.length ≤ maxLen ∧ (∀ a n c, u = .slice a n c → n ≤ c) := by
  obtain ⟨cs, rfl, _⟩ := okWide_struct Try.underlying50 hval
  obtain ⟨fuel, hf⟩ := h
  obtain ⟨xs, n, _, _, hl, hxl, hg⟩ := DataW.trod_struct Try.underlying50 hf
  rw [Try.cellsBld] at hl
  obtain ⟨c0, hcs⟩ := list1 hl
  obtain ⟨x0, rfl⟩ := list1 (show xs.length = 1 from hxl)
  rw [hcs] at hg
  have h0 : DataW.trod enc Try.prog W base spare held n 36 (([c0].drop 0).take (Try.prog.cellsOf 36)) = some x0 := hg 0 _ rfl
  rw [Try.cellsSl] at h0
  obtain ⟨u, l, eu, hS, hfit, hlen, hcap, _⟩ := trod_slots h0
  simp at eu
  subst eu
  refine ⟨c0, l, ?_, hS, hfit, hlen, hcap⟩
  have : cs = #[c0] := by
    apply Array.ext'
    simpa [Value.cells] using hcs
  rw [this]

set_option maxRecDepth 100000 in
theorem trod_strs {fuel : Nat} {cs : List Value} {x : DataW H × List MemPlace} (h : DataW.trod enc Try.prog W base spare held fuel 24 cs = some x) :
    ∃ (u : Value) (l : List ByteArray), cs = [u] ∧ Strs W u l ∧ (∀ s ∈ l, s.size ≤ maxLen) ∧ l.length ≤ maxLen ∧ (∀ a n c, u = .slice a n c → n ≤ c) := by
  rcases Go.Deep.open_slice Try.underlying24 h with ⟨rfl, rfl⟩ | ⟨a, len, cap, m, n, D, Pl, rfl, hb, hl, hm, hmm, rfl, hx⟩
  · exact ⟨_, [], rfl, Strs.nil W, by simp, by simp, fun a n c e => by cases e; exact Nat.le_refl _⟩
  · have hlm : len ≤ m := by rw [hmm]; split <;> omega
    rw [Try.cellsS] at hx
    have each : ∀ i, i < len → ∃ s : ByteArray, s.size ≤ maxLen ∧ W.cell? (a.add i) = some (.string s) := fun i hi => by
      obtain ⟨cs', h1, h2⟩ := hx i (by omega)
      obtain ⟨s, hs, _, hw⟩ := DataW.trod_string Try.underlying9 h2
      obtain ⟨_, hl1, hc⟩ := World.cells?_some h1
      refine ⟨s, hw, ?_⟩
      have := hc 0 (by omega)
      rw [hs, Go.Deep.add_add] at this
      simpa using this
    obtain ⟨f, hf⟩ := Go.Deep.choose_lt each
    have hll : ((List.range len).map f).length = len := by simp
    refine ⟨_, (List.range len).map f, rfl, ?_, ?_, by rw [hll]; omega, fun a' n' c' e => by cases e; exact hl⟩
    · show Sl W _ _ 1 _
      rw [hll]
      refine ⟨by simp, ?_⟩
      by_cases h0 : len = 0
      · subst h0
        exact .inl ⟨rfl, _, _, rfl⟩
      · right
        obtain ⟨b, off, spot⟩ := a
        have hc0 := (hf 0 (by omega)).2
        have hspot : spot = none := by simpa [Addr.add] using World.cell?_spot hc0
        subst hspot
        refine ⟨b, off, cap, rfl, by simpa [Addr.add] using World.block_lt_of_cell? W _ hc0, fun j u hj => ?_⟩
        have hjl : j < len := by
          have := (List.getElem?_eq_some_iff.1 hj).1
          simpa using this
        rw [List.getElem?_map, List.getElem?_map, List.getElem?_range hjl] at hj
        simp at hj
        subst hj
        have := (hf j hjl).2
        rw [Addr.add_lit] at this
        exact this
    · intro s hs
      obtain ⟨i, hi, rfl⟩ := List.mem_map.1 hs
      exact (hf i (by simpa using hi)).1

set_option maxRecDepth 100000 in
theorem op_frm (hval : Value.okWide Try.prog W r b0 26 v) (h : DataW.Trod enc Try.prog W base spare held 26 v d p) :
    ∃ (time : Int) (key : Bool) (u : Value) (l : List ByteArray), v = .agg #[.int .i64 time, .bool key, u] ∧ (Lit.int .i64 time).wf = true ∧ Strs W u l ∧ (∀ s ∈ l, s.size ≤ maxLen) ∧ l.length ≤ maxLen := by
  obtain ⟨cs, rfl, _⟩ := okWide_struct Try.underlying26 hval
  obtain ⟨fuel, hf⟩ := h
  obtain ⟨xs, n, _, _, hl, hxl, hg⟩ := DataW.trod_struct Try.underlying26 hf
  rw [Try.cellsFrm] at hl
  obtain ⟨c0, c1, c2, hcs⟩ := list3 hl
  obtain ⟨x0, x1, x2, rfl⟩ := list3 (show xs.length = 3 from hxl)
  rw [hcs] at hg
  have h0 : DataW.trod enc Try.prog W base spare held n 3 (([c0, c1, c2].drop 0).take (Try.prog.cellsOf 3)) = some x0 := hg 0 _ rfl
  have h1 : DataW.trod enc Try.prog W base spare held n 4 (([c0, c1, c2].drop 1).take (Try.prog.cellsOf 4)) = some x1 := hg 1 _ rfl
  have h2 : DataW.trod enc Try.prog W base spare held n 24 (([c0, c1, c2].drop 2).take (Try.prog.cellsOf 24)) = some x2 := hg 2 _ rfl
  rw [Try.cellsI] at h0
  rw [Try.cellsB] at h1
  rw [Try.cellsStrs] at h2
  obtain ⟨a, ea, _, wa⟩ := DataW.trod_int Try.underlying3 h0
  obtain ⟨k, ek, _⟩ := DataW.trod_bool Try.underlying4 h1
  obtain ⟨u, l, eu, hS, hfit, hlen, _⟩ := trod_strs h2
  simp at ea ek eu
  subst ea ek eu
  refine ⟨a, k, c2, l, ?_, wa, hS, hfit, hlen⟩
  have : cs = #[.int .i64 a, .bool k, c2] := by
    apply Array.ext'
    simpa [Value.cells] using hcs
  rw [this]

end
end Go.Proofs.Ytnpaejknoipicaf

namespace Go.Proofs.Ytnpaejknoipicaf
open Go.ChangeShapes Go.WideShapes Go.ChangeAt Go.RowKit

theorem StrsIn.of {w : World} {v : Value} {l : List ByteArray} (h : Strs w v l) (hl : l.length ≤ 9223372036854775807) : StrsIn (fun _ => True) w v l := by
  refine ⟨h, hl, fun g hg h0 => ⟨trivial, ?_⟩⟩
  obtain ⟨_, ⟨h1, _⟩ | ⟨b, off, c, rfl, hb, _⟩⟩ := h
  · omega
  · simp [Value.ownBlock] at hg
    subst hg
    exact hb

instance : Inhabited Fr := ⟨Fr.zero⟩

section
variable {H : Type} {enc : TypeId × Value → H} {W : World} {r : Reach} {b0 base : Nat} {spare : Nat → Bool} {held : Bool} {v : Value} {d : DataW H} {p : List MemPlace}

theorem Try.cellsFrs : Try.prog.cellsOf 42 = 1 := by kernel_rfl
theorem Try.cellsGrp : Try.prog.cellsOf 53 = 1 := by kernel_rfl

set_option maxRecDepth 100000 in
theorem trod_frm {fuel : Nat} {cs : List Value} {x : DataW H × List MemPlace} (h : DataW.trod enc Try.prog W base spare held fuel 26 cs = some x) :
    ∃ (f : Fr) (u : Value), cs = [.int .i64 f.time, .bool f.key, u] ∧ StrsIn (fun _ => True) W u f.parts := by
  obtain ⟨xs, n, _, _, hl, hxl, hg⟩ := DataW.trod_struct Try.underlying26 h
  rw [Try.cellsFrm] at hl
  obtain ⟨c0, c1, c2, hcs⟩ := list3 hl
  obtain ⟨x0, x1, x2, rfl⟩ := list3 (show xs.length = 3 from hxl)
  rw [hcs] at hg
  have h0 : DataW.trod enc Try.prog W base spare held n 3 (([c0, c1, c2].drop 0).take (Try.prog.cellsOf 3)) = some x0 := hg 0 _ rfl
  have h1 : DataW.trod enc Try.prog W base spare held n 4 (([c0, c1, c2].drop 1).take (Try.prog.cellsOf 4)) = some x1 := hg 1 _ rfl
  have h2 : DataW.trod enc Try.prog W base spare held n 24 (([c0, c1, c2].drop 2).take (Try.prog.cellsOf 24)) = some x2 := hg 2 _ rfl
  rw [Try.cellsI] at h0
  rw [Try.cellsB] at h1
  rw [Try.cellsStrs] at h2
  obtain ⟨a, ea, _, wa⟩ := DataW.trod_int Try.underlying3 h0
  obtain ⟨k, ek, _⟩ := DataW.trod_bool Try.underlying4 h1
  obtain ⟨u, l, eu, hS, hfit, hlen, _⟩ := trod_strs h2
  simp at ea ek eu
  subst ea ek eu
  exact ⟨⟨a, k, l⟩, c2, hcs, StrsIn.of hS (by unfold maxLen at hlen; omega)⟩

set_option maxRecDepth 100000 in
theorem trod_frs {fuel : Nat} {cs : List Value} {x : DataW H × List MemPlace} (h : DataW.trod enc Try.prog W base spare held fuel 42 cs = some x) :
    ∃ (u : Value) (l : List Fr), cs = [u] ∧ FrsIn (fun _ => True) W u l := by
  rcases Go.Deep.open_slice Try.underlying42 h with ⟨rfl, rfl⟩ | ⟨a, len, cap, m, n, D, Pl, rfl, hb, hl, hm, hmm, rfl, hx⟩
  · exact ⟨_, [], rfl, FrsIn.nil _ W⟩
  · have hlm : len ≤ m := by rw [hmm]; split <;> omega
    rw [Try.cellsFrm] at hx
    have each : ∀ i, i < len → ∃ q : Fr × Value, StrsIn (fun _ => True) W q.2 q.1.parts ∧ ∀ j u, [Value.int .i64 q.1.time, .bool q.1.key, q.2][j]? = some u → W.cell? (a.add (i * 3 + j)) = some u := fun i hi => by
      obtain ⟨cs', h1, h2⟩ := hx i (by omega)
      obtain ⟨f, u, hs, hw⟩ := trod_frm h2
      refine ⟨(f, u), hw, fun j y hj => ?_⟩
      obtain ⟨_, hl3, hc⟩ := World.cells?_some h1
      have hj3 : j < 3 := by
        have := (List.getElem?_eq_some_iff.1 hj).1
        simpa using this
      rw [← Go.Deep.add_add, hc j hj3, hs]
      simpa using hj
    obtain ⟨f, hf⟩ := Go.Deep.choose_lt each
    have hll : ((List.range len).map fun i => (f i).1).length = len := by simp
    refine ⟨_, (List.range len).map fun i => (f i).1, rfl, some a, cap, by rw [hll], by rw [hll]; omega, by unfold maxLen at hm; omega, fun k hk => ?_⟩
    rw [hll] at hk
    obtain ⟨b, off, spot⟩ := a
    have hc0 := (hf 0 (by omega)).2 0 _ rfl
    have hspot : spot = none := by simpa [Addr.add] using World.cell?_spot hc0
    subst hspot
    have hel : ((List.range len).map fun i => (f i).1)[k]?.getD Fr.zero = (f k).1 := by
      rw [List.getElem?_map, List.getElem?_range hk]; rfl
    rw [hel]
    have g : ∀ j u, [Value.int .i64 (f k).1.time, .bool (f k).1.key, (f k).2][j]? = some u → W.cell? ⟨b, off + k * 3 + j, none⟩ = some u := fun j u hj => by
      have := (hf k hk).2 j u hj
      rw [Addr.add_lit, ← Nat.add_assoc] at this
      exact this
    exact ⟨b, off, rfl, by simpa [Addr.add] using World.block_lt_of_cell? W _ hc0, trivial, (f k).2, g 0 _ rfl, g 1 _ rfl, g 2 _ rfl, (hf k hk).1⟩

set_option maxRecDepth 100000 in
theorem op_frs (hval : Value.okWide Try.prog W r b0 42 v) (h : DataW.Trod enc Try.prog W base spare held 42 v d p) :
    ∃ l : List Fr, FrsIn (fun _ => True) W v l := by
  obtain ⟨a, len, cap, rfl⟩ := okWide_slice Try.underlying42 hval
  obtain ⟨fuel, hf⟩ := h
  obtain ⟨u, l, eu, hS⟩ := trod_frs hf
  simp [Value.cells] at eu
  subst eu
  exact ⟨l, hS⟩

set_option maxRecDepth 100000 in
theorem op_grp (hval : Value.okWide Try.prog W r b0 53 v) (h : DataW.Trod enc Try.prog W base spare held 53 v d p) :
    ∃ (u : Value) (l : List Fr), v = .agg #[u] ∧ FrsIn (fun _ => True) W u l := by
  obtain ⟨cs, rfl, _⟩ := okWide_struct Try.underlying53 hval
  obtain ⟨fuel, hf⟩ := h
  obtain ⟨xs, n, _, _, hl, hxl, hg⟩ := DataW.trod_struct Try.underlying53 hf
  rw [Try.cellsGrp] at hl
  obtain ⟨c0, hcs⟩ := list1 hl
  obtain ⟨x0, rfl⟩ := list1 (show xs.length = 1 from hxl)
  rw [hcs] at hg
  have h0 : DataW.trod enc Try.prog W base spare held n 42 (([c0].drop 0).take (Try.prog.cellsOf 42)) = some x0 := hg 0 _ rfl
  rw [Try.cellsFrs] at h0
  obtain ⟨u, l, eu, hS⟩ := trod_frs h0
  simp at eu
  subst eu
  refine ⟨c0, l, ?_, hS⟩
  have : cs = #[c0] := by
    apply Array.ext'
    simpa [Value.cells] using hcs
  rw [this]
end
end Go.Proofs.Ytnpaejknoipicaf

namespace Go.Proofs.Ytnpaejknoipicaf
open Go.ChangeShapes Go.WideShapes Go.ChangeAt Go.RowKit

section
variable {H : Type} {enc : TypeId × Value → H} {W : World} {r : Reach} {b0 base : Nat} {spare : Nat → Bool} {held : Bool} {v : Value} {d : DataW H} {p : List MemPlace}

theorem Try.cellsGrs : Try.prog.cellsOf 51 = 1 := by kernel_rfl
theorem Try.cellsStore : Try.prog.cellsOf 55 = 3 := by kernel_rfl
theorem Try.cellsIntS : Try.prog.cellsOf 3 = 1 := by kernel_rfl

set_option maxRecDepth 100000 in
theorem trod_grp {fuel : Nat} {cs : List Value} {x : DataW H × List MemPlace} (h : DataW.trod enc Try.prog W base spare held fuel 53 cs = some x) :
    ∃ (u : Value) (l : List Fr), cs = [u] ∧ FrsIn (fun _ => True) W u l := by
  obtain ⟨xs, n, _, _, hl, hxl, hg⟩ := DataW.trod_struct Try.underlying53 h
  rw [Try.cellsGrp] at hl
  obtain ⟨c0, hcs⟩ := list1 hl
  obtain ⟨x0, rfl⟩ := list1 (show xs.length = 1 from hxl)
  rw [hcs] at hg
  have h0 : DataW.trod enc Try.prog W base spare held n 42 (([c0].drop 0).take (Try.prog.cellsOf 42)) = some x0 := hg 0 _ rfl
  rw [Try.cellsFrs] at h0
  obtain ⟨u, l, eu, hS⟩ := trod_frs h0
  simp at eu
  subst eu
  exact ⟨c0, l, hcs, hS⟩

set_option maxRecDepth 100000 in
theorem trod_grs {fuel : Nat} {cs : List Value} {x : DataW H × List MemPlace} (h : DataW.trod enc Try.prog W base spare held fuel 51 cs = some x) :
    ∃ (u : Value) (L : List (List Fr)), cs = [u] ∧ GrsIn (fun _ => True) W u L := by
  rcases Go.Deep.open_slice Try.underlying51 h with ⟨rfl, rfl⟩ | ⟨a, len, cap, m, n, D, Pl, rfl, hb, hl, hm, hmm, rfl, hx⟩
  · exact ⟨_, [], rfl, GrsIn.nil _ W⟩
  · have hlm : len ≤ m := by rw [hmm]; split <;> omega
    rw [Try.cellsGrp] at hx
    have each : ∀ i, i < len → ∃ q : List Fr × Value, FrsIn (fun _ => True) W q.2 q.1 ∧ W.cell? (a.add i) = some q.2 := fun i hi => by
      obtain ⟨cs', h1, h2⟩ := hx i (by omega)
      obtain ⟨u, l, hs, hw⟩ := trod_grp h2
      refine ⟨(l, u), hw, ?_⟩
      obtain ⟨_, hl1, hc⟩ := World.cells?_some h1
      have := hc 0 (by omega)
      rw [hs, Go.Deep.add_add] at this
      simpa using this
    obtain ⟨f, hf⟩ := Go.Deep.choose_lt each
    have hll : ((List.range len).map fun i => (f i).1).length = len := by simp
    refine ⟨_, (List.range len).map fun i => (f i).1, rfl, some a, cap, by rw [hll], by rw [hll]; omega, by unfold maxLen at hm; omega, fun k hk => ?_⟩
    rw [hll] at hk
    obtain ⟨b, off, spot⟩ := a
    have hc0 := (hf 0 (by omega)).2
    have hspot : spot = none := by simpa [Addr.add] using World.cell?_spot hc0
    subst hspot
    have hel : ((List.range len).map fun i => (f i).1)[k]?.getD [] = (f k).1 := by
      rw [List.getElem?_map, List.getElem?_range hk]; rfl
    rw [hel]
    have g : W.cell? ⟨b, off + k, none⟩ = some (f k).2 := by
      have := (hf k hk).2
      rw [Addr.add_lit] at this
      exact this
    exact ⟨b, off, rfl, by simpa [Addr.add] using World.block_lt_of_cell? W _ hc0, trivial, (f k).2, g, (hf k hk).1⟩

set_option maxRecDepth 100000 in
theorem op_store (hval : Value.okWide Try.prog W r b0 55 v) (h : DataW.Trod enc Try.prog W base spare held 55 v d p) :
    ∃ (first : Int) (gv ov : Value) (L : List (List Fr)) (O : List Fr), v = .agg #[.int .i64 first, gv, ov] ∧ (Lit.int .i64 first).wf = true ∧ GrsIn (fun _ => True) W gv L ∧ FrsIn (fun _ => True) W ov O := by
  obtain ⟨cs, rfl, _⟩ := okWide_struct Try.underlying55 hval
  obtain ⟨fuel, hf⟩ := h
  obtain ⟨xs, n, _, _, hl, hxl, hg⟩ := DataW.trod_struct Try.underlying55 hf
  rw [Try.cellsStore] at hl
  obtain ⟨c0, c1, c2, hcs⟩ := list3 hl
  obtain ⟨x0, x1, x2, rfl⟩ := list3 (show xs.length = 3 from hxl)
  rw [hcs] at hg
  have h0 : DataW.trod enc Try.prog W base spare held n 3 (([c0, c1, c2].drop 0).take (Try.prog.cellsOf 3)) = some x0 := hg 0 _ rfl
  have h1 : DataW.trod enc Try.prog W base spare held n 51 (([c0, c1, c2].drop 1).take (Try.prog.cellsOf 51)) = some x1 := hg 1 _ rfl
  have h2 : DataW.trod enc Try.prog W base spare held n 53 (([c0, c1, c2].drop 2).take (Try.prog.cellsOf 53)) = some x2 := hg 2 _ rfl
  rw [Try.cellsIntS] at h0
  rw [Try.cellsGrs] at h1
  rw [Try.cellsGrp] at h2
  obtain ⟨a, ea, _, wa⟩ := DataW.trod_int Try.underlying3 h0
  obtain ⟨u1, L, eu1, hL⟩ := trod_grs h1
  obtain ⟨u2, O, eu2, hO⟩ := trod_grp h2
  simp at ea eu1 eu2
  subst ea eu1 eu2
  refine ⟨a, c1, c2, L, O, ?_, wa, hL, hO⟩
  have : cs = #[.int .i64 a, c1, c2] := by
    apply Array.ext'
    simpa [Value.cells] using hcs
  rw [this]
end
end Go.Proofs.Ytnpaejknoipicaf

namespace Go.Proofs.Ytnpaejknoipicaf
open Go.ChangeShapes Go.WideShapes Go.ChangeAt Go.RowKit

section
variable {H : Type} {enc : TypeId × Value → H} {W : World} {r : Reach} {b0 base : Nat} {spare : Nat → Bool} {held : Bool} {v : Value} {d : DataW H} {p : List MemPlace}

theorem Try.cellsIntC : Try.prog.cellsOf 3 = 1 := by kernel_rfl

theorem Try.cellsOut : Try.prog.cellsOf 23 = 3 := by kernel_rfl

set_option maxRecDepth 100000 in
theorem op_out (hval : Value.okWide Try.prog W r b0 23 v) (h : DataW.Trod enc Try.prog W base spare held 23 v d p) :
    ∃ a b c : Int, v = .agg #[.int .i64 a, .int .i64 b, .int .i64 c] ∧ (Lit.int .i64 a).wf = true ∧ (Lit.int .i64 b).wf = true ∧ (Lit.int .i64 c).wf = true := by
  obtain ⟨cs, rfl, _⟩ := okWide_struct Try.underlying23 hval
  obtain ⟨fuel, hf⟩ := h
  obtain ⟨xs, n, _, _, hl, hxl, hf⟩ := DataW.trod_struct Try.underlying23 hf
  rw [Try.cellsOut] at hl
  obtain ⟨c0, c1, c2, hc⟩ := list3 hl
  obtain ⟨x0, x1, x2, rfl⟩ := list3 (show xs.length = 3 from hxl)
  rw [hc] at hf
  have h0 : DataW.trod enc Try.prog W base spare held n 3 (([c0, c1, c2].drop 0).take (Try.prog.cellsOf 3)) = some x0 := hf 0 _ rfl
  have h1 : DataW.trod enc Try.prog W base spare held n 3 (([c0, c1, c2].drop 1).take (Try.prog.cellsOf 3)) = some x1 := hf 1 _ rfl
  have h2 : DataW.trod enc Try.prog W base spare held n 3 (([c0, c1, c2].drop 2).take (Try.prog.cellsOf 3)) = some x2 := hf 2 _ rfl
  rw [Try.cellsIntC] at h0 h1 h2
  obtain ⟨a0, e0, _, w0⟩ := DataW.trod_int Try.underlying3 h0
  obtain ⟨a1, e1, _, w1⟩ := DataW.trod_int Try.underlying3 h1
  obtain ⟨a2, e2, _, w2⟩ := DataW.trod_int Try.underlying3 h2
  simp at e0 e1 e2
  subst e0 e1 e2
  refine ⟨a0, a1, a2, ?_, w0, w1, w2⟩
  have : cs = #[.int .i64 a0, .int .i64 a1, .int .i64 a2] := by
    apply Array.ext'
    simpa [Value.cells] using hc
  rw [this]

set_option maxRecDepth 100000 in
theorem op_bool (hval : Value.okWide Try.prog W r b0 4 v) (h : DataW.Trod enc Try.prog W base spare held 4 v d p) : ∃ a : Bool, v = .bool a := by
  obtain ⟨a, rfl, _⟩ := open_bool Try.underlying4 hval h
  exact ⟨a, rfl⟩
end
end Go.Proofs.Ytnpaejknoipicaf

namespace Go.Proofs.Ytnpaejknoipicaf
open Go.RowKit

set_option maxHeartbeats 8000000 in
set_option maxRecDepth 100000 in
theorem send_any (M : Nat) (l t s0 : Int) (f : Fr) (pa : Option Addr) (pc : Nat) (w : World) (hM : Blk w M #[.int .i64 l, .int .i64 t, .int .i64 s0] 65) (hp : StrsIn (fun g => g ≠ M) w (.slice pa f.parts.length pc) f.parts) (hf : f.chk = 0) (hs0 : -3000000 ≤ s0) (hs1 : s0 ≤ 3000000) (hl0 : 0 ≤ l) (hl1 : l ≤ 1000000000) :
    Calls Try.prog 27 #[.pointer (some ⟨M, 0, none⟩), .agg #[.int .i64 f.time, .bool f.key, .slice pa f.parts.length pc]] w fun e w' => ∃ v, e = .returned v ∧ w'.ownsRow (w.heap.size + 1) 38 6 v f.parts.length (pkCells (pksOf l (f.time + s0) f.key f.parts)) ∧ Blk w' M #[.int .i64 (l + f.parts.length), .int .i64 (f.time + s0), .int .i64 s0] 65 ∧ Kept [M] w w' := by
  obtain ⟨c1, c2, c3, c4, c5⟩ := chkF_zero hf
  obtain ⟨ft, hft⟩ : ∃ x, x = f.time := ⟨_, rfl⟩
  obtain ⟨fk, hfk⟩ : ∃ x, x = f.key := ⟨_, rfl⟩
  obtain ⟨ps, hps⟩ : ∃ x, x = f.parts := ⟨_, rfl⟩
  rw [← hps] at c3 c4 c5 hp
  rw [← hft] at c1 c2
  obtain ⟨n, hn⟩ : ∃ x, x = ps.length := ⟨_, rfl⟩
  rw [← hft, ← hfk, ← hps, ← hn]
  rw [← hn] at c3 c4 hp
  have HN : Hid (n = ps.length) := hn
  have HP8 : Hid (∀ s ∈ ps, s.size ≤ 8) := c5
  obtain ⟨T, hT⟩ : ∃ x, x = ft + s0 := ⟨_, rfl⟩
  have HT : Hid (T = ft + s0) := hT
  obtain ⟨base, hbase⟩ : ∃ x, x = w.heap.size + 1 := ⟨_, rfl⟩
  rw [← hT, ← hbase]
  obtain ⟨W0, hW0⟩ : ∃ W0, W0 = w.alloc (.cells #[.int .i64 ft, .bool fk, .slice pa n pc] 26) := ⟨_, rfl⟩
  have hMl0 := hM.lt
  have hM0 : Blk W0 M #[.int .i64 l, .int .i64 t, .int .i64 s0] 65 := by rw [hW0]; exact hM.alloc _
  have hF0 : Blk W0 w.heap.size #[.int .i64 ft, .bool fk, .slice pa n pc] 26 := Blk.newE hW0
  have hP0 : StrsIn (fun g => g ≠ M) W0 (.slice pa n pc) ps := by rw [hW0]; exact hp.alloc _
  have HS0 : Hid (StayK [M] W0 (fun U => Blk U w.heap.size #[.int .i64 ft, .bool fk, .slice pa n pc] 26 ∧ StrsIn (fun g => g ≠ M) U (.slice pa n pc) ps)) := (hF0.stayK (by simp; omega)).and (hP0.stayK (fun g hg => by simpa using hg))
  have HZ0 : Hid (W0.heap.size = base ∧ Below w.heap.size w W0) := ⟨by rw [hW0, hbase]; simp, by rw [hW0]; exact (Below.refl _ w).alloc (Nat.le_refl _) _⟩
  have HB0 : Hid (base = w.heap.size + 1) := hbase
  clear hft hfk hps hn hM hp hF0 hP0 hf c5 hT hbase
  obtain ⟨j0, j1, j2⟩ := HS0.out.now.1.three
  go_enter Try.func27, Try.ntmps27
  go_wp2_with fail
  rw [← hW0]
  refine (timeOf_any M l t s0 ft fk pa n pc W0 hM0 c1 c2 hs0 hs1).mono ?_
  rw [← HT.out]
  rintro e w1 ⟨rfl, b1⟩
  have hM1 := hM0.below b1 hM0.lt
  have fM := hM1.free 1
  obtain ⟨W2, hW2⟩ : ∃ W2, W2 = w1.setCell ⟨M, 1, none⟩ (.int .i64 T) := ⟨_, rfl⟩
  have HM2 : Hid (Blk W2 M #[.int .i64 (l + (0 : Nat)), .int .i64 T, .int .i64 s0] 65) := by
    have := hM1.set 1 (.int .i64 T)
    rw [hW2]; simpa [Hid] using this
  have HK2 : Hid (Kept [M] W0 W2) := by rw [hW2]; exact ((Kept.refl [M] W0).below b1).setCell (p := ⟨M, 1, none⟩) (by simp) _
  obtain ⟨q0, q1, q2⟩ := hM1.three
  have HS2 := StayK.goK HS0 HK2.out
  obtain ⟨p0, p1, p2⟩ := HS2.out.now.1.three
  clear b1 hM0 hM1 hW0 j0 j1 j2
  go_upto_region 3 with fail
  rw [← hW2]
  clear hW2 q0 q1 q2 fM
  go_wp2_with fail
  clear p0 p1 p2
  go_loopw [5, 18] (fun v i wr => ∃ k : Nat, k ≤ n ∧ i = .int .i64 k ∧ Hid (Blk wr M #[.int .i64 (l + k), .int .i64 T, .int .i64 s0] 65) ∧ Hid (wr.ownsRow base 38 6 v k (pkCells (pksK l T fk ps k))) ∧ Hid (Kept [M] W0 wr))
    (fun _ i _ => n - (intOf i).toNat)
  case atStart => exact ⟨0, Nat.zero_le _, rfl, HM2.out, World.ownsRow_nil _ _ _ _, HK2.out⟩
  case round =>
    obtain ⟨k, hk, rfl, HM, HO, HK⟩ := hrel
    clear HM2 HK2 HS2
    have HSr := StayK.goK HS0 HK.out
    by_cases hlt : k < n
    · have hlti : (k : Int) < (n : Int) := by omega
      obtain ⟨po, pcc, ep, hpc⟩ := HSr.out.now.2.1.parts
      rw [← HN.out] at ep
      injection ep with ep1 ep2 ep3
      clear ep2
      subst ep1 ep3
      obtain ⟨b, off, e1, hb, hcx⟩ := hpc k (by rw [← HN.out]; exact hlt)
      obtain ⟨x, hx⟩ : ∃ x, x = ps[k]?.getD ByteArray.empty := ⟨_, rfl⟩
      rw [← hx] at hcx
      have hx8 : x.size ≤ 8 := by
        rw [hx, List.getElem?_eq_getElem (by rw [← HN.out]; exact hlt), Option.getD_some]
        exact HP8.out _ (List.getElem_mem _)
      obtain ⟨lk, hlk⟩ : ∃ y, y = l + (k : Int) + 1 := ⟨_, rfl⟩
      obtain ⟨sq, hsq⟩ : ∃ y, y = lk % 65536 := ⟨_, rfl⟩
      obtain ⟨z, hz⟩ : ∃ y, y = ((k : Int) == 0) := ⟨_, rfl⟩
      obtain ⟨en, hen⟩ : ∃ y, y = ((k : Int) == (n : Int) - 1) := ⟨_, rfl⟩
      obtain ⟨PL, hPL⟩ : ∃ y, y = pksK l T fk ps k := ⟨_, rfl⟩
      have HPK : Hid (pksK l T fk ps (k + 1) = PL ++ [⟨sq, T, z, en, z && fk, x⟩]) := by
        show _ = _
        rw [pksK_succ, ← hPL]
        unfold pkAt
        rw [← hx, hsq, hlk, hz, hen, ← HN.out, show l + (k : Int) + 1 = l + 1 + k by omega]
        have e1 : (k == 0) = ((k : Int) == 0) := by rw [Bool.eq_iff_iff]; simp
        have e2 : (k == n - 1) = ((k : Int) == (n : Int) - 1) := by rw [Bool.eq_iff_iff]; simp; omega
        rw [e1, e2]
      have HLK : Hid (lk = l + ((k + 1 : Nat) : Int)) := by show _ = _; rw [hlk]; omega
      have HO' := HO.out
      rw [← hPL] at HO'
      obtain ⟨m0, m1, m2⟩ := HM.out.three
      have fM := HM.out.free 0
      obtain ⟨WR, hWR⟩ : ∃ W, W = wr.setCell ⟨M, 0, none⟩ (.int .i64 lk) := ⟨_, rfl⟩
      have KMR : Hid (Blk WR M #[.int .i64 lk, .int .i64 T, .int .i64 s0] 65) := by
        have := HM.out.set 0 (.int .i64 lk)
        rw [hWR]; simpa [Hid] using this
      have HKR : Hid (Kept [M] W0 WR) := by rw [hWR]; exact HK.out.setCell (p := ⟨M, 0, none⟩) (by simp) _
      have hbw := HB0.out
      have HOW : Hid (WR.ownsRow base 38 6 u5 k (pkCells PL)) := by rw [hWR]; exact ownsRow_setCell_below HO' (by show M < base; omega) _
      have hWRs : base ≤ WR.heap.size := by have := HKR.out.size; have := HZ0.out.1; omega
      obtain ⟨p0, p1, p2⟩ := (StayK.goK HS0 HKR.out).out.now.1.three
      obtain ⟨q0, q1, q2⟩ := KMR.out.three
      have hMl : M < WR.heap.size := KMR.out.lt
      have hFl : w.heap.size < WR.heap.size := (StayK.goK HS0 HKR.out).out.now.1.lt
      have hMu : some M ≠ u5.ownBlock := fun e => by have := (HOW.out.lt M e.symm).1; omega
      have hFu : some w.heap.size ≠ u5.ownBlock := fun e => by have := (HOW.out.lt _ e.symm).1; omega
      have hlks : l + (k : Int) + 1 = lk := hlk.symm
      subst e1
      clear hpc hb hx hPL HO' HO HM hlk
      go_upto_region 7 with fail
      rw [← hWR]
      clear hWR m0 m1 m2 fM hcx hlks
      have hrem : lk.tmod 65536 = sq := by
        rw [hsq, Int.tmod_eq_emod_of_nonneg]
        have := HLK.out; omega
      have hsub : IntKind.i64.wrap ((n : Int) - 1) = (n : Int) - 1 := by rw [IntKind.wrap_i64]; omega
      have hz' : ((k : Int) == 0) = z := hz.symm
      have hen' : ((k : Int) == (n : Int) - 1) = en := hen.symm
      clear hz hen hsq
      have hz := hz'
      have hen := hen'
      clear hz' hen'
      cases z
      case false =>
        refine region_chainG (by kernel_rfl) (by kernel_rfl) [.quiet (u5) 5, .quiet (.pointer (some ⟨M, 0, none⟩)) 5, .quiet (.pointer (some ⟨M, 0, none⟩)) 5, .quiet (.pointer (some ⟨M, 0, none⟩)) 5, .quiet (.pointer (some ⟨M, 0, none⟩)) 5, .quiet (.int .i64 lk) 5, .quiet (.int .i64 sq) 5, .quiet (.pointer (some ⟨M, 0, none⟩)) 5, .quiet (.pointer (some ⟨M, 0, none⟩)) 5, .quiet (.pointer (some ⟨M, 0, none⟩)) 5, .quiet (.pointer (some ⟨M, 1, none⟩)) 5, .quiet (.int .i64 T) 5, .quiet (.int .i64 k) 5, .quiet (.bool false) 5, .quiet (.int .i64 k) 5, .quiet (.pointer (some ⟨w.heap.size, 2, none⟩)) 5, .quiet (.slice (some ⟨b, off, none⟩) n pc) 5, .quiet (.int .i64 n) 5, .quiet (.int .i64 (n - 1)) 5, .quiet (.bool en) 5, .quiet (.int .i64 k) 5, .quiet (.bool false) 5, .quiet (.bool false) 5, .quiet (undef) 5, .quiet (undef) 5, .quiet (.bool false) 5, .quiet (.string x) 5, .step 0, .step 1, .step 2, .step 3, .step 4] [27, 28, 29, 30, 31] (by kernel_rfl)
          (fun s r w' => match s with
            | 0 => Below WR.heap.size WR w'
            | 1 => r 0 = .string x ∧ Below WR.heap.size WR w'
            | 2 => r 1 = (Pk.val ⟨sq, T, false, en, false, x⟩) ∧ Below WR.heap.size WR w'
            | 3 => ∃ V, Below WR.heap.size WR V ∧ w' = V.alloc (.cells (Pk.cells ⟨sq, T, false, en, false, x⟩) 38) ∧ r 2 = .slice (some ⟨V.heap.size, 0, none⟩) 1 1
            | 4 => ∃ V, Below WR.heap.size WR V ∧ w'.ownsRow base 38 6 (r 3) (k + 1) (pkCells (PL ++ [⟨sq, T, false, en, false, x⟩])) ∧ (V.alloc (.cells (Pk.cells ⟨sq, T, false, en, false, x⟩) 38)).grownBy w' u5.ownBlock
            | _ => ∃ V, Below WR.heap.size WR V ∧ w'.ownsRow base 38 6 (r 4) (k + 1) (pkCells (PL ++ [⟨sq, T, false, en, false, x⟩])) ∧ (V.alloc (.cells (Pk.cells ⟨sq, T, false, en, false, x⟩) 38)).grownBy w' u5.ownBlock
            ) ((Below.refl _ WR).drew) ?step ?fin
        case step =>
          intro i o ho a' w' s r hI hfree hvals
          have hcell : ∀ a : Addr, a.block < WR.heap.size → some a.block ≠ u5.ownBlock → w'.cell? a = WR.cell? a := fun a ha hne => by
            match s, hI with
            | 0, hI => exact Below.cell hI ha
            | 1, ⟨_, hI⟩ => exact Below.cell hI ha
            | 2, ⟨_, hI⟩ => exact Below.cell hI ha
            | 3, ⟨V, hI, hw, _⟩ => rw [hw]; exact Below.cell (hI.alloc hI.size _) ha
            | 4, ⟨V, hI, _, hg⟩ => exact (grown_cell hg (by simp; have := hI.size; omega) hne).trans (Below.cell (hI.alloc hI.size _) ha)
            | n + 5, ⟨V, hI, _, hg⟩ => exact (grown_cell hg (by simp; have := hI.size; omega) hne).trans (Below.cell (hI.alloc hI.size _) ha)
          have y0 := (hcell ⟨M, 0, none⟩ hMl hMu).trans q0
          have y1 := (hcell ⟨M, 1, none⟩ hMl hMu).trans q1
          have z1 := (hcell ⟨w.heap.size, 1, none⟩ hFl hFu).trans p1
          have z2 := (hcell ⟨w.heap.size, 2, none⟩ hFl hFu).trans p2
          clear hcell
          match i, ho with
          | 0, ho =>
            simp at ho; subst ho
            have e5 : a'.eval (.tmp 5) = u5 := (hfree 5 (by kernel_rfl)).trans rfl
            show s ≤ 5 → _
            intro hs
            refine .inl ⟨rfl, ?_⟩
            generalize a'.eval = ρ at *
            simp [execOp, go_sem, e5]
          | 1, ho =>
            simp at ho; subst ho
            have e0 : a'.eval (.tmp 0) = .pointer (some ⟨M, 0, none⟩) := (hfree 0 (by kernel_rfl)).trans rfl
            show s ≤ 5 → _
            intro hs
            refine .inl ⟨rfl, ?_⟩
            generalize a'.eval = ρ at *
            simp [execOp, go_sem, e0]
          | 2, ho =>
            simp at ho; subst ho
            have e33 : a'.eval (.tmp 33) = .pointer (some ⟨M, 0, none⟩) := hvals 1 _ _ (by kernel_rfl) rfl rfl
            show s ≤ 5 → _
            intro hs
            refine .inl ⟨rfl, ?_⟩
            generalize a'.eval = ρ at *
            simp [execOp, go_sem, e33]
          | 3, ho =>
            simp at ho; subst ho
            have e34 : a'.eval (.tmp 34) = .pointer (some ⟨M, 0, none⟩) := hvals 2 _ _ (by kernel_rfl) rfl rfl
            show s ≤ 5 → _
            intro hs
            refine .inl ⟨rfl, ?_⟩
            generalize a'.eval = ρ at *
            simp [execOp, go_sem, e34]
          | 4, ho =>
            simp at ho; subst ho
            have e35 : a'.eval (.tmp 35) = .pointer (some ⟨M, 0, none⟩) := hvals 3 _ _ (by kernel_rfl) rfl rfl
            show s ≤ 5 → _
            intro hs
            refine .inl ⟨rfl, ?_⟩
            generalize a'.eval = ρ at *
            simp [execOp, go_sem, e35]
          | 5, ho =>
            simp at ho; subst ho
            have e36 : a'.eval (.tmp 36) = .pointer (some ⟨M, 0, none⟩) := hvals 4 _ _ (by kernel_rfl) rfl rfl
            show s ≤ 5 → _
            intro hs
            refine .inl ⟨rfl, ?_⟩
            generalize a'.eval = ρ at *
            simp [execOp, go_sem, e36, y0]
          | 6, ho =>
            simp at ho; subst ho
            have e37 : a'.eval (.tmp 37) = .int .i64 lk := hvals 5 _ _ (by kernel_rfl) rfl rfl
            have ec0 : a'.eval (.const (.int .i64 65536)) = .int .i64 65536 := rfl
            show s ≤ 5 → _
            intro hs
            refine .inl ⟨rfl, ?_⟩
            generalize a'.eval = ρ at *
            simp [execOp, go_sem, e37, ec0, hrem]
          | 7, ho =>
            simp at ho; subst ho
            have e0 : a'.eval (.tmp 0) = .pointer (some ⟨M, 0, none⟩) := (hfree 0 (by kernel_rfl)).trans rfl
            show s ≤ 5 → _
            intro hs
            refine .inl ⟨rfl, ?_⟩
            generalize a'.eval = ρ at *
            simp [execOp, go_sem, e0]
          | 8, ho =>
            simp at ho; subst ho
            have e39 : a'.eval (.tmp 39) = .pointer (some ⟨M, 0, none⟩) := hvals 7 _ _ (by kernel_rfl) rfl rfl
            show s ≤ 5 → _
            intro hs
            refine .inl ⟨rfl, ?_⟩
            generalize a'.eval = ρ at *
            simp [execOp, go_sem, e39]
          | 9, ho =>
            simp at ho; subst ho
            have e40 : a'.eval (.tmp 40) = .pointer (some ⟨M, 0, none⟩) := hvals 8 _ _ (by kernel_rfl) rfl rfl
            show s ≤ 5 → _
            intro hs
            refine .inl ⟨rfl, ?_⟩
            generalize a'.eval = ρ at *
            simp [execOp, go_sem, e40]
          | 10, ho =>
            simp at ho; subst ho
            have e41 : a'.eval (.tmp 41) = .pointer (some ⟨M, 0, none⟩) := hvals 9 _ _ (by kernel_rfl) rfl rfl
            show s ≤ 5 → _
            intro hs
            refine .inl ⟨rfl, ?_⟩
            generalize a'.eval = ρ at *
            simp [execOp, go_sem, e41]
          | 11, ho =>
            simp at ho; subst ho
            have e42 : a'.eval (.tmp 42) = .pointer (some ⟨M, 1, none⟩) := hvals 10 _ _ (by kernel_rfl) rfl rfl
            show s ≤ 5 → _
            intro hs
            refine .inl ⟨rfl, ?_⟩
            generalize a'.eval = ρ at *
            simp [execOp, go_sem, e42, y1]
          | 12, ho =>
            simp at ho; subst ho
            have e6 : a'.eval (.tmp 6) = .int .i64 k := (hfree 6 (by kernel_rfl)).trans rfl
            show s ≤ 5 → _
            intro hs
            refine .inl ⟨rfl, ?_⟩
            generalize a'.eval = ρ at *
            simp [execOp, go_sem, e6]
          | 13, ho =>
            simp at ho; subst ho
            have e44 : a'.eval (.tmp 44) = .int .i64 k := hvals 12 _ _ (by kernel_rfl) rfl rfl
            have ec0 : a'.eval (.const (.int .i64 0)) = .int .i64 0 := rfl
            show s ≤ 5 → _
            intro hs
            refine .inl ⟨rfl, ?_⟩
            generalize a'.eval = ρ at *
            simp [execOp, go_sem, e44, ec0, hz]
          | 14, ho =>
            simp at ho; subst ho
            have e6 : a'.eval (.tmp 6) = .int .i64 k := (hfree 6 (by kernel_rfl)).trans rfl
            show s ≤ 5 → _
            intro hs
            refine .inl ⟨rfl, ?_⟩
            generalize a'.eval = ρ at *
            simp [execOp, go_sem, e6]
          | 15, ho =>
            simp at ho; subst ho
            have e3 : a'.eval (.tmp 3) = .pointer (some ⟨w.heap.size, 0, none⟩) := (hfree 3 (by kernel_rfl)).trans rfl
            show s ≤ 5 → _
            intro hs
            refine .inl ⟨rfl, ?_⟩
            generalize a'.eval = ρ at *
            simp [execOp, go_sem, e3]
          | 16, ho =>
            simp at ho; subst ho
            have e47 : a'.eval (.tmp 47) = .pointer (some ⟨w.heap.size, 2, none⟩) := hvals 15 _ _ (by kernel_rfl) rfl rfl
            show s ≤ 5 → _
            intro hs
            refine .inl ⟨rfl, ?_⟩
            generalize a'.eval = ρ at *
            simp [execOp, go_sem, e47, z2]
          | 17, ho =>
            simp at ho; subst ho
            have e48 : a'.eval (.tmp 48) = .slice (some ⟨b, off, none⟩) n pc := hvals 16 _ _ (by kernel_rfl) rfl rfl
            show s ≤ 5 → _
            intro hs
            refine .inl ⟨rfl, ?_⟩
            generalize a'.eval = ρ at *
            simp [go_sem, e48]
          | 18, ho =>
            simp at ho; subst ho
            have e49 : a'.eval (.tmp 49) = .int .i64 n := hvals 17 _ _ (by kernel_rfl) rfl rfl
            have ec0 : a'.eval (.const (.int .i64 1)) = .int .i64 1 := rfl
            show s ≤ 5 → _
            intro hs
            refine .inl ⟨rfl, ?_⟩
            generalize a'.eval = ρ at *
            simp [execOp, go_sem, e49, ec0, hsub]
          | 19, ho =>
            simp at ho; subst ho
            have e46 : a'.eval (.tmp 46) = .int .i64 k := hvals 14 _ _ (by kernel_rfl) rfl rfl
            have e50 : a'.eval (.tmp 50) = .int .i64 (n - 1) := hvals 18 _ _ (by kernel_rfl) rfl rfl
            show s ≤ 5 → _
            intro hs
            refine .inl ⟨rfl, ?_⟩
            generalize a'.eval = ρ at *
            simp [execOp, go_sem, e46, e50, hen]
          | 20, ho =>
            simp at ho; subst ho
            have e6 : a'.eval (.tmp 6) = .int .i64 k := (hfree 6 (by kernel_rfl)).trans rfl
            show s ≤ 5 → _
            intro hs
            refine .inl ⟨rfl, ?_⟩
            generalize a'.eval = ρ at *
            simp [execOp, go_sem, e6]
          | 21, ho =>
            simp at ho; subst ho
            have e52 : a'.eval (.tmp 52) = .int .i64 k := hvals 20 _ _ (by kernel_rfl) rfl rfl
            have ec0 : a'.eval (.const (.int .i64 0)) = .int .i64 0 := rfl
            show s ≤ 5 → _
            intro hs
            refine .inl ⟨rfl, ?_⟩
            generalize a'.eval = ρ at *
            simp [execOp, go_sem, e52, ec0, hz]
          | 22, ho =>
            simp at ho; subst ho
            have e53 : a'.eval (.tmp 53) = .bool false := hvals 21 _ _ (by kernel_rfl) rfl rfl
            show s ≤ 5 → _
            intro hs
            refine .inl ⟨rfl, ?_⟩
            generalize a'.eval = ρ at *
            simp [execOp, go_sem, e53]
          | 23, ho =>
            simp at ho; subst ho
            have e3 : a'.eval (.tmp 3) = .pointer (some ⟨w.heap.size, 0, none⟩) := (hfree 3 (by kernel_rfl)).trans rfl
            show s ≤ 5 → _
            intro hs
            have hg : a'.eval (.tmp 54) = .bool false := hvals 22 _ _ (by kernel_rfl) rfl rfl
            have hy := tmps_of hg
            exact .inr ⟨by simp [Region.wanted, yielded, hy], rfl⟩
          | 24, ho =>
            simp at ho; subst ho
            have e55 : a'.eval (.tmp 55) = undef := hvals 23 _ _ (by kernel_rfl) rfl rfl
            show s ≤ 5 → _
            intro hs
            have hg : a'.eval (.tmp 54) = .bool false := hvals 22 _ _ (by kernel_rfl) rfl rfl
            have hy := tmps_of hg
            exact .inr ⟨by simp [Region.wanted, yielded, hy], rfl⟩
          | 25, ho =>
            simp at ho; subst ho
            have e54 : a'.eval (.tmp 54) = .bool false := hvals 22 _ _ (by kernel_rfl) rfl rfl
            have e56 : a'.eval (.tmp 56) = undef := hvals 24 _ _ (by kernel_rfl) rfl rfl
            have ec0 : a'.eval (.const (.bool false)) = .bool false := rfl
            show s ≤ 5 → _
            intro hs
            refine .inl ⟨rfl, ?_⟩
            generalize a'.eval = ρ at *
            simp [execOp, go_sem, e54, e56, ec0]
          | 26, ho =>
            simp at ho; subst ho
            have e7 : a'.eval (.tmp 7) = .string x := (hfree 7 (by kernel_rfl)).trans rfl
            show s ≤ 5 → _
            intro hs
            refine .inl ⟨rfl, ?_⟩
            generalize a'.eval = ρ at *
            simp [execOp, go_sem, e7]
          | 27, ho =>
            simp at ho; subst ho
            have e58 : a'.eval (.tmp 58) = .string x := hvals 26 _ _ (by kernel_rfl) rfl rfl
            show s = 0 → _ ∧ Oper.wp _ _ _ _ _ _
            intro hs
            subst hs
            refine ⟨rfl, ?_⟩
            have ef : a'.eval (.func 51) = .func (.func 51) #[] #[] := rfl
            have hB : Below WR.heap.size WR w' := hI
            refine oper_wp_call (f := 51) (args := #[.string x]) ?_ ?_
            · generalize a'.eval = ρ at *
              simp [execOp, go_sem, e58, ef]
            · refine (stringsClone_any x w' hx8).mono ?_
              rintro e w'' ⟨rfl, hb1⟩
              exact ⟨_, rfl, _, rfl, updR_at _ _ _, hB.trans (hb1.mono hB.size)⟩
          | 28, ho =>
            simp at ho; subst ho
            have e38 : a'.eval (.tmp 38) = .int .i64 sq := hvals 6 _ _ (by kernel_rfl) rfl rfl
            have e43 : a'.eval (.tmp 43) = .int .i64 T := hvals 11 _ _ (by kernel_rfl) rfl rfl
            have e45 : a'.eval (.tmp 45) = .bool false := hvals 13 _ _ (by kernel_rfl) rfl rfl
            have e51 : a'.eval (.tmp 51) = .bool en := hvals 19 _ _ (by kernel_rfl) rfl rfl
            have e57 : a'.eval (.tmp 57) = .bool false := hvals 25 _ _ (by kernel_rfl) rfl rfl
            have e59 : a'.eval (.tmp 59) = r 0 := hvals 27 _ _ (by kernel_rfl) rfl rfl
            show s = 1 → _ ∧ Oper.wp _ _ _ _ _ _
            intro hs
            subst hs
            refine ⟨rfl, ?_⟩
            obtain ⟨hr0, hB⟩ := hI
            rw [hr0] at e59
            refine oper_wp_ok (v := Pk.val ⟨sq, T, false, en, false, x⟩) (w' := w') ?_ ⟨_, rfl, updR_at _ _ _, hB⟩
            generalize a'.eval = ρ at *
            simp [execOp, go_sem, e38, e43, e45, e51, e57, e59, Pk.val]
          | 29, ho =>
            simp at ho; subst ho
            have e60 : a'.eval (.tmp 60) = r 1 := hvals 28 _ _ (by kernel_rfl) rfl rfl
            show s = 2 → _ ∧ Oper.wp _ _ _ _ _ _
            intro hs
            subst hs
            refine ⟨rfl, ?_⟩
            obtain ⟨hr1, hB⟩ := hI
            rw [hr1] at e60
            refine oper_wp_ok (v := .slice (some ⟨w'.heap.size, 0, none⟩) 1 1) (w' := w'.alloc (.cells (Pk.cells ⟨sq, T, false, en, false, x⟩) 38)) ?_ ⟨_, rfl, w', hB, rfl, updR_at _ _ _⟩
            generalize a'.eval = ρ at *
            simp [execOp, go_sem, e60, Pk.val, Pk.cells]
          | 30, ho =>
            simp at ho; subst ho
            have e32 : a'.eval (.tmp 32) = u5 := hvals 0 _ _ (by kernel_rfl) rfl rfl
            have e61 : a'.eval (.tmp 61) = r 2 := hvals 29 _ _ (by kernel_rfl) rfl rfl
            show s = 3 → _ ∧ Oper.wp _ _ _ _ _ _
            intro hs
            subst hs
            refine ⟨rfl, ?_⟩
            obtain ⟨V, hB, hw, hr2⟩ := hI
            rw [hr2] at e61
            subst hw
            obtain ⟨v', w2, hrun, g2, g3⟩ := pk_snoc ⟨sq, T, false, en, false, x⟩ (owns_below HOW.out hB (Nat.le_refl _)) (by omega) (by have := hB.size; omega)
            refine oper_wp_ok (v := v') (w' := w2) ?_ ⟨_, rfl, V, hB, ?_, g3⟩
            · generalize a'.eval = ρ at *
              simp [execOp, resolve, invoke, builtin, e32, e61, hrun, Result.andThen]
            · rw [updR_at]; exact g2
          | 31, ho =>
            simp at ho; subst ho
            have e62 : a'.eval (.tmp 62) = r 3 := hvals 30 _ _ (by kernel_rfl) rfl rfl
            show s = 4 → _ ∧ Oper.wp _ _ _ _ _ _
            intro hs
            subst hs
            refine ⟨rfl, ?_⟩
            obtain ⟨V, hB, g2, g3⟩ := hI
            refine oper_wp_ok (v := r 3) (w' := w') ?_ ⟨_, rfl, V, hB, ?_, g3⟩
            · generalize a'.eval = ρ at *
              simp [execOp, go_sem, e62]
            · rw [updR_at]; exact g2
        case fin =>
          rintro r w7 ⟨V, hB, g2, g3⟩
          simp only [putC, Ck.out, Act.put, List.setIfInBounds_toArray, List.set_cons_succ, List.set_cons_zero]
          have hVs := hB.size
          have hM7 : Blk w7 M #[.int .i64 lk, .int .i64 T, .int .i64 s0] 65 := (g3.block M (by simp; omega) hMu).trans (((KMR.out.below hB KMR.out.lt)).alloc _)
          have h1 : Kept [M] W0 (V.alloc (.cells (Pk.cells ⟨sq, T, false, en, false, x⟩) 38)) := (HKR.out.below hB).alloc _
          have hK7 : Kept [M] W0 w7 := ⟨g3.os.trans h1.os, g3.tape.trans h1.tape, g3.output.trans h1.output, Nat.le_trans h1.size g3.size, fun j hj hn => (g3.block j (Nat.lt_of_lt_of_le hj h1.size) (fun e => by have := (HOW.out.lt j e.symm).1; have := HZ0.out.1; omega)).trans (h1.block j hj hn)⟩
          clear h1
          have HO7 : Hid (w7.ownsRow base 38 6 (r 4) (k + 1) (pkCells (pksK l T fk ps (k + 1)))) := by rw [HPK.out]; exact g2
          have HM7 : Hid (Blk w7 M #[.int .i64 lk, .int .i64 T, .int .i64 s0] 65) := hM7
          have HK7 : Hid (Kept [M] W0 w7) := hK7
          clear hM7 hK7 g2 g3 hB
          go_wp2_with fail
          go_roundw
          case rel => exact ⟨k + 1, by omega, by go_num, by rw [HLK.out] at HM7; exact HM7.out, HO7.out, HK7.out⟩
          case measure => simp [intOf]; omega
      case true =>
        refine region_chainG (by kernel_rfl) (by kernel_rfl) [.quiet (u5) 5, .quiet (.pointer (some ⟨M, 0, none⟩)) 5, .quiet (.pointer (some ⟨M, 0, none⟩)) 5, .quiet (.pointer (some ⟨M, 0, none⟩)) 5, .quiet (.pointer (some ⟨M, 0, none⟩)) 5, .quiet (.int .i64 lk) 5, .quiet (.int .i64 sq) 5, .quiet (.pointer (some ⟨M, 0, none⟩)) 5, .quiet (.pointer (some ⟨M, 0, none⟩)) 5, .quiet (.pointer (some ⟨M, 0, none⟩)) 5, .quiet (.pointer (some ⟨M, 1, none⟩)) 5, .quiet (.int .i64 T) 5, .quiet (.int .i64 k) 5, .quiet (.bool true) 5, .quiet (.int .i64 k) 5, .quiet (.pointer (some ⟨w.heap.size, 2, none⟩)) 5, .quiet (.slice (some ⟨b, off, none⟩) n pc) 5, .quiet (.int .i64 n) 5, .quiet (.int .i64 (n - 1)) 5, .quiet (.bool en) 5, .quiet (.int .i64 k) 5, .quiet (.bool true) 5, .quiet (.bool true) 5, .quiet (.pointer (some ⟨w.heap.size, 1, none⟩)) 5, .quiet (.bool fk) 5, .quiet (.bool fk) 5, .quiet (.string x) 5, .step 0, .step 1, .step 2, .step 3, .step 4] [27, 28, 29, 30, 31] (by kernel_rfl)
          (fun s r w' => match s with
            | 0 => Below WR.heap.size WR w'
            | 1 => r 0 = .string x ∧ Below WR.heap.size WR w'
            | 2 => r 1 = (Pk.val ⟨sq, T, true, en, fk, x⟩) ∧ Below WR.heap.size WR w'
            | 3 => ∃ V, Below WR.heap.size WR V ∧ w' = V.alloc (.cells (Pk.cells ⟨sq, T, true, en, fk, x⟩) 38) ∧ r 2 = .slice (some ⟨V.heap.size, 0, none⟩) 1 1
            | 4 => ∃ V, Below WR.heap.size WR V ∧ w'.ownsRow base 38 6 (r 3) (k + 1) (pkCells (PL ++ [⟨sq, T, true, en, fk, x⟩])) ∧ (V.alloc (.cells (Pk.cells ⟨sq, T, true, en, fk, x⟩) 38)).grownBy w' u5.ownBlock
            | _ => ∃ V, Below WR.heap.size WR V ∧ w'.ownsRow base 38 6 (r 4) (k + 1) (pkCells (PL ++ [⟨sq, T, true, en, fk, x⟩])) ∧ (V.alloc (.cells (Pk.cells ⟨sq, T, true, en, fk, x⟩) 38)).grownBy w' u5.ownBlock
            ) ((Below.refl _ WR).drew) ?step ?fin
        case step =>
          intro i o ho a' w' s r hI hfree hvals
          have hcell : ∀ a : Addr, a.block < WR.heap.size → some a.block ≠ u5.ownBlock → w'.cell? a = WR.cell? a := fun a ha hne => by
            match s, hI with
            | 0, hI => exact Below.cell hI ha
            | 1, ⟨_, hI⟩ => exact Below.cell hI ha
            | 2, ⟨_, hI⟩ => exact Below.cell hI ha
            | 3, ⟨V, hI, hw, _⟩ => rw [hw]; exact Below.cell (hI.alloc hI.size _) ha
            | 4, ⟨V, hI, _, hg⟩ => exact (grown_cell hg (by simp; have := hI.size; omega) hne).trans (Below.cell (hI.alloc hI.size _) ha)
            | n + 5, ⟨V, hI, _, hg⟩ => exact (grown_cell hg (by simp; have := hI.size; omega) hne).trans (Below.cell (hI.alloc hI.size _) ha)
          have y0 := (hcell ⟨M, 0, none⟩ hMl hMu).trans q0
          have y1 := (hcell ⟨M, 1, none⟩ hMl hMu).trans q1
          have z1 := (hcell ⟨w.heap.size, 1, none⟩ hFl hFu).trans p1
          have z2 := (hcell ⟨w.heap.size, 2, none⟩ hFl hFu).trans p2
          clear hcell
          match i, ho with
          | 0, ho =>
            simp at ho; subst ho
            have e5 : a'.eval (.tmp 5) = u5 := (hfree 5 (by kernel_rfl)).trans rfl
            show s ≤ 5 → _
            intro hs
            refine .inl ⟨rfl, ?_⟩
            generalize a'.eval = ρ at *
            simp [execOp, go_sem, e5]
          | 1, ho =>
            simp at ho; subst ho
            have e0 : a'.eval (.tmp 0) = .pointer (some ⟨M, 0, none⟩) := (hfree 0 (by kernel_rfl)).trans rfl
            show s ≤ 5 → _
            intro hs
            refine .inl ⟨rfl, ?_⟩
            generalize a'.eval = ρ at *
            simp [execOp, go_sem, e0]
          | 2, ho =>
            simp at ho; subst ho
            have e33 : a'.eval (.tmp 33) = .pointer (some ⟨M, 0, none⟩) := hvals 1 _ _ (by kernel_rfl) rfl rfl
            show s ≤ 5 → _
            intro hs
            refine .inl ⟨rfl, ?_⟩
            generalize a'.eval = ρ at *
            simp [execOp, go_sem, e33]
          | 3, ho =>
            simp at ho; subst ho
            have e34 : a'.eval (.tmp 34) = .pointer (some ⟨M, 0, none⟩) := hvals 2 _ _ (by kernel_rfl) rfl rfl
            show s ≤ 5 → _
            intro hs
            refine .inl ⟨rfl, ?_⟩
            generalize a'.eval = ρ at *
            simp [execOp, go_sem, e34]
          | 4, ho =>
            simp at ho; subst ho
            have e35 : a'.eval (.tmp 35) = .pointer (some ⟨M, 0, none⟩) := hvals 3 _ _ (by kernel_rfl) rfl rfl
            show s ≤ 5 → _
            intro hs
            refine .inl ⟨rfl, ?_⟩
            generalize a'.eval = ρ at *
            simp [execOp, go_sem, e35]
          | 5, ho =>
            simp at ho; subst ho
            have e36 : a'.eval (.tmp 36) = .pointer (some ⟨M, 0, none⟩) := hvals 4 _ _ (by kernel_rfl) rfl rfl
            show s ≤ 5 → _
            intro hs
            refine .inl ⟨rfl, ?_⟩
            generalize a'.eval = ρ at *
            simp [execOp, go_sem, e36, y0]
          | 6, ho =>
            simp at ho; subst ho
            have e37 : a'.eval (.tmp 37) = .int .i64 lk := hvals 5 _ _ (by kernel_rfl) rfl rfl
            have ec0 : a'.eval (.const (.int .i64 65536)) = .int .i64 65536 := rfl
            show s ≤ 5 → _
            intro hs
            refine .inl ⟨rfl, ?_⟩
            generalize a'.eval = ρ at *
            simp [execOp, go_sem, e37, ec0, hrem]
          | 7, ho =>
            simp at ho; subst ho
            have e0 : a'.eval (.tmp 0) = .pointer (some ⟨M, 0, none⟩) := (hfree 0 (by kernel_rfl)).trans rfl
            show s ≤ 5 → _
            intro hs
            refine .inl ⟨rfl, ?_⟩
            generalize a'.eval = ρ at *
            simp [execOp, go_sem, e0]
          | 8, ho =>
            simp at ho; subst ho
            have e39 : a'.eval (.tmp 39) = .pointer (some ⟨M, 0, none⟩) := hvals 7 _ _ (by kernel_rfl) rfl rfl
            show s ≤ 5 → _
            intro hs
            refine .inl ⟨rfl, ?_⟩
            generalize a'.eval = ρ at *
            simp [execOp, go_sem, e39]
          | 9, ho =>
            simp at ho; subst ho
            have e40 : a'.eval (.tmp 40) = .pointer (some ⟨M, 0, none⟩) := hvals 8 _ _ (by kernel_rfl) rfl rfl
            show s ≤ 5 → _
            intro hs
            refine .inl ⟨rfl, ?_⟩
            generalize a'.eval = ρ at *
            simp [execOp, go_sem, e40]
          | 10, ho =>
            simp at ho; subst ho
            have e41 : a'.eval (.tmp 41) = .pointer (some ⟨M, 0, none⟩) := hvals 9 _ _ (by kernel_rfl) rfl rfl
            show s ≤ 5 → _
            intro hs
            refine .inl ⟨rfl, ?_⟩
            generalize a'.eval = ρ at *
            simp [execOp, go_sem, e41]
          | 11, ho =>
            simp at ho; subst ho
            have e42 : a'.eval (.tmp 42) = .pointer (some ⟨M, 1, none⟩) := hvals 10 _ _ (by kernel_rfl) rfl rfl
            show s ≤ 5 → _
            intro hs
            refine .inl ⟨rfl, ?_⟩
            generalize a'.eval = ρ at *
            simp [execOp, go_sem, e42, y1]
          | 12, ho =>
            simp at ho; subst ho
            have e6 : a'.eval (.tmp 6) = .int .i64 k := (hfree 6 (by kernel_rfl)).trans rfl
            show s ≤ 5 → _
            intro hs
            refine .inl ⟨rfl, ?_⟩
            generalize a'.eval = ρ at *
            simp [execOp, go_sem, e6]
          | 13, ho =>
            simp at ho; subst ho
            have e44 : a'.eval (.tmp 44) = .int .i64 k := hvals 12 _ _ (by kernel_rfl) rfl rfl
            have ec0 : a'.eval (.const (.int .i64 0)) = .int .i64 0 := rfl
            show s ≤ 5 → _
            intro hs
            refine .inl ⟨rfl, ?_⟩
            generalize a'.eval = ρ at *
            simp [execOp, go_sem, e44, ec0, hz]
          | 14, ho =>
            simp at ho; subst ho
            have e6 : a'.eval (.tmp 6) = .int .i64 k := (hfree 6 (by kernel_rfl)).trans rfl
            show s ≤ 5 → _
            intro hs
            refine .inl ⟨rfl, ?_⟩
            generalize a'.eval = ρ at *
            simp [execOp, go_sem, e6]
          | 15, ho =>
            simp at ho; subst ho
            have e3 : a'.eval (.tmp 3) = .pointer (some ⟨w.heap.size, 0, none⟩) := (hfree 3 (by kernel_rfl)).trans rfl
            show s ≤ 5 → _
            intro hs
            refine .inl ⟨rfl, ?_⟩
            generalize a'.eval = ρ at *
            simp [execOp, go_sem, e3]
          | 16, ho =>
            simp at ho; subst ho
            have e47 : a'.eval (.tmp 47) = .pointer (some ⟨w.heap.size, 2, none⟩) := hvals 15 _ _ (by kernel_rfl) rfl rfl
            show s ≤ 5 → _
            intro hs
            refine .inl ⟨rfl, ?_⟩
            generalize a'.eval = ρ at *
            simp [execOp, go_sem, e47, z2]
          | 17, ho =>
            simp at ho; subst ho
            have e48 : a'.eval (.tmp 48) = .slice (some ⟨b, off, none⟩) n pc := hvals 16 _ _ (by kernel_rfl) rfl rfl
            show s ≤ 5 → _
            intro hs
            refine .inl ⟨rfl, ?_⟩
            generalize a'.eval = ρ at *
            simp [go_sem, e48]
          | 18, ho =>
            simp at ho; subst ho
            have e49 : a'.eval (.tmp 49) = .int .i64 n := hvals 17 _ _ (by kernel_rfl) rfl rfl
            have ec0 : a'.eval (.const (.int .i64 1)) = .int .i64 1 := rfl
            show s ≤ 5 → _
            intro hs
            refine .inl ⟨rfl, ?_⟩
            generalize a'.eval = ρ at *
            simp [execOp, go_sem, e49, ec0, hsub]
          | 19, ho =>
            simp at ho; subst ho
            have e46 : a'.eval (.tmp 46) = .int .i64 k := hvals 14 _ _ (by kernel_rfl) rfl rfl
            have e50 : a'.eval (.tmp 50) = .int .i64 (n - 1) := hvals 18 _ _ (by kernel_rfl) rfl rfl
            show s ≤ 5 → _
            intro hs
            refine .inl ⟨rfl, ?_⟩
            generalize a'.eval = ρ at *
            simp [execOp, go_sem, e46, e50, hen]
          | 20, ho =>
            simp at ho; subst ho
            have e6 : a'.eval (.tmp 6) = .int .i64 k := (hfree 6 (by kernel_rfl)).trans rfl
            show s ≤ 5 → _
            intro hs
            refine .inl ⟨rfl, ?_⟩
            generalize a'.eval = ρ at *
            simp [execOp, go_sem, e6]
          | 21, ho =>
            simp at ho; subst ho
            have e52 : a'.eval (.tmp 52) = .int .i64 k := hvals 20 _ _ (by kernel_rfl) rfl rfl
            have ec0 : a'.eval (.const (.int .i64 0)) = .int .i64 0 := rfl
            show s ≤ 5 → _
            intro hs
            refine .inl ⟨rfl, ?_⟩
            generalize a'.eval = ρ at *
            simp [execOp, go_sem, e52, ec0, hz]
          | 22, ho =>
            simp at ho; subst ho
            have e53 : a'.eval (.tmp 53) = .bool true := hvals 21 _ _ (by kernel_rfl) rfl rfl
            show s ≤ 5 → _
            intro hs
            refine .inl ⟨rfl, ?_⟩
            generalize a'.eval = ρ at *
            simp [execOp, go_sem, e53]
          | 23, ho =>
            simp at ho; subst ho
            have e3 : a'.eval (.tmp 3) = .pointer (some ⟨w.heap.size, 0, none⟩) := (hfree 3 (by kernel_rfl)).trans rfl
            show s ≤ 5 → _
            intro hs
            have hg : a'.eval (.tmp 54) = .bool true := hvals 22 _ _ (by kernel_rfl) rfl rfl
            have hy := tmps_of hg
            refine .inl ⟨by simp [Region.wanted, yielded, hy], ?_⟩
            generalize a'.eval = ρ at *
            simp [execOp, go_sem, e3]
          | 24, ho =>
            simp at ho; subst ho
            have e55 : a'.eval (.tmp 55) = .pointer (some ⟨w.heap.size, 1, none⟩) := hvals 23 _ _ (by kernel_rfl) rfl rfl
            show s ≤ 5 → _
            intro hs
            have hg : a'.eval (.tmp 54) = .bool true := hvals 22 _ _ (by kernel_rfl) rfl rfl
            have hy := tmps_of hg
            refine .inl ⟨by simp [Region.wanted, yielded, hy], ?_⟩
            generalize a'.eval = ρ at *
            simp [execOp, go_sem, e55, z1]
          | 25, ho =>
            simp at ho; subst ho
            have e54 : a'.eval (.tmp 54) = .bool true := hvals 22 _ _ (by kernel_rfl) rfl rfl
            have e56 : a'.eval (.tmp 56) = .bool fk := hvals 24 _ _ (by kernel_rfl) rfl rfl
            have ec0 : a'.eval (.const (.bool false)) = .bool false := rfl
            show s ≤ 5 → _
            intro hs
            refine .inl ⟨rfl, ?_⟩
            generalize a'.eval = ρ at *
            simp [execOp, go_sem, e54, e56, ec0]
          | 26, ho =>
            simp at ho; subst ho
            have e7 : a'.eval (.tmp 7) = .string x := (hfree 7 (by kernel_rfl)).trans rfl
            show s ≤ 5 → _
            intro hs
            refine .inl ⟨rfl, ?_⟩
            generalize a'.eval = ρ at *
            simp [execOp, go_sem, e7]
          | 27, ho =>
            simp at ho; subst ho
            have e58 : a'.eval (.tmp 58) = .string x := hvals 26 _ _ (by kernel_rfl) rfl rfl
            show s = 0 → _ ∧ Oper.wp _ _ _ _ _ _
            intro hs
            subst hs
            refine ⟨rfl, ?_⟩
            have ef : a'.eval (.func 51) = .func (.func 51) #[] #[] := rfl
            have hB : Below WR.heap.size WR w' := hI
            refine oper_wp_call (f := 51) (args := #[.string x]) ?_ ?_
            · generalize a'.eval = ρ at *
              simp [execOp, go_sem, e58, ef]
            · refine (stringsClone_any x w' hx8).mono ?_
              rintro e w'' ⟨rfl, hb1⟩
              exact ⟨_, rfl, _, rfl, updR_at _ _ _, hB.trans (hb1.mono hB.size)⟩
          | 28, ho =>
            simp at ho; subst ho
            have e38 : a'.eval (.tmp 38) = .int .i64 sq := hvals 6 _ _ (by kernel_rfl) rfl rfl
            have e43 : a'.eval (.tmp 43) = .int .i64 T := hvals 11 _ _ (by kernel_rfl) rfl rfl
            have e45 : a'.eval (.tmp 45) = .bool true := hvals 13 _ _ (by kernel_rfl) rfl rfl
            have e51 : a'.eval (.tmp 51) = .bool en := hvals 19 _ _ (by kernel_rfl) rfl rfl
            have e57 : a'.eval (.tmp 57) = .bool fk := hvals 25 _ _ (by kernel_rfl) rfl rfl
            have e59 : a'.eval (.tmp 59) = r 0 := hvals 27 _ _ (by kernel_rfl) rfl rfl
            show s = 1 → _ ∧ Oper.wp _ _ _ _ _ _
            intro hs
            subst hs
            refine ⟨rfl, ?_⟩
            obtain ⟨hr0, hB⟩ := hI
            rw [hr0] at e59
            refine oper_wp_ok (v := Pk.val ⟨sq, T, true, en, fk, x⟩) (w' := w') ?_ ⟨_, rfl, updR_at _ _ _, hB⟩
            generalize a'.eval = ρ at *
            simp [execOp, go_sem, e38, e43, e45, e51, e57, e59, Pk.val]
          | 29, ho =>
            simp at ho; subst ho
            have e60 : a'.eval (.tmp 60) = r 1 := hvals 28 _ _ (by kernel_rfl) rfl rfl
            show s = 2 → _ ∧ Oper.wp _ _ _ _ _ _
            intro hs
            subst hs
            refine ⟨rfl, ?_⟩
            obtain ⟨hr1, hB⟩ := hI
            rw [hr1] at e60
            refine oper_wp_ok (v := .slice (some ⟨w'.heap.size, 0, none⟩) 1 1) (w' := w'.alloc (.cells (Pk.cells ⟨sq, T, true, en, fk, x⟩) 38)) ?_ ⟨_, rfl, w', hB, rfl, updR_at _ _ _⟩
            generalize a'.eval = ρ at *
            simp [execOp, go_sem, e60, Pk.val, Pk.cells]
          | 30, ho =>
            simp at ho; subst ho
            have e32 : a'.eval (.tmp 32) = u5 := hvals 0 _ _ (by kernel_rfl) rfl rfl
            have e61 : a'.eval (.tmp 61) = r 2 := hvals 29 _ _ (by kernel_rfl) rfl rfl
            show s = 3 → _ ∧ Oper.wp _ _ _ _ _ _
            intro hs
            subst hs
            refine ⟨rfl, ?_⟩
            obtain ⟨V, hB, hw, hr2⟩ := hI
            rw [hr2] at e61
            subst hw
            obtain ⟨v', w2, hrun, g2, g3⟩ := pk_snoc ⟨sq, T, true, en, fk, x⟩ (owns_below HOW.out hB (Nat.le_refl _)) (by omega) (by have := hB.size; omega)
            refine oper_wp_ok (v := v') (w' := w2) ?_ ⟨_, rfl, V, hB, ?_, g3⟩
            · generalize a'.eval = ρ at *
              simp [execOp, resolve, invoke, builtin, e32, e61, hrun, Result.andThen]
            · rw [updR_at]; exact g2
          | 31, ho =>
            simp at ho; subst ho
            have e62 : a'.eval (.tmp 62) = r 3 := hvals 30 _ _ (by kernel_rfl) rfl rfl
            show s = 4 → _ ∧ Oper.wp _ _ _ _ _ _
            intro hs
            subst hs
            refine ⟨rfl, ?_⟩
            obtain ⟨V, hB, g2, g3⟩ := hI
            refine oper_wp_ok (v := r 3) (w' := w') ?_ ⟨_, rfl, V, hB, ?_, g3⟩
            · generalize a'.eval = ρ at *
              simp [execOp, go_sem, e62]
            · rw [updR_at]; exact g2
        case fin =>
          rintro r w7 ⟨V, hB, g2, g3⟩
          simp only [putC, Ck.out, Act.put, List.setIfInBounds_toArray, List.set_cons_succ, List.set_cons_zero]
          have hVs := hB.size
          have hM7 : Blk w7 M #[.int .i64 lk, .int .i64 T, .int .i64 s0] 65 := (g3.block M (by simp; omega) hMu).trans (((KMR.out.below hB KMR.out.lt)).alloc _)
          have h1 : Kept [M] W0 (V.alloc (.cells (Pk.cells ⟨sq, T, true, en, fk, x⟩) 38)) := (HKR.out.below hB).alloc _
          have hK7 : Kept [M] W0 w7 := ⟨g3.os.trans h1.os, g3.tape.trans h1.tape, g3.output.trans h1.output, Nat.le_trans h1.size g3.size, fun j hj hn => (g3.block j (Nat.lt_of_lt_of_le hj h1.size) (fun e => by have := (HOW.out.lt j e.symm).1; have := HZ0.out.1; omega)).trans (h1.block j hj hn)⟩
          clear h1
          have HO7 : Hid (w7.ownsRow base 38 6 (r 4) (k + 1) (pkCells (pksK l T fk ps (k + 1)))) := by rw [HPK.out]; exact g2
          have HM7 : Hid (Blk w7 M #[.int .i64 lk, .int .i64 T, .int .i64 s0] 65) := hM7
          have HK7 : Hid (Kept [M] W0 w7) := hK7
          clear hM7 hK7 g2 g3 hB
          go_wp2_with fail
          go_roundw
          case rel => exact ⟨k + 1, by omega, by go_num, by rw [HLK.out] at HM7; exact HM7.out, HO7.out, HK7.out⟩
          case measure => simp [intOf]; omega
    · have hkn : k = n := by omega
      subst hkn
      clear HSr
      go_wp2
      go_ret
      exact ⟨_, rfl, by rw [pksOf, ← HN.out]; exact HO.out, HM.out, ⟨by rw [HK.out.os, HZ0.out.2.os], by rw [HK.out.tape, HZ0.out.2.tape], by rw [HK.out.output, HZ0.out.2.output], Nat.le_trans HZ0.out.2.size HK.out.size, fun j hj hn => (HK.out.block j (Nat.lt_of_lt_of_le hj HZ0.out.2.size) hn).trans (HZ0.out.2.block j hj)⟩⟩

end Go.Proofs.Ytnpaejknoipicaf

namespace Go.Proofs.Ytnpaejknoipicaf
open Go.RowKit

def sdS (l t s ft : Int) (turn : Bool) : Int := if turn = true ∨ l = 0 then t + 10 - ft else s
def sdE (l t s : Int) (f : Fr) (turn : Bool) : Int := if outE l t s = 0 then (if f.chk = 0 then roomE l t (sdS l t s f.time turn) f.time f.parts.length else f.chk) else outE l t s
def sdP (l t s : Int) (f : Fr) (turn : Bool) : List Pk := if sdE l t s f turn = 0 then pksOf l (f.time + sdS l t s f.time turn) f.key f.parts else []
def sdO (l t s : Int) (f : Fr) (turn : Bool) : Int × Int × Int := if sdE l t s f turn = 0 then (l + f.parts.length, f.time + sdS l t s f.time turn, sdS l t s f.time turn) else (0, 0, 0)
theorem sdE_zero {l t s : Int} {f : Fr} {turn : Bool} : sdE l t s f turn = 0 ↔ outE l t s = 0 ∧ f.chk = 0 ∧ roomE l t (sdS l t s f.time turn) f.time f.parts.length = 0 := by
  unfold sdE
  by_cases h1 : outE l t s = 0
  · rw [if_pos h1]
    by_cases h2 : f.chk = 0
    · rw [if_pos h2]; exact ⟨fun h => ⟨h1, h2, h⟩, fun h => h.2.2⟩
    · rw [if_neg h2]; exact ⟨fun h => absurd h h2, fun h => absurd h.2.1 h2⟩
  · rw [if_neg h1]; exact ⟨fun h => absurd h h1, fun h => absurd h.1 h1⟩

theorem owns_le {w : World} {base base' : Nat} {e : TypeId} {size n : Nat} {v : Value} {xs : List Value} (h : w.ownsRow base e size v n xs) (hb : base' ≤ base) : w.ownsRow base' e size v n xs := by
  obtain ⟨h1, h2 | ⟨g, cap, cur, h3, h4, h5⟩⟩ := h
  · exact ⟨h1, .inl h2⟩
  · exact ⟨h1, .inr ⟨g, cap, cur, h3, Nat.le_trans hb h4, h5⟩⟩
theorem owns_slice6 {w : World} {base : Nat} {e : TypeId} {size n : Nat} {v : Value} {xs : List Value} (h : w.ownsRow base e size v n xs) : ∃ a c, v = .slice a n c := by
  obtain ⟨_, ⟨rfl, rfl⟩ | ⟨g, cap, cur, rfl, _⟩⟩ := h
  · exact ⟨_, _, rfl⟩
  · exact ⟨_, _, rfl⟩

set_option maxHeartbeats 8000000 in
set_option maxRecDepth 100000 in
theorem outSend_any (l t s : Int) (f : Fr) (pv : Value) (turn : Bool) (w : World) (hp : StrsIn (fun _ => True) w pv f.parts) :
    Calls Try.prog 7 #[.agg #[.int .i64 l, .int .i64 t, .int .i64 s], .agg #[.int .i64 f.time, .bool f.key, pv], .bool turn] w fun e w' => ∃ v, e = .returned (.tuple #[.agg #[.int .i64 (sdO l t s f turn).1, .int .i64 (sdO l t s f turn).2.1, .int .i64 (sdO l t s f turn).2.2], v, .int .i64 (sdE l t s f turn)]) ∧ w'.ownsRow w.heap.size 38 6 v (sdP l t s f turn).length (pkCells (sdP l t s f turn)) ∧ Below w.heap.size w w' := by
  obtain ⟨pa, pc, ep⟩ := hp.1.len
  obtain ⟨ft, hft⟩ : ∃ x, x = f.time := ⟨_, rfl⟩
  obtain ⟨fk, hfk⟩ : ∃ x, x = f.key := ⟨_, rfl⟩
  obtain ⟨n, hn⟩ : ∃ x, x = f.parts.length := ⟨_, rfl⟩
  obtain ⟨E, hE⟩ : ∃ E, E = sdE l t s f turn := ⟨_, rfl⟩
  obtain ⟨E1, hE1⟩ : ∃ E, E = outE l t s := ⟨_, rfl⟩
  obtain ⟨E2, hE2⟩ : ∃ E, E = f.chk := ⟨_, rfl⟩
  obtain ⟨S, hS⟩ : ∃ x, x = sdS l t s f.time turn := ⟨_, rfl⟩
  obtain ⟨E3, hE3⟩ : ∃ E, E = roomE l t S f.time f.parts.length := ⟨_, rfl⟩
  obtain ⟨O, hO⟩ : ∃ x, x = sdO l t s f turn := ⟨_, rfl⟩
  obtain ⟨P, hP⟩ : ∃ x, x = sdP l t s f turn := ⟨_, rfl⟩
  have hEE0 : E = if E1 = 0 then (if E2 = 0 then E3 else E2) else E1 := by rw [hE, hE1, hE2, hE3, hS]; rfl
  have HEA : Hid (¬ E1 = 0 → E = E1) := fun h => by rw [hEE0, if_neg h]
  have HEB : Hid (E1 = 0 → ¬ E2 = 0 → E = E2) := fun h h' => by rw [hEE0, if_pos h, if_neg h']
  have HEC : Hid (E1 = 0 → E2 = 0 → E = E3) := fun h h' => by rw [hEE0, if_pos h, if_pos h']
  clear hEE0
  have HBAD : Hid (¬ E = 0 → O = (0, 0, 0) ∧ P = []) := fun h => by
    rw [hE] at h
    rw [hO, hP]; exact ⟨if_neg h, if_neg h⟩
  have HGOOD : Hid (E = 0 → O = (l + n, ft + S, S) ∧ P = pksOf l (ft + S) fk f.parts ∧ P.length = n) := fun h => by
    rw [hE] at h
    have e : P = pksOf l (ft + S) fk f.parts := by rw [hP, hft, hfk, hS]; exact if_pos h
    refine ⟨by rw [hO, hft, hn, hS]; exact if_pos h, e, by rw [e, pksOf, pksK_len, hn]⟩
  have HZ1 : Hid (E1 = 0 → 0 ≤ l ∧ l ≤ 1000000000 ∧ 0 ≤ t ∧ t ≤ 1000000 ∧ -1000000 ≤ s ∧ s ≤ 1000000) := fun h => outE_zero.1 (by rw [← hE1]; exact h)
  have HZ2 : Hid (E2 = 0 → f.chk = 0 ∧ 0 ≤ ft ∧ ft ≤ 1000000 ∧ 0 < n ∧ n ≤ 4) := fun h => by
    rw [hE2] at h
    have := chkF_zero h
    rw [hft, hn]; exact ⟨h, this.1, this.2.1, this.2.2.1, this.2.2.2.1⟩
  have HSS : Hid (((turn = true ∨ l = 0) → S = t + 10 - ft) ∧ (¬ (turn = true ∨ l = 0) → S = s)) := by
    rw [hS, hft]; exact ⟨fun h => if_pos h, fun h => if_neg h⟩
  have HCF : Hid (∀ U : World, Below w.heap.size w U → Calls Try.prog 23 #[.agg #[.int .i64 ft, .bool fk, pv]] U fun e w' => e = .returned (.int .i64 E2) ∧ Below U.heap.size U w') := fun U hU => by
    rw [hft, hE2]; exact frameCheck_any _ _ _ _ _ (hp.below hU).1 hp.2.1
  have HE3 : Hid (E3 = roomE l t S ft n) := by show _ = _; rw [hE3, hft, hn]
  have HE1 : Hid (outE l t s = E1) := hE1.symm
  have HF : Hid (ft = f.time ∧ fk = f.key ∧ n = f.parts.length) := ⟨hft, hfk, hn⟩
  rw [← hn] at ep
  rw [← hE, ← hO, ← hP, ← hft, ← hfk]
  obtain ⟨W0, hW0⟩ : ∃ W0, W0 = ((w.alloc (.cells #[.int .i64 l, .int .i64 t, .int .i64 s] 23)).alloc (.cells #[.int .i64 ft, .bool fk, pv] 26)).alloc (.cells #[.int .i64 0, .int .i64 0, .int .i64 0] 23) := ⟨_, rfl⟩
  have HS0 : Hid (Stay W0 (fun U => (Blk U w.heap.size #[.int .i64 l, .int .i64 t, .int .i64 s] 23 ∧ Blk U (w.heap.size + 1) #[.int .i64 ft, .bool fk, pv] 26 ∧ Blk U (w.heap.size + 1 + 1) #[.int .i64 0, .int .i64 0, .int .i64 0] 23) ∧ StrsIn (fun g => g < w.heap.size) U pv f.parts ∧ Below w.heap.size w U)) := by
    rw [hW0]
    have h2 := Blk.new (w.alloc (.cells #[.int .i64 l, .int .i64 t, .int .i64 s] 23)) #[.int .i64 ft, .bool fk, pv] 26
    have h3 := Blk.new ((w.alloc (.cells #[.int .i64 l, .int .i64 t, .int .i64 s] 23)).alloc (.cells #[.int .i64 ft, .bool fk, pv] 26)) #[.int .i64 0, .int .i64 0, .int .i64 0] 23
    rw [World.size_alloc] at h2
    rw [World.size_alloc, World.size_alloc] at h3
    exact (((((Blk.new _ _ _).alloc _).alloc _).stay).and ((h2.alloc _).stay.and h3.stay)).and ((((hp.mono (S' := fun g => g < w.heap.size) fun g h _ => h).stay.and (below_stay0 w)).alloc _ |>.alloc _).alloc _)
  clear hft hfk hn hE hE1 hE2 hE3 hS hO hP hp
  subst ep
  go_enter Try.func7, Try.ntmps7
  go_wp2_with fail
  rw [← hW0]
  clear hW0
  refine (outCheck_any l t s W0).mono ?_
  have HOC : Hid (outE l t s = E1) := HE1
  rw [HOC.out]
  rintro e w1 ⟨rfl, b1⟩
  have HS1 := Stay.go HS0 b1
  clear b1 HS0 HOC
  -- an error: the result's cells are zero
  have HNO : Hid (∀ U : World, Blk U (w.heap.size + 1 + 1) #[.int .i64 0, .int .i64 0, .int .i64 0] 23 → Below w.heap.size w U → ∃ V, V = ((U.setCell ⟨w.heap.size + 1 + 1, 0, none⟩ (.int .i64 0)).setCell ⟨w.heap.size + 1 + 1, 1, none⟩ (.int .i64 0)).setCell ⟨w.heap.size + 1 + 1, 2, none⟩ (.int .i64 0) ∧ Blk V (w.heap.size + 1 + 1) #[.int .i64 0, .int .i64 0, .int .i64 0] 23 ∧ Below w.heap.size w V) := fun U hU hb => ⟨_, rfl, hU.put3 _ _ _, ((hb.setCell (p := ⟨w.heap.size + 1 + 1, 0, none⟩) (by show w.heap.size ≤ w.heap.size + 1 + 1; omega) _).setCell (p := ⟨w.heap.size + 1 + 1, 1, none⟩) (by show w.heap.size ≤ w.heap.size + 1 + 1; omega) _).setCell (p := ⟨w.heap.size + 1 + 1, 2, none⟩) (by show w.heap.size ≤ w.heap.size + 1 + 1; omega) _⟩
  by_cases h1 : E1 = 0
  case neg =>
    have hEE : E = E1 := HEA.out h1
    obtain ⟨hO0, hP0⟩ := HBAD.out (by rw [hEE]; exact h1)
    obtain ⟨V, hV, hVB, hVW⟩ := HNO.out w1 HS1.out.now.1.2.2 HS1.out.now.2.2
    obtain ⟨z0, z1, z2⟩ := HS1.out.now.1.2.2.three
    have f0 := HS1.out.now.1.2.2.free 0
    have f1 := HS1.out.now.1.2.2.free 1
    have f2 := HS1.out.now.1.2.2.free 2
    have HOP : Hid (O = (0, 0, 0) ∧ P = [] ∧ E = E1) := ⟨hO0, hP0, hEE⟩
    clear hO0 hP0
    clear HEA HEB HEC HBAD HGOOD HZ1 HZ2 HSS HCF HE3 HF hEE HS1 HNO
    go_wp2_with fail
    rw [← hV]
    obtain ⟨r0, r1, r2⟩ := hVB.three
    rw [HOP.out.1, HOP.out.2.1, HOP.out.2.2]
    exact bodyPost_ret (v := .tuple #[.agg #[.int .i64 0, .int .i64 0, .int .i64 0], .slice none 0 0, .int .i64 E1]) (by simp [results, Try.results7, go_sem, r0, r1, r2]) rfl ⟨_, rfl, World.ownsRow_nil _ _ _ _, hVW⟩
  obtain ⟨l0, l1, t0, t1, s0, s1⟩ := HZ1.out h1
  subst h1
  obtain ⟨j0, j1, j2⟩ := HS1.out.now.1.2.1.three
  go_wp2_with fail
  refine (HCF.out w1 HS1.out.now.2.2).mono ?_
  rintro e w2 ⟨rfl, b2⟩
  have HS2 := Stay.go HS1 b2
  clear b2 HS1 HCF j0 j1 j2
  by_cases h2 : E2 = 0
  case neg =>
    have hEE : E = E2 := HEB.out (by first | rfl | trivial) h2
    obtain ⟨hO0, hP0⟩ := HBAD.out (by rw [hEE]; exact h2)
    obtain ⟨V, hV, hVB, hVW⟩ := HNO.out w2 HS2.out.now.1.2.2 HS2.out.now.2.2
    obtain ⟨z0, z1, z2⟩ := HS2.out.now.1.2.2.three
    have f0 := HS2.out.now.1.2.2.free 0
    have f1 := HS2.out.now.1.2.2.free 1
    have f2 := HS2.out.now.1.2.2.free 2
    have HOP : Hid (O = (0, 0, 0) ∧ P = [] ∧ E = E2) := ⟨hO0, hP0, hEE⟩
    clear hO0 hP0
    clear HEA HEB HEC HBAD HGOOD HZ1 HZ2 HSS HE3 HF hEE HS2 HNO
    go_wp2_with fail
    rw [← hV]
    obtain ⟨r0, r1, r2⟩ := hVB.three
    rw [HOP.out.1, HOP.out.2.1, HOP.out.2.2]
    exact bodyPost_ret (v := .tuple #[.agg #[.int .i64 0, .int .i64 0, .int .i64 0], .slice none 0 0, .int .i64 E2]) (by simp [results, Try.results7, go_sem, r0, r1, r2]) rfl ⟨_, rfl, World.ownsRow_nil _ _ _ _, hVW⟩
  obtain ⟨hck, ft0, ft1, n0, n4⟩ := HZ2.out h2
  have HCKF : Hid (f.chk = 0) := hck
  have HEE2 : Hid (E = E3) := HEC.out (by first | rfl | trivial) h2
  subst h2
  obtain ⟨W3, hW3⟩ : ∃ W3, W3 = w2.alloc (.cells #[.int .i64 l, .int .i64 t, .int .i64 s] 65) := ⟨_, rfl⟩
  have hwm : w.heap.size + 1 + 1 < w2.heap.size := HS2.out.now.1.2.2.lt
  have HT3 : Hid (StayK [w2.heap.size] W3 _) := HS2.out.toK hW3
  have HM3 : Hid (Blk W3 w2.heap.size #[.int .i64 l, .int .i64 t, .int .i64 s] 65) := Blk.newE hW3
  obtain ⟨k0, k1, k2⟩ := HS2.out.now.1.1.three
  clear HEA HEB HEC HZ1 HZ2 hck HS2
  go_upto_region 8 with fail
  rw [← hW3]
  clear hW3 k0 k1 k2
  have hcase : turn = true ∨ (turn = false ∧ l = 0) ∨ (turn = false ∧ (l == 0) = false ∧ ¬ l = 0) := by
    cases turn
    · by_cases h : l = 0
      · exact .inr (.inl ⟨rfl, h⟩)
      · exact .inr (.inr ⟨rfl, by simpa using h, h⟩)
    · exact .inl rfl
  rcases hcase with h | ⟨h, h'⟩ | ⟨h, h', h''⟩
  · have hS := HSS.out.1 (.inl h)
    have hS0 : -3000000 ≤ S := by omega
    have hS1 : S ≤ 3000000 := by omega
    have HSE : Hid (S = t + 10 - ft) := hS
    clear hS
    subst h
    obtain ⟨j0, j1, j2⟩ := HT3.out.now.1.2.1.three
    go_wp2_with fail
    refine (turnTo_any w2.heap.size l t s ft fk pa n pc W3 HM3.out ft0 ft1 t0 t1).mono ?_
    rw [← HSE.out]
    rintro e W4 ⟨rfl, hM4, k4⟩
    have HM4 : Hid (Blk W4 w2.heap.size #[.int .i64 l, .int .i64 t, .int .i64 S] 65) := hM4
    have HT4 := StayK.goK HT3 k4
    clear hM4 k4 HT3 HM3 j0 j1 j2
    obtain ⟨j0, j1, j2⟩ := HT4.out.now.1.2.1.three
    go_wp2_with fail
    refine (checkRoom_any w2.heap.size l t S ft fk pa n pc W4 HM4.out ft0 ft1 hS0 hS1 l0 l1 n4).mono ?_
    rw [← HE3.out]
    rintro e w5 ⟨rfl, b5⟩
    have HT5 := StayK.go HT4 b5
    have HM5 : Hid (Blk w5 w2.heap.size #[.int .i64 l, .int .i64 t, .int .i64 S] 65) := HM4.out.below b5 HM4.out.lt
    clear b5 HT4 HM4 j0 j1 j2
    by_cases h3 : E3 = 0
    case neg =>
      obtain ⟨hO0, hP0⟩ := HBAD.out (by rw [HEE2.out]; exact h3)
      obtain ⟨V, hV, hVB, hVW⟩ := HNO.out w5 HT5.out.now.1.2.2 HT5.out.now.2.2
      obtain ⟨z0, z1, z2⟩ := HT5.out.now.1.2.2.three
      have f0 := HT5.out.now.1.2.2.free 0
      have f1 := HT5.out.now.1.2.2.free 1
      have f2 := HT5.out.now.1.2.2.free 2
      have HOP : Hid (O = (0, 0, 0) ∧ P = [] ∧ E = E3) := ⟨hO0, hP0, HEE2.out⟩
      clear hO0 hP0 HBAD HGOOD HSS HE3 HF HT5 HNO HM5
      go_wp2_with fail
      rw [← hV]
      obtain ⟨r0, r1, r2⟩ := hVB.three
      rw [HOP.out.1, HOP.out.2.1, HOP.out.2.2]
      exact bodyPost_ret (v := .tuple #[.agg #[.int .i64 0, .int .i64 0, .int .i64 0], .slice none 0 0, .int .i64 E3]) (by simp [results, Try.results7, go_sem, r0, r1, r2]) rfl ⟨_, rfl, World.ownsRow_nil _ _ _ _, hVW⟩
    obtain ⟨hO1, hP1, hP2⟩ := HGOOD.out (by rw [HEE2.out]; exact h3)
    have HOP : Hid (O = (l + n, ft + S, S) ∧ P = pksOf l (ft + S) fk f.parts ∧ P.length = n ∧ E = 0) := ⟨hO1, hP1, hP2, by rw [HEE2.out]; exact h3⟩
    clear hO1 hP1 hP2 HGOOD HBAD HSS HE3 HNO HEE2
    subst h3
    obtain ⟨j0, j1, j2⟩ := HT5.out.now.1.2.1.three
    have HSEND : Hid (Calls Try.prog 27 #[.pointer (some ⟨w2.heap.size, 0, none⟩), .agg #[.int .i64 ft, .bool fk, .slice pa n pc]] w5 fun e w' => ∃ v, e = .returned v ∧ w'.ownsRow (w5.heap.size + 1) 38 6 v n (pkCells (pksOf l (ft + S) fk f.parts)) ∧ Blk w' w2.heap.size #[.int .i64 (l + n), .int .i64 (ft + S), .int .i64 S] 65 ∧ Kept [w2.heap.size] w5 w') := by
      obtain ⟨q1, q2, q3⟩ := HF.out
      have hstr := HT5.out.now.2.1
      rw [q3] at hstr
      have := send_any w2.heap.size l t S f pa pc w5 HM5.out (hstr.mono (fun g _ hg => by omega)) HCKF.out hS0 hS1 l0 l1
      rw [← q1, ← q2, ← q3] at this
      exact this
    go_wp2_with fail
    refine HSEND.out.mono ?_
    rintro e w6 ⟨v, rfl, hrow, hM6, k6⟩
    have HT6 := StayK.goK HT5 k6
    obtain ⟨m0, m1, m2⟩ := hM6.three
    obtain ⟨z0, z1, z2⟩ := HT6.out.now.1.2.2.three
    have hZ := HT6.out.now.1.2.2
    have f0 := hZ.free 0
    have f1 := hZ.free 1
    have f2 := hZ.free 2
    obtain ⟨V, hV⟩ : ∃ V, V = ((w6.setCell ⟨w.heap.size + 1 + 1, 0, none⟩ (.int .i64 (l + n))).setCell ⟨w.heap.size + 1 + 1, 1, none⟩ (.int .i64 (ft + S))).setCell ⟨w.heap.size + 1 + 1, 2, none⟩ (.int .i64 S) := ⟨_, rfl⟩
    have hVB : Blk V (w.heap.size + 1 + 1) #[.int .i64 (l + n), .int .i64 (ft + S), .int .i64 S] 23 := by rw [hV]; exact hZ.put3 _ _ _
    have hVW : Below w.heap.size w V := by
      rw [hV]
      exact ((HT6.out.now.2.2.setCell (p := ⟨w.heap.size + 1 + 1, 0, none⟩) (by show w.heap.size ≤ w.heap.size + 1 + 1; omega) _).setCell (p := ⟨w.heap.size + 1 + 1, 1, none⟩) (by show w.heap.size ≤ w.heap.size + 1 + 1; omega) _).setCell (p := ⟨w.heap.size + 1 + 1, 2, none⟩) (by show w.heap.size ≤ w.heap.size + 1 + 1; omega) _
    have h52 := HM5.out.lt
    have hVR : V.ownsRow w.heap.size 38 6 v n (pkCells (pksOf l (ft + S) fk f.parts)) := by
      rw [hV]
      exact owns_le (ownsRow_setCell_below (ownsRow_setCell_below (ownsRow_setCell_below hrow (by show w.heap.size + 1 + 1 < _; omega) _) (by show w.heap.size + 1 + 1 < _; omega) _) (by show w.heap.size + 1 + 1 < _; omega) _) (by omega)
    obtain ⟨va, vc, ev⟩ := owns_slice6 hrow
    subst ev
    clear hrow hM6 k6 HT6 HT5 HM5 hZ h52 j0 j1 j2 HSEND HF
    go_wp2_with fail
    rw [← hV]
    obtain ⟨r0, r1, r2⟩ := hVB.three
    obtain ⟨o1, o2, o3, o4⟩ := HOP.out
    rw [o1, o4, o3, o2]
    exact bodyPost_ret (v := .tuple #[.agg #[.int .i64 (l + n), .int .i64 (ft + S), .int .i64 S], .slice va n vc, .int .i64 0]) (by simp [results, Try.results7, go_sem, r0, r1, r2]) rfl ⟨_, rfl, hVR, hVW⟩
  · have hS := HSS.out.1 (.inr h')
    have hS0 : -3000000 ≤ S := by omega
    have hS1 : S ≤ 3000000 := by omega
    have HSE : Hid (S = t + 10 - ft) := hS
    clear hS
    subst h
    have hlb : (l == 0) = true := by simpa using h'
    clear h'
    obtain ⟨j0, j1, j2⟩ := HT3.out.now.1.2.1.three
    go_wp2_with fail
    refine (isNew_any w2.heap.size l t s W3 HM3.out).mono ?_
    rw [hlb]
    rintro e w' ⟨rfl, rfl⟩
    clear hlb
    go_wp2_with fail
    refine (turnTo_any w2.heap.size l t s ft fk pa n pc W3 HM3.out ft0 ft1 t0 t1).mono ?_
    rw [← HSE.out]
    rintro e W4 ⟨rfl, hM4, k4⟩
    have HM4 : Hid (Blk W4 w2.heap.size #[.int .i64 l, .int .i64 t, .int .i64 S] 65) := hM4
    have HT4 := StayK.goK HT3 k4
    clear hM4 k4 HT3 HM3 j0 j1 j2
    obtain ⟨j0, j1, j2⟩ := HT4.out.now.1.2.1.three
    go_wp2_with fail
    refine (checkRoom_any w2.heap.size l t S ft fk pa n pc W4 HM4.out ft0 ft1 hS0 hS1 l0 l1 n4).mono ?_
    rw [← HE3.out]
    rintro e w5 ⟨rfl, b5⟩
    have HT5 := StayK.go HT4 b5
    have HM5 : Hid (Blk w5 w2.heap.size #[.int .i64 l, .int .i64 t, .int .i64 S] 65) := HM4.out.below b5 HM4.out.lt
    clear b5 HT4 HM4 j0 j1 j2
    by_cases h3 : E3 = 0
    case neg =>
      obtain ⟨hO0, hP0⟩ := HBAD.out (by rw [HEE2.out]; exact h3)
      obtain ⟨V, hV, hVB, hVW⟩ := HNO.out w5 HT5.out.now.1.2.2 HT5.out.now.2.2
      obtain ⟨z0, z1, z2⟩ := HT5.out.now.1.2.2.three
      have f0 := HT5.out.now.1.2.2.free 0
      have f1 := HT5.out.now.1.2.2.free 1
      have f2 := HT5.out.now.1.2.2.free 2
      have HOP : Hid (O = (0, 0, 0) ∧ P = [] ∧ E = E3) := ⟨hO0, hP0, HEE2.out⟩
      clear hO0 hP0 HBAD HGOOD HSS HE3 HF HT5 HNO HM5
      go_wp2_with fail
      rw [← hV]
      obtain ⟨r0, r1, r2⟩ := hVB.three
      rw [HOP.out.1, HOP.out.2.1, HOP.out.2.2]
      exact bodyPost_ret (v := .tuple #[.agg #[.int .i64 0, .int .i64 0, .int .i64 0], .slice none 0 0, .int .i64 E3]) (by simp [results, Try.results7, go_sem, r0, r1, r2]) rfl ⟨_, rfl, World.ownsRow_nil _ _ _ _, hVW⟩
    obtain ⟨hO1, hP1, hP2⟩ := HGOOD.out (by rw [HEE2.out]; exact h3)
    have HOP : Hid (O = (l + n, ft + S, S) ∧ P = pksOf l (ft + S) fk f.parts ∧ P.length = n ∧ E = 0) := ⟨hO1, hP1, hP2, by rw [HEE2.out]; exact h3⟩
    clear hO1 hP1 hP2 HGOOD HBAD HSS HE3 HNO HEE2
    subst h3
    obtain ⟨j0, j1, j2⟩ := HT5.out.now.1.2.1.three
    have HSEND : Hid (Calls Try.prog 27 #[.pointer (some ⟨w2.heap.size, 0, none⟩), .agg #[.int .i64 ft, .bool fk, .slice pa n pc]] w5 fun e w' => ∃ v, e = .returned v ∧ w'.ownsRow (w5.heap.size + 1) 38 6 v n (pkCells (pksOf l (ft + S) fk f.parts)) ∧ Blk w' w2.heap.size #[.int .i64 (l + n), .int .i64 (ft + S), .int .i64 S] 65 ∧ Kept [w2.heap.size] w5 w') := by
      obtain ⟨q1, q2, q3⟩ := HF.out
      have hstr := HT5.out.now.2.1
      rw [q3] at hstr
      have := send_any w2.heap.size l t S f pa pc w5 HM5.out (hstr.mono (fun g _ hg => by omega)) HCKF.out hS0 hS1 l0 l1
      rw [← q1, ← q2, ← q3] at this
      exact this
    go_wp2_with fail
    refine HSEND.out.mono ?_
    rintro e w6 ⟨v, rfl, hrow, hM6, k6⟩
    have HT6 := StayK.goK HT5 k6
    obtain ⟨m0, m1, m2⟩ := hM6.three
    obtain ⟨z0, z1, z2⟩ := HT6.out.now.1.2.2.three
    have hZ := HT6.out.now.1.2.2
    have f0 := hZ.free 0
    have f1 := hZ.free 1
    have f2 := hZ.free 2
    obtain ⟨V, hV⟩ : ∃ V, V = ((w6.setCell ⟨w.heap.size + 1 + 1, 0, none⟩ (.int .i64 (l + n))).setCell ⟨w.heap.size + 1 + 1, 1, none⟩ (.int .i64 (ft + S))).setCell ⟨w.heap.size + 1 + 1, 2, none⟩ (.int .i64 S) := ⟨_, rfl⟩
    have hVB : Blk V (w.heap.size + 1 + 1) #[.int .i64 (l + n), .int .i64 (ft + S), .int .i64 S] 23 := by rw [hV]; exact hZ.put3 _ _ _
    have hVW : Below w.heap.size w V := by
      rw [hV]
      exact ((HT6.out.now.2.2.setCell (p := ⟨w.heap.size + 1 + 1, 0, none⟩) (by show w.heap.size ≤ w.heap.size + 1 + 1; omega) _).setCell (p := ⟨w.heap.size + 1 + 1, 1, none⟩) (by show w.heap.size ≤ w.heap.size + 1 + 1; omega) _).setCell (p := ⟨w.heap.size + 1 + 1, 2, none⟩) (by show w.heap.size ≤ w.heap.size + 1 + 1; omega) _
    have h52 := HM5.out.lt
    have hVR : V.ownsRow w.heap.size 38 6 v n (pkCells (pksOf l (ft + S) fk f.parts)) := by
      rw [hV]
      exact owns_le (ownsRow_setCell_below (ownsRow_setCell_below (ownsRow_setCell_below hrow (by show w.heap.size + 1 + 1 < _; omega) _) (by show w.heap.size + 1 + 1 < _; omega) _) (by show w.heap.size + 1 + 1 < _; omega) _) (by omega)
    obtain ⟨va, vc, ev⟩ := owns_slice6 hrow
    subst ev
    clear hrow hM6 k6 HT6 HT5 HM5 hZ h52 j0 j1 j2 HSEND HF
    go_wp2_with fail
    rw [← hV]
    obtain ⟨r0, r1, r2⟩ := hVB.three
    obtain ⟨o1, o2, o3, o4⟩ := HOP.out
    rw [o1, o4, o3, o2]
    exact bodyPost_ret (v := .tuple #[.agg #[.int .i64 (l + n), .int .i64 (ft + S), .int .i64 S], .slice va n vc, .int .i64 0]) (by simp [results, Try.results7, go_sem, r0, r1, r2]) rfl ⟨_, rfl, hVR, hVW⟩
  · have hS := HSS.out.2 (by rw [h]; simpa using h'')
    subst h hS
    have hS0 : -3000000 ≤ S := by omega
    have hS1 : S ≤ 3000000 := by omega
    clear h''
    obtain ⟨j0, j1, j2⟩ := HT3.out.now.1.2.1.three
    go_wp2_with fail
    refine (isNew_any w2.heap.size l t S W3 HM3.out).mono ?_
    rw [h']
    rintro e w' ⟨rfl, rfl⟩
    have HM4 := HM3
    have HT4 := HT3
    obtain ⟨W4, hW4⟩ : ∃ x, x = W3 := ⟨_, rfl⟩
    subst hW4
    clear HM3 HT3
    go_wp2_with fail
    refine (checkRoom_any w2.heap.size l t S ft fk pa n pc W4 HM4.out ft0 ft1 hS0 hS1 l0 l1 n4).mono ?_
    rw [← HE3.out]
    rintro e w5 ⟨rfl, b5⟩
    have HT5 := StayK.go HT4 b5
    have HM5 : Hid (Blk w5 w2.heap.size #[.int .i64 l, .int .i64 t, .int .i64 S] 65) := HM4.out.below b5 HM4.out.lt
    clear b5 HT4 HM4 j0 j1 j2
    by_cases h3 : E3 = 0
    case neg =>
      obtain ⟨hO0, hP0⟩ := HBAD.out (by rw [HEE2.out]; exact h3)
      obtain ⟨V, hV, hVB, hVW⟩ := HNO.out w5 HT5.out.now.1.2.2 HT5.out.now.2.2
      obtain ⟨z0, z1, z2⟩ := HT5.out.now.1.2.2.three
      have f0 := HT5.out.now.1.2.2.free 0
      have f1 := HT5.out.now.1.2.2.free 1
      have f2 := HT5.out.now.1.2.2.free 2
      have HOP : Hid (O = (0, 0, 0) ∧ P = [] ∧ E = E3) := ⟨hO0, hP0, HEE2.out⟩
      clear hO0 hP0 HBAD HGOOD HSS HE3 HF HT5 HNO HM5
      go_wp2_with fail
      rw [← hV]
      obtain ⟨r0, r1, r2⟩ := hVB.three
      rw [HOP.out.1, HOP.out.2.1, HOP.out.2.2]
      exact bodyPost_ret (v := .tuple #[.agg #[.int .i64 0, .int .i64 0, .int .i64 0], .slice none 0 0, .int .i64 E3]) (by simp [results, Try.results7, go_sem, r0, r1, r2]) rfl ⟨_, rfl, World.ownsRow_nil _ _ _ _, hVW⟩
    obtain ⟨hO1, hP1, hP2⟩ := HGOOD.out (by rw [HEE2.out]; exact h3)
    have HOP : Hid (O = (l + n, ft + S, S) ∧ P = pksOf l (ft + S) fk f.parts ∧ P.length = n ∧ E = 0) := ⟨hO1, hP1, hP2, by rw [HEE2.out]; exact h3⟩
    clear hO1 hP1 hP2 HGOOD HBAD HSS HE3 HNO HEE2
    subst h3
    obtain ⟨j0, j1, j2⟩ := HT5.out.now.1.2.1.three
    have HSEND : Hid (Calls Try.prog 27 #[.pointer (some ⟨w2.heap.size, 0, none⟩), .agg #[.int .i64 ft, .bool fk, .slice pa n pc]] w5 fun e w' => ∃ v, e = .returned v ∧ w'.ownsRow (w5.heap.size + 1) 38 6 v n (pkCells (pksOf l (ft + S) fk f.parts)) ∧ Blk w' w2.heap.size #[.int .i64 (l + n), .int .i64 (ft + S), .int .i64 S] 65 ∧ Kept [w2.heap.size] w5 w') := by
      obtain ⟨q1, q2, q3⟩ := HF.out
      have hstr := HT5.out.now.2.1
      rw [q3] at hstr
      have := send_any w2.heap.size l t S f pa pc w5 HM5.out (hstr.mono (fun g _ hg => by omega)) HCKF.out hS0 hS1 l0 l1
      rw [← q1, ← q2, ← q3] at this
      exact this
    go_wp2_with fail
    refine HSEND.out.mono ?_
    rintro e w6 ⟨v, rfl, hrow, hM6, k6⟩
    have HT6 := StayK.goK HT5 k6
    obtain ⟨m0, m1, m2⟩ := hM6.three
    obtain ⟨z0, z1, z2⟩ := HT6.out.now.1.2.2.three
    have hZ := HT6.out.now.1.2.2
    have f0 := hZ.free 0
    have f1 := hZ.free 1
    have f2 := hZ.free 2
    obtain ⟨V, hV⟩ : ∃ V, V = ((w6.setCell ⟨w.heap.size + 1 + 1, 0, none⟩ (.int .i64 (l + n))).setCell ⟨w.heap.size + 1 + 1, 1, none⟩ (.int .i64 (ft + S))).setCell ⟨w.heap.size + 1 + 1, 2, none⟩ (.int .i64 S) := ⟨_, rfl⟩
    have hVB : Blk V (w.heap.size + 1 + 1) #[.int .i64 (l + n), .int .i64 (ft + S), .int .i64 S] 23 := by rw [hV]; exact hZ.put3 _ _ _
    have hVW : Below w.heap.size w V := by
      rw [hV]
      exact ((HT6.out.now.2.2.setCell (p := ⟨w.heap.size + 1 + 1, 0, none⟩) (by show w.heap.size ≤ w.heap.size + 1 + 1; omega) _).setCell (p := ⟨w.heap.size + 1 + 1, 1, none⟩) (by show w.heap.size ≤ w.heap.size + 1 + 1; omega) _).setCell (p := ⟨w.heap.size + 1 + 1, 2, none⟩) (by show w.heap.size ≤ w.heap.size + 1 + 1; omega) _
    have h52 := HM5.out.lt
    have hVR : V.ownsRow w.heap.size 38 6 v n (pkCells (pksOf l (ft + S) fk f.parts)) := by
      rw [hV]
      exact owns_le (ownsRow_setCell_below (ownsRow_setCell_below (ownsRow_setCell_below hrow (by show w.heap.size + 1 + 1 < _; omega) _) (by show w.heap.size + 1 + 1 < _; omega) _) (by show w.heap.size + 1 + 1 < _; omega) _) (by omega)
    obtain ⟨va, vc, ev⟩ := owns_slice6 hrow
    subst ev
    clear hrow hM6 k6 HT6 HT5 HM5 hZ h52 j0 j1 j2 HSEND HF
    go_wp2_with fail
    rw [← hV]
    obtain ⟨r0, r1, r2⟩ := hVB.three
    obtain ⟨o1, o2, o3, o4⟩ := HOP.out
    rw [o1, o4, o3, o2]
    exact bodyPost_ret (v := .tuple #[.agg #[.int .i64 (l + n), .int .i64 (ft + S), .int .i64 S], .slice va n vc, .int .i64 0]) (by simp [results, Try.results7, go_sem, r0, r1, r2]) rfl ⟨_, rfl, hVR, hVW⟩

end Go.Proofs.Ytnpaejknoipicaf

namespace Go.Proofs.Ytnpaejknoipicaf
open Go.RowKit

theorem eql_out (a b c a' b' c' : Int) (w : World) : (binOp .eql 23 (.agg #[.int .i64 a, .int .i64 b, .int .i64 c]) (.agg #[.int .i64 a', .int .i64 b', .int .i64 c'])).run Try.prog w = .ok (.bool ((a == a') && ((b == b') && (c == c')))) w := by
  rw [run_eql_struct, run_equalIn_agg w 9999 23 _ _ (by kernel_rfl) (by kernel_rfl)]
  rw [show (Try.prog.fieldsOf 23) = _ by unfold Program.fieldsOf; rw [Try.underlying23]]
  cases h0 : (a == a')
  · simp [go_sem, h0]
  cases h1 : (b == b')
  · simp [go_sem, h0, h1]
  cases h2 : (c == c')
  · simp [go_sem, h0, h1, h2]
  · simp [go_sem, h0, h1, h2]
theorem roomE_zero {l t s ft : Int} {n : Nat} : roomE l t s ft n = 0 ↔ t ≤ ft + s ∧ ft + s ≤ 1000000 ∧ l + n ≤ 1000000000 := by
  unfold roomE
  repeat' split
  all_goals first | omega | (constructor <;> intro h <;> omega)
theorem roomE_four {l t s ft : Int} {n : Nat} : roomE l t s ft n = 4 ↔ ft + s < t := by
  unfold roomE
  repeat' split
  all_goals first | omega | (constructor <;> intro h <;> omega)
theorem chk_not4 (f : Fr) : ¬ f.chk = 4 := by
  unfold Fr.chk chkF
  repeat' split
  all_goals decide
theorem sd_zero {l t s : Int} {f : Fr} {turn : Bool} (h : sdE l t s f turn = 0) : sdO l t s f turn = (l + f.parts.length, f.time + sdS l t s f.time turn, sdS l t s f.time turn) ∧ sdP l t s f turn = pksOf l (f.time + sdS l t s f.time turn) f.key f.parts ∧ 0 ≤ l ∧ 0 ≤ t ∧ t ≤ f.time + sdS l t s f.time turn ∧ f.time + sdS l t s f.time turn ≤ 1000000 ∧ l + f.parts.length ≤ 1000000000 ∧ 0 < f.parts.length ∧ f.parts.length ≤ 4 ∧ 0 ≤ f.time ∧ f.time ≤ 1000000 ∧ f.chk = 0 := by
  obtain ⟨h1, h2, h3⟩ := sdE_zero.1 h
  obtain ⟨a1, a2, a3, a4, a5, a6⟩ := outE_zero.1 h1
  obtain ⟨r1, r2, r3⟩ := roomE_zero.1 h3
  obtain ⟨c1, c2, c3, c4, _⟩ := chkF_zero h2
  exact ⟨if_pos h, if_pos h, a1, a3, r1, r2, r3, c3, c4, c1, c2, h2⟩
theorem sd_bad {l t s : Int} {f : Fr} {turn : Bool} (h : ¬ sdE l t s f turn = 0) : sdO l t s f turn = (0, 0, 0) ∧ sdP l t s f turn = [] := ⟨if_neg h, if_neg h⟩
theorem sd_four {l t s : Int} {f : Fr} {turn : Bool} (h : sdE l t s f turn = 4) : f.time + sdS l t s f.time turn < t := by
  unfold sdE at h
  by_cases h1 : outE l t s = 0
  · rw [if_pos h1] at h
    by_cases h2 : f.chk = 0
    · rw [if_pos h2] at h; exact roomE_four.1 h
    · rw [if_neg h2] at h; exact absurd h (chk_not4 f)
  · rw [if_neg h1] at h
    exfalso
    revert h
    unfold outE
    repeat' split
    all_goals decide
/-- a row of packets, as its block -/
theorem owns_row6 {w : World} {base n : Nat} {v : Value} {l : List Pk} (h : w.ownsRow base 38 6 v n (pkCells l)) (hl : l.length = n) (hn : 0 < n) : ∃ g c cur, v = .slice (some ⟨g, 0, none⟩) n c ∧ base ≤ g ∧ Blk w g cur 38 ∧ ∀ i j u, i < n → (l[i]?.getD Pk.zero).cells[j]? = some u → cur[i * 6 + j]? = some u := by
  have hs : Pks w v l := by unfold Pks; rw [hl]; exact Sl.of_owns h
  obtain ⟨_, ⟨_, rfl⟩ | ⟨g, cap, cur, rfl, hb, hh, hn', hm, hsz, ht⟩⟩ := h
  · omega
  · refine ⟨g, cap, cur, rfl, hb, hh, fun i j u hi hj => ?_⟩
    obtain ⟨b, off, e, _, hc⟩ := hs.at (k := i) (by omega)
    injection e with e
    injection e with e1 e2 e3
    rw [List.getElem?_eq_getElem (by omega), Option.getD_some] at hj
    have := hc j u hj
    rw [← e1, ← e2, Nat.zero_add] at this
    simp [World.cell?, hh] at this
    simpa using this

theorem Stay.toKb {S : List Nat} {w W : World} {P : World → Prop} (h : Stay w P) (hb : Below w.heap.size w W) (hS : ∀ k ∈ S, w.heap.size ≤ k) : StayK S W P := fun U hk => h U (hb.trans (hk.toBelow hb.size hS))
theorem pkCells_at : ∀ (l : List Pk) (j : Nat) (u : Value), (pkCells l)[j]? = some u → ∃ i r, j = i * 6 + r ∧ i < l.length ∧ (l[i]?.getD Pk.zero).cells[r]? = some u
  | [], j, u, h => by simp [pkCells] at h
  | p :: r, j, u, h => by
    rw [show p :: r = [p] ++ r from rfl, pkCells_append, pkCells_one] at h
    by_cases hj : j < 6
    · rw [List.getElem?_append_left (by simpa [Pk.cells] using hj)] at h
      exact ⟨0, j, by omega, by simp, by simpa using h⟩
    · rw [List.getElem?_append_right (by simp [Pk.cells]; omega)] at h
      obtain ⟨i, q, e1, e2, e3⟩ := pkCells_at r (j - 6) u (by simpa [Pk.cells] using h)
      exact ⟨i + 1, q, by omega, by simpa using e2, by simpa using e3⟩
/-- a block that shows packets -/
theorem Pks.of_blk {w : World} {g n c : Nat} {cur : Array Value} {t : TypeId} {l : List Pk} (hb : Blk w g cur t) (hl : l.length = n) (h : ∀ i j u, i < n → (l[i]?.getD Pk.zero).cells[j]? = some u → cur[i * 6 + j]? = some u) : Pks w (.slice (some ⟨g, 0, none⟩) n c) l := by
  subst hl
  refine ⟨pkCells_len l, .inr ⟨g, 0, c, rfl, hb.lt, fun j u hj => ?_⟩⟩
  obtain ⟨i, r, e1, e2, e3⟩ := pkCells_at l j u hj
  rw [Nat.zero_add, e1]
  exact hb.cell (h i r u e2 e3)
/-- the packets of one time, up to a place, and of another one from there on -/
def pkMix (last t2 t3 : Int) (key : Bool) (ps : List ByteArray) (k i : Nat) : Pk := if i < k then pkAt last t2 key ps i else pkAt last t3 key ps i
theorem pksOf_at {last t : Int} {key : Bool} {ps : List ByteArray} {i : Nat} (h : i < ps.length) : (pksOf last t key ps)[i]?.getD Pk.zero = pkAt last t key ps i := by
  unfold pksOf pksK
  rw [List.getElem?_map, List.getElem?_range h]; rfl
theorem pkMix_step {last t2 t3 : Int} {key : Bool} {ps : List ByteArray} {n k : Nat} {cur : Array Value} (h : ∀ i j u, i < n → (pkMix last t2 t3 key ps k i).cells[j]? = some u → cur[i * 6 + j]? = some u) (hk : k < n) : ∀ i j u, i < n → (pkMix last t2 t3 key ps (k + 1) i).cells[j]? = some u → (cur.setIfInBounds (k * 6 + 1) (.int .i64 t2))[i * 6 + j]? = some u := by
  intro i j u hi hj
  have hj6 : j < 6 := by
    have := (Array.getElem?_eq_some_iff.1 hj).1
    simpa [Pk.cells] using this
  have hsz : k * 6 + 1 < cur.size := by
    have := h k 1 (.int .i64 (pkMix last t2 t3 key ps k k).time) hk rfl
    exact (Array.getElem?_eq_some_iff.1 this).1
  by_cases he : i * 6 + j = k * 6 + 1
  · have e1 : i = k := by omega
    have e2 : j = 1 := by omega
    subst e1 e2
    rw [Array.getElem?_setIfInBounds_self_of_lt hsz]
    rw [pkMix, if_pos (by omega)] at hj
    simpa [pkAt, Pk.cells] using hj
  · rw [Array.getElem?_setIfInBounds_ne (by omega)]
    refine h i j u hi ?_
    by_cases hik : i = k
    · subst hik
      rw [pkMix, if_pos (by omega)] at hj
      rw [pkMix, if_neg (by omega)]
      have hj1 : j ≠ 1 := fun e => he (by omega)
      match j, hj6, hj1, hj with
      | 0, _, _, hj => exact hj
      | 2, _, _, hj => exact hj
      | 3, _, _, hj => exact hj
      | 4, _, _, hj => exact hj
      | 5, _, _, hj => exact hj
    · have : pkMix last t2 t3 key ps (k + 1) i = pkMix last t2 t3 key ps k i := by
        unfold pkMix
        by_cases h1 : i < k
        · rw [if_pos (by omega), if_pos h1]
        · rw [if_neg (by omega), if_neg h1]
      rw [← this]; exact hj

end Go.Proofs.Ytnpaejknoipicaf

namespace Go.Proofs.Ytnpaejknoipicaf

section
variable {last T : Int} {key : Bool} {ps : List ByteArray}
def skAt (last T : Int) (key : Bool) (ps : List ByteArray) (i : Nat) : Sk := ⟨last + 1 + i, pkAt last T key ps i⟩
def sksK (last T : Int) (key : Bool) (ps : List ByteArray) (k : Nat) : List Sk := (List.range k).map (skAt last T key ps)
theorem sksK_succ (k : Nat) : sksK last T key ps (k + 1) = sksK last T key ps k ++ [skAt last T key ps k] := by simp [sksK, List.range_succ]
theorem sksK_len (k : Nat) : (sksK last T key ps k).length = k := by simp [sksK]
theorem sksK_at {k i : Nat} (h : i < k) : (sksK last T key ps k)[i]?.getD Sk.zero = skAt last T key ps i := by
  unfold sksK; rw [List.getElem?_map, List.getElem?_range h]; rfl
theorem sks_take {k : Nat} (hk : k < ps.length) : takeF (sksK last T key ps k) (skAt last T key ps k) = sksK last T key ps (k + 1) := by
  unfold takeF
  by_cases h0 : k = 0
  · subst h0
    rw [if_pos (by simp [skAt, pkAt])]; rfl
  · rw [if_neg (by simp [skAt, pkAt]; exact h0), sksK_succ, if_pos]
    refine ⟨by rw [sksK_len]; omega, ?_⟩
    unfold lastSk folB
    rw [sksK_len, sksK_at (by omega)]
    simp [skAt, pkAt]
    omega
theorem sks_step {k : Nat} (hk : k + 1 < ps.length) (h4 : ps.length ≤ 4) : stepA (sksK last T key ps k, []) (skAt last T key ps k) = (sksK last T key ps (k + 1), []) := by
  have hw : addW (sksK last T key ps k) (skAt last T key ps k) = false := by
    unfold addW
    have : (skAt last T key ps k).p.e = false := by simp [skAt, pkAt]; omega
    rw [this]; simp
  unfold stepA addO
  rw [hw, sks_take (by omega)]
  simp only [Bool.false_eq_true, if_false]
  rw [if_neg (by rw [sksK_len]; omega)]
theorem sks_up (h4 : ps.length ≤ 4) : ∀ k, k < ps.length → upA (sksK last T key ps ps.length) k = (sksK last T key ps k, [])
  | 0, _ => by simp [upA, sksK]
  | k + 1, hk => by
    rw [upA_succ _ _ (by rw [sksK_len]; omega), sks_up h4 k (by omega), sksK_at (by omega)]
    exact sks_step hk h4
theorem sks_frames (h0 : 0 < ps.length) (h4 : ps.length ≤ 4) : framesS (sksK last T key ps ps.length) = [⟨T, key, ps⟩] := by
  unfold framesS
  rw [sksK_len]
  obtain ⟨m, hm⟩ : ∃ m, ps.length = m + 1 := ⟨ps.length - 1, by omega⟩
  have hup := sks_up (last := last) (T := T) (key := key) (ps := ps) h4 m (by omega)
  rw [hm] at hup ⊢
  rw [upA_succ _ _ (by rw [sksK_len]; omega), hup, sksK_at (by omega)]
  have ht : takeF (sksK last T key ps m) (skAt last T key ps m) = sksK last T key ps (m + 1) := sks_take (by omega)
  have hw : addW (sksK last T key ps m) (skAt last T key ps m) = true := by
    unfold addW
    rw [ht, sksK_len]
    have : (skAt last T key ps m).p.e = true := by simp [skAt, pkAt]; omega
    rw [this]; simp
  unfold stepA addT addK addP
  rw [hw, ht, sksK_at (by omega)]
  simp only [if_true, Bool.true_and, List.nil_append]
  have htx : texts (sksK last T key ps (m + 1)) = ps := by
    unfold texts sksK
    rw [List.map_map]
    apply List.ext_getElem
    · simp [hm]
    · intro i h1 h2
      simp [skAt, pkAt, List.getElem?_eq_getElem h2]
  rw [htx]
  simp [skAt, pkAt]
theorem pkAt_chk {i : Nat} (h0 : 0 ≤ T) (h1 : T ≤ 1000000) (h8 : ∀ s ∈ ps, s.size ≤ 8) (hi : i < ps.length) : (pkAt last T key ps i).chk = 0 := by
  have hs : (ps[i]?.getD ByteArray.empty).size ≤ 8 := by
    rw [List.getElem?_eq_getElem hi, Option.getD_some]; exact h8 _ (List.getElem_mem _)
  unfold pkAt Pk.chk
  simp only
  rw [if_neg (by omega), if_neg (by omega), if_neg (by omega), if_neg (by omega), if_neg (by omega)]
  cases (i == 0) <;> simp
theorem skAt_chk {i : Nat} (hl : 65536 ≤ last + 1 + i) (hm : last + 1 + i ≤ 1000000000) (h0 : 0 ≤ T) (h1 : T ≤ 1000000) (h8 : ∀ s ∈ ps, s.size ≤ 8) (hi : i < ps.length) : (skAt last T key ps i).chk = 0 := by
  exact Sk.chk_ok (Cn.isNB_true hl hm) (pkAt_chk h0 h1 h8 hi) rfl
theorem sks_all (h0 : 0 < ps.length) (h4 : ps.length ≤ 4) (hl : 65536 ≤ last + 1) (hm : last + ps.length ≤ 1000000000) (ht0 : 0 ≤ T) (ht1 : T ≤ 1000000) (h8 : ∀ s ∈ ps, s.size ≤ 8) : framesE (sksK last T key ps ps.length) = 0 ∧ framesR (sksK last T key ps ps.length) = [⟨T, key, ps⟩] := by
  have hE : framesE (sksK last T key ps ps.length) = 0 := by
    unfold framesE
    rw [if_neg (by rw [sksK_len]; omega)]
    refine (chkAll_zero _).2 fun x hx => ?_
    obtain ⟨i, hi, rfl⟩ := List.mem_map.1 hx
    have := List.mem_range.1 hi
    exact skAt_chk (by omega) (by omega) ht0 ht1 h8 this
  exact ⟨hE, by unfold framesR; rw [if_pos hE, sks_frames h0 h4]⟩
end

end Go.Proofs.Ytnpaejknoipicaf

namespace Go.Proofs.Ytnpaejknoipicaf
open Go.RowKit

structure SdI (w1 : World) (l t s : Int) (P : List Pk) (E : Int) (f : Fr) (st : Nat) (r : Nat → Value) (b : Nat → Option Nat) (w' : World) : Prop where
  bel : Below w1.heap.size w1 w'
  seven : ∀ p, b 7 = some p → w1.heap.size ≤ p ∧ p < w'.heap.size ∧ (st ≤ 2 → Blk w' p #[.int .i64 0, .int .i64 0, .int .i64 0] 23) ∧ (3 ≤ st → Blk w' p #[.int .i64 l, .int .i64 t, .int .i64 s] 23)
  has7 : 3 ≤ st → ¬ b 7 = none
  one : st = 1 → ∃ pa pc, r 0 = .agg #[.int .i64 f.time, .bool f.key, .slice pa f.parts.length pc] ∧ StrsIn (fun _ => True) w' (.slice pa f.parts.length pc) f.parts
  two : 2 ≤ st → ∃ va vc, r 1 = .tuple #[.agg #[.int .i64 l, .int .i64 t, .int .i64 s], .slice va P.length vc, .int .i64 E] ∧ w'.ownsRow w1.heap.size 38 6 (.slice va P.length vc) P.length (pkCells P) ∧ ∀ p, b 7 = some p → (Value.slice va P.length vc).ownBlock ≠ some p

section
variable {w1 : World} {l t s : Int} {P : List Pk} {E : Int} {f : Fr} {r : Nat → Value} {b : Nat → Option Nat} {w' w'' : World}
theorem SdI.call0 (h : SdI w1 l t s P E f 0 r b w') (hb : Below w'.heap.size w' w'') (pa : Option Addr) (pc : Nat) (hp : StrsIn (fun _ => True) w'' (.slice pa f.parts.length pc) f.parts) : SdI w1 l t s P E f 1 (updR r 0 (.agg #[.int .i64 f.time, .bool f.key, .slice pa f.parts.length pc])) b w'' := by
  refine ⟨h.bel.trans (hb.mono h.bel.size), fun p hp => ?_, fun h => by omega, fun _ => ⟨pa, pc, updR_at _ _ _, hp⟩, fun h => by omega⟩
  obtain ⟨e1, e2, e3, e4⟩ := h.seven p hp
  have := e3 (by omega)
  exact ⟨e1, Nat.lt_of_lt_of_le e2 hb.size, fun _ => this.below hb this.lt, fun h => by omega⟩
theorem SdI.call1 (h : SdI w1 l t s P E f 1 r b w') (hb : Below w'.heap.size w' w'') (va : Option Addr) (vc : Nat) (ho : w''.ownsRow w'.heap.size 38 6 (.slice va P.length vc) P.length (pkCells P)) : SdI w1 l t s P E f 2 (updR r 1 (.tuple #[.agg #[.int .i64 l, .int .i64 t, .int .i64 s], .slice va P.length vc, .int .i64 E])) b w'' := by
  refine ⟨h.bel.trans (hb.mono h.bel.size), fun p hp => ?_, fun h => by omega, fun h => by omega, fun _ => ⟨va, vc, updR_at _ _ _, owns_le ho h.bel.size, fun p hp e => ?_⟩⟩
  · obtain ⟨e1, e2, e3, e4⟩ := h.seven p hp
    have := e3 (by omega)
    exact ⟨e1, Nat.lt_of_lt_of_le e2 hb.size, fun _ => this.below hb this.lt, fun h => by omega⟩
  · have := (h.seven p hp).2.1
    have := (ho.lt p e).1
    omega
theorem SdI.box {st : Nat} (h : SdI w1 l t s P E f st r b w') (hb : b 7 = none) : SdI w1 l t s P E f st r (updO b 7 w'.heap.size) (w'.alloc (.cells #[.int .i64 0, .int .i64 0, .int .i64 0] 23)) := by
  have hs : st ≤ 2 := by
    by_cases h3 : 3 ≤ st
    · exact absurd hb (h.has7 h3)
    · omega
  refine ⟨h.bel.alloc h.bel.size _, fun p hp => ?_, fun h => by omega, fun h0 => ?_, fun h0 => ?_⟩
  · simp [updO] at hp
    subst hp
    exact ⟨h.bel.size, by simp, fun _ => Blk.new _ _ _, fun h => by omega⟩
  · obtain ⟨pa, pc, e, q⟩ := h.one h0
    exact ⟨pa, pc, e, q.alloc _⟩
  · obtain ⟨va, vc, e, q, _⟩ := h.two h0
    refine ⟨va, vc, e, q.alloc _, fun p hp e => ?_⟩
    simp [updO] at hp
    subst hp
    have := (q.lt _ e).2
    omega
theorem SdI.put (h : SdI w1 l t s P E f 2 r b w') {p : Nat} (hp : b 7 = some p) (v : Value) : SdI w1 l t s P E f 3 (updR r 2 v) b (((w'.setCell ⟨p, 0, none⟩ (.int .i64 l)).setCell ⟨p, 1, none⟩ (.int .i64 t)).setCell ⟨p, 2, none⟩ (.int .i64 s)) := by
  obtain ⟨e1, e2, e3, _⟩ := h.seven p hp
  have kg := e3 (Nat.le_refl _)
  refine ⟨((h.bel.setCell e1 _).setCell e1 _).setCell e1 _, fun q hq => ?_, fun _ => by rw [hp]; simp, fun h => by omega, fun _ => ?_⟩
  · rw [hp] at hq
    injection hq with hq
    subst hq
    exact ⟨e1, by simpa using e2, fun h => by omega, fun _ => kg.put3 _ _ _⟩
  · obtain ⟨va, vc, e, q, hn⟩ := h.two (Nat.le_refl _)
    refine ⟨va, vc, by rw [updR_ne (by omega)]; exact e, ?_, hn⟩
    have := hn p hp
    exact ownsRow_setCell_other (ownsRow_setCell_other (ownsRow_setCell_other q this _) this _) this _
end

end Go.Proofs.Ytnpaejknoipicaf

namespace Go.Proofs.Ytnpaejknoipicaf
open Go.RowKit

set_option maxHeartbeats 16000000 in
set_option maxRecDepth 100000 in
theorem outBegun_any (w : World) :
    Calls Try.prog 11 #[] w fun e w' => e = .returned (.bool true) ∧ Below w.heap.size w w' := by
  have HS1 : Hid (∀ (U : World) (pa : Option Addr) (pc : Nat), StrsIn (fun _ => True) U (.slice pa 1 pc) [⟨#[97, 98, 99]⟩] → Calls Try.prog 7 #[.agg #[.int .i64 0, .int .i64 0, .int .i64 0], .agg #[.int .i64 500, .bool true, .slice pa 1 pc], .bool false] U fun e w' => ∃ va vc, e = .returned (.tuple #[.agg #[.int .i64 1, .int .i64 10, .int .i64 (-490)], .slice va 1 vc, .int .i64 0]) ∧ w'.ownsRow U.heap.size 38 6 (.slice va 1 vc) 1 (pkCells [⟨1, 10, true, true, true, ⟨#[97, 98, 99]⟩⟩]) ∧ Below U.heap.size U w') := fun U pa pc h => by
    refine (outSend_any 0 0 0 (pf 500 true) (.slice pa 1 pc) false U h).mono ?_
    rw [show sdO 0 0 0 (pf 500 true) false = (1, 10, (-490)) by kernel_rfl, show sdE 0 0 0 (pf 500 true) false = 0 by kernel_rfl, show sdP 0 0 0 (pf 500 true) false = [⟨1, 10, true, true, true, ⟨#[97, 98, 99]⟩⟩] by kernel_rfl]
    rintro e w' ⟨v, rfl, ho, hb⟩
    obtain ⟨va, vc, ev⟩ := owns_slice6 ho
    subst ev
    exact ⟨va, vc, rfl, ho, hb⟩
  have HS2 : Hid (∀ (U : World) (pa : Option Addr) (pc : Nat), StrsIn (fun _ => True) U (.slice pa 1 pc) [⟨#[97, 98, 99]⟩] → Calls Try.prog 7 #[.agg #[.int .i64 1, .int .i64 10, .int .i64 (-490)], .agg #[.int .i64 503, .bool false, .slice pa 1 pc], .bool false] U fun e w' => ∃ va vc, e = .returned (.tuple #[.agg #[.int .i64 2, .int .i64 13, .int .i64 (-490)], .slice va 1 vc, .int .i64 0]) ∧ w'.ownsRow U.heap.size 38 6 (.slice va 1 vc) 1 (pkCells [⟨2, 13, true, true, false, ⟨#[97, 98, 99]⟩⟩]) ∧ Below U.heap.size U w') := fun U pa pc h => by
    refine (outSend_any 1 10 (-490) (pf 503 false) (.slice pa 1 pc) false U h).mono ?_
    rw [show sdO 1 10 (-490) (pf 503 false) false = (2, 13, (-490)) by kernel_rfl, show sdE 1 10 (-490) (pf 503 false) false = 0 by kernel_rfl, show sdP 1 10 (-490) (pf 503 false) false = [⟨2, 13, true, true, false, ⟨#[97, 98, 99]⟩⟩] by kernel_rfl]
    rintro e w' ⟨v, rfl, ho, hb⟩
    obtain ⟨va, vc, ev⟩ := owns_slice6 ho
    subst ev
    exact ⟨va, vc, rfl, ho, hb⟩
  have HS3 : Hid (∀ (U : World) (pa : Option Addr) (pc : Nat), StrsIn (fun _ => True) U (.slice pa 1 pc) [⟨#[97, 98, 99]⟩] → Calls Try.prog 7 #[.agg #[.int .i64 2, .int .i64 13, .int .i64 (-490)], .agg #[.int .i64 2, .bool true, .slice pa 1 pc], .bool true] U fun e w' => ∃ va vc, e = .returned (.tuple #[.agg #[.int .i64 3, .int .i64 23, .int .i64 21], .slice va 1 vc, .int .i64 0]) ∧ w'.ownsRow U.heap.size 38 6 (.slice va 1 vc) 1 (pkCells [⟨3, 23, true, true, true, ⟨#[97, 98, 99]⟩⟩]) ∧ Below U.heap.size U w') := fun U pa pc h => by
    refine (outSend_any 2 13 (-490) (pf 2 true) (.slice pa 1 pc) true U h).mono ?_
    rw [show sdO 2 13 (-490) (pf 2 true) true = (3, 23, 21) by kernel_rfl, show sdE 2 13 (-490) (pf 2 true) true = 0 by kernel_rfl, show sdP 2 13 (-490) (pf 2 true) true = [⟨3, 23, true, true, true, ⟨#[97, 98, 99]⟩⟩] by kernel_rfl]
    rintro e w' ⟨v, rfl, ho, hb⟩
    obtain ⟨va, vc, ev⟩ := owns_slice6 ho
    subst ev
    exact ⟨va, vc, rfl, ho, hb⟩
  have HS4 : Hid (∀ (U : World) (pa : Option Addr) (pc : Nat), StrsIn (fun _ => True) U (.slice pa 1 pc) [⟨#[97, 98, 99]⟩] → Calls Try.prog 7 #[.agg #[.int .i64 2, .int .i64 13, .int .i64 (-490)], .agg #[.int .i64 2, .bool true, .slice pa 1 pc], .bool false] U fun e w' => ∃ va vc, e = .returned (.tuple #[.agg #[.int .i64 0, .int .i64 0, .int .i64 0], .slice va 0 vc, .int .i64 4]) ∧ w'.ownsRow U.heap.size 38 6 (.slice va 0 vc) 0 (pkCells []) ∧ Below U.heap.size U w') := fun U pa pc h => by
    refine (outSend_any 2 13 (-490) (pf 2 true) (.slice pa 1 pc) false U h).mono ?_
    rw [show sdO 2 13 (-490) (pf 2 true) false = (0, 0, 0) by kernel_rfl, show sdE 2 13 (-490) (pf 2 true) false = 4 by kernel_rfl, show sdP 2 13 (-490) (pf 2 true) false = [] by kernel_rfl]
    rintro e w' ⟨v, rfl, ho, hb⟩
    obtain ⟨va, vc, ev⟩ := owns_slice6 ho
    subst ev
    exact ⟨va, vc, rfl, ho, hb⟩
  have HCK : Hid (∀ U : World, Calls Try.prog 12 #[.agg #[.int .i64 3, .int .i64 23, .int .i64 21]] U fun e w' => e = .returned (.int .i64 0) ∧ Below U.heap.size U w') := fun U => by
    have := outCheck_any 3 23 21 U
    rw [show outE 3 23 21 = 0 by kernel_rfl] at this
    exact this
  go_enter Try.func11, Try.ntmps11
  go_wp2_with fail
  refine (pic_any 500 true w).mono ?_
  rintro e w1 ⟨rfl, q1, b1⟩
  go_wp2_with fail
  refine (HS1.out w1 _ _ (q1.mono fun _ _ _ => trivial)).mono ?_
  rintro e w2 ⟨va1, vc1, rfl, ho1, b2⟩
  obtain ⟨W1, hW1⟩ : ∃ W1, W1 = w2.alloc (.cells #[.int .i64 1, .int .i64 10, .int .i64 (-490)] 23) := ⟨_, rfl⟩
  obtain ⟨CB, hCB⟩ : ∃ n, n = w2.heap.size := ⟨_, rfl⟩
  have KC : Hid (Blk W1 CB #[.int .i64 1, .int .i64 10, .int .i64 (-490)] 23) := by rw [hCB]; exact Blk.newE hW1
  have B1 : Hid (Below w.heap.size w W1) := by
    have h2 : Below w.heap.size w w2 := b1.trans (b2.mono b1.size)
    rw [hW1]; exact h2.alloc h2.size _
  have HR1 : Hid (Stay W1 (fun U => Pks U (.slice va1 1 vc1) ([⟨1, 10, true, true, true, ⟨#[97, 98, 99]⟩⟩] : List Pk))) := by
    have h : Pks W1 (.slice va1 1 vc1) ([⟨1, 10, true, true, true, ⟨#[97, 98, 99]⟩⟩] : List Pk) := by rw [hW1]; exact Sl.of_owns (ho1.alloc _)
    exact fun U hU => h.below hU
  clear b1 b2 q1 ho1 HS1
  go_wp2_with fail
  rw [← hW1, ← hCB]
  clear hW1 hCB
  refine region_boxes (by kernel_rfl) (by kernel_rfl) [.quiet (.agg #[.int .i64 1, .int .i64 10, .int .i64 (-490)]) 3, .step 0, .step 1, .fin 1 (fun r => r), .fin 1 (exT 0), .fin 1 (exT 1), .fin 1 (exT 2), .box, .step 2, .fin 1 (exT 1), .fin 1 (exT 2)] [1, 2, 8] (by kernel_rfl)
    (SdI W1 (2) (13) ((-490)) ([⟨2, 13, true, true, false, ⟨#[97, 98, 99]⟩⟩] : List Pk) 0 (pf 503 false)) ?i0 ?step ?fin
  case i0 => exact ⟨⟨rfl, rfl, rfl, Nat.le_refl _, fun _ _ => rfl⟩, fun _ hp => (by cases hp), fun h => (by omega), fun h => (by omega), fun h => (by omega)⟩
  case step =>
    intro i o ho a' w' s r b hI hfree hvals hbx
    have f1 : a'.eval (.tmp 1) = .pointer (some ⟨CB, 0, none⟩) := (hfree 1 (by kernel_rfl)).trans rfl
    obtain ⟨y0, y1, y2⟩ := (KC.out.below hI.bel KC.out.lt).three
    have ec : ∀ v, a'.eval (.const v) = v := fun _ => rfl
    match i, ho with
    | 0, ho =>
      simp at ho; subst ho
      show s ≤ 3 → (execOp a'.eval _).run _ w' = .ok (.value _) w'
      intro _
      generalize a'.eval = ρ at *
      simp [execOp, go_sem, f1, y0, y1, y2]
    | 1, ho =>
      simp at ho; subst ho
      show s = 0 → _
      intro hs
      subst hs
      have ef : a'.eval (.func 29) = .func (.func 29) #[] #[] := rfl
      refine oper_wp_call (f := 29) (args := #[.int .i64 503, .bool false]) ?_ ((pic_any 503 false w').mono ?_)
      · generalize a'.eval = ρ at *
        simp [execOp, go_sem, ef, ec]
      · rintro e w'' ⟨rfl, q1, b1⟩
        exact ⟨_, rfl, _, rfl, SdI.call0 hI b1 _ _ (q1.mono fun _ _ _ => trivial)⟩
    | 2, ho =>
      simp at ho; subst ho
      show s = 1 → _
      intro hs
      subst hs
      obtain ⟨pa, pc, er, q1⟩ := hI.one rfl
      have e1 : a'.eval (.tmp 22) = .agg #[.int .i64 503, .bool false, .slice pa 1 pc] := (hvals 1 _ _ (by kernel_rfl) rfl rfl).trans er
      have e2 : a'.eval (.tmp 21) = .agg #[.int .i64 1, .int .i64 10, .int .i64 (-490)] := hvals 0 _ _ (by kernel_rfl) rfl rfl
      have ef : a'.eval (.func 7) = .func (.func 7) #[] #[] := rfl
      refine oper_wp_call (f := 7) (args := #[.agg #[.int .i64 1, .int .i64 10, .int .i64 (-490)], .agg #[.int .i64 503, .bool false, .slice pa 1 pc], .bool false]) ?_ ((HS2.out w' pa pc q1).mono ?_)
      · generalize a'.eval = ρ at *
        simp [execOp, go_sem, e1, e2, ef, ec]
      · rintro e w'' ⟨va, vc, rfl, ho, b1⟩
        exact ⟨_, rfl, _, rfl, SdI.call1 hI b1 _ _ ho⟩
    | 3, ho =>
      simp at ho; subst ho
      have e1 : a'.eval (.tmp 23) = r 1 := hvals 2 _ _ (by kernel_rfl) rfl rfl
      show 1 < s → (execOp a'.eval _).run _ w' = .ok (.value _) w'
      intro hs
      obtain ⟨va, vc, er, _⟩ := hI.two hs
      rw [er] at e1 ⊢
      generalize a'.eval = ρ at *
      simp [execOp, go_sem, e1]
    | 4, ho =>
      simp at ho; subst ho
      have e1 : a'.eval (.tmp 20) = r 1 := hvals 3 _ _ (by kernel_rfl) rfl rfl
      show 1 < s → (execOp a'.eval _).run _ w' = .ok (.value _) w'
      intro hs
      obtain ⟨va, vc, er, _⟩ := hI.two hs
      rw [er] at e1 ⊢
      simp only [exT] at e1 ⊢
      generalize a'.eval = ρ at *
      simp [execOp, go_sem, e1]
    | 5, ho =>
      simp at ho; subst ho
      have e1 : a'.eval (.tmp 20) = r 1 := hvals 3 _ _ (by kernel_rfl) rfl rfl
      show 1 < s → (execOp a'.eval _).run _ w' = .ok (.value _) w'
      intro hs
      obtain ⟨va, vc, er, _⟩ := hI.two hs
      rw [er] at e1 ⊢
      simp only [exT] at e1 ⊢
      generalize a'.eval = ρ at *
      simp [execOp, go_sem, e1]
    | 6, ho =>
      simp at ho; subst ho
      have e1 : a'.eval (.tmp 20) = r 1 := hvals 3 _ _ (by kernel_rfl) rfl rfl
      show 1 < s → (execOp a'.eval _).run _ w' = .ok (.value _) w'
      intro hs
      obtain ⟨va, vc, er, _⟩ := hI.two hs
      rw [er] at e1 ⊢
      simp only [exT] at e1 ⊢
      generalize a'.eval = ρ at *
      simp [execOp, go_sem, e1]
    | 7, ho =>
      simp at ho; subst ho
      show b 7 = none → _
      intro hb
      refine ⟨.cells #[.int .i64 0, .int .i64 0, .int .i64 0] 23, ?_, hI.box hb⟩
      generalize a'.eval = ρ at *
      simp [execOp, go_sem]
    | 8, ho =>
      simp at ho; subst ho
      show s = 2 → _
      intro hs
      subst hs
      obtain ⟨va, vc, er, _⟩ := hI.two (by omega)
      obtain ⟨p, hp⟩ := Option.isSome_iff_exists.1 (hbx 7 (by kernel_rfl) rfl)
      have kg := (hI.seven p hp).2.2.1 (Nat.le_refl _)
      have e1 : a'.eval (.tmp 4) = .pointer (some ⟨p, 0, none⟩) := (hvals 7 _ _ (by kernel_rfl) rfl rfl).trans (by show Cm.out r b 7 .box = _; simp [Cm.out, hp])
      have e2 : a'.eval (.tmp 24) = .agg #[.int .i64 2, .int .i64 13, .int .i64 (-490)] := (hvals 4 _ _ (by kernel_rfl) rfl rfl).trans (by show exT 0 (r 1) = _; rw [er]; rfl)
      obtain ⟨t0, t1, t2⟩ := kg.three
      have fr := kg.free
      refine oper_wp_skip (w' := ((w'.setCell ⟨p, 0, none⟩ (.int .i64 2)).setCell ⟨p, 1, none⟩ (.int .i64 13)).setCell ⟨p, 2, none⟩ (.int .i64 (-490))) ?_ ⟨_, rfl, ?_⟩
      · generalize a'.eval = ρ at *
        simp [execOp, go_sem, e1, e2, t0, t1, t2, fr]
      · exact SdI.put hI hp _
    | 9, ho =>
      simp at ho; subst ho
      have e1 : a'.eval (.tmp 25) = exT 1 (r 1) := hvals 5 _ _ (by kernel_rfl) rfl rfl
      show 1 < s → (execOp a'.eval _).run _ w' = .ok (.value _) w'
      intro hs
      obtain ⟨va, vc, er, _⟩ := hI.two hs
      rw [er] at e1 ⊢
      simp only [exT] at e1 ⊢
      generalize a'.eval = ρ at *
      simp [execOp, go_sem, e1]
    | 10, ho =>
      simp at ho; subst ho
      have e1 : a'.eval (.tmp 26) = exT 2 (r 1) := hvals 6 _ _ (by kernel_rfl) rfl rfl
      show 1 < s → (execOp a'.eval _).run _ w' = .ok (.value _) w'
      intro hs
      obtain ⟨va, vc, er, _⟩ := hI.two hs
      rw [er] at e1 ⊢
      simp only [exT] at e1 ⊢
      generalize a'.eval = ρ at *
      simp [execOp, go_sem, e1]
    | i + 11, ho => simp at ho
  case fin =>
    rintro r b Y2 hI hbxs
    obtain ⟨p, hp⟩ := hbxs 7 (by decide) rfl
    obtain ⟨va, vc, er, hrow, _⟩ := hI.two (by decide)
    obtain ⟨_, _, _, n4⟩ := hI.seven p hp
    have KD : Hid (Blk Y2 p #[.int .i64 2, .int .i64 13, .int .i64 (-490)] 23) := n4 (by decide)
    have HBW : Hid (Below W1.heap.size W1 Y2) := hI.bel
    have HR2 : Hid (Stay Y2 (fun U => Pks U (.slice va 1 vc) ([⟨2, 13, true, true, false, ⟨#[97, 98, 99]⟩⟩] : List Pk))) := fun U hU => Pks.below (Sl.of_owns hrow) hU
    simp only [putM, Cm.out, er, hp, exT, Act.put, List.setIfInBounds_toArray, List.set_cons_succ, List.set_cons_zero, List.getElem?_toArray, List.getElem?_cons_zero, List.getElem?_cons_succ, Option.getD_some, List.length_cons, List.length_nil, Nat.zero_add]
    clear hI hbxs hp er n4 hrow
    have HRY := Stay.go HR1 HBW.out
    have B2 : Hid (Below w.heap.size w Y2) := B1.out.trans (HBW.out.mono B1.out.size)
    obtain ⟨va2, hva2⟩ : ∃ x, x = va := ⟨_, rfl⟩
    obtain ⟨vc2, hvc2⟩ : ∃ x, x = vc := ⟨_, rfl⟩
    obtain ⟨PB, hPB⟩ : ∃ x, x = p := ⟨_, rfl⟩
    subst hva2 hvc2 hPB
    clear KC HBW B1 HR1 HS2
    go_wp2_with fail
    refine region_boxes (by kernel_rfl) (by kernel_rfl) [.quiet (.agg #[.int .i64 2, .int .i64 13, .int .i64 (-490)]) 3, .step 0, .step 1, .fin 1 (fun r => r), .fin 1 (exT 0), .fin 1 (exT 1), .fin 1 (exT 2), .box, .step 2, .fin 1 (exT 1), .fin 1 (exT 2)] [1, 2, 8] (by kernel_rfl)
      (SdI Y2 (3) (23) (21) ([⟨3, 23, true, true, true, ⟨#[97, 98, 99]⟩⟩] : List Pk) 0 (pf 2 true)) ?i0 ?step ?fin
    case i0 => exact ⟨⟨rfl, rfl, rfl, Nat.le_refl _, fun _ _ => rfl⟩, fun _ hp => (by cases hp), fun h => (by omega), fun h => (by omega), fun h => (by omega)⟩
    case step =>
      intro i o ho a' w' s r b hI hfree hvals hbx
      have f1 : a'.eval (.tmp 4) = .pointer (some ⟨PB, 0, none⟩) := (hfree 4 (by kernel_rfl)).trans rfl
      obtain ⟨y0, y1, y2⟩ := (KD.out.below hI.bel KD.out.lt).three
      have ec : ∀ v, a'.eval (.const v) = v := fun _ => rfl
      match i, ho with
      | 0, ho =>
        simp at ho; subst ho
        show s ≤ 3 → (execOp a'.eval _).run _ w' = .ok (.value _) w'
        intro _
        generalize a'.eval = ρ at *
        simp [execOp, go_sem, f1, y0, y1, y2]
      | 1, ho =>
        simp at ho; subst ho
        show s = 0 → _
        intro hs
        subst hs
        have ef : a'.eval (.func 29) = .func (.func 29) #[] #[] := rfl
        refine oper_wp_call (f := 29) (args := #[.int .i64 2, .bool true]) ?_ ((pic_any 2 true w').mono ?_)
        · generalize a'.eval = ρ at *
          simp [execOp, go_sem, ef, ec]
        · rintro e w'' ⟨rfl, q1, b1⟩
          exact ⟨_, rfl, _, rfl, SdI.call0 hI b1 _ _ (q1.mono fun _ _ _ => trivial)⟩
      | 2, ho =>
        simp at ho; subst ho
        show s = 1 → _
        intro hs
        subst hs
        obtain ⟨pa, pc, er, q1⟩ := hI.one rfl
        have e1 : a'.eval (.tmp 29) = .agg #[.int .i64 2, .bool true, .slice pa 1 pc] := (hvals 1 _ _ (by kernel_rfl) rfl rfl).trans er
        have e2 : a'.eval (.tmp 28) = .agg #[.int .i64 2, .int .i64 13, .int .i64 (-490)] := hvals 0 _ _ (by kernel_rfl) rfl rfl
        have ef : a'.eval (.func 7) = .func (.func 7) #[] #[] := rfl
        refine oper_wp_call (f := 7) (args := #[.agg #[.int .i64 2, .int .i64 13, .int .i64 (-490)], .agg #[.int .i64 2, .bool true, .slice pa 1 pc], .bool true]) ?_ ((HS3.out w' pa pc q1).mono ?_)
        · generalize a'.eval = ρ at *
          simp [execOp, go_sem, e1, e2, ef, ec]
        · rintro e w'' ⟨va, vc, rfl, ho, b1⟩
          exact ⟨_, rfl, _, rfl, SdI.call1 hI b1 _ _ ho⟩
      | 3, ho =>
        simp at ho; subst ho
        have e1 : a'.eval (.tmp 30) = r 1 := hvals 2 _ _ (by kernel_rfl) rfl rfl
        show 1 < s → (execOp a'.eval _).run _ w' = .ok (.value _) w'
        intro hs
        obtain ⟨va, vc, er, _⟩ := hI.two hs
        rw [er] at e1 ⊢
        generalize a'.eval = ρ at *
        simp [execOp, go_sem, e1]
      | 4, ho =>
        simp at ho; subst ho
        have e1 : a'.eval (.tmp 27) = r 1 := hvals 3 _ _ (by kernel_rfl) rfl rfl
        show 1 < s → (execOp a'.eval _).run _ w' = .ok (.value _) w'
        intro hs
        obtain ⟨va, vc, er, _⟩ := hI.two hs
        rw [er] at e1 ⊢
        simp only [exT] at e1 ⊢
        generalize a'.eval = ρ at *
        simp [execOp, go_sem, e1]
      | 5, ho =>
        simp at ho; subst ho
        have e1 : a'.eval (.tmp 27) = r 1 := hvals 3 _ _ (by kernel_rfl) rfl rfl
        show 1 < s → (execOp a'.eval _).run _ w' = .ok (.value _) w'
        intro hs
        obtain ⟨va, vc, er, _⟩ := hI.two hs
        rw [er] at e1 ⊢
        simp only [exT] at e1 ⊢
        generalize a'.eval = ρ at *
        simp [execOp, go_sem, e1]
      | 6, ho =>
        simp at ho; subst ho
        have e1 : a'.eval (.tmp 27) = r 1 := hvals 3 _ _ (by kernel_rfl) rfl rfl
        show 1 < s → (execOp a'.eval _).run _ w' = .ok (.value _) w'
        intro hs
        obtain ⟨va, vc, er, _⟩ := hI.two hs
        rw [er] at e1 ⊢
        simp only [exT] at e1 ⊢
        generalize a'.eval = ρ at *
        simp [execOp, go_sem, e1]
      | 7, ho =>
        simp at ho; subst ho
        show b 7 = none → _
        intro hb
        refine ⟨.cells #[.int .i64 0, .int .i64 0, .int .i64 0] 23, ?_, hI.box hb⟩
        generalize a'.eval = ρ at *
        simp [execOp, go_sem]
      | 8, ho =>
        simp at ho; subst ho
        show s = 2 → _
        intro hs
        subst hs
        obtain ⟨va, vc, er, _⟩ := hI.two (by omega)
        obtain ⟨p, hp⟩ := Option.isSome_iff_exists.1 (hbx 7 (by kernel_rfl) rfl)
        have kg := (hI.seven p hp).2.2.1 (Nat.le_refl _)
        have e1 : a'.eval (.tmp 7) = .pointer (some ⟨p, 0, none⟩) := (hvals 7 _ _ (by kernel_rfl) rfl rfl).trans (by show Cm.out r b 7 .box = _; simp [Cm.out, hp])
        have e2 : a'.eval (.tmp 31) = .agg #[.int .i64 3, .int .i64 23, .int .i64 21] := (hvals 4 _ _ (by kernel_rfl) rfl rfl).trans (by show exT 0 (r 1) = _; rw [er]; rfl)
        obtain ⟨t0, t1, t2⟩ := kg.three
        have fr := kg.free
        refine oper_wp_skip (w' := ((w'.setCell ⟨p, 0, none⟩ (.int .i64 3)).setCell ⟨p, 1, none⟩ (.int .i64 23)).setCell ⟨p, 2, none⟩ (.int .i64 21)) ?_ ⟨_, rfl, ?_⟩
        · generalize a'.eval = ρ at *
          simp [execOp, go_sem, e1, e2, t0, t1, t2, fr]
        · exact SdI.put hI hp _
      | 9, ho =>
        simp at ho; subst ho
        have e1 : a'.eval (.tmp 32) = exT 1 (r 1) := hvals 5 _ _ (by kernel_rfl) rfl rfl
        show 1 < s → (execOp a'.eval _).run _ w' = .ok (.value _) w'
        intro hs
        obtain ⟨va, vc, er, _⟩ := hI.two hs
        rw [er] at e1 ⊢
        simp only [exT] at e1 ⊢
        generalize a'.eval = ρ at *
        simp [execOp, go_sem, e1]
      | 10, ho =>
        simp at ho; subst ho
        have e1 : a'.eval (.tmp 33) = exT 2 (r 1) := hvals 6 _ _ (by kernel_rfl) rfl rfl
        show 1 < s → (execOp a'.eval _).run _ w' = .ok (.value _) w'
        intro hs
        obtain ⟨va, vc, er, _⟩ := hI.two hs
        rw [er] at e1 ⊢
        simp only [exT] at e1 ⊢
        generalize a'.eval = ρ at *
        simp [execOp, go_sem, e1]
      | i + 11, ho => simp at ho
    case fin =>
      rintro r b Y3 hI hbxs
      obtain ⟨p, hp⟩ := hbxs 7 (by decide) rfl
      obtain ⟨va, vc, er, hrow, _⟩ := hI.two (by decide)
      obtain ⟨_, _, _, n4⟩ := hI.seven p hp
      have KE : Hid (Blk Y3 p #[.int .i64 3, .int .i64 23, .int .i64 21] 23) := n4 (by decide)
      have HBW : Hid (Below Y2.heap.size Y2 Y3) := hI.bel
      simp only [putM, Cm.out, er, hp, exT, Act.put, List.setIfInBounds_toArray, List.set_cons_succ, List.set_cons_zero, List.getElem?_toArray, List.getElem?_cons_zero, List.getElem?_cons_succ, Option.getD_some, List.length_cons, List.length_nil, Nat.zero_add]
      clear hI hbxs hp er n4 hrow
      have HR13 := Stay.go HRY HBW.out
      have HR23 := Stay.go HR2 HBW.out
      have B3 : Hid (Below w.heap.size w Y3) := B2.out.trans (HBW.out.mono B2.out.size)
      have KD3 : Hid (Blk Y3 PB #[.int .i64 2, .int .i64 13, .int .i64 (-490)] 23) := KD.out.below HBW.out KD.out.lt
      obtain ⟨QB, hQB⟩ : ∃ x, x = p := ⟨_, rfl⟩
      subst hQB
      clear KD HBW B2 HRY HR2 HS3
      go_wp2_with fail
      refine region_boxes (by kernel_rfl) (by kernel_rfl) [.quiet (.agg #[.int .i64 2, .int .i64 13, .int .i64 (-490)]) 3, .step 0, .step 1, .fin 1 (fun r => r), .fin 1 (exT 0), .fin 1 (exT 1), .fin 1 (exT 2), .box, .step 2, .fin 1 (exT 1), .fin 1 (exT 2)] [1, 2, 8] (by kernel_rfl)
        (SdI Y3 (0) (0) (0) [] 4 (pf 2 true)) ?i0 ?step ?fin
      case i0 => exact ⟨⟨rfl, rfl, rfl, Nat.le_refl _, fun _ _ => rfl⟩, fun _ hp => (by cases hp), fun h => (by omega), fun h => (by omega), fun h => (by omega)⟩
      case step =>
        intro i o ho a' w' s r b hI hfree hvals hbx
        have f1 : a'.eval (.tmp 4) = .pointer (some ⟨PB, 0, none⟩) := (hfree 4 (by kernel_rfl)).trans rfl
        obtain ⟨y0, y1, y2⟩ := (KD3.out.below hI.bel KD3.out.lt).three
        have ec : ∀ v, a'.eval (.const v) = v := fun _ => rfl
        match i, ho with
        | 0, ho =>
          simp at ho; subst ho
          show s ≤ 3 → (execOp a'.eval _).run _ w' = .ok (.value _) w'
          intro _
          generalize a'.eval = ρ at *
          simp [execOp, go_sem, f1, y0, y1, y2]
        | 1, ho =>
          simp at ho; subst ho
          show s = 0 → _
          intro hs
          subst hs
          have ef : a'.eval (.func 29) = .func (.func 29) #[] #[] := rfl
          refine oper_wp_call (f := 29) (args := #[.int .i64 2, .bool true]) ?_ ((pic_any 2 true w').mono ?_)
          · generalize a'.eval = ρ at *
            simp [execOp, go_sem, ef, ec]
          · rintro e w'' ⟨rfl, q1, b1⟩
            exact ⟨_, rfl, _, rfl, SdI.call0 hI b1 _ _ (q1.mono fun _ _ _ => trivial)⟩
        | 2, ho =>
          simp at ho; subst ho
          show s = 1 → _
          intro hs
          subst hs
          obtain ⟨pa, pc, er, q1⟩ := hI.one rfl
          have e1 : a'.eval (.tmp 36) = .agg #[.int .i64 2, .bool true, .slice pa 1 pc] := (hvals 1 _ _ (by kernel_rfl) rfl rfl).trans er
          have e2 : a'.eval (.tmp 35) = .agg #[.int .i64 2, .int .i64 13, .int .i64 (-490)] := hvals 0 _ _ (by kernel_rfl) rfl rfl
          have ef : a'.eval (.func 7) = .func (.func 7) #[] #[] := rfl
          refine oper_wp_call (f := 7) (args := #[.agg #[.int .i64 2, .int .i64 13, .int .i64 (-490)], .agg #[.int .i64 2, .bool true, .slice pa 1 pc], .bool false]) ?_ ((HS4.out w' pa pc q1).mono ?_)
          · generalize a'.eval = ρ at *
            simp [execOp, go_sem, e1, e2, ef, ec]
          · rintro e w'' ⟨va, vc, rfl, ho, b1⟩
            exact ⟨_, rfl, _, rfl, SdI.call1 hI b1 _ _ ho⟩
        | 3, ho =>
          simp at ho; subst ho
          have e1 : a'.eval (.tmp 37) = r 1 := hvals 2 _ _ (by kernel_rfl) rfl rfl
          show 1 < s → (execOp a'.eval _).run _ w' = .ok (.value _) w'
          intro hs
          obtain ⟨va, vc, er, _⟩ := hI.two hs
          rw [er] at e1 ⊢
          generalize a'.eval = ρ at *
          simp [execOp, go_sem, e1]
        | 4, ho =>
          simp at ho; subst ho
          have e1 : a'.eval (.tmp 34) = r 1 := hvals 3 _ _ (by kernel_rfl) rfl rfl
          show 1 < s → (execOp a'.eval _).run _ w' = .ok (.value _) w'
          intro hs
          obtain ⟨va, vc, er, _⟩ := hI.two hs
          rw [er] at e1 ⊢
          simp only [exT] at e1 ⊢
          generalize a'.eval = ρ at *
          simp [execOp, go_sem, e1]
        | 5, ho =>
          simp at ho; subst ho
          have e1 : a'.eval (.tmp 34) = r 1 := hvals 3 _ _ (by kernel_rfl) rfl rfl
          show 1 < s → (execOp a'.eval _).run _ w' = .ok (.value _) w'
          intro hs
          obtain ⟨va, vc, er, _⟩ := hI.two hs
          rw [er] at e1 ⊢
          simp only [exT] at e1 ⊢
          generalize a'.eval = ρ at *
          simp [execOp, go_sem, e1]
        | 6, ho =>
          simp at ho; subst ho
          have e1 : a'.eval (.tmp 34) = r 1 := hvals 3 _ _ (by kernel_rfl) rfl rfl
          show 1 < s → (execOp a'.eval _).run _ w' = .ok (.value _) w'
          intro hs
          obtain ⟨va, vc, er, _⟩ := hI.two hs
          rw [er] at e1 ⊢
          simp only [exT] at e1 ⊢
          generalize a'.eval = ρ at *
          simp [execOp, go_sem, e1]
        | 7, ho =>
          simp at ho; subst ho
          show b 7 = none → _
          intro hb
          refine ⟨.cells #[.int .i64 0, .int .i64 0, .int .i64 0] 23, ?_, hI.box hb⟩
          generalize a'.eval = ρ at *
          simp [execOp, go_sem]
        | 8, ho =>
          simp at ho; subst ho
          show s = 2 → _
          intro hs
          subst hs
          obtain ⟨va, vc, er, _⟩ := hI.two (by omega)
          obtain ⟨p, hp⟩ := Option.isSome_iff_exists.1 (hbx 7 (by kernel_rfl) rfl)
          have kg := (hI.seven p hp).2.2.1 (Nat.le_refl _)
          have e1 : a'.eval (.tmp 10) = .pointer (some ⟨p, 0, none⟩) := (hvals 7 _ _ (by kernel_rfl) rfl rfl).trans (by show Cm.out r b 7 .box = _; simp [Cm.out, hp])
          have e2 : a'.eval (.tmp 38) = .agg #[.int .i64 0, .int .i64 0, .int .i64 0] := (hvals 4 _ _ (by kernel_rfl) rfl rfl).trans (by show exT 0 (r 1) = _; rw [er]; rfl)
          obtain ⟨t0, t1, t2⟩ := kg.three
          have fr := kg.free
          refine oper_wp_skip (w' := ((w'.setCell ⟨p, 0, none⟩ (.int .i64 0)).setCell ⟨p, 1, none⟩ (.int .i64 0)).setCell ⟨p, 2, none⟩ (.int .i64 0)) ?_ ⟨_, rfl, ?_⟩
          · generalize a'.eval = ρ at *
            simp [execOp, go_sem, e1, e2, t0, t1, t2, fr]
          · exact SdI.put hI hp _
        | 9, ho =>
          simp at ho; subst ho
          have e1 : a'.eval (.tmp 39) = exT 1 (r 1) := hvals 5 _ _ (by kernel_rfl) rfl rfl
          show 1 < s → (execOp a'.eval _).run _ w' = .ok (.value _) w'
          intro hs
          obtain ⟨va, vc, er, _⟩ := hI.two hs
          rw [er] at e1 ⊢
          simp only [exT] at e1 ⊢
          generalize a'.eval = ρ at *
          simp [execOp, go_sem, e1]
        | 10, ho =>
          simp at ho; subst ho
          have e1 : a'.eval (.tmp 40) = exT 2 (r 1) := hvals 6 _ _ (by kernel_rfl) rfl rfl
          show 1 < s → (execOp a'.eval _).run _ w' = .ok (.value _) w'
          intro hs
          obtain ⟨va, vc, er, _⟩ := hI.two hs
          rw [er] at e1 ⊢
          simp only [exT] at e1 ⊢
          generalize a'.eval = ρ at *
          simp [execOp, go_sem, e1]
        | i + 11, ho => simp at ho
      case fin =>
        rintro r b Y4 hI hbxs
        obtain ⟨p, hp⟩ := hbxs 7 (by decide) rfl
        obtain ⟨va, vc, er, hrow, _⟩ := hI.two (by decide)
        obtain ⟨_, _, _, n4⟩ := hI.seven p hp
        have KG : Hid (Blk Y4 p #[.int .i64 0, .int .i64 0, .int .i64 0] 23) := n4 (by decide)
        have HBW : Hid (Below Y3.heap.size Y3 Y4) := hI.bel
        simp only [putM, Cm.out, er, hp, exT, Act.put, List.setIfInBounds_toArray, List.set_cons_succ, List.set_cons_zero, List.getElem?_toArray, List.getElem?_cons_zero, List.getElem?_cons_succ, Option.getD_some, List.length_nil, Nat.zero_add]
        clear hI hbxs hp er n4 hrow
        have HR14 := Stay.go HR13 HBW.out
        have HR24 := Stay.go HR23 HBW.out
        have B4 : Hid (Below w.heap.size w Y4) := B3.out.trans (HBW.out.mono B3.out.size)
        have KE4 : Hid (Blk Y4 QB #[.int .i64 3, .int .i64 23, .int .i64 21] 23) := KE.out.below HBW.out KE.out.lt
        clear KD3 KE HBW B3 HR13 HR23 HS4 KG
        obtain ⟨k0, k1, k2⟩ := KE4.out.three
        go_wp2_with fail
        refine (HCK.out Y4).mono ?_
        rintro e w8 ⟨rfl, b8⟩
        have KE8 := KE4.out.below b8 KE4.out.lt
        have BW : Hid (Below w.heap.size w w8) := B4.out.trans (b8.mono B4.out.size)
        obtain ⟨b1, off1, e1, _, hc1⟩ := (HR14.out w8 b8).at (k := 0) (by decide)
        obtain ⟨b2, off2, e2, _, hc2⟩ := (HR24.out w8 b8).at (k := 0) (by decide)
        have x0 := hc1 0 (.int .i64 1) rfl
        have x1 := hc1 1 (.int .i64 10) rfl
        have x4 := hc1 4 (.bool true) rfl
        have y1 := hc2 1 (.int .i64 13) rfl
        simp only [Nat.zero_mul, Nat.add_zero] at x0 x1 x4 y1
        subst e1 e2
        clear k0 k1 k2 hc1 hc2 HR14 HR24 B4 KE4 b8
        obtain ⟨k0, k1, k2⟩ := KE8.three
        go_wp2
        go_ret
        exact ⟨rfl, BW.out⟩

end Go.Proofs.Ytnpaejknoipicaf

namespace Go.Proofs.Ytnpaejknoipicaf
open Go.RowKit Go.Sort

/-- what Send leaves is right, and goes on -/
theorem sd_next {l t s : Int} {f : Fr} {turn : Bool} (h : sdE l t s f turn = 0) : outE (sdO l t s f turn).1 (sdO l t s f turn).2.1 (sdO l t s f turn).2.2 = 0 ∧ t ≤ (sdO l t s f turn).2.1 ∧ (sdO l t s f turn).1 = l + f.parts.length ∧ (turn = true → (sdO l t s f turn).2.1 = t + 10) := by
  obtain ⟨e1, _, a1, a2, a3, a4, a5, a6, a7, a8, a9, _⟩ := sd_zero h
  obtain ⟨h1, _, _⟩ := sdE_zero.1 h
  obtain ⟨b1, b2, b3, b4, b5, b6⟩ := outE_zero.1 h1
  rw [e1]
  obtain ⟨S, hS⟩ : ∃ x, x = sdS l t s f.time turn := ⟨_, rfl⟩
  rw [← hS] at a3 a4 ⊢
  have hSS : S = t + 10 - f.time ∨ S = s := by
    rw [hS]; unfold sdS; split
    · exact .inl rfl
    · exact .inr rfl
  refine ⟨outE_zero.2 ⟨?_, ?_, ?_, ?_, ?_, ?_⟩, a3, rfl, fun ht => ?_⟩
  · show 0 ≤ l + (f.parts.length : Int); omega
  · exact a5
  · show 0 ≤ f.time + S; omega
  · exact a4
  · show -1000000 ≤ S; omega
  · show S ≤ 1000000; omega
  · have : S = t + 10 - f.time := by rw [hS]; unfold sdS; rw [if_pos (.inl ht)]
    show f.time + S = t + 10
    omega

set_option maxHeartbeats 16000000 in
set_option maxRecDepth 100000 in
theorem outGoes_any (l t s : Int) (f : Fr) (pv : Value) (turn : Bool) (w : World) (hp : StrsIn (fun _ => True) w pv f.parts) :
    Calls Try.prog 4 #[.agg #[.int .i64 l, .int .i64 t, .int .i64 s], .agg #[.int .i64 f.time, .bool f.key, pv], .bool turn] w fun e w' => e = .returned (.bool true) ∧ Below w.heap.size w w' := by
  obtain ⟨pa, pc, ep⟩ := hp.1.len
  obtain ⟨pn, hpn⟩ : ∃ x, x = f.parts.length := ⟨_, rfl⟩
  rw [← hpn] at ep
  obtain ⟨ft, hft⟩ : ∃ x, x = f.time := ⟨_, rfl⟩
  obtain ⟨fk, hfk⟩ : ∃ x, x = f.key := ⟨_, rfl⟩
  obtain ⟨E, hE⟩ : ∃ x, x = sdE l t s f turn := ⟨_, rfl⟩
  obtain ⟨O1, hO1⟩ : ∃ x, x = (sdO l t s f turn).1 := ⟨_, rfl⟩
  obtain ⟨T, hT⟩ : ∃ x, x = (sdO l t s f turn).2.1 := ⟨_, rfl⟩
  obtain ⟨O3, hO3⟩ : ∃ x, x = (sdO l t s f turn).2.2 := ⟨_, rfl⟩
  obtain ⟨P, hP⟩ : ∃ x, x = sdP l t s f turn := ⟨_, rfl⟩
  obtain ⟨n, hn⟩ : ∃ x, x = P.length := ⟨_, rfl⟩
  have HSD : Hid (∀ V : World, Below w.heap.size w V → Calls Try.prog 7 #[.agg #[.int .i64 l, .int .i64 t, .int .i64 s], .agg #[.int .i64 ft, .bool fk, pv], .bool turn] V fun e w' => ∃ va vc, e = .returned (.tuple #[.agg #[.int .i64 O1, .int .i64 T, .int .i64 O3], .slice va n vc, .int .i64 E]) ∧ Hid (Pks w' (.slice va n vc) P) ∧ Below V.heap.size V w') := fun V hV => by
    rw [hft, hfk]
    refine (outSend_any l t s f pv turn V (hp.below hV)).mono ?_
    rintro e w' ⟨v, rfl, ho, hb⟩
    rw [← hP, ← hn] at ho
    obtain ⟨va, vc, ev⟩ := owns_slice6 ho
    subst ev
    rw [hO1, hT, hO3, hE]
    exact ⟨va, vc, rfl, (by show Pks _ _ _; unfold Pks; rw [← hn]; exact Sl.of_owns ho), hb⟩
  have HBAD : Hid (¬ E = 0 → O1 = 0 ∧ T = 0 ∧ O3 = 0 ∧ P = [] ∧ n = 0) := fun h => by
    rw [hE] at h
    obtain ⟨e1, e2⟩ := sd_bad h
    rw [hn, hO1, hT, hO3, e1, hP, e2]; exact ⟨rfl, rfl, rfl, rfl, rfl⟩
  have HGOOD : Hid (E = 0 → outE O1 T O3 = 0 ∧ t ≤ T ∧ O1 = l + pn ∧ (turn = true → T = t + 10) ∧ n = pn ∧ P = pksOf l T fk f.parts ∧ 0 < pn ∧ pn ≤ 4 ∧ 0 ≤ l ∧ l + pn ≤ 1000000000 ∧ 0 ≤ t ∧ T ≤ 1000000 ∧ f.chk = 0) := fun h => by
    rw [hE] at h
    obtain ⟨e1, e2, a1, a2, a3, a4, a5, a6, a7, _, _, a10⟩ := sd_zero h
    obtain ⟨c1, c2, c3, c4⟩ := sd_next h
    have hTT : T = f.time + sdS l t s f.time turn := by rw [hT, e1]
    have hPP : P = pksOf l T fk f.parts := by rw [hP, e2, hTT, hfk]
    refine ⟨by rw [hO1, hT, hO3]; exact c1, by rw [hT]; exact c2, by rw [hO1, hpn]; exact c3, fun ht => by rw [hT]; exact c4 ht, ?_, hPP, by rw [hpn]; exact a6, by rw [hpn]; exact a7, a1, by rw [hpn]; exact a5, a2, by rw [hTT]; exact a4, a10⟩
    rw [hn, hPP, pksOf, pksK_len, hpn]
  have HS : Hid (Stay w (fun V => StrsIn (fun _ => True) V pv f.parts ∧ Below w.heap.size w V)) := hp.stay.and (below_stay0 w)
  have HFF : Hid (pn = f.parts.length ∧ ft = f.time ∧ fk = f.key ∧ n = P.length) := ⟨hpn, hft, hfk, hn⟩
  rw [← hft, ← hfk]
  clear hp hpn hft hfk hE hO1 hT hO3 hP hn
  subst ep
  go_enter Try.func4, Try.ntmps4
  go_wp2_with fail
  obtain ⟨W0, hW0⟩ : ∃ W0, W0 = (w.alloc (.cells #[.int .i64 l, .int .i64 t, .int .i64 s] 23)).alloc (.cells #[.int .i64 ft, .bool fk, .slice pa pn pc] 26) := ⟨_, rfl⟩
  have HS0 : Hid (Stay W0 (fun V => (Blk V w.heap.size #[.int .i64 l, .int .i64 t, .int .i64 s] 23 ∧ Blk V (w.heap.size + 1) #[.int .i64 ft, .bool fk, .slice pa pn pc] 26) ∧ StrsIn (fun _ => True) V (.slice pa pn pc) f.parts ∧ Below w.heap.size w V)) := by
    rw [hW0]
    have h2 := Blk.new (w.alloc (.cells #[.int .i64 l, .int .i64 t, .int .i64 s] 23)) #[.int .i64 ft, .bool fk, .slice pa pn pc] 26
    rw [World.size_alloc] at h2
    exact ((((Blk.new _ _ _).alloc _).stay).and h2.stay).and ((HS.out.alloc _).alloc _)
  rw [← hW0]
  clear hW0 HS
  refine (HSD.out W0 HS0.out.now.2.2).mono ?_
  rintro e w2 ⟨va, vc, rfl, R2, b2⟩
  obtain ⟨W2, hW2⟩ : ∃ W2, W2 = w2.alloc (.cells #[.int .i64 O1, .int .i64 T, .int .i64 O3] 23) := ⟨_, rfl⟩
  have HS2 : Hid (Stay W2 (fun V => ((Blk V w.heap.size #[.int .i64 l, .int .i64 t, .int .i64 s] 23 ∧ Blk V (w.heap.size + 1) #[.int .i64 ft, .bool fk, .slice pa pn pc] 26) ∧ StrsIn (fun _ => True) V (.slice pa pn pc) f.parts ∧ Below w.heap.size w V) ∧ (Blk V w2.heap.size #[.int .i64 O1, .int .i64 T, .int .i64 O3] 23 ∧ Pks V (.slice va n vc) P))) :=
    (Stay.allocE (Stay.go HS0 b2) hW2).out.and ((Blk.newE hW2).stay.and (fun V hV => (by
      have h : Pks W2 (.slice va n vc) P := by rw [hW2]; exact R2.out.below ((Below.refl _ _).alloc (Nat.le_refl _) _)
      exact h.below hV)))
  clear b2 R2 HS0 HSD
  go_wp2_with fail
  rw [← hW2]
  clear hW2
  refine (outBegun_any W2).mono ?_
  rintro e w3 ⟨rfl, b3⟩
  have HS3 := Stay.go HS2 b3
  clear b3 HS2
  go_wp2_with fail
  refine (frameBegun_any w3).mono ?_
  rintro e w4 ⟨rfl, b4⟩
  have HS4 := Stay.go HS3 b4
  clear b4 HS3
  obtain ⟨a0, a1, a2⟩ := HS4.out.now.2.1.three
  obtain ⟨k0, k1, k2⟩ := HS4.out.now.1.1.1.three
  obtain ⟨j0, j1, j2⟩ := HS4.out.now.1.1.2.three
  have BW : Hid (Below w.heap.size w w4) := HS4.out.now.1.2.2
  by_cases h1 : E = 0
  case neg =>
    obtain ⟨rfl, rfl, rfl, rfl, rfl⟩ := HBAD.out h1
    have hq := fun W => eql_out 0 0 0 0 0 0 W
    clear HS4
    go_wp2
    go_ret
    exact ⟨rfl, BW.out⟩
  obtain ⟨g1, g2, g3, g4, g5, g6, g7, g8, g9, g10, g11, g12, g13⟩ := HGOOD.out h1
  subst h1 g3 g5
  have HPP : Hid (P = pksOf l T fk f.parts) := g6
  have HCH : Hid (f.chk = 0) := g13
  have HTT : Hid (turn = true → T = t + 10) := g4
  have HCK : Hid (Calls Try.prog 12 #[.agg #[.int .i64 (l + n), .int .i64 T, .int .i64 O3]] w4 fun e w' => e = .returned (.int .i64 0) ∧ Below w4.heap.size w4 w') := by
    have := outCheck_any (l + n) T O3 w4
    rw [g1] at this
    exact this
  have hTt : ¬ T < t := by omega
  clear g1 g2 g4 g6 g13 HBAD HGOOD
  go_upto_region 6 with fail
  go_cut [76] (fun s76 wc => s76 = .bool false ∧ Hid (Below w4.heap.size w4 wc))
  case first =>
    go_wp2_with fail
    refine HCK.out.mono ?_
    rintro e w5 ⟨rfl, b5⟩
    have B5 : Hid (Below w4.heap.size w4 w5) := b5
    have HS5 := Stay.go HS4 b5
    clear b5 a0 a1 a2 k0 k1 k2 j0 j1 j2 HCK
    obtain ⟨a0, a1, a2⟩ := HS5.out.now.2.1.three
    obtain ⟨k0, k1, k2⟩ := HS5.out.now.1.1.1.three
    obtain ⟨j0, j1, j2⟩ := HS5.out.now.1.1.2.three
    cases turn
    · go_wp2_with fail
      go_meet
      case rel => exact ⟨by simp; omega, B5.out⟩
    · have hT10 := HTT.out rfl
      go_wp2_with fail
      go_meet
      case rel => exact ⟨by simp; omega, B5.out⟩
  case rest =>
    obtain ⟨rfl, HB⟩ := hcut
    have HS6 := Stay.go HS4 HB.out
    clear HS4 HB HCK a0 a1 a2 k0 k1 k2 j0 j1 j2 BW
    go_wp2_with fail
    obtain ⟨base, hbase⟩ : ∃ x, x = wc.heap.size := ⟨_, rfl⟩
    have HBASE : Hid (base = wc.heap.size) := hbase
    go_loopw [10, 11] (fun sl i wr => ∃ k : Nat, k ≤ n ∧ i = .int .i64 k ∧ Hid (wr.ownsRow base 41 7 sl k (skCells (sksK l T fk f.parts k))) ∧ Hid (Below base wc wr) ∧ (0 < k → 65536 ≤ l + 1))
      (fun _ i _ => n - (intOf i).toNat)
    case atStart => exact ⟨0, Nat.zero_le _, rfl, World.ownsRow_nil _ _ _ _, Below.refl _ _, fun h => absurd h (Nat.lt_irrefl _)⟩
    case round =>
      obtain ⟨k, hk, rfl, HO, HB', hge0⟩ := hrel
      obtain ⟨sv, hsv⟩ : ∃ v, v = u10 := ⟨_, rfl⟩
      subst hsv
      obtain ⟨wA, hwA⟩ : ∃ x, x = wc := ⟨_, rfl⟩
      subst hwA
      have HW : Hid (Below wA.heap.size wA wr) := by have := HB'.out; rw [HBASE.out] at this; exact this
      have HPA : Hid (Pks wA (.slice va n vc) P) := HS6.out.now.2.2
      have HLT : Hid (w.heap.size < base ∧ w2.heap.size < base) := by rw [HBASE.out]; exact ⟨HS6.out.now.1.1.1.lt, HS6.out.now.2.1.lt⟩
      have HBA : Hid (wA.heap.size = base) := hbase.symm
      have HSr := Stay.go HS6 HW.out
      have HPr : Hid (Pks wr (.slice va n vc) P) := HSr.out.now.2.2
      have BW : Hid (Below w.heap.size w wr) := HSr.out.now.1.2.2
      clear HBASE hbase
      by_cases hlt : k < n
      · have hlti : (k : Int) < (n : Int) := by omega
        have hkP : k < P.length := by rw [← HFF.out.2.2.2]; exact hlt
        obtain ⟨b, off, e1, hbA, hcA⟩ := HPA.out.at hkP
        have hb : b < wr.heap.size := Nat.lt_of_lt_of_le hbA HW.out.size
        have hc : ∀ j u, (P[k]).cells[j]? = some u → wr.cell? ⟨b, off + k * 6 + j, none⟩ = some u := fun j u hj => (HW.out.cell (p := ⟨b, off + k * 6 + j, none⟩) hbA).trans (hcA j u hj)
        have HBB : Hid (b < base) := by rw [HBA.out] at hbA; exact hbA
        clear hcA hbA
        obtain ⟨sq, hsq⟩ : ∃ x, x = (l + 1 + (k : Int)) % 65536 := ⟨_, rfl⟩
        obtain ⟨xf, hxf⟩ : ∃ x, x = (k == 0) := ⟨_, rfl⟩
        obtain ⟨xe, hxe⟩ : ∃ x, x = (k == f.parts.length - 1) := ⟨_, rfl⟩
        obtain ⟨xk, hxk⟩ : ∃ x, x = ((k == 0) && fk) := ⟨_, rfl⟩
        obtain ⟨xt, hxt⟩ : ∃ x, x = f.parts[k]?.getD ByteArray.empty := ⟨_, rfl⟩
        have hXp : pkAt l T fk f.parts k = ⟨sq, T, xf, xe, xk, xt⟩ := by rw [hsq, hxf, hxe, hxk, hxt]; rfl
        have hPk : P[k] = ⟨sq, T, xf, xe, xk, xt⟩ := by
          have h1 : P[k]?.getD Pk.zero = pkAt l T fk f.parts k := by rw [HPP.out]; exact pksOf_at (by rw [← HFF.out.1]; exact hlt)
          rw [List.getElem?_eq_getElem hkP, Option.getD_some] at h1
          rw [h1, hXp]
        rw [hPk] at hc
        have d0 := hc 0 (.int .i64 sq) rfl
        have d1 := hc 1 (.int .i64 T) rfl
        have d2 := hc 2 (.bool xf) rfl
        have d3 := hc 3 (.bool xe) rfl
        have d4 := hc 4 (.bool xk) rfl
        have d5 := hc 5 (.string xt) rfl
        simp only [Nat.add_zero] at d0
        have HSL : Hid (sksK l T fk f.parts (k + 1) = sksK l T fk f.parts k ++ [⟨l + 1 + k, ⟨sq, T, xf, xe, xk, xt⟩⟩]) := by
          rw [← hXp]; exact sksK_succ k
        have hXc : (Pk.mk sq T xf xe xk xt).chk = 0 := by rw [← hXp]; exact pkAt_chk (by omega) g12 (chkF_zero HCH.out).2.2.2.2 (by rw [← HFF.out.1]; exact hlt)
        have HCKX : Hid (∀ W : World, Calls Try.prog 15 #[.agg #[.int .i64 sq, .int .i64 T, .bool xf, .bool xe, .bool xk, .string xt]] W fun e w' => e = .returned (.int .i64 0) ∧ Below W.heap.size W w') := fun W => by
          refine (check_any ⟨sq, T, xf, xe, xk, xt⟩ W).mono ?_
          rintro e w' ⟨rfl, rfl⟩
          exact ⟨by rw [hXc], (Below.refl _ _).alloc (Nat.le_refl _) _⟩
        have hw1 : IntKind.i64.wrap (l + 1) = l + 1 := by rw [IntKind.wrap_i64]; omega
        have hw2 : IntKind.i64.wrap (l + 1 + (k : Int)) = l + 1 + (k : Int) := by rw [IntKind.wrap_i64]; omega
        have hrem : (l + 1 + (k : Int)).tmod 65536 = sq := by rw [hsq, Int.tmod_eq_emod_of_nonneg (by omega)]
        obtain ⟨k0, k1, k2⟩ := HSr.out.now.1.1.1.three
        obtain ⟨a0, a1, a2⟩ := HSr.out.now.2.1.three
        have lO := HSr.out.now.1.1.1.lt
        have lA := HSr.out.now.2.1.lt
        have cK : ∀ d os, Calls Try.prog 15 #[.agg #[.int .i64 sq, .int .i64 T, .bool xf, .bool xe, .bool xk, .string xt]] (grow (redrawn wr d) os) fun e w'' => e = .returned (.int .i64 0) ∧ ∃ p : Regrown, w'' = grow (redrawn wr p.d) p.os := fun d os => Calls.regrown_of (HCKX.out _)
        have z0 := cell_regrown k0
        have z1 := cell_regrown a1
        have y0 := cell_regrown d0
        have y1 := cell_regrown d1
        have y2 := cell_regrown d2
        have y3 := cell_regrown d3
        have y4 := cell_regrown d4
        have y5 := cell_regrown d5
        have HD : Hid (b < wr.heap.size ∧ wr.cell? ⟨b, off + k * 6, none⟩ = some (.int .i64 sq) ∧ wr.cell? ⟨b, off + k * 6 + 1, none⟩ = some (.int .i64 T) ∧ wr.cell? ⟨b, off + k * 6 + 2, none⟩ = some (.bool xf) ∧ wr.cell? ⟨b, off + k * 6 + 3, none⟩ = some (.bool xe) ∧ wr.cell? ⟨b, off + k * 6 + 4, none⟩ = some (.bool xk) ∧ wr.cell? ⟨b, off + k * 6 + 5, none⟩ = some (.string xt)) := ⟨hb, d0, d1, d2, d3, d4, d5⟩
        subst e1
        clear k0 k1 k2 a0 a1 a2 d0 d1 d2 d3 d4 d5 hc hPk hXp hXc hb HCKX hsq hxf hxe hxk hxt hkP
        go_upto_region 12 with fail
        go_cut [112] (fun s112 wq => s112 = .bool false ∧ Hid (Below wr.heap.size wr wq))
        case first =>
          refine wp_region_quiet_below (by kernel_rfl) (by kernel_rfl) ?_
          iterate 30 (quiet_step (exact cK _ _))
          refine wpQuiet_nil ?_
          intro _ hw'
          obtain ⟨⟨dq, osq⟩, hw''⟩ := hw'
          subst hw''
          have bR := below_regrown wr dq osq
          obtain ⟨V0, hV0⟩ : ∃ V, V = grow (redrawn wr dq) osq := ⟨_, rfl⟩
          rw [← hV0] at bR
          rw [← hV0]
          clear hV0 cK z0 z1 y0 y1 y2 y3 y4 y5
          go_wp2_with fail
          go_meet
          case rel => exact ⟨rfl, bR⟩
        case rest =>
          obtain ⟨rfl, HQ⟩ := hcut
          clear cK z0 z1 y0 y1 y2 y3 y4 y5 hrem
          have HSq := Stay.go HSr HQ.out
          obtain ⟨k0, k1, k2⟩ := HSq.out.now.1.1.1.three
          have lOb := HSq.out.now.1.1.1.lt
          have BWq : Hid (Below w.heap.size w wc) := HSq.out.now.1.2.2
          by_cases hge : 65536 ≤ l + 1 + (k : Int)
          case neg =>
            have hge' : (l + 1 + (k : Int)) < 65536 := by omega
            clear HSq HSr
            go_wp2
            go_ret
            exact ⟨rfl, BWq.out⟩
          have hge2 : ¬ (l + 1 + (k : Int)) < 65536 := by omega
          have hgeZ : 65536 ≤ l + 1 := by
            by_cases hz : k = 0
            · omega
            · exact hge0 (by omega)
          have HOW : Hid (wc.ownsRow base 41 7 sv k (skCells (sksK l T fk f.parts k))) := owns_below HO.out HQ.out (Nat.le_refl _)
          have HB2 : Hid (Below base wA wc) := HB'.out.trans (HQ.out.mono (by rw [← HBA.out]; exact HW.out.size))
          have hbs : base ≤ wc.heap.size := by rw [← HBA.out]; exact Nat.le_trans HW.out.size HQ.out.size
          have own : ∀ x, x < base → some x ≠ sv.ownBlock := fun x hx e => by have := (HOW.out.lt x e.symm).1; omega
          have nOb := own _ HLT.out.1
          have nb := own _ HBB.out
          have lb : b < wc.heap.size := Nat.lt_of_lt_of_le HD.out.1 HQ.out.size
          obtain ⟨d0, d1, d2, d3, d4, d5⟩ : wc.cell? ⟨b, off + k * 6, none⟩ = some (.int .i64 sq) ∧ wc.cell? ⟨b, off + k * 6 + 1, none⟩ = some (.int .i64 T) ∧ wc.cell? ⟨b, off + k * 6 + 2, none⟩ = some (.bool xf) ∧ wc.cell? ⟨b, off + k * 6 + 3, none⟩ = some (.bool xe) ∧ wc.cell? ⟨b, off + k * 6 + 4, none⟩ = some (.bool xk) ∧ wc.cell? ⟨b, off + k * 6 + 5, none⟩ = some (.string xt) := by
            obtain ⟨h0, h1, h2, h3, h4, h5, h6⟩ := HD.out
            exact ⟨(HQ.out.cell (p := ⟨b, off + k * 6, none⟩) h0).trans h1, (HQ.out.cell (p := ⟨b, off + k * 6 + 1, none⟩) h0).trans h2, (HQ.out.cell (p := ⟨b, off + k * 6 + 2, none⟩) h0).trans h3, (HQ.out.cell (p := ⟨b, off + k * 6 + 3, none⟩) h0).trans h4, (HQ.out.cell (p := ⟨b, off + k * 6 + 4, none⟩) h0).trans h5, (HQ.out.cell (p := ⟨b, off + k * 6 + 5, none⟩) h0).trans h6⟩
          have hk9 : k ≤ 999 := by omega
          clear own HSq HSr HD
          go_upto_region 16 with fail
          clear k1 k2
          obtain ⟨wr3, hwr3⟩ : ∃ x, x = wc := ⟨_, rfl⟩
          subst hwr3
          obtain ⟨SL, hSL2⟩ : ∃ x, x = sksK l T fk f.parts k := ⟨_, rfl⟩
          rw [← hSL2] at HOW HSL
          clear hSL2
          refine region_chainG (by kernel_rfl) (by kernel_rfl) [.quiet (sv) 3, .quiet (.pointer (some ⟨w.heap.size, 0, none⟩)) 3, .quiet (.int .i64 l) 3, .quiet (.int .i64 (l + 1)) 3, .quiet (.int .i64 k) 3, .quiet (.int .i64 (l + 1 + k)) 3, .quiet (.slice (some ⟨b, off, none⟩) n vc) 3, .quiet (.int .i64 k) 3, .quiet (.pointer (some ⟨b, off + k * 6, none⟩)) 3, .quiet (.agg #[.int .i64 sq, .int .i64 T, .bool xf, .bool xe, .bool xk, .string xt]) 3, .quiet (.agg #[.int .i64 (l + 1 + k), .int .i64 sq, .int .i64 T, .bool xf, .bool xe, .bool xk, .string xt]) 3, .step 0, .step 1, .step 2] [11, 12, 13] (by kernel_rfl)
            (fun s r w' => match s with
              | 0 => Below wr3.heap.size wr3 w'
              | 1 => ∃ V, Below wr3.heap.size wr3 V ∧ w' = V.alloc (.cells #[.int .i64 (l + 1 + k), .int .i64 sq, .int .i64 T, .bool xf, .bool xe, .bool xk, .string xt] 41) ∧ r 0 = .slice (some ⟨V.heap.size, 0, none⟩) 1 1
              | 2 => ∃ V, Below wr3.heap.size wr3 V ∧ w'.ownsRow base 41 7 (r 1) (k + 1) (skCells (SL ++ [⟨l + 1 + k, ⟨sq, T, xf, xe, xk, xt⟩⟩])) ∧ (V.alloc (.cells #[.int .i64 (l + 1 + k), .int .i64 sq, .int .i64 T, .bool xf, .bool xe, .bool xk, .string xt] 41)).grownBy w' sv.ownBlock
              | _ => ∃ V, Below wr3.heap.size wr3 V ∧ w'.ownsRow base 41 7 (r 2) (k + 1) (skCells (SL ++ [⟨l + 1 + k, ⟨sq, T, xf, xe, xk, xt⟩⟩])) ∧ (V.alloc (.cells #[.int .i64 (l + 1 + k), .int .i64 sq, .int .i64 T, .bool xf, .bool xe, .bool xk, .string xt] 41)).grownBy w' sv.ownBlock
              ) ((Below.refl _ wr3).drew) ?step ?fin
          case step =>
            intro i o ho a' w' s r hI hfree hvals
            have hcell : ∀ a : Addr, a.block < wr3.heap.size → some a.block ≠ sv.ownBlock → w'.cell? a = wr3.cell? a := fun a ha hne => by
              match s, hI with
              | 0, hI => exact Below.cell hI ha
              | 1, ⟨V, hI, hw, _⟩ => rw [hw]; exact Below.cell (hI.alloc hI.size _) ha
              | 2, ⟨V, hI, _, hg⟩ => exact (grown_cell hg (by simp; have := hI.size; omega) hne).trans (Below.cell (hI.alloc hI.size _) ha)
              | n + 3, ⟨V, hI, _, hg⟩ => exact (grown_cell hg (by simp; have := hI.size; omega) hne).trans (Below.cell (hI.alloc hI.size _) ha)
            have y0 := (hcell ⟨w.heap.size, 0, none⟩ lOb nOb).trans k0
            have c0 := (hcell ⟨b, off + k * 6, none⟩ lb nb).trans d0
            have c1 := (hcell ⟨b, off + k * 6 + 1, none⟩ lb nb).trans d1
            have c2 := (hcell ⟨b, off + k * 6 + 2, none⟩ lb nb).trans d2
            have c3 := (hcell ⟨b, off + k * 6 + 3, none⟩ lb nb).trans d3
            have c4 := (hcell ⟨b, off + k * 6 + 4, none⟩ lb nb).trans d4
            have c5 := (hcell ⟨b, off + k * 6 + 5, none⟩ lb nb).trans d5
            clear hcell
            match i, ho with
            | 0, ho =>
              simp at ho; subst ho
              have e10 : a'.eval (.tmp 10) = sv := (hfree 10 (by kernel_rfl)).trans rfl
              show s ≤ 3 → _
              intro hs
              refine .inl ⟨rfl, ?_⟩
              generalize a'.eval = ρ at *
              simp [execOp, go_sem, e10]
            | 1, ho =>
              simp at ho; subst ho
              have e3 : a'.eval (.tmp 3) = .pointer (some ⟨w.heap.size, 0, none⟩) := (hfree 3 (by kernel_rfl)).trans rfl
              show s ≤ 3 → _
              intro hs
              refine .inl ⟨rfl, ?_⟩
              generalize a'.eval = ρ at *
              simp [execOp, go_sem, e3]
            | 2, ho =>
              simp at ho; subst ho
              have e120 : a'.eval (.tmp 120) = .pointer (some ⟨w.heap.size, 0, none⟩) := hvals 1 _ _ (by kernel_rfl) rfl rfl
              show s ≤ 3 → _
              intro hs
              refine .inl ⟨rfl, ?_⟩
              generalize a'.eval = ρ at *
              simp [execOp, go_sem, e120, y0]
            | 3, ho =>
              simp at ho; subst ho
              have e121 : a'.eval (.tmp 121) = .int .i64 l := hvals 2 _ _ (by kernel_rfl) rfl rfl
              have ec0 : a'.eval (.const (.int .i64 1)) = .int .i64 1 := rfl
              show s ≤ 3 → _
              intro hs
              refine .inl ⟨rfl, ?_⟩
              generalize a'.eval = ρ at *
              simp [execOp, go_sem, e121, ec0, hw1]
            | 4, ho =>
              simp at ho; subst ho
              have e11 : a'.eval (.tmp 11) = .int .i64 k := (hfree 11 (by kernel_rfl)).trans rfl
              show s ≤ 3 → _
              intro hs
              refine .inl ⟨rfl, ?_⟩
              generalize a'.eval = ρ at *
              simp [execOp, go_sem, e11]
            | 5, ho =>
              simp at ho; subst ho
              have e122 : a'.eval (.tmp 122) = .int .i64 (l + 1) := hvals 3 _ _ (by kernel_rfl) rfl rfl
              have e123 : a'.eval (.tmp 123) = .int .i64 k := hvals 4 _ _ (by kernel_rfl) rfl rfl
              show s ≤ 3 → _
              intro hs
              refine .inl ⟨rfl, ?_⟩
              generalize a'.eval = ρ at *
              simp [execOp, go_sem, e122, e123, hw2]
            | 6, ho =>
              simp at ho; subst ho
              have e8 : a'.eval (.tmp 8) = .slice (some ⟨b, off, none⟩) n vc := (hfree 8 (by kernel_rfl)).trans rfl
              show s ≤ 3 → _
              intro hs
              refine .inl ⟨rfl, ?_⟩
              generalize a'.eval = ρ at *
              simp [execOp, go_sem, e8]
            | 7, ho =>
              simp at ho; subst ho
              have e11 : a'.eval (.tmp 11) = .int .i64 k := (hfree 11 (by kernel_rfl)).trans rfl
              show s ≤ 3 → _
              intro hs
              refine .inl ⟨rfl, ?_⟩
              generalize a'.eval = ρ at *
              simp [execOp, go_sem, e11]
            | 8, ho =>
              simp at ho; subst ho
              have e125 : a'.eval (.tmp 125) = .slice (some ⟨b, off, none⟩) n vc := hvals 6 _ _ (by kernel_rfl) rfl rfl
              have e126 : a'.eval (.tmp 126) = .int .i64 k := hvals 7 _ _ (by kernel_rfl) rfl rfl
              show s ≤ 3 → _
              intro hs
              refine .inl ⟨rfl, ?_⟩
              generalize a'.eval = ρ at *
              simp [execOp, go_sem, e125, e126, hlti]
            | 9, ho =>
              simp at ho; subst ho
              have e127 : a'.eval (.tmp 127) = .pointer (some ⟨b, off + k * 6, none⟩) := hvals 8 _ _ (by kernel_rfl) rfl rfl
              show s ≤ 3 → _
              intro hs
              refine .inl ⟨rfl, ?_⟩
              generalize a'.eval = ρ at *
              simp [execOp, go_sem, e127, c0, c1, c2, c3, c4, c5]
            | 10, ho =>
              simp at ho; subst ho
              have e124 : a'.eval (.tmp 124) = .int .i64 (l + 1 + k) := hvals 5 _ _ (by kernel_rfl) rfl rfl
              have e128 : a'.eval (.tmp 128) = .agg #[.int .i64 sq, .int .i64 T, .bool xf, .bool xe, .bool xk, .string xt] := hvals 9 _ _ (by kernel_rfl) rfl rfl
              show s ≤ 3 → _
              intro hs
              refine .inl ⟨rfl, ?_⟩
              generalize a'.eval = ρ at *
              simp [execOp, go_sem, e124, e128]
            | 11, ho =>
              simp at ho; subst ho
              have e129 : a'.eval (.tmp 129) = .agg #[.int .i64 (l + 1 + k), .int .i64 sq, .int .i64 T, .bool xf, .bool xe, .bool xk, .string xt] := hvals 10 _ _ (by kernel_rfl) rfl rfl
              show s = 0 → _ ∧ Oper.wp _ _ _ _ _ _
              intro hs
              subst hs
              refine ⟨rfl, ?_⟩
              have hB : Below wr3.heap.size wr3 w' := hI
              refine oper_wp_ok (v := .slice (some ⟨w'.heap.size, 0, none⟩) 1 1) (w' := w'.alloc (.cells #[.int .i64 (l + 1 + k), .int .i64 sq, .int .i64 T, .bool xf, .bool xe, .bool xk, .string xt] 41)) ?_ ⟨_, rfl, w', hB, rfl, updR_at _ _ _⟩
              generalize a'.eval = ρ at *
              simp [execOp, go_sem, e129]
            | 12, ho =>
              simp at ho; subst ho
              have e119 : a'.eval (.tmp 119) = sv := hvals 0 _ _ (by kernel_rfl) rfl rfl
              have e130 : a'.eval (.tmp 130) = r 0 := hvals 11 _ _ (by kernel_rfl) rfl rfl
              show s = 1 → _ ∧ Oper.wp _ _ _ _ _ _
              intro hs
              subst hs
              refine ⟨rfl, ?_⟩
              obtain ⟨V, hB, hw, hr2⟩ := hI
              rw [hr2] at e130
              subst hw
              obtain ⟨v', w2, hrun, g2, g3⟩ := sk_snoc ⟨l + 1 + k, ⟨sq, T, xf, xe, xk, xt⟩⟩ (owns_below HOW.out hB (Nat.le_refl _)) (by omega) (by have := hB.size; omega)
              simp only [Sk.cells] at hrun
              refine oper_wp_ok (v := v') (w' := w2) ?_ ⟨_, rfl, V, hB, ?_, g3⟩
              · generalize a'.eval = ρ at *
                simp [execOp, resolve, invoke, builtin, e119, e130, hrun, Result.andThen]
              · rw [updR_at]; exact g2
            | 13, ho =>
              simp at ho; subst ho
              have e131 : a'.eval (.tmp 131) = r 1 := hvals 12 _ _ (by kernel_rfl) rfl rfl
              show s = 2 → _ ∧ Oper.wp _ _ _ _ _ _
              intro hs
              subst hs
              refine ⟨rfl, ?_⟩
              obtain ⟨V, hB, g2, g3⟩ := hI
              refine oper_wp_ok (v := r 1) (w' := w') ?_ ⟨_, rfl, V, hB, ?_, g3⟩
              · generalize a'.eval = ρ at *
                simp [execOp, go_sem, e131]
              · rw [updR_at]; exact g2
          case fin =>
            rintro r w7 ⟨V, hB, g2, g3⟩
            simp only [putC, Ck.out, Act.put, List.setIfInBounds_toArray, List.set_cons_succ, List.set_cons_zero]
            have HO7 : Hid (w7.ownsRow base 41 7 (r 2) (k + 1) (skCells (sksK l T fk f.parts (k + 1)))) := by rw [HSL.out]; exact g2
            have HB7 : Hid (Below base wA w7) := (((HB2.out.trans (hB.mono hbs)).alloc (by have := hB.size; have := hbs; omega) _).grown g3 (by simp; have := hB.size; have := hbs; omega) (fun j hj => (HOW.out.lt j hj).1))
            clear g2 g3 hB
            go_wp2_with fail
            go_roundw
            case rel => exact ⟨k + 1, by omega, by go_num, HO7.out, HB7.out, fun _ => hgeZ⟩
            case measure => simp [intOf]; omega
      · have hkn : k = n := by omega
        subst hkn
        have hl0 : 65536 ≤ l + 1 := hge0 g7
        have hfl : k = f.parts.length := HFF.out.1
        have hFE := sks_all (last := l) (T := T) (key := fk) (ps := f.parts) (by omega) (by omega) hl0 (by omega) (by omega) g12 (chkF_zero HCH.out).2.2.2.2
        rw [← hfl] at hFE
        obtain ⟨hFE1, hFE2⟩ := hFE
        have hsls : Sls wr sv (sksK l T fk f.parts k) := by
          unfold Sls; rw [sksK_len]; exact Sl.of_owns HO.out
        have HALL : Hid (Calls Try.prog 16 #[sv] wr fun e w' => ∃ ua uc, e = .returned (.tuple #[.slice ua 1 uc, .int .i64 0]) ∧ Hid (Frs w' (.slice ua 1 uc) [⟨T, fk, f.parts⟩]) ∧ Below wr.heap.size wr w') := by
          refine (frameAll_any sv _ wr hsls (by rw [sksK_len]; omega)).mono ?_
          rintro e w' ⟨u, rfl, ho, hb⟩
          rw [hFE2] at ho
          obtain ⟨ua, uc, eu⟩ := ho.len
          subst eu
          rw [hFE1]
          exact ⟨ua, uc, rfl, ho.frs, hb⟩
        have HPS : Hid (∀ W : World, Below wr.heap.size wr W → Strs W (.slice pa k pc) f.parts) := fun W hW => (HSr.out W hW).1.2.1.1
        have hf9 : f.parts.length ≤ 9223372036854775807 := by omega
        clear hsls hFE1 hFE2 HO HB' hge0 hl0 HPr BW HLT HBA HPA HW HS6
        go_wp2_with fail
        refine HALL.out.mono ?_
        rintro e w5 ⟨ua, uc, rfl, RF, b5⟩
        have HS5 := Stay.go HSr b5
        have HPS5 : Hid (Strs w5 (.slice pa k pc) f.parts) := HPS.out w5 b5
        have BW5 : Hid (Below w.heap.size w w5) := HS5.out.now.1.2.2
        obtain ⟨ao, co, eo, hat⟩ := RF.out
        injection eo with eo1 eo2 eo3
        clear eo2
        obtain ⟨b, off, e1, hb, pv, c0, c1, c2, hs, _⟩ := hat 0 (by simp)
        have HSP : Hid (Strs w5 pv f.parts) := hs
        simp only [Nat.zero_mul, Nat.add_zero] at c0 c1 c2
        have c0' : w5.cell? ⟨b, off, none⟩ = some (.int .i64 T) := c0
        have c1' : w5.cell? ⟨b, off + 1, none⟩ = some (.bool fk) := c1
        obtain ⟨qa, qc, eq⟩ := HSP.out.len
        obtain ⟨qn, hqn⟩ : ∃ n, n = f.parts.length := ⟨_, rfl⟩
        rw [← hqn] at eq
        subst eq
        obtain ⟨j0, j1, j2⟩ := HS5.out.now.1.1.2.three
        obtain ⟨a0, a1, a2⟩ := HS5.out.now.2.1.three
        have cS : ∀ d os, Calls Try.prog 17 #[.agg #[.int .i64 T, .bool fk, .slice pa k pc], .agg #[.int .i64 T, .bool fk, .slice qa qn qc]] (grow (redrawn w5 d) os) fun e w'' => e = .returned (.bool true) ∧ ∃ p : Regrown, w'' = grow (redrawn w5 p.d) p.os := fun d os => Calls.regrown_of (by
          have h := sameFrame_any T T fk fk (.slice pa k pc) (.slice qa qn qc) f.parts f.parts (grow (redrawn w5 d) os) (HPS5.out.below (below_regrown w5 d os)) (HSP.out.below (below_regrown w5 d os)) hf9
          rw [(sameFB_iff ⟨T, fk, f.parts⟩ ⟨T, fk, f.parts⟩).2 rfl] at h
          exact h)
        have z0 := cell_regrown j1
        have z1 := cell_regrown j2
        have z2 := cell_regrown a1
        have z3 := cell_regrown c0'
        have z4 := cell_regrown c1'
        have z5 := cell_regrown c2
        subst eo1 eo3 e1
        clear j0 j1 j2 a0 a1 a2 c0 c1 c2 c0' c1' hs hat HS5 HSr RF HPS HALL b5 hb hqn hfl hf9
        go_upto_region 18 with fail
        refine wp_region_quiet_below (by kernel_rfl) (by kernel_rfl) ?_
        iterate 30 (quiet_step (exact cS _ _))
        refine wpQuiet_nil ?_
        intro _ hw'
        obtain ⟨⟨dq, osq⟩, hw''⟩ := hw'
        subst hw''
        have bR := below_regrown w5 dq osq
        obtain ⟨V0, hV0⟩ : ∃ V, V = grow (redrawn w5 dq) osq := ⟨_, rfl⟩
        rw [← hV0] at bR
        rw [← hV0]
        have BV : Hid (Below w.heap.size w V0) := BW5.out.trans (bR.mono BW5.out.size)
        clear hV0 cS z0 z1 z2 z3 z4 z5 bR
        go_wp2
        go_ret
        exact ⟨rfl, BV.out⟩

end Go.Proofs.Ytnpaejknoipicaf

namespace Go.Proofs.Ytnpaejknoipicaf
namespace outGoes
open Go.ChangeShapes Go.WideShapes Go.ChangeAt Go.RowKit

set_option maxRecDepth 100000 in
theorem lifted (os : Os) (started : os.Started) (H : Type) (enc : TypeId × Value → H) :
    ReturnsInHanded {} Try.checked os 4 .any (Rows.outGoesSpec.pre6 enc Try.prog Try.f4 Rows.outGoesRow.domain false) (Rows.outGoesSpec.post enc Try.prog Try.f4 false true false false) := by
  refine returnsInHanded_of_change_sized (C := Try.checked) own started (by kernel_rfl) Try.func4
    (ChangeSpec.witness6 (enc := enc) (C := Try.checked) false ⟨#[], #[.agg #[.int .i64 0, .int .i64 0, .int .i64 0], .agg #[.int .i64 0, .bool false, .slice none 0 0], .bool false], []⟩ 8 (by kernel_rfl) (by kernel_rfl) (by kernel_rfl) (by kernel_rfl)) ?_
  intro W base args ds gs before hval0 hW _ hsz0 _
  have hsz : (DataW.weightsEach Try.prog (Try.f4.params.toList ++ Rows.outGoesSpec.plain.varTypes Try.prog) (ds ++ gs)).all (· ≤ reachBytes) = true := hsz0
  clear hsz0
  have hval : ∀ (j : Nat) t v, Try.f4.params[j]? = some t → args[j]? = some v → Value.okWide Try.prog W .any base t v := hval0
  have hW' := hW
  obtain ⟨p, q, hA0, hV, rfl, _, _⟩ := hW
  have hA : DataW.TrodAll enc Try.prog W 0 (fun _ => true) true Try.f4.params.toList args.toList ds p := hA0
  rw [Try.params4] at hA hval hsz
  obtain ⟨v0, vs0, d0, ds0, p0, q0, hargs, rfl, rfl, h0, r0⟩ := trodAll_cons hA
  obtain ⟨v1, vs1, d1, ds1, p1, q1, rfl, rfl, rfl, h1, r1⟩ := trodAll_cons r0
  obtain ⟨v2, vs2, d2, ds2, p2, q2, rfl, rfl, rfl, h2, r2⟩ := trodAll_cons r1
  obtain ⟨rfl, rfl, rfl⟩ := trodAll_nil r2
  obtain rfl : args = #[v0, v1, v2] := by cases args; simp_all
  obtain ⟨rfl, rfl⟩ := trodVars_none hV
  have lt0 : ∀ x ∈ p0, x.block < W.heap.size := by obtain ⟨m, hm⟩ := h0; exact DataW.trod_lt m _ _ _ hm
  have lt1 : ∀ x ∈ p1, x.block < W.heap.size := by obtain ⟨m, hm⟩ := h1; exact DataW.trod_lt m _ _ _ hm
  have lt2 : ∀ x ∈ p2, x.block < W.heap.size := by obtain ⟨m, hm⟩ := h2; exact DataW.trod_lt m _ _ _ hm
  obtain ⟨a0, b0, c0, ev0, wa0, wb0, wc0⟩ := op_out (hval 0 23 v0 rfl rfl) h0
  obtain ⟨t1, k1, u1, l1, ev1, wf1, s1, f1, n1⟩ := op_frm (hval 1 26 v1 rfl rfl) h1
  obtain ⟨a2, ev2⟩ := op_bool (hval 2 4 v2 rfl rfl) h2
  clear hA0 hval0
  subst ev0
  subst ev1
  subst ev2
  refine (outGoes_any a0 b0 c0 ⟨t1, k1, l1⟩ u1 a2 W (StrsIn.of s1 (by unfold maxLen at n1; omega))).mono fun e W1 ⟨he, bel⟩ => ?_
  subst he
  exact ⟨_, rfl, _, _, _, [], _, [], hW', trodAll_mk1 (shut_bool Try.underlying4 _), (trodAll_cons_mk (Below.trod laidOut (by kernel_rfl) (of_decide_eq_true (by kernel_rfl)) h0 bel lt0) (trodAll_cons_mk (Below.trod laidOut (by kernel_rfl) (of_decide_eq_true (by kernel_rfl)) h1 bel lt1) (trodAll_cons_mk (Below.trod laidOut (by kernel_rfl) (of_decide_eq_true (by kernel_rfl)) h2 bel lt2) trodAll_mk0))), rfl, bel.frame _, fun h => by cases h⟩

theorem proved : Rows.OutGoesSaid :=
  OpenClaim.holds_of_wide 4 Try.f4 rfl rfl rfl rfl rfl rfl rfl ⟨rfl, rfl, rfl, rfl, rfl⟩ rfl rfl rfl rfl rfl (by kernel_rfl) Try.func4 (by kernel_rfl)
    (of_decide_eq_true (by kernel_rfl)) (by unfold Func.isWrapper; first | (rw [if_pos (by decide +kernel)]; kernel_rfl) | (rw [if_neg (by decide +kernel)]; exact ⟨rfl, rfl⟩))
    (fun os started H enc _ => lifted os started H enc)
end outGoes

theorem outGoes_holds : Rows.OutGoesSaid := outGoes.proved
#print axioms outGoes_holds
end Go.Proofs.Ytnpaejknoipicaf
