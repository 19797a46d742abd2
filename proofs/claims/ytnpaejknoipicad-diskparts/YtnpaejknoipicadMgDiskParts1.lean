/-
  Contract: the document's GrowOf.
-/
import Derived.Test.YtnpaejknoipicadRows
import Derived.Test.YtnpaejknoipicadSlices
import Derived.ProofKit
import Derived.OpenShut
import Derived.ShutString
import Derived.ChangeOld
import Derived.Below
import Derived.SizedLaws
import Derived.Test.YtnpaejknoipicadSlotRows
import Derived.Deep.Slices
import Derived.Test.YtnpaejknoipicadFrameCheck
import Derived.Test.YtnpaejknoipicadNest
import Derived.Test.YtnpaejknoipicadWireClosure
import Derived.Test.YtnpaejknoipicadRegChainG
import Derived.Test.YtnpaejknoipicadBlocks
import Derived.Test.YtnpaejknoipicadDiskMath
import Derived.Test.YtnpaejknoipicadAppAny
import Derived.Test.YtnpaejknoipicadCloneFrame
import Derived.Test.YtnpaejknoipicadGroupPlain
import Derived.BigQuiet
import Derived.Test.YtnpaejknoipicadRegChain
import Derived.Test.YtnpaejknoipicadCopyMany
import Derived.Test.YtnpaejknoipicadGroupMath2
import Derived.Lib.AppendZeros
import Derived.Test.YtnpaejknoipicadButB
import Derived.Deep.DeepCutAuto
import Derived.Test.YtnpaejknoipicadRawWrite
import Derived.Test.YtnpaejknoipicadWireWhole
import Derived.Test.YtnpaejknoipicadStorePlain
import Derived.Test.YtnpaejknoipicadRegInv
import Derived.Test.YtnpaejknoipicadRegApp

namespace Go.Proofs.Ytnpaejknoipicad
open Go.ChangeShapes Go.WideShapes Go.ChangeAt Go.RowKit
open Go.ChangeMaps (open_string shut_string)

theorem own : ownKnob Try.prog.godebug = none := by kernel_rfl
theorem laidOut : laidOutB Try.prog = true := by kernel_rfl

section
variable {H : Type} {enc : TypeId × Value → H} {P : Program} {W : World} {r : Reach} {b0 : Nat} {t e : TypeId} {v : Value} {d : DataW H} {p : List MemPlace}

theorem op_int (ht : P.underlying t = some (.int .i64)) (hval : Value.okWide P W r b0 t v) (h : DataW.Trod enc P W 0 (fun _ => true) true t v d p) :
    ∃ a, v = .int .i64 a ∧ (Lit.int .i64 a).wf = true := by
  obtain ⟨a, rfl, _, _, w0⟩ := open_int ht hval h
  exact ⟨a, rfl, w0⟩

theorem op_ints (ht : P.underlying t = some (.slice e)) (he : P.underlying e = some (.int .i64)) (hc : P.cellsOf e = 1) (hval : Value.okWide P W r b0 t v) (h : DataW.Trod enc P W 0 (fun _ => true) true t v d p)
    (hsz : ∀ elems spare, d = .slice elems spare → (elems.length + spare.length) * 8 ≤ 140737488351232) :
    ∃ zs : List Int, Sl W v zs.length 1 (zs.map (Value.int .i64)) ∧ (∀ n ∈ zs, (Lit.int .i64 n).wf = true) ∧ zs.length * 8 ≤ 140737488351232 := by
  obtain ⟨a, len, cap, rfl⟩ := okWide_slice ht hval
  obtain ⟨fuel, hf⟩ := h
  rcases open_ints ht he hc hf with ⟨hcs, hx⟩ | ⟨x, l, c, zs, hcs, _, hl, hm, hz, hx, hcell, hwz⟩
  · simp [Value.cells] at hcs
    obtain ⟨rfl, rfl, rfl⟩ := hcs
    exact ⟨[], ⟨by simp, .inl ⟨rfl, none, 0, rfl⟩⟩, by simp, by simp⟩
  · simp [Value.cells] at hcs
    obtain ⟨rfl, rfl, rfl⟩ := hcs
    simp only [if_true] at hz
    simp only [Prod.mk.injEq] at hx
    have hb := hsz _ _ hx.1
    simp only [lits, List.length_map, List.length_take, List.length_drop] at hb
    obtain ⟨hs, hw⟩ := Sl.of_row (w := W) (a := some x) (len := len) (cap := cap) (zs := zs) (k := .i64) (.inr ⟨x, rfl, hl, hm, hz, hcell, hwz⟩)
    have hlen : (zs.take len).length = len := by simp; omega
    refine ⟨zs.take len, ?_, hw, by omega⟩
    rw [hlen]
    exact hs
end

theorem wf_i64 {a : Int} (h : (Lit.int .i64 a).wf = true) : -9223372036854775808 ≤ a ∧ a ≤ 9223372036854775807 := by
  have h1 : IntKind.i64.min = -9223372036854775808 := rfl
  have h2 : IntKind.i64.max = 9223372036854775807 := rfl
  simp only [Lit.wf, Bool.and_eq_true, decide_eq_true_eq] at h
  omega

end Go.Proofs.Ytnpaejknoipicad

namespace Go.Proofs.Ytnpaejknoipicad
open Go.ChangeShapes Go.WideShapes Go.ChangeAt Go.RowKit
open Go.ChangeMaps (open_string shut_string)

section
variable {H : Type} {enc : TypeId × Value → H} {W : World} {r : Reach} {b0 base : Nat} {spare : Nat → Bool} {held : Bool} {v : Value} {d : DataW H} {p : List MemPlace}

theorem Try.cellsI : Try.prog.cellsOf 3 = 1 := by kernel_rfl
theorem Try.cellsB : Try.prog.cellsOf 4 = 1 := by kernel_rfl
theorem Try.cellsS : Try.prog.cellsOf 9 = 1 := by kernel_rfl
theorem list7 {α : Type} {l : List α} (h : l.length = 7) : ∃ c0 c1 c2 c3 c4 c5 c6, l = [c0, c1, c2, c3, c4, c5, c6] := by
  match l, h with
  | [c0, c1, c2, c3, c4, c5, c6], _ => exact ⟨c0, c1, c2, c3, c4, c5, c6, rfl⟩
theorem list6' {α : Type} {l : List α} (h : l.length = 6) : ∃ c0 c1 c2 c3 c4 c5, l = [c0, c1, c2, c3, c4, c5] := by
  match l, h with
  | [c0, c1, c2, c3, c4, c5], _ => exact ⟨c0, c1, c2, c3, c4, c5, rfl⟩
theorem list2 {α : Type} {l : List α} (h : l.length = 2) : ∃ c0 c1, l = [c0, c1] := by
  match l, h with
  | [c0, c1], _ => exact ⟨c0, c1, rfl⟩

/-- within what an input can be -/
def Sk.fits (x : Sk) : Prop := (Lit.int .i64 x.n).wf = true ∧ (Lit.int .i64 x.p.seq).wf = true ∧ (Lit.int .i64 x.p.time).wf = true ∧ x.p.t.size ≤ maxLen

end
end Go.Proofs.Ytnpaejknoipicad

namespace Go.Proofs.Ytnpaejknoipicad
open Go.ChangeShapes Go.WideShapes Go.ChangeAt Go.RowKit

section
variable {H : Type} {enc : TypeId × Value → H} {W : World} {r : Reach} {b0 base : Nat} {spare : Nat → Bool} {held : Bool} {v : Value} {d : DataW H} {p : List MemPlace}

theorem Try.cellsFrm : Try.prog.cellsOf 36 = 3 := by kernel_rfl
theorem Try.cellsStrs : Try.prog.cellsOf 34 = 1 := by kernel_rfl

theorem list1 {α : Type} {l : List α} (h : l.length = 1) : ∃ c0, l = [c0] := by
  match l, h with
  | [c0], _ => exact ⟨c0, rfl⟩
theorem list3 {α : Type} {l : List α} (h : l.length = 3) : ∃ c0 c1 c2, l = [c0, c1, c2] := by
  match l, h with
  | [c0, c1, c2], _ => exact ⟨c0, c1, c2, rfl⟩

set_option maxRecDepth 100000 in
theorem trod_strs {fuel : Nat} {cs : List Value} {x : DataW H × List MemPlace} (h : DataW.trod enc Try.prog W base spare held fuel 34 cs = some x) :
    ∃ (u : Value) (l : List ByteArray), cs = [u] ∧ Strs W u l ∧ (∀ s ∈ l, s.size ≤ maxLen) ∧ l.length ≤ maxLen ∧ (∀ a n c, u = .slice a n c → n ≤ c) := by
  rcases Go.Deep.open_slice Try.underlying34 h with ⟨rfl, rfl⟩ | ⟨a, len, cap, m, n, D, Pl, rfl, hb, hl, hm, hmm, rfl, hx⟩
  · exact ⟨_, [], rfl, Strs.nil W, by simp, by simp, fun a n c e => by cases e; exact Nat.le_refl _⟩
  · have hlm : len ≤ m := by rw [hmm]; split <;> omega
    rw [Try.cellsS] at hx
    have each : ∀ i, i < len → ∃ s : ByteArray, s.size ≤ maxLen ∧ W.cell? (a.add i) = some (.string s) := fun i hi => by
      obtain ⟨cs', h1, h2⟩ := hx i (by omega)
      obtain ⟨s, hs, _, hw⟩ := DataW.trod_string Try.underlying9 h2
      obtain ⟨_, hl1, hc⟩ := World.cells?_some h1
      refine ⟨s, hw, ?_⟩
      have := hc 0 (by omega)
      rw [hs, Go.Deep.add_add] at this
      simpa using this
    obtain ⟨f, hf⟩ := Go.Deep.choose_lt each
    have hll : ((List.range len).map f).length = len := by simp
    refine ⟨_, (List.range len).map f, rfl, ?_, ?_, by rw [hll]; omega, fun a' n' c' e => by cases e; exact hl⟩
    · show Sl W _ _ 1 _
      rw [hll]
      refine ⟨by simp, ?_⟩
      by_cases h0 : len = 0
      · subst h0
        exact .inl ⟨rfl, _, _, rfl⟩
      · right
        obtain ⟨b, off, spot⟩ := a
        have hc0 := (hf 0 (by omega)).2
        have hspot : spot = none := by simpa [Addr.add] using World.cell?_spot hc0
        subst hspot
        refine ⟨b, off, cap, rfl, by simpa [Addr.add] using World.block_lt_of_cell? W _ hc0, fun j u hj => ?_⟩
        have hjl : j < len := by
          have := (List.getElem?_eq_some_iff.1 hj).1
          simpa using this
        rw [List.getElem?_map, List.getElem?_map, List.getElem?_range hjl] at hj
        simp at hj
        subst hj
        have := (hf j hjl).2
        rw [Addr.add_lit] at this
        exact this
    · intro s hs
      obtain ⟨i, hi, rfl⟩ := List.mem_map.1 hs
      exact (hf i (by simpa using hi)).1

set_option maxRecDepth 100000 in
theorem op_frm (hval : Value.okWide Try.prog W r b0 36 v) (h : DataW.Trod enc Try.prog W base spare held 36 v d p) :
    ∃ (time : Int) (key : Bool) (u : Value) (l : List ByteArray), v = .agg #[.int .i64 time, .bool key, u] ∧ (Lit.int .i64 time).wf = true ∧ Strs W u l ∧ (∀ s ∈ l, s.size ≤ maxLen) ∧ l.length ≤ maxLen := by
  obtain ⟨cs, rfl, _⟩ := okWide_struct Try.underlying36 hval
  obtain ⟨fuel, hf⟩ := h
  obtain ⟨xs, n, _, _, hl, hxl, hg⟩ := DataW.trod_struct Try.underlying36 hf
  rw [Try.cellsFrm] at hl
  obtain ⟨c0, c1, c2, hcs⟩ := list3 hl
  obtain ⟨x0, x1, x2, rfl⟩ := list3 (show xs.length = 3 from hxl)
  rw [hcs] at hg
  have h0 : DataW.trod enc Try.prog W base spare held n 3 (([c0, c1, c2].drop 0).take (Try.prog.cellsOf 3)) = some x0 := hg 0 _ rfl
  have h1 : DataW.trod enc Try.prog W base spare held n 4 (([c0, c1, c2].drop 1).take (Try.prog.cellsOf 4)) = some x1 := hg 1 _ rfl
  have h2 : DataW.trod enc Try.prog W base spare held n 34 (([c0, c1, c2].drop 2).take (Try.prog.cellsOf 34)) = some x2 := hg 2 _ rfl
  rw [Try.cellsI] at h0
  rw [Try.cellsB] at h1
  rw [Try.cellsStrs] at h2
  obtain ⟨a, ea, _, wa⟩ := DataW.trod_int Try.underlying3 h0
  obtain ⟨k, ek, _⟩ := DataW.trod_bool Try.underlying4 h1
  obtain ⟨u, l, eu, hS, hfit, hlen, _⟩ := trod_strs h2
  simp at ea ek eu
  subst ea ek eu
  refine ⟨a, k, c2, l, ?_, wa, hS, hfit, hlen⟩
  have : cs = #[.int .i64 a, .bool k, c2] := by
    apply Array.ext'
    simpa [Value.cells] using hcs
  rw [this]

end
end Go.Proofs.Ytnpaejknoipicad

namespace Go.Proofs.Ytnpaejknoipicad
open Go.ChangeShapes Go.WideShapes Go.ChangeAt Go.RowKit

theorem StrsIn.of {w : World} {v : Value} {l : List ByteArray} (h : Strs w v l) (hl : l.length ≤ 9223372036854775807) : StrsIn (fun _ => True) w v l := by
  refine ⟨h, hl, fun g hg h0 => ⟨trivial, ?_⟩⟩
  obtain ⟨_, ⟨h1, _⟩ | ⟨b, off, c, rfl, hb, _⟩⟩ := h
  · omega
  · simp [Value.ownBlock] at hg
    subst hg
    exact hb

instance : Inhabited Fr := ⟨Fr.zero⟩

section
variable {H : Type} {enc : TypeId × Value → H} {W : World} {r : Reach} {b0 base : Nat} {spare : Nat → Bool} {held : Bool} {v : Value} {d : DataW H} {p : List MemPlace}

theorem Try.cellsFrs : Try.prog.cellsOf 23 = 1 := by kernel_rfl
theorem Try.cellsGrp : Try.prog.cellsOf 25 = 1 := by kernel_rfl

set_option maxRecDepth 100000 in
theorem trod_frm {fuel : Nat} {cs : List Value} {x : DataW H × List MemPlace} (h : DataW.trod enc Try.prog W base spare held fuel 36 cs = some x) :
    ∃ (f : Fr) (u : Value), cs = [.int .i64 f.time, .bool f.key, u] ∧ StrsIn (fun _ => True) W u f.parts := by
  obtain ⟨xs, n, _, _, hl, hxl, hg⟩ := DataW.trod_struct Try.underlying36 h
  rw [Try.cellsFrm] at hl
  obtain ⟨c0, c1, c2, hcs⟩ := list3 hl
  obtain ⟨x0, x1, x2, rfl⟩ := list3 (show xs.length = 3 from hxl)
  rw [hcs] at hg
  have h0 : DataW.trod enc Try.prog W base spare held n 3 (([c0, c1, c2].drop 0).take (Try.prog.cellsOf 3)) = some x0 := hg 0 _ rfl
  have h1 : DataW.trod enc Try.prog W base spare held n 4 (([c0, c1, c2].drop 1).take (Try.prog.cellsOf 4)) = some x1 := hg 1 _ rfl
  have h2 : DataW.trod enc Try.prog W base spare held n 34 (([c0, c1, c2].drop 2).take (Try.prog.cellsOf 34)) = some x2 := hg 2 _ rfl
  rw [Try.cellsI] at h0
  rw [Try.cellsB] at h1
  rw [Try.cellsStrs] at h2
  obtain ⟨a, ea, _, wa⟩ := DataW.trod_int Try.underlying3 h0
  obtain ⟨k, ek, _⟩ := DataW.trod_bool Try.underlying4 h1
  obtain ⟨u, l, eu, hS, hfit, hlen, _⟩ := trod_strs h2
  simp at ea ek eu
  subst ea ek eu
  exact ⟨⟨a, k, l⟩, c2, hcs, StrsIn.of hS (by unfold maxLen at hlen; omega)⟩

set_option maxRecDepth 100000 in
theorem trod_frs {fuel : Nat} {cs : List Value} {x : DataW H × List MemPlace} (h : DataW.trod enc Try.prog W base spare held fuel 23 cs = some x) :
    ∃ (u : Value) (l : List Fr), cs = [u] ∧ FrsIn (fun _ => True) W u l := by
  rcases Go.Deep.open_slice Try.underlying23 h with ⟨rfl, rfl⟩ | ⟨a, len, cap, m, n, D, Pl, rfl, hb, hl, hm, hmm, rfl, hx⟩
  · exact ⟨_, [], rfl, FrsIn.nil _ W⟩
  · have hlm : len ≤ m := by rw [hmm]; split <;> omega
    rw [Try.cellsFrm] at hx
    have each : ∀ i, i < len → ∃ q : Fr × Value, StrsIn (fun _ => True) W q.2 q.1.parts ∧ ∀ j u, [Value.int .i64 q.1.time, .bool q.1.key, q.2][j]? = some u → W.cell? (a.add (i * 3 + j)) = some u := fun i hi => by
      obtain ⟨cs', h1, h2⟩ := hx i (by omega)
      obtain ⟨f, u, hs, hw⟩ := trod_frm h2
      refine ⟨(f, u), hw, fun j y hj => ?_⟩
      obtain ⟨_, hl3, hc⟩ := World.cells?_some h1
      have hj3 : j < 3 := by
        have := (List.getElem?_eq_some_iff.1 hj).1
        simpa using this
      rw [← Go.Deep.add_add, hc j hj3, hs]
      simpa using hj
    obtain ⟨f, hf⟩ := Go.Deep.choose_lt each
    have hll : ((List.range len).map fun i => (f i).1).length = len := by simp
    refine ⟨_, (List.range len).map fun i => (f i).1, rfl, some a, cap, by rw [hll], by rw [hll]; omega, by unfold maxLen at hm; omega, fun k hk => ?_⟩
    rw [hll] at hk
    obtain ⟨b, off, spot⟩ := a
    have hc0 := (hf 0 (by omega)).2 0 _ rfl
    have hspot : spot = none := by simpa [Addr.add] using World.cell?_spot hc0
    subst hspot
    have hel : ((List.range len).map fun i => (f i).1)[k]?.getD Fr.zero = (f k).1 := by
      rw [List.getElem?_map, List.getElem?_range hk]; rfl
    rw [hel]
    have g : ∀ j u, [Value.int .i64 (f k).1.time, .bool (f k).1.key, (f k).2][j]? = some u → W.cell? ⟨b, off + k * 3 + j, none⟩ = some u := fun j u hj => by
      have := (hf k hk).2 j u hj
      rw [Addr.add_lit, ← Nat.add_assoc] at this
      exact this
    exact ⟨b, off, rfl, by simpa [Addr.add] using World.block_lt_of_cell? W _ hc0, trivial, (f k).2, g 0 _ rfl, g 1 _ rfl, g 2 _ rfl, (hf k hk).1⟩

set_option maxRecDepth 100000 in
theorem op_frs (hval : Value.okWide Try.prog W r b0 23 v) (h : DataW.Trod enc Try.prog W base spare held 23 v d p) :
    ∃ l : List Fr, FrsIn (fun _ => True) W v l := by
  obtain ⟨a, len, cap, rfl⟩ := okWide_slice Try.underlying23 hval
  obtain ⟨fuel, hf⟩ := h
  obtain ⟨u, l, eu, hS⟩ := trod_frs hf
  simp [Value.cells] at eu
  subst eu
  exact ⟨l, hS⟩

set_option maxRecDepth 100000 in
theorem op_grp (hval : Value.okWide Try.prog W r b0 25 v) (h : DataW.Trod enc Try.prog W base spare held 25 v d p) :
    ∃ (u : Value) (l : List Fr), v = .agg #[u] ∧ FrsIn (fun _ => True) W u l := by
  obtain ⟨cs, rfl, _⟩ := okWide_struct Try.underlying25 hval
  obtain ⟨fuel, hf⟩ := h
  obtain ⟨xs, n, _, _, hl, hxl, hg⟩ := DataW.trod_struct Try.underlying25 hf
  rw [Try.cellsGrp] at hl
  obtain ⟨c0, hcs⟩ := list1 hl
  obtain ⟨x0, rfl⟩ := list1 (show xs.length = 1 from hxl)
  rw [hcs] at hg
  have h0 : DataW.trod enc Try.prog W base spare held n 23 (([c0].drop 0).take (Try.prog.cellsOf 23)) = some x0 := hg 0 _ rfl
  rw [Try.cellsFrs] at h0
  obtain ⟨u, l, eu, hS⟩ := trod_frs h0
  simp at eu
  subst eu
  refine ⟨c0, l, ?_, hS⟩
  have : cs = #[c0] := by
    apply Array.ext'
    simpa [Value.cells] using hcs
  rw [this]
end
end Go.Proofs.Ytnpaejknoipicad

namespace Go.Proofs.Ytnpaejknoipicad
open Go.ChangeShapes Go.WideShapes Go.ChangeAt Go.RowKit
open Go.ChangeMaps (open_string shut_string)

section
variable {H : Type} {enc : TypeId × Value → H} {W : World} {r : Reach} {b0 base : Nat} {spare : Nat → Bool} {held : Bool} {v : Value} {d : DataW H} {p : List MemPlace}

theorem op_str {P : Program} {t : TypeId} (ht : P.underlying t = some .string) (hval : Value.okWide P W r b0 t v) (h : DataW.Trod enc P W 0 (fun _ => true) true t v d p) :
    ∃ l : List UInt8, v = .string (ba l) ∧ l.length ≤ maxLen := by
  obtain ⟨s, rfl, _, _, hs⟩ := open_string ht hval h
  exact ⟨s.data.toList, by rw [ba_of], hs⟩

theorem list6 {α : Type} {l : List α} (h : l.length = 6) : ∃ c0 c1 c2 c3 c4 c5, l = [c0, c1, c2, c3, c4, c5] := by
  match l, h with
  | [c0, c1, c2, c3, c4, c5], _ => exact ⟨c0, c1, c2, c3, c4, c5, rfl⟩

theorem Try.cellsInt : Try.prog.cellsOf 3 = 1 := by kernel_rfl
theorem Try.cellsBool : Try.prog.cellsOf 4 = 1 := by kernel_rfl
theorem Try.cellsStr : Try.prog.cellsOf 9 = 1 := by kernel_rfl

/-- the fields of a packet within what an input can be -/
def Pk.fits (p : Pk) : Prop := (Lit.int .i64 p.seq).wf = true ∧ (Lit.int .i64 p.time).wf = true ∧ p.t.size ≤ maxLen

end

end Go.Proofs.Ytnpaejknoipicad

namespace Go.Proofs.Ytnpaejknoipicad
open Go.ChangeShapes Go.WideShapes Go.ChangeAt Go.RowKit

section
variable {H : Type} {enc : TypeId × Value → H} {W : World} {r : Reach} {b0 base : Nat} {spare : Nat → Bool} {held : Bool} {v : Value} {d : DataW H} {p : List MemPlace}

theorem Try.cellsDisk : Try.prog.cellsOf 39 = 2 := by kernel_rfl

set_option maxRecDepth 100000 in
theorem op_disk (hval : Value.okWide Try.prog W r b0 39 v) (h : DataW.Trod enc Try.prog W base spare held 39 v d p) :
    ∃ (l : List UInt8) (s : Int), v = .agg #[.string (ba l), .int .i64 s] ∧ l.length ≤ maxLen ∧ (Lit.int .i64 s).wf = true := by
  obtain ⟨cs, rfl, _⟩ := okWide_struct Try.underlying39 hval
  obtain ⟨fuel, hf⟩ := h
  obtain ⟨xs, n, _, _, hl, hxl, hf⟩ := DataW.trod_struct Try.underlying39 hf
  rw [Try.cellsDisk] at hl
  obtain ⟨c0, c1, hc⟩ := list2 hl
  obtain ⟨x0, x1, rfl⟩ := list2 (show xs.length = 2 from hxl)
  rw [hc] at hf
  have h0 : DataW.trod enc Try.prog W base spare held n 9 (([c0, c1].drop 0).take (Try.prog.cellsOf 9)) = some x0 := hf 0 _ rfl
  have h1 : DataW.trod enc Try.prog W base spare held n 3 (([c0, c1].drop 1).take (Try.prog.cellsOf 3)) = some x1 := hf 1 _ rfl
  rw [Try.cellsStr] at h0
  rw [Try.cellsInt] at h1
  obtain ⟨a0, e0, _, w0⟩ := DataW.trod_string Try.underlying9 h0
  obtain ⟨a1, e1, _, w1⟩ := DataW.trod_int Try.underlying3 h1
  simp at e0 e1
  subst e0 e1
  refine ⟨a0.data.toList, a1, ?_, w0, w1⟩
  have : cs = #[.string a0, .int .i64 a1] := by
    apply Array.ext'
    simpa [Value.cells] using hc
  rw [this, ba_of]
end

end Go.Proofs.Ytnpaejknoipicad

namespace Go.Proofs.Ytnpaejknoipicad
open Go.RowKit

section
variable {P : Program} {Q : Exit → Act → World → Prop}

theorem putL_defers {L : Array Bool} {vs : Nat → Value} : ∀ (l : List Oper) (k : Nat) (a : Act), (putL L vs k l a).defers = a.defers
  | [], _, _ => rfl
  | o :: r, k, a => by
    simp only [putL]
    rw [putL_defers r (k + 1) _]
    split
    · cases o.dst <;> rfl
    · rfl

theorem region_chainGD {id : Nat} {a : Act} {w : World} {l : List Oper} (hm : P.follows .mixedOrders = true) (hB : regOkG l = true) (ks : List Ck) (st : List Nat) (hK : chainOk ks l st a.tmps.size = true)
    (I : Nat → (Nat → Value) → World → Prop) (h0 : I 0 (fun _ => undef) { w with drawn := w.drawn + 1 })
    (hstep : ∀ i o, l[i]? = some o → ∀ (a' : Act) (w' : World) (s : Nat) (r : Nat → Value), I s r w' → (∀ s, (l.zipIdx.all fun p => p.1.dst != some s || waits l p.2 i) = true → a'.eval (.tmp s) = a.eval (.tmp s)) → (∀ j oj k, waits l i j = true → l[j]? = some oj → oj.dst = some k → a'.eval (.tmp k) = (ckAt ks j).out r) → a'.defers = a.defers →
      match ckAt ks i with
      | .quiet v lim => s ≤ lim → (Region.wanted o (yielded l.toArray a'.tmps) = true ∧ (execOp a'.eval o).run P w' = .ok (.value v) w') ∨ (Region.wanted o (yielded l.toArray a'.tmps) = false ∧ v = undef)
      | .step t => s = t → o.guard = none ∧ o.wp P a' w' (fun a'' w'' => ∃ v, a'' = a'.put o.dst v ∧ I (t + 1) (updR r t v) w'') Q)
    (hend : ∀ (r : Nat → Value) (w' : World), I st.length r w' → Q .normal (putC r ks l a) w') :
    (Code.region id l.toArray true).wp P Q a w := by
  simp only [chainOk, Bool.and_eq_true, decide_eq_true_eq] at hK
  obtain ⟨⟨⟨hlen, hdst⟩, hst⟩, hall⟩ := hK
  have hap : dstsApart l = true := by simp only [regOkG, Bool.and_eq_true] at hB; exact hB.1
  have hal : ∀ i, i < l.length → _ := fun i hi => List.all_eq_true.1 hall i (List.mem_range.2 hi)
  have hsl : ∀ s, s < st.length → _ := fun s hs => List.all_eq_true.1 hst s (List.mem_range.2 hs)
  have hstp : ∀ s, s < st.length → ∃ i, st[s]? = some i ∧ i < l.length ∧ ckAt ks i = .step s ∧ (0 < s → ∃ j, st[s - 1]? = some j ∧ waits l i j = true) := fun s hs => by
    have h := hsl s hs
    have e : st[s]? = some st[s] := List.getElem?_eq_getElem hs
    rw [e] at h
    simp only [Bool.and_eq_true, decide_eq_true_eq, Bool.or_eq_true, beq_iff_eq] at h
    refine ⟨st[s], e, h.1.1, ?_, fun h0 => ?_⟩
    · have h2 := h.1.2
      cases hk : ckAt ks st[s] with
      | quiet v lim => rw [hk] at h2; cases h2
      | step t => rw [hk] at h2; simp at h2; rw [h2]
    · have h3 := h.2
      rcases h3 with h3 | h3
      · omega
      · have e2 : st[s - 1]? = some st[s - 1] := List.getElem?_eq_getElem (by omega)
        rw [e2] at h3
        exact ⟨_, e2, h3⟩
  have hst2 : ∀ i t, i < l.length → ckAt ks i = .step t → st[t]? = some i := fun i t hi hk => by
    have h := hal i hi
    rw [hk] at h
    simpa using h
  refine wp_region_invG hm hB (fun L vs w' => ∃ s r, RC ks l l.length st.length I (fun j => L.getD j false) vs s r w') ?_ ?_ ?_
  · have hno : ∀ j, ¬ (Array.replicate l.length false).getD j false = true := fun j => by
      simp [Array.getD_eq_getD_getElem?, Array.getElem?_replicate]; split <;> simp
    exact ⟨0, fun _ => undef, fun i h => absurd h (hno i), fun i t _ _ => ⟨fun h => absurd h (hno i), fun h => absurd h (Nat.not_lt_zero _)⟩, fun i h => absurd h (hno i), h0, Nat.zero_le _, fun _ j h => absurd h (hno j)⟩
  · rintro L vs w' ⟨s, r, F⟩ i o ho hL hr
    have hi : i < l.length := (List.getElem?_eq_some_iff.1 ho).1
    have ni : L.getD i false = false := by simpa using listed_no hL
    have hset := setfun hL
    have hwt : ∀ j, waits l i j = true → L.getD j false = true := fun j hw => waits_spec hw ho hr
    have hfree : ∀ s, (l.zipIdx.all fun p => p.1.dst != some s || waits l p.2 i) = true → (putL L vs 0 l a).eval (.tmp s) = a.eval (.tmp s) := fun s hs => putL_other2 l 0 a (fun j p hp hj t ht e => by
      injection e with e
      subst e
      rw [Nat.zero_add] at hj
      have h1 : (p, j) ∈ l.zipIdx := by rw [List.mem_zipIdx_iff_getElem?]; exact hp
      have := List.all_eq_true.1 hs _ h1
      simp only [ht, bne_self_eq_false, Bool.false_or] at this
      have h2 := F.closed i j hj this
      rw [h2] at ni
      cases ni)
    have hvals : ∀ j oj k, waits l i j = true → l[j]? = some oj → oj.dst = some k → (putL L vs 0 l a).eval (.tmp k) = (ckAt ks j).out r := fun j oj k hw hoj hk => by
      have h1 := hwt j hw
      have hk2 := List.all_eq_true.1 hdst oj (List.mem_of_getElem? hoj)
      rw [hk] at hk2
      rw [putL_at h1 l 0 a oj hap (Nat.zero_le _) (by simpa using hoj) hk (by simpa using hk2)]
      exact F.vals j h1
    have hs := hstep i o ho (putL L vs 0 l a) w' s r F.inv hfree hvals (putL_defers l 0 a)
    rw [hset]
    obtain ⟨ls, hls⟩ : ∃ ls : Nat → Bool, ls = fun j => L.getD j false := ⟨_, rfl⟩
    have hlsj : ∀ j, L.getD j false = ls j := fun j => by rw [hls]
    simp only [hlsj] at F ni hwt ⊢
    have hlt' : ∀ j, (decide (j = i) || ls j) = true → j < l.length := fun j hj => by
      simp only [Bool.or_eq_true, decide_eq_true_eq] at hj
      rcases hj with rfl | hj
      · exact hi
      · exact F.lt j hj
    have hcl : ∀ p j, (decide (j = i) || ls j) = true → waits l j p = true → (decide (p = i) || ls p) = true := fun p j hj hw => by
      simp only [Bool.or_eq_true, decide_eq_true_eq] at hj ⊢
      rcases hj with rfl | hj
      · exact .inr (hwt p hw)
      · exact .inr (F.closed p j hj hw)
    cases hk : ckAt ks i with
    | quiet v lim =>
      rw [hk] at hs
      have hle : s ≤ lim := by
        have h := hal i hi
        rw [hk] at h
        simp only [Bool.or_eq_true, decide_eq_true_eq] at h
        rcases h with h | h
        · exact Nat.le_trans F.le h
        · by_cases hlt : s ≤ lim
          · exact hlt
          · exfalso
            have hll : lim < st.length := by have := F.le; omega
            obtain ⟨j, e1, e2, e3, _⟩ := hstp lim hll
            rw [e1] at h
            have hlj := (F.steps j lim e2 e3).2 (by omega)
            rw [F.closed i j hlj h] at ni
            cases ni
      have hfin : ∃ v', (putL L vs 0 l a).put o.dst v = (putL L vs 0 l a).put o.dst v' ∧ ∃ s r, RC ks l l.length st.length I (fun j => decide (j = i) || ls j) (upd vs i v') s r w' := by
        refine ⟨v, rfl, s, r, hlt', ?_, ?_, F.inv, F.le, hcl⟩
        · intro j t hj hjk
          have e : j ≠ i := fun e => by subst e; rw [hk] at hjk; cases hjk
          simpa [e] using F.steps j t hj hjk
        · intro j hj
          by_cases e : j = i
          · subst e; rw [upd_at, hk]; rfl
          · rw [upd_ne e]; exact F.vals j (by simpa [e] using hj)
      rcases hs hle with ⟨hw, h⟩ | ⟨hw, hv⟩
      · exact .inl ⟨hw, oper_wp_ok h hfin⟩
      · exact .inr ⟨hw, by rw [← hv]; exact hfin⟩
    | step t =>
      rw [hk] at hs
      have hti := hst2 i t hi hk
      have htl : t < st.length := (List.getElem?_eq_some_iff.1 hti).1
      have hst' : s = t := by
        have h1 : ¬ t < s := fun h => by rw [(F.steps i t hi hk).2 h] at ni; cases ni
        by_cases h0 : t = 0
        · omega
        · obtain ⟨i', e1, e2, e3, e4⟩ := hstp t htl
          rw [hti] at e1
          injection e1 with e1
          subst e1
          obtain ⟨j, q1, q2⟩ := e4 (by omega)
          obtain ⟨j', r1, r2, r3, _⟩ := hstp (t - 1) (by omega)
          rw [q1] at r1
          injection r1 with r1
          subst r1
          have := (F.steps j (t - 1) r2 r3).1 (hwt j q2)
          omega
      subst hst'
      refine .inl ⟨by simp [Region.wanted, (hs rfl).1], Oper.wp_mono ?_ (hs rfl).2⟩
      rintro a'' w'' ⟨v, h1, h2⟩
      refine ⟨v, h1, s + 1, updR r s v, hlt', ?_, ?_, h2, htl, hcl⟩
      · intro j t' hj hjk
        by_cases e : j = i
        · subst e
          rw [hk] at hjk
          injection hjk with hjk
          subst hjk
          simp
        · have h3 := F.steps j t' hj hjk
          have hne : t' ≠ s := fun e' => by
            subst e'
            have := hst2 j t' hj hjk
            rw [hti] at this
            injection this with this
            exact e this.symm
          simp only [e, decide_false, Bool.false_or]
          rw [h3]; omega
      · intro j hj
        by_cases e : j = i
        · subst e; rw [upd_at, hk]; exact (updR_at r s v).symm
        · have hlj : ls j = true := by simpa [e] using hj
          rw [upd_ne e, F.vals j hlj]
          cases hkj : ckAt ks j with
          | quiet v' lim' => rfl
          | step t' =>
            have := (F.steps j t' (F.lt j hlj) hkj).1 hlj
            exact (updR_ne (by omega)).symm
  · rintro L vs w' ⟨s, r, F⟩ hlst
    have hs : s = st.length := by
      by_cases h : s < st.length
      · obtain ⟨i, e1, e2, e3, _⟩ := hstp s h
        have := (F.steps i s e2 e3).1 (hlst i e2)
        omega
      · have := F.le; omega
    subst hs
    rw [putC_all L vs r l 0 ks a hlen (fun i hi => by rw [Nat.zero_add]; exact hlst i hi) (fun i hi => by rw [Nat.zero_add]; exact F.vals i (hlst i hi))]
    exact hend r w' F.inv
end

end Go.Proofs.Ytnpaejknoipicad

namespace Go.Proofs.Ytnpaejknoipicad
open Go.RowKit

def Stay (w : World) (P : World → Prop) : Prop := ∀ w', Below w.heap.size w w' → P w'
theorem Stay.now {w : World} {P : World → Prop} (h : Stay w P) : P w := h w (Below.refl _ _)
theorem Stay.step {w w' : World} {P : World → Prop} (h : Stay w P) (hb : Below w.heap.size w w') : Stay w' P := fun w'' h2 => h w'' (hb.trans (h2.mono hb.size))
theorem Stay.alloc {w : World} {P : World → Prop} (h : Stay w P) (o : Obj) : Stay (w.alloc o) P := h.step ((Below.refl _ w).alloc (Nat.le_refl _) _)
theorem Stay.and {w : World} {P Q : World → Prop} (h : Stay w P) (k : Stay w Q) : Stay w (fun U => P U ∧ Q U) := fun w' hb => ⟨h w' hb, k w' hb⟩
theorem Stay.imp {w : World} {P Q : World → Prop} (h : Stay w P) (k : ∀ U, P U → Q U) : Stay w Q := fun w' hb => k w' (h w' hb)
theorem Blk.stay {w : World} {b : Nat} {C : Array Value} {t : TypeId} (h : Blk w b C t) : Stay w (fun U => Blk U b C t) := fun _ hb => h.below hb h.lt
theorem FrsIn.stay {S : Nat → Prop} {w : World} {v : Value} {l : List Fr} (h : FrsIn S w v l) : Stay w (fun U => FrsIn S U v l) := fun _ hb => h.below hb
theorem StrsIn.stay {S : Nat → Prop} {w : World} {v : Value} {l : List ByteArray} (h : StrsIn S w v l) : Stay w (fun U => StrsIn S U v l) := fun _ hb => h.below hb
theorem GrsIn.stay {S : Nat → Prop} {w : World} {v : Value} {L : List (List Fr)} (h : GrsIn S w v L) : Stay w (fun U => GrsIn S U v L) := fun _ hb => h.below hb
theorem below_stay {B : Nat} {a w : World} (h : Below B a w) (hB : B ≤ w.heap.size) : Stay w (fun U => Below B a U) := fun _ hb => h.trans (hb.mono hB)
theorem below_stay0 (w : World) : Stay w (fun U => Below w.heap.size w U) := below_stay (Below.refl _ _) (Nat.le_refl _)

theorem Stay.hid {w : World} {P : World → Prop} (h : Stay w P) : Hid (Stay w P) := h
theorem Stay.go {w w' : World} {P : World → Prop} (h : Hid (Stay w P)) (hb : Below w.heap.size w w') : Hid (Stay w' P) := Stay.step h hb
theorem Stay.allocE {w W : World} {P : World → Prop} {o : Obj} (h : Stay w P) (e : W = w.alloc o) : Hid (Stay W P) := by subst e; exact h.alloc _
theorem Blk.newE {w W : World} {C : Array Value} {t : TypeId} (e : W = w.alloc (.cells C t)) : Blk W w.heap.size C t := by subst e; exact Blk.new _ _ _
theorem FrsIn.allocE {S : Nat → Prop} {w W : World} {v : Value} {l : List Fr} {o : Obj} (h : FrsIn S w v l) (e : W = w.alloc o) : FrsIn S W v l := by subst e; exact h.alloc _
theorem GrsIn.allocE {S : Nat → Prop} {w W : World} {v : Value} {L : List (List Fr)} {o : Obj} (h : GrsIn S w v L) (e : W = w.alloc o) : GrsIn S W v L := by subst e; exact h.alloc _
theorem StrsIn.allocE {S : Nat → Prop} {w W : World} {v : Value} {l : List ByteArray} {o : Obj} (h : StrsIn S w v l) (e : W = w.alloc o) : StrsIn S W v l := by subst e; exact h.alloc _

end Go.Proofs.Ytnpaejknoipicad

namespace Go.Proofs.Ytnpaejknoipicad
open Go.RowKit

def StayK (S : List Nat) (w : World) (P : World → Prop) : Prop := ∀ w', Kept S w w' → P w'
theorem StayK.now {S : List Nat} {w : World} {P : World → Prop} (h : StayK S w P) : P w := h w (Kept.refl _ _)
theorem StayK.step {S : List Nat} {w w' : World} {P : World → Prop} (h : StayK S w P) (hk : Kept S w w') : StayK S w' P := fun w'' h2 => h w'' (hk.trans h2)
theorem StayK.go {S : List Nat} {w w' : World} {P : World → Prop} (h : Hid (StayK S w P)) (hk : Below w.heap.size w w') : Hid (StayK S w' P) := StayK.step h ((Kept.refl _ _).below hk)
theorem StayK.goK {S : List Nat} {w w' : World} {P : World → Prop} (h : Hid (StayK S w P)) (hk : Kept S w w') : Hid (StayK S w' P) := StayK.step h hk
theorem StayK.allocE {S : List Nat} {w W : World} {P : World → Prop} {o : Obj} (h : Hid (StayK S w P)) (e : W = w.alloc o) : Hid (StayK S W P) := by subst e; exact StayK.step h ((Kept.refl _ _).alloc _)
theorem StayK.and {S : List Nat} {w : World} {P Q : World → Prop} (h : StayK S w P) (k : StayK S w Q) : StayK S w (fun U => P U ∧ Q U) := fun w' hb => ⟨h w' hb, k w' hb⟩
theorem Stay.toK {w W : World} {P : World → Prop} {o : Obj} (h : Stay w P) (e : W = w.alloc o) : StayK [w.heap.size] W P := by
  subst e
  intro w' hk
  refine h w' (((Below.refl _ w).alloc (Nat.le_refl _) o).trans ?_)
  exact hk.toBelow (by simp) (fun k hk => by simp at hk; omega)
theorem Kept.sameOn {S : List Nat} {X : Nat → Prop} {w w' : World} (h : Kept S w w') (hx : ∀ g, X g → g ∉ S) : SameOn X w w' := ⟨h.size, fun g hg hX => h.block g hg (hx g hX)⟩
theorem Blk.stayK {S : List Nat} {w : World} {b : Nat} {C : Array Value} {t : TypeId} (h : Blk w b C t) (hS : b ∉ S) : StayK S w (fun U => Blk U b C t) := fun _ hk => h.kept hk hS
theorem FrsIn.stayK {S : List Nat} {X : Nat → Prop} {w : World} {v : Value} {l : List Fr} (h : FrsIn X w v l) (hx : ∀ g, X g → g ∉ S) : StayK S w (fun U => FrsIn X U v l) := fun _ hk => h.to (hk.sameOn hx) fun _ _ h => h
theorem StrsIn.stayK {S : List Nat} {X : Nat → Prop} {w : World} {v : Value} {l : List ByteArray} (h : StrsIn X w v l) (hx : ∀ g, X g → g ∉ S) : StayK S w (fun U => StrsIn X U v l) := fun _ hk => h.to (hk.sameOn hx) fun _ _ h => h
theorem GrsIn.stayK {S : List Nat} {X : Nat → Prop} {w : World} {v : Value} {l : List (List Fr)} (h : GrsIn X w v l) (hx : ∀ g, X g → g ∉ S) : StayK S w (fun U => GrsIn X U v l) := fun _ hk => h.to (hk.sameOn hx) fun _ _ h => h
theorem below_stayK {S : List Nat} {B : Nat} {a w : World} (h : Below B a w) (hB : B ≤ w.heap.size) (hS : ∀ k ∈ S, B ≤ k) : StayK S w (fun U => Below B a U) := fun _ hk => h.trans (hk.toBelow hB hS)

/-- three cells are put in three others' place -/
theorem Blk.put3 {w : World} {b : Nat} {x0 x1 x2 : Value} {t : TypeId} (h : Blk w b #[x0, x1, x2] t) (y0 y1 y2 : Value) : Blk (((w.setCell ⟨b, 0, none⟩ y0).setCell ⟨b, 1, none⟩ y1).setCell ⟨b, 2, none⟩ y2) b #[y0, y1, y2] t := ((h.set 0 y0).set 1 y1).set 2 y2
theorem Kept.put3 {S : List Nat} {a w : World} {b : Nat} (h : Kept S a w) (hb : b ∈ S) (y0 y1 y2 : Value) : Kept S a (((w.setCell ⟨b, 0, none⟩ y0).setCell ⟨b, 1, none⟩ y1).setCell ⟨b, 2, none⟩ y2) := ((h.setCell (p := ⟨b, 0, none⟩) hb y0).setCell (p := ⟨b, 1, none⟩) hb y1).setCell (p := ⟨b, 2, none⟩) hb y2

end Go.Proofs.Ytnpaejknoipicad

namespace Go.Proofs.Ytnpaejknoipicad
open Go.RowKit

/-- an operation that calls, and the call panics -/
theorem oper_wp_panic {P : Program} {Q : Exit → Act → World → Prop} {o : Oper} {a : Act} {w : World} {f : FuncId} {args : Array Value} {K : Act → World → Prop} (h : (execOp a.eval o).run P w = .ok (.enter f args) w) (hc : Calls P f args w fun e w'' => ∃ ch, e = .panicked ch ∧ Q (.panic ch) a w'') : o.wp P a w K Q := by
  unfold Oper.wp; rw [h, Oper.upon_enter]
  refine hc.mono ?_
  rintro e w'' ⟨ch, rfl, hk⟩
  exact hk
theorem tkTs_fail {k : Nat} {l : List UInt8} (h : tkTs k l = none) : ∀ n, k ≤ n → tkTs n l = none
  | 0, hn => by have : k = 0 := by omega
                subst this; exact h
  | n + 1, hn => by
    by_cases he : k = n + 1
    · subst he; exact h
    · simp only [tkTs, tkTs_fail h n (by omega), Option.bind_none]
theorem tkTs_len {l : List UInt8} : ∀ {k : Nat} {ps : List ByteArray} {r : List UInt8}, tkTs k l = some (ps, r) → ps.length = k ∧ r.length ≤ l.length
  | 0, ps, r, h => by
    simp only [tkTs, Option.some.injEq, Prod.mk.injEq] at h
    obtain ⟨rfl, rfl⟩ := h
    exact ⟨rfl, Nat.le_refl _⟩
  | k + 1, ps, r, h => by
    simp only [tkTs] at h
    cases h1 : tkTs k l with
    | none => rw [h1] at h; cases h
    | some a =>
      obtain ⟨qs, q⟩ := a
      obtain ⟨i1, i2⟩ := tkTs_len h1
      rw [h1, Option.bind_some] at h
      cases h2 : tkT q with
      | none => simp only [h2] at h; cases h
      | some b =>
        obtain ⟨x, y⟩ := b
        simp only [h2, Option.map_some, Option.some.injEq, Prod.mk.injEq] at h
        obtain ⟨rfl, rfl⟩ := h
        unfold tkT at h2
        split at h2
        · simp only [Option.some.injEq, Prod.mk.injEq] at h2
          refine ⟨by simp [i1], ?_⟩
          rw [← h2.2, List.length_drop]; omega
        · cases h2
theorem tkTs_bad {k : Nat} {l q : List UInt8} {ps : List ByteArray} (h : tkTs k l = some (ps, q)) (hq : tkT q = none) : tkTs (k + 1) l = none := by
  simp only [tkTs, h, Option.bind_some, hq, Option.map_none]
theorem tkTs_good {k : Nat} {l q r : List UInt8} {ps : List ByteArray} {x : ByteArray} (h : tkTs k l = some (ps, q)) (hq : tkT q = some (x, r)) : tkTs (k + 1) l = some (ps ++ [x], r) := by
  simp only [tkTs, h, Option.bind_some, hq, Option.map_some]
theorem tkFs_fail {k : Nat} {l : List UInt8} (h : tkFs k l = none) : ∀ n, k ≤ n → tkFs n l = none
  | 0, hn => by have : k = 0 := by omega
                subst this; exact h
  | n + 1, hn => by
    by_cases he : k = n + 1
    · subst he; exact h
    · simp only [tkFs, tkFs_fail h n (by omega), Option.bind_none]
theorem tkF_len {k : Bool} {l r : List UInt8} {f : Fr} (h : tkF k l = some (f, r)) : r.length ≤ l.length ∧ f.key = k ∧ f.parts.length ≤ 255 := by
  unfold tkF at h
  split at h
  · cases h1 : tkTs (at8 l 4) (l.drop 5) with
    | none => rw [h1] at h; cases h
    | some a =>
      obtain ⟨qs, q⟩ := a
      obtain ⟨i1, i2⟩ := tkTs_len h1
      have := at8_lt l 4
      simp only [h1, Option.map_some, Option.some.injEq, Prod.mk.injEq] at h
      obtain ⟨rfl, rfl⟩ := h
      rw [List.length_drop] at i2
      exact ⟨by omega, rfl, by show qs.length ≤ _; omega⟩
  · cases h
theorem tkFs_len {l : List UInt8} : ∀ {k : Nat} {fs : List Fr} {r : List UInt8}, tkFs k l = some (fs, r) → fs.length = k ∧ r.length ≤ l.length
  | 0, fs, r, h => by
    simp only [tkFs, Option.some.injEq, Prod.mk.injEq] at h
    obtain ⟨rfl, rfl⟩ := h
    exact ⟨rfl, Nat.le_refl _⟩
  | k + 1, fs, r, h => by
    simp only [tkFs] at h
    cases h1 : tkFs k l with
    | none => rw [h1] at h; cases h
    | some a =>
      obtain ⟨qs, q⟩ := a
      obtain ⟨i1, i2⟩ := tkFs_len h1
      rw [h1, Option.bind_some] at h
      cases h2 : tkF (k == 0) q with
      | none => simp only [h2] at h; cases h
      | some b =>
        obtain ⟨x, y⟩ := b
        have := (tkF_len h2).1
        simp only [h2, Option.map_some, Option.some.injEq, Prod.mk.injEq] at h
        obtain ⟨rfl, rfl⟩ := h
        exact ⟨by simp [i1], by omega⟩
theorem tkFs_bad {k : Nat} {l q : List UInt8} {fs : List Fr} (h : tkFs k l = some (fs, q)) (hq : tkF (k == 0) q = none) : tkFs (k + 1) l = none := by
  simp only [tkFs, h, Option.bind_some, hq, Option.map_none]
theorem tkFs_good {k : Nat} {l q r : List UInt8} {fs : List Fr} {f : Fr} (h : tkFs k l = some (fs, q)) (hq : tkF (k == 0) q = some (f, r)) : tkFs (k + 1) l = some (fs ++ [f], r) := by
  simp only [tkFs, h, Option.bind_some, hq, Option.map_some]
theorem tkT_none0 {l : List UInt8} (h : l.length < 1) : tkT l = none := by unfold tkT; rw [if_neg (by omega)]
theorem tkT_none1 {l : List UInt8} (h : (l.drop 1).length < at8 l 0) : tkT l = none := by
  unfold tkT; rw [List.length_drop] at h; rw [if_neg (by omega)]
theorem tkT_some {l : List UInt8} (h0 : 1 ≤ l.length) (h : at8 l 0 ≤ (l.drop 1).length) : tkT l = some (ba ((l.drop 1).take (at8 l 0)), (l.drop 1).drop (at8 l 0)) := by
  unfold tkT; rw [List.length_drop] at h; rw [if_pos (by omega), List.drop_drop]
theorem num_first (l : List UInt8) : num (l.take 1) = (at8 l 0 : Int) := num_at l 0

theorem str_snoc {base : Nat} {w : World} {v : Value} {n : Nat} {l : List ByteArray} (x : ByteArray) (h : w.ownsRow base 9 1 v n (l.map Value.string)) (hl : n ≤ 999) (hb : base ≤ w.heap.size) :
    ∃ v' w', (Builtin.append_ #[34, 34] 34 #[v, .slice (some ⟨w.heap.size, 0, none⟩) 1 1]).run Try.prog (w.alloc (.cells #[.string x] 9)) = .ok v' w' ∧ w'.ownsRow base 9 1 v' (n + 1) ((l ++ [x]).map Value.string) ∧ (w.alloc (.cells #[.string x] 9)).grownBy w' v.ownBlock := by
  obtain ⟨i0, hi, hz0, hz1, hz2⟩ := info_parts Try.infoStr
  obtain ⟨v', w', r, o, g, _⟩ := run_append_any (P := Try.prog) (w.alloc (.cells #[.string x] 9)) base 34 34 9 i0 _ 1 16 Try.underlying34 hi hz0 hz1 hz2 rfl (by decide) v n (l.map Value.string) (h.alloc _) 1 [.string x] (.slice (some ⟨w.heap.size, 0, none⟩) 1 1) (Sl.new w #[.string x] 9 1 1 1 rfl) (fun u hu => by simp at hu; subst hu; rfl) (by unfold maxLen; omega) (by omega) (by simp; omega)
  exact ⟨v', w', r, by rw [List.map_append]; exact o, g⟩

end Go.Proofs.Ytnpaejknoipicad

namespace Go.Proofs.Ytnpaejknoipicad
open Go.RowKit

/-- what takeFrame answers where O is what the bytes tell: a frame in new memory, or a panic -/
def TkP (R : Nat) (w : World) (O : Option (Fr × List UInt8)) (e : Ending) (w' : World) : Prop :=
  Kept [R] w w' ∧ ((O = none ∧ e = .panicked few) ∨ ∃ f r pv, O = some (f, r) ∧ e = .returned (.agg #[.int .i64 f.time, .bool f.key, pv]) ∧ StrsIn (fun g => w.heap.size ≤ g) w' pv f.parts ∧ Blk w' R #[.string (ba r)] 158)

set_option maxHeartbeats 8000000 in
set_option maxRecDepth 100000 in
theorem takeFrame_any (R : Nat) (l : List UInt8) (w : World) (bR : Blk w R #[.string (ba l)] 158) :
    Calls Try.prog 97 #[.pointer (some ⟨R, 0, none⟩)] w (TkP R w (tkF false l)) := by
  obtain ⟨O, hO⟩ : ∃ O, O = tkF false l := ⟨_, rfl⟩
  obtain ⟨m, hm⟩ : ∃ m, m = num (l.take 4) := ⟨_, rfl⟩
  obtain ⟨n, hn⟩ : ∃ n, n = at8 l 4 := ⟨_, rfl⟩
  obtain ⟨l4, hl4⟩ : ∃ r, r = l.drop 4 := ⟨_, rfl⟩
  obtain ⟨l5, hl5⟩ : ∃ r, r = l.drop 5 := ⟨_, rfl⟩
  have hn255 : n ≤ 255 := by have := at8_lt l 4; omega
  have HF0 : Hid (l.length < 5 → O = none) := fun h => by rw [hO]; unfold tkF; rw [if_neg (by omega)]
  have HF1 : Hid (∀ k, k ≤ n → tkTs k l5 = none → O = none) := fun k hk h => by
    rw [hO]; unfold tkF
    split
    · rw [← hn, ← hl5, tkTs_fail h n hk]; rfl
    · rfl
  have HF2 : Hid (5 ≤ l.length → ∀ ps r, tkTs n l5 = some (ps, r) → O = some (⟨m, false, ps⟩, r)) := fun h ps r hs => by
    rw [hO]; unfold tkF
    rw [if_pos h, ← hn, ← hl5, hs, hm]; rfl
  have hlen4 : l4.length = l.length - 4 := by rw [hl4, List.length_drop]
  have HM4 : Hid (m = num (l.take 4)) := hm
  have HL4 : Hid (l4 = l.drop 4) := hl4
  have HL5 : Hid (l5 = l4.drop 1) := by show _ = _; rw [hl5, hl4, List.drop_drop]
  have HN1 : Hid ((n : Int) = num (l4.take 1)) := by show _ = _; rw [hl4, num_at, hn]
  have HBR : Hid (Blk w R #[.string (ba l)] 158) := bR
  have hRl := bR.lt
  rw [← hO]
  clear hO hm hn hl4 hl5 bR
  go_enter Try.func97, Try.ntmps97
  go_wp2_with fail
  obtain ⟨W0, hW0⟩ : ∃ W0, W0 = w.alloc (.cells #[.int .i64 0, .bool false, .slice none 0 0] 36) := ⟨_, rfl⟩
  have KA0 : Hid (Blk W0 w.heap.size #[.int .i64 0, .bool false, .slice none 0 0] 36) := Blk.newE hW0
  have KK0 : Hid (Kept [R] w W0) := by show Kept _ _ _; rw [hW0]; exact (Kept.refl _ w).alloc _
  have hR0 : Blk W0 R #[.string (ba l)] 158 := by rw [hW0]; exact HBR.out.alloc _
  rw [← hW0]
  clear hW0 HBR
  by_cases h4 : l.length < 4
  · refine (numberL_few R l 4 W0 hR0 (by omega)).mono ?_
    rintro e _ ⟨rfl, rfl⟩
    exact ⟨rfl, KK0.out, .inl ⟨HF0.out (by omega), rfl⟩⟩
  refine (numberL_some R 4 4 m l l4 W0 HM4.out HL4.out rfl hR0 (by omega) (by omega)).mono ?_
  rintro e w1 ⟨rfl, hR1, k1⟩
  have KK1 : Hid (Kept [R] w w1) := KK0.out.trans k1
  have KA1 : Hid (Blk w1 w.heap.size #[.int .i64 0, .bool false, .slice none 0 0] 36) := KA0.out.kept k1 (by simp; omega)
  clear KK0 KA0 k1 hR0
  go_wp2_with fail
  obtain ⟨Fb, hFb⟩ : ∃ x, x = w1.heap.size := ⟨_, rfl⟩
  obtain ⟨W1, hW1⟩ : ∃ W1, W1 = w1.alloc (.cells #[.int .i64 m, .bool false, .slice none 0 0] 36) := ⟨_, rfl⟩
  have KF1 : Hid (Blk W1 Fb #[.int .i64 m, .bool false, .slice none 0 0] 36) := by show Blk _ _ _ _; rw [hFb]; exact Blk.newE hW1
  have KA2 : Hid (Blk W1 w.heap.size #[.int .i64 0, .bool false, .slice none 0 0] 36) := by show Blk _ _ _ _; rw [hW1]; exact KA1.out.alloc _
  have KK2 : Hid (Kept [R] w W1) := by show Kept _ _ _; rw [hW1]; exact KK1.out.alloc _
  have hR2 : Blk W1 R #[.string (ba l4)] 158 := by rw [hW1]; exact hR1.alloc _
  obtain ⟨base, hbase⟩ : ∃ b, b = W1.heap.size := ⟨_, rfl⟩
  have hFbb : Fb + 1 = base := by rw [hbase, hW1, World.size_alloc, hFb]
  have hwF : w.heap.size < Fb := by rw [hFb]; exact KA1.out.lt
  have HRF : Hid (R ≠ Fb) := by show R ≠ Fb; omega
  rw [← hW1, ← hFb]
  clear hW1 hFb hR1 KK1 KA1
  by_cases h5 : l4.length < 1
  · refine (numberL_few R l4 1 W1 hR2 (by omega)).mono ?_
    rintro e _ ⟨rfl, rfl⟩
    exact ⟨rfl, KK2.out, .inl ⟨HF0.out (by omega), rfl⟩⟩
  have hl5 : 5 ≤ l.length := by omega
  refine (numberL_some R 1 1 (n : Int) l4 l5 W1 HN1.out HL5.out rfl hR2 (by omega) (by omega)).mono ?_
  rintro e w2 ⟨rfl, hR3, k2⟩
  have HR3 : Hid (Blk w2 R #[.string (ba l5)] 158) := hR3
  have HK3 : Hid (Kept [R, Fb] W1 w2) := ⟨k2.os, k2.tape, k2.output, k2.size, fun j hj hn => k2.block j hj (by simp at hn ⊢; exact hn.1)⟩
  have HF3 : Hid (Blk w2 Fb #[.int .i64 m, .bool false, .slice none 0 0] 36) := KF1.out.kept k2 (by simp; omega)
  clear hR3 k2 hR2 KF1 h4 h5 hlen4 HM4 HL4 HL5 HN1
  go_wp2_with fail
  go_loopw [9] (fun i wr => ∃ (k : Nat) (ps : List ByteArray) (rk : List UInt8) (u : Value), k ≤ n ∧ i = .int .i64 k ∧ Hid (tkTs k l5 = some (ps, rk)) ∧ Hid (Blk wr R #[.string (ba rk)] 158) ∧ Hid (Blk wr Fb #[.int .i64 m, .bool false, u] 36) ∧ Hid (wr.ownsRow base 9 1 u k (ps.map Value.string)) ∧ Hid (Kept [R, Fb] W1 wr))
    (fun i _ => n - (intOf i).toNat)
  case atStart => exact ⟨0, [], l5, _, Nat.zero_le _, rfl, (show tkTs 0 l5 = _ from rfl), HR3, HF3, (show World.ownsRow _ _ _ _ _ _ _ from World.ownsRow_nil _ _ _ _), HK3⟩
  case round =>
    obtain ⟨k, ps, rk, u, hk, rfl, HT, HR, HFB, HO, HK⟩ := hrel
    clear HR3 HF3 HK3
    have hbw : base ≤ wr.heap.size := by rw [hbase]; exact HK.out.size
    by_cases hlt : k < n
    · have hlti : (k : Int) < (n : Int) := by omega
      have hk255 : k ≤ 999 := by omega
      have hFl : Fb < wr.heap.size := by omega
      have hFS : Fb ∉ [R] := by have := HRF.out; simp; exact fun h => this h.symm
      have x2 := HFB.out.cell (j := 2) (u := u) rfl
      have HRO : Hid (∀ g, u.ownBlock = some g → g ≠ R) := fun g hg e => by have := (HO.out.lt g hg).1; omega
      have HFO : Hid (∀ g, u.ownBlock = some g → g ≠ Fb) := fun g hg e => by have := (HO.out.lt g hg).1; omega
      obtain ⟨c, hc⟩ : ∃ c, c = at8 rk 0 := ⟨_, rfl⟩
      obtain ⟨r1, hr1⟩ : ∃ r, r = rk.drop 1 := ⟨_, rfl⟩
      obtain ⟨r2, hr2⟩ : ∃ r, r = r1.drop c := ⟨_, rfl⟩
      obtain ⟨x, hx⟩ : ∃ x, x = ba (r1.take c) := ⟨_, rfl⟩
      have hc255 : c ≤ 255 := by have := at8_lt rk 0; omega
      have hcn : num (rk.take 1) = (c : Int) := by rw [num_first, hc]
      obtain ⟨ua, uc, eu⟩ : ∃ a c, u = .slice a k c := owns_slice HO.out
      have HEND : Hid (O = none → ∀ W : World, Kept [R] wr W → TkP R w O (.panicked few) W) := fun h W hW =>
        ⟨(KK2.out.more HK.out (by intro j hj hl; simp at hj ⊢; omega)).trans hW, .inl ⟨h, rfl⟩⟩
      go_wp2_with fail
      by_cases hfew1 : rk.length < 1
      · have hfew : (rk.length : Int) < 1 := by omega
        have HEND := HEND.out (HF1.out (k + 1) (by omega) (tkTs_bad HT.out (tkT_none0 hfew1)))
        have HEND : Hid (∀ W : World, Kept [R] wr W → TkP R w O (.panicked few) W) := HEND
        refine region_chainGD (by kernel_rfl) (by kernel_rfl) [.quiet (.pointer (some ⟨Fb, 2, none⟩)) 5, .quiet (u) 3, .quiet (.pointer (some ⟨R, 0, none⟩)) 5, .quiet (.pointer (some ⟨R, 0, none⟩)) 5, .step 0, .step 1, .step 2, .step 3, .quiet (.pointer (some ⟨Fb, 2, none⟩)) 5, .step 4] [4, 5, 6, 7, 9] (by kernel_rfl)
          (fun s r w' => match s with
            | 0 => Below wr.heap.size wr w'
            | _ => False
            ) ((Below.refl _ wr).drew) ?step ?fin
        case step =>
          intro i o ho a' w' s r hI hfree hvals hdef
          have y2 : w'.cell? ⟨Fb, 2, none⟩ = some u := by
            match s, hI with
            | 0, hI => exact (Below.cell hI hFl).trans x2
          match i, ho with
          | 0, ho =>
            simp at ho; subst ho
            have e3 : a'.eval (.tmp 3) = .pointer (some ⟨Fb, 0, none⟩) := (hfree 3 (by kernel_rfl)).trans rfl
            show s ≤ 5 → _
            intro hs
            refine .inl ⟨rfl, ?_⟩
            generalize a'.eval = ρ at *
            simp [execOp, go_sem, e3]
          | 1, ho =>
            simp at ho; subst ho
            have e11 : a'.eval (.tmp 11) = .pointer (some ⟨Fb, 2, none⟩) := hvals 0 _ _ (by kernel_rfl) rfl rfl
            show s ≤ 3 → _
            intro hs
            refine .inl ⟨rfl, ?_⟩
            generalize a'.eval = ρ at *
            simp [execOp, go_sem, e11, y2]
          | 2, ho =>
            simp at ho; subst ho
            have e0 : a'.eval (.tmp 0) = .pointer (some ⟨R, 0, none⟩) := (hfree 0 (by kernel_rfl)).trans rfl
            show s ≤ 5 → _
            intro hs
            refine .inl ⟨rfl, ?_⟩
            generalize a'.eval = ρ at *
            simp [execOp, go_sem, e0]
          | 3, ho =>
            simp at ho; subst ho
            have e0 : a'.eval (.tmp 0) = .pointer (some ⟨R, 0, none⟩) := (hfree 0 (by kernel_rfl)).trans rfl
            show s ≤ 5 → _
            intro hs
            refine .inl ⟨rfl, ?_⟩
            generalize a'.eval = ρ at *
            simp [execOp, go_sem, e0]
          | 4, ho =>
            simp at ho; subst ho
            have e14 : a'.eval (.tmp 14) = .pointer (some ⟨R, 0, none⟩) := hvals 3 _ _ (by kernel_rfl) rfl rfl
            show s = 0 → _ ∧ Oper.wp _ _ _ _ _ _
            intro hs
            subst hs
            refine ⟨rfl, ?_⟩
            have ef : a'.eval (.func 95) = .func (.func 95) #[] #[] := rfl
            have ec : a'.eval (.const (.int .i64 1)) = .int .i64 1 := rfl
            have hB : Below wr.heap.size wr w' := hI
            refine oper_wp_panic (f := 95) (args := #[.pointer (some ⟨R, 0, none⟩), .int .i64 1]) ?_ ?_
            · generalize a'.eval = ρ at *
              simp [execOp, go_sem, e14, ef, ec]
            · refine (numberL_few R rk 1 w' (HR.out.below hB HR.out.lt) hfew).mono ?_
              rintro e w'' ⟨rfl, rfl⟩
              exact ⟨_, rfl, hdef, HEND.out _ ((Kept.refl _ wr).below hB)⟩
          | 5, ho =>
            simp at ho; subst ho
            have e13 : a'.eval (.tmp 13) = .pointer (some ⟨R, 0, none⟩) := hvals 2 _ _ (by kernel_rfl) rfl rfl
            have e15 : a'.eval (.tmp 15) = r 0 := hvals 4 _ _ (by kernel_rfl) rfl rfl
            show s = 1 → _ ∧ Oper.wp _ _ _ _ _ _
            intro hs
            subst hs
            refine ⟨rfl, ?_⟩
            exact hI.elim
          | 6, ho =>
            simp at ho; subst ho
            have e16 : a'.eval (.tmp 16) = r 1 := hvals 5 _ _ (by kernel_rfl) rfl rfl
            show s = 2 → _ ∧ Oper.wp _ _ _ _ _ _
            intro hs
            subst hs
            refine ⟨rfl, ?_⟩
            exact hI.elim
          | 7, ho =>
            simp at ho; subst ho
            have e12 : a'.eval (.tmp 12) = u := hvals 1 _ _ (by kernel_rfl) rfl rfl
            have e17 : a'.eval (.tmp 17) = r 2 := hvals 6 _ _ (by kernel_rfl) rfl rfl
            show s = 3 → _ ∧ Oper.wp _ _ _ _ _ _
            intro hs
            subst hs
            refine ⟨rfl, ?_⟩
            exact hI.elim
          | 8, ho =>
            simp at ho; subst ho
            have e3 : a'.eval (.tmp 3) = .pointer (some ⟨Fb, 0, none⟩) := (hfree 3 (by kernel_rfl)).trans rfl
            show s ≤ 5 → _
            intro hs
            refine .inl ⟨rfl, ?_⟩
            generalize a'.eval = ρ at *
            simp [execOp, go_sem, e3]
          | 9, ho =>
            simp at ho; subst ho
            have e19 : a'.eval (.tmp 19) = .pointer (some ⟨Fb, 2, none⟩) := hvals 8 _ _ (by kernel_rfl) rfl rfl
            have e18 : a'.eval (.tmp 18) = r 3 := hvals 7 _ _ (by kernel_rfl) rfl rfl
            show s = 4 → _ ∧ Oper.wp _ _ _ _ _ _
            intro hs
            subst hs
            refine ⟨rfl, ?_⟩
            exact hI.elim
        case fin =>
          rintro r w7 hI
          exact hI.elim
      have hlen : 1 ≤ rk.length := by omega
      by_cases hfew2 : r1.length < c
      · have hfew : (r1.length : Int) < (c : Int) := by omega
        have HEND := HEND.out (HF1.out (k + 1) (by omega) (tkTs_bad HT.out (tkT_none1 (by rw [← hr1, ← hc]; exact hfew2))))
        have HEND : Hid (∀ W : World, Kept [R] wr W → TkP R w O (.panicked few) W) := HEND
        refine region_chainGD (by kernel_rfl) (by kernel_rfl) [.quiet (.pointer (some ⟨Fb, 2, none⟩)) 5, .quiet (u) 3, .quiet (.pointer (some ⟨R, 0, none⟩)) 5, .quiet (.pointer (some ⟨R, 0, none⟩)) 5, .step 0, .step 1, .step 2, .step 3, .quiet (.pointer (some ⟨Fb, 2, none⟩)) 5, .step 4] [4, 5, 6, 7, 9] (by kernel_rfl)
          (fun s r w' => match s with
            | 0 => Below wr.heap.size wr w'
            | 1 => r 0 = .int .i64 (c : Int) ∧ Blk w' R #[.string (ba r1)] 158 ∧ Kept [R] wr w'
            | _ => False
            ) ((Below.refl _ wr).drew) ?step ?fin
        case step =>
          intro i o ho a' w' s r hI hfree hvals hdef
          have y2 : w'.cell? ⟨Fb, 2, none⟩ = some u := by
            match s, hI with
            | 0, hI => exact (Below.cell hI hFl).trans x2
            | 1, ⟨_, _, hK⟩ => exact (HFB.out.kept hK hFS).cell (j := 2) rfl
          match i, ho with
          | 0, ho =>
            simp at ho; subst ho
            have e3 : a'.eval (.tmp 3) = .pointer (some ⟨Fb, 0, none⟩) := (hfree 3 (by kernel_rfl)).trans rfl
            show s ≤ 5 → _
            intro hs
            refine .inl ⟨rfl, ?_⟩
            generalize a'.eval = ρ at *
            simp [execOp, go_sem, e3]
          | 1, ho =>
            simp at ho; subst ho
            have e11 : a'.eval (.tmp 11) = .pointer (some ⟨Fb, 2, none⟩) := hvals 0 _ _ (by kernel_rfl) rfl rfl
            show s ≤ 3 → _
            intro hs
            refine .inl ⟨rfl, ?_⟩
            generalize a'.eval = ρ at *
            simp [execOp, go_sem, e11, y2]
          | 2, ho =>
            simp at ho; subst ho
            have e0 : a'.eval (.tmp 0) = .pointer (some ⟨R, 0, none⟩) := (hfree 0 (by kernel_rfl)).trans rfl
            show s ≤ 5 → _
            intro hs
            refine .inl ⟨rfl, ?_⟩
            generalize a'.eval = ρ at *
            simp [execOp, go_sem, e0]
          | 3, ho =>
            simp at ho; subst ho
            have e0 : a'.eval (.tmp 0) = .pointer (some ⟨R, 0, none⟩) := (hfree 0 (by kernel_rfl)).trans rfl
            show s ≤ 5 → _
            intro hs
            refine .inl ⟨rfl, ?_⟩
            generalize a'.eval = ρ at *
            simp [execOp, go_sem, e0]
          | 4, ho =>
            simp at ho; subst ho
            have e14 : a'.eval (.tmp 14) = .pointer (some ⟨R, 0, none⟩) := hvals 3 _ _ (by kernel_rfl) rfl rfl
            show s = 0 → _ ∧ Oper.wp _ _ _ _ _ _
            intro hs
            subst hs
            refine ⟨rfl, ?_⟩
            have ef : a'.eval (.func 95) = .func (.func 95) #[] #[] := rfl
            have ec : a'.eval (.const (.int .i64 1)) = .int .i64 1 := rfl
            have hB : Below wr.heap.size wr w' := hI
            refine oper_wp_call (f := 95) (args := #[.pointer (some ⟨R, 0, none⟩), .int .i64 1]) ?_ ?_
            · generalize a'.eval = ρ at *
              simp [execOp, go_sem, e14, ef, ec]
            · refine (numberL_some R 1 1 (c : Int) rk r1 w' hcn.symm hr1 rfl (HR.out.below hB HR.out.lt) hlen (by omega)).mono ?_
              rintro e w'' ⟨rfl, hb1, hk1⟩
              exact ⟨_, rfl, _, rfl, updR_at _ _ _, hb1, ((Kept.refl _ wr).below hB).trans hk1⟩
          | 5, ho =>
            simp at ho; subst ho
            have e13 : a'.eval (.tmp 13) = .pointer (some ⟨R, 0, none⟩) := hvals 2 _ _ (by kernel_rfl) rfl rfl
            have e15 : a'.eval (.tmp 15) = r 0 := hvals 4 _ _ (by kernel_rfl) rfl rfl
            show s = 1 → _ ∧ Oper.wp _ _ _ _ _ _
            intro hs
            subst hs
            refine ⟨rfl, ?_⟩
            have ef : a'.eval (.func 107) = .func (.func 107) #[] #[] := rfl
            obtain ⟨hr0, hb, hK⟩ := hI
            rw [hr0] at e15
            refine oper_wp_panic (f := 107) (args := #[.pointer (some ⟨R, 0, none⟩), .int .i64 (c : Int)]) ?_ ?_
            · generalize a'.eval = ρ at *
              simp [execOp, go_sem, e13, e15, ef]
            · refine (textL_few R r1 (c : Int) w' hb hfew).mono ?_
              rintro e w'' ⟨rfl, rfl⟩
              exact ⟨_, rfl, hdef, HEND.out _ hK⟩
          | 6, ho =>
            simp at ho; subst ho
            have e16 : a'.eval (.tmp 16) = r 1 := hvals 5 _ _ (by kernel_rfl) rfl rfl
            show s = 2 → _ ∧ Oper.wp _ _ _ _ _ _
            intro hs
            subst hs
            refine ⟨rfl, ?_⟩
            exact hI.elim
          | 7, ho =>
            simp at ho; subst ho
            have e12 : a'.eval (.tmp 12) = u := hvals 1 _ _ (by kernel_rfl) rfl rfl
            have e17 : a'.eval (.tmp 17) = r 2 := hvals 6 _ _ (by kernel_rfl) rfl rfl
            show s = 3 → _ ∧ Oper.wp _ _ _ _ _ _
            intro hs
            subst hs
            refine ⟨rfl, ?_⟩
            exact hI.elim
          | 8, ho =>
            simp at ho; subst ho
            have e3 : a'.eval (.tmp 3) = .pointer (some ⟨Fb, 0, none⟩) := (hfree 3 (by kernel_rfl)).trans rfl
            show s ≤ 5 → _
            intro hs
            refine .inl ⟨rfl, ?_⟩
            generalize a'.eval = ρ at *
            simp [execOp, go_sem, e3]
          | 9, ho =>
            simp at ho; subst ho
            have e19 : a'.eval (.tmp 19) = .pointer (some ⟨Fb, 2, none⟩) := hvals 8 _ _ (by kernel_rfl) rfl rfl
            have e18 : a'.eval (.tmp 18) = r 3 := hvals 7 _ _ (by kernel_rfl) rfl rfl
            show s = 4 → _ ∧ Oper.wp _ _ _ _ _ _
            intro hs
            subst hs
            refine ⟨rfl, ?_⟩
            exact hI.elim
        case fin =>
          rintro r w7 hI
          exact hI.elim
      · have hlen2 : c ≤ r1.length := by omega
        have HT2 : Hid (tkTs (k + 1) l5 = some (ps ++ [x], r2)) := by
          refine tkTs_good HT.out ?_
          rw [tkT_some hlen (by rw [← hr1, ← hc]; omega), ← hr1, ← hc, hx, hr2]
        refine region_chainGD (by kernel_rfl) (by kernel_rfl) [.quiet (.pointer (some ⟨Fb, 2, none⟩)) 5, .quiet (u) 3, .quiet (.pointer (some ⟨R, 0, none⟩)) 5, .quiet (.pointer (some ⟨R, 0, none⟩)) 5, .step 0, .step 1, .step 2, .step 3, .quiet (.pointer (some ⟨Fb, 2, none⟩)) 5, .step 4] [4, 5, 6, 7, 9] (by kernel_rfl)
          (fun s r w' => match s with
            | 0 => Below wr.heap.size wr w'
            | 1 => r 0 = .int .i64 (c : Int) ∧ Blk w' R #[.string (ba r1)] 158 ∧ Kept [R] wr w'
            | 2 => r 1 = .string x ∧ Blk w' R #[.string (ba r2)] 158 ∧ Kept [R] wr w'
            | 3 => ∃ V, Blk V R #[.string (ba r2)] 158 ∧ Kept [R] wr V ∧ w' = V.alloc (.cells #[.string x] 9) ∧ r 2 = .slice (some ⟨V.heap.size, 0, none⟩) 1 1
            | 4 => ∃ V, Blk V R #[.string (ba r2)] 158 ∧ Kept [R] wr V ∧ w'.ownsRow base 9 1 (r 3) (k + 1) ((ps ++ [x]).map Value.string) ∧ (V.alloc (.cells #[.string x] 9)).grownBy w' u.ownBlock
            | _ => ∃ V W v, Blk V R #[.string (ba r2)] 158 ∧ Kept [R] wr V ∧ W.ownsRow base 9 1 v (k + 1) ((ps ++ [x]).map Value.string) ∧ (V.alloc (.cells #[.string x] 9)).grownBy W u.ownBlock ∧ w' = W.setCell ⟨Fb, 2, none⟩ v
            ) ((Below.refl _ wr).drew) ?step ?fin
        case step =>
          intro i o ho a' w' s r hI hfree hvals hdef
          have y2 : s ≤ 3 → w'.cell? ⟨Fb, 2, none⟩ = some u := fun hs3 => by
            match s, hI with
            | 0, hI => exact (Below.cell hI hFl).trans x2
            | 1, ⟨_, _, hK⟩ => exact (HFB.out.kept hK hFS).cell (j := 2) rfl
            | 2, ⟨_, _, hK⟩ => exact (HFB.out.kept hK hFS).cell (j := 2) rfl
            | 3, ⟨V, _, hK, hw, _⟩ => rw [hw]; exact ((HFB.out.kept hK hFS).alloc _).cell (j := 2) rfl
            | n + 4, _ => omega
          match i, ho with
          | 0, ho =>
            simp at ho; subst ho
            have e3 : a'.eval (.tmp 3) = .pointer (some ⟨Fb, 0, none⟩) := (hfree 3 (by kernel_rfl)).trans rfl
            show s ≤ 5 → _
            intro hs
            refine .inl ⟨rfl, ?_⟩
            generalize a'.eval = ρ at *
            simp [execOp, go_sem, e3]
          | 1, ho =>
            simp at ho; subst ho
            have e11 : a'.eval (.tmp 11) = .pointer (some ⟨Fb, 2, none⟩) := hvals 0 _ _ (by kernel_rfl) rfl rfl
            show s ≤ 3 → _
            intro hs
            refine .inl ⟨rfl, ?_⟩
            generalize a'.eval = ρ at *
            simp [execOp, go_sem, e11, y2 hs]
          | 2, ho =>
            simp at ho; subst ho
            have e0 : a'.eval (.tmp 0) = .pointer (some ⟨R, 0, none⟩) := (hfree 0 (by kernel_rfl)).trans rfl
            show s ≤ 5 → _
            intro hs
            refine .inl ⟨rfl, ?_⟩
            generalize a'.eval = ρ at *
            simp [execOp, go_sem, e0]
          | 3, ho =>
            simp at ho; subst ho
            have e0 : a'.eval (.tmp 0) = .pointer (some ⟨R, 0, none⟩) := (hfree 0 (by kernel_rfl)).trans rfl
            show s ≤ 5 → _
            intro hs
            refine .inl ⟨rfl, ?_⟩
            generalize a'.eval = ρ at *
            simp [execOp, go_sem, e0]
          | 4, ho =>
            simp at ho; subst ho
            have e14 : a'.eval (.tmp 14) = .pointer (some ⟨R, 0, none⟩) := hvals 3 _ _ (by kernel_rfl) rfl rfl
            show s = 0 → _ ∧ Oper.wp _ _ _ _ _ _
            intro hs
            subst hs
            refine ⟨rfl, ?_⟩
            have ef : a'.eval (.func 95) = .func (.func 95) #[] #[] := rfl
            have ec : a'.eval (.const (.int .i64 1)) = .int .i64 1 := rfl
            have hB : Below wr.heap.size wr w' := hI
            refine oper_wp_call (f := 95) (args := #[.pointer (some ⟨R, 0, none⟩), .int .i64 1]) ?_ ?_
            · generalize a'.eval = ρ at *
              simp [execOp, go_sem, e14, ef, ec]
            · refine (numberL_some R 1 1 (c : Int) rk r1 w' hcn.symm hr1 rfl (HR.out.below hB HR.out.lt) hlen (by omega)).mono ?_
              rintro e w'' ⟨rfl, hb1, hk1⟩
              exact ⟨_, rfl, _, rfl, updR_at _ _ _, hb1, ((Kept.refl _ wr).below hB).trans hk1⟩
          | 5, ho =>
            simp at ho; subst ho
            have e13 : a'.eval (.tmp 13) = .pointer (some ⟨R, 0, none⟩) := hvals 2 _ _ (by kernel_rfl) rfl rfl
            have e15 : a'.eval (.tmp 15) = r 0 := hvals 4 _ _ (by kernel_rfl) rfl rfl
            show s = 1 → _ ∧ Oper.wp _ _ _ _ _ _
            intro hs
            subst hs
            refine ⟨rfl, ?_⟩
            have ef : a'.eval (.func 107) = .func (.func 107) #[] #[] := rfl
            obtain ⟨hr0, hb, hK⟩ := hI
            rw [hr0] at e15
            refine oper_wp_call (f := 107) (args := #[.pointer (some ⟨R, 0, none⟩), .int .i64 (c : Int)]) ?_ ?_
            · generalize a'.eval = ρ at *
              simp [execOp, go_sem, e13, e15, ef]
            · refine (textL_some R c x r1 r2 w' hx hr2 hb hlen2 hc255).mono ?_
              rintro e w'' ⟨rfl, hb1, hk1⟩
              exact ⟨_, rfl, _, rfl, updR_at _ _ _, hb1, hK.trans hk1⟩
          | 6, ho =>
            simp at ho; subst ho
            have e16 : a'.eval (.tmp 16) = r 1 := hvals 5 _ _ (by kernel_rfl) rfl rfl
            show s = 2 → _ ∧ Oper.wp _ _ _ _ _ _
            intro hs
            subst hs
            refine ⟨rfl, ?_⟩
            obtain ⟨hr1, hb, hK⟩ := hI
            rw [hr1] at e16
            refine oper_wp_ok (v := .slice (some ⟨w'.heap.size, 0, none⟩) 1 1) (w' := w'.alloc (.cells #[.string x] 9)) ?_ ⟨_, rfl, w', hb, hK, rfl, updR_at _ _ _⟩
            generalize a'.eval = ρ at *
            simp [execOp, go_sem, e16]
          | 7, ho =>
            simp at ho; subst ho
            have e12 : a'.eval (.tmp 12) = u := hvals 1 _ _ (by kernel_rfl) rfl rfl
            have e17 : a'.eval (.tmp 17) = r 2 := hvals 6 _ _ (by kernel_rfl) rfl rfl
            show s = 3 → _ ∧ Oper.wp _ _ _ _ _ _
            intro hs
            subst hs
            refine ⟨rfl, ?_⟩
            obtain ⟨V, hb, hK, hw, hr2⟩ := hI
            rw [hr2] at e17
            subst hw
            have ho : V.ownsRow base 9 1 u k (ps.map Value.string) := owns_same HO.out (fun g hg => hK.block g (HO.out.lt g hg).2 (fun hm => HRO.out g hg (by simpa using hm)))
            obtain ⟨v', w2, hrun, g2, g3⟩ := str_snoc x ho hk255 (Nat.le_trans hbw hK.size)
            refine oper_wp_ok (v := v') (w' := w2) ?_ ⟨_, rfl, V, hb, hK, ?_, g3⟩
            · generalize a'.eval = ρ at *
              simp [execOp, resolve, invoke, builtin, e12, e17, hrun, Result.andThen]
            · rw [updR_at]; exact g2
          | 8, ho =>
            simp at ho; subst ho
            have e3 : a'.eval (.tmp 3) = .pointer (some ⟨Fb, 0, none⟩) := (hfree 3 (by kernel_rfl)).trans rfl
            show s ≤ 5 → _
            intro hs
            refine .inl ⟨rfl, ?_⟩
            generalize a'.eval = ρ at *
            simp [execOp, go_sem, e3]
          | 9, ho =>
            simp at ho; subst ho
            have e19 : a'.eval (.tmp 19) = .pointer (some ⟨Fb, 2, none⟩) := hvals 8 _ _ (by kernel_rfl) rfl rfl
            have e18 : a'.eval (.tmp 18) = r 3 := hvals 7 _ _ (by kernel_rfl) rfl rfl
            show s = 4 → _ ∧ Oper.wp _ _ _ _ _ _
            intro hs
            subst hs
            refine ⟨rfl, ?_⟩
            obtain ⟨V, hb, hK, g2, g3⟩ := hI
            have hF4 : Blk w' Fb #[.int .i64 m, .bool false, u] 36 := (g3.block Fb (by rw [World.size_alloc]; have := hK.size; omega) (fun e => HFO.out _ e.symm rfl)).trans ((HFB.out.kept hK hFS).alloc _)
            have z2 := hF4.cell (j := 2) (u := u) rfl
            have zf := hF4.free 2
            have hr3 : ∃ a4 c4, r 3 = .slice a4 (k + 1) c4 := owns_slice g2
            obtain ⟨a4, c4, e4⟩ := hr3
            rw [e4] at e18 g2
            refine oper_wp_skip (w' := w'.setCell ⟨Fb, 2, none⟩ (.slice a4 (k + 1) c4)) ?_ ⟨_, rfl, V, w', .slice a4 (k + 1) c4, hb, hK, g2, g3, rfl⟩
            generalize a'.eval = ρ at *
            simp [execOp, go_sem, e18, e19, z2, zf]
        case fin =>
          rintro r w7 ⟨V, W, v, hb, hK, g2, g3, hw⟩
          simp only [putC, Ck.out, Act.put, List.setIfInBounds_toArray, List.set_cons_succ, List.set_cons_zero]
          have hVs := hK.size
          have hF4 : Blk W Fb #[.int .i64 m, .bool false, u] 36 := (g3.block Fb (by rw [World.size_alloc]; omega) (fun e => HFO.out _ e.symm rfl)).trans ((HFB.out.kept hK hFS).alloc _)
          have hF5 : Blk w7 Fb #[.int .i64 m, .bool false, v] 36 := by rw [hw]; exact hF4.set 2 v
          have hRl := HR.out.lt
          have hR5 : Blk w7 R #[.string (ba r2)] 158 := by
            rw [hw]
            exact Blk.other (w := W) (((g3.block R (by rw [World.size_alloc]; omega) (fun e => HRO.out _ e.symm rfl)).trans (hb.alloc _))) (a := ⟨Fb, 2, none⟩) HRF.out _
          have hKV : Kept [R] wr (V.alloc (.cells #[.string x] 9)) := hK.alloc _
          have hKW : Kept [R, Fb] W1 w7 := by
            have k0 := HK.out
            refine ⟨by rw [hw]; exact g3.os.trans (hKV.os.trans k0.os), by rw [hw]; exact g3.tape.trans (hKV.tape.trans k0.tape), by rw [hw]; exact g3.output.trans (hKV.output.trans k0.output), ?_, fun j hj hn => ?_⟩
            · have h1 := g3.size
              have h2 := hKV.size
              have h3 := k0.size
              rw [hw, World.size_setCell]; omega
            · simp only [List.mem_cons, List.not_mem_nil, or_false, not_or] at hn
              have h3 := k0.size
              have h2 := hKV.size
              rw [hw]
              refine (Below.heap_setCell _ _ _ _ hn.2).trans ((g3.block j (by omega) (fun e => ?_)).trans ((hKV.block j (by omega) (by simpa using hn.1)).trans (k0.block j hj (by simp; exact hn))))
              have := (HO.out.lt j e.symm).1
              omega
          have hO7 : w7.ownsRow base 9 1 v (k + 1) ((ps ++ [x]).map Value.string) := by
            rw [hw]
            exact ownsRow_setCell_below g2 (a := ⟨Fb, 2, none⟩) (by show Fb < base; omega) _
          have HF7 : Hid (Blk w7 Fb #[.int .i64 m, .bool false, v] 36) := hF5
          have HR7 : Hid (Blk w7 R #[.string (ba r2)] 158) := hR5
          have HK7 : Hid (Kept [R, Fb] W1 w7) := hKW
          have HO7 : Hid (w7.ownsRow base 9 1 v (k + 1) ((ps ++ [x]).map Value.string)) := hO7
          clear hF4 hF5 hR5 hKW hO7 hKV g2 g3 hK hb hw
          go_wp2_with fail
          go_roundw
          case rel => exact ⟨k + 1, ps ++ [x], r2, v, by omega, by go_num, HT2.out, HR7.out, HF7.out, HO7.out, HK7.out⟩
          case measure => simp [intOf]; omega
    · have hkl : k = n := by omega
      subst hkl
      have x0 := HFB.out.cell (j := 0) (u := .int .i64 m) rfl
      have x1 := HFB.out.cell (j := 1) (u := .bool false) rfl
      have x2 := HFB.out.cell (j := 2) (u := u) rfl
      have HAr := KA2.out.kept HK.out (by simp; omega)
      obtain ⟨a0, a1, a2⟩ := HAr.three
      have f1 := HAr.free
      obtain ⟨ua, uc, eu⟩ : ∃ a c, u = .slice a k c := owns_slice HO.out
      subst eu
      have hwb : w.heap.size < base := by omega
      clear hFbb
      go_wp2_with fail
      refine bodyPost_ret (v := .agg #[.int .i64 m, .bool false, .slice ua k uc]) (by simp [results, Try.results97, go_sem, a0, a1, a2]) rfl ?_
      have hps := (tkTs_len HT.out).1
      refine ⟨?_, .inr ⟨⟨m, false, ps⟩, rk, .slice ua k uc, HF2.out hl5 ps rk HT.out, rfl, ?_, ?_⟩⟩
      · exact ((((KK2.out.more HK.out (by intro j hj hl; simp at hj ⊢; omega)).setNew (p := ⟨w.heap.size, 0, none⟩) (Nat.le_refl _) _).setNew (p := ⟨w.heap.size, 1, none⟩) (Nat.le_refl _) _).setNew (p := ⟨w.heap.size, 2, none⟩) (Nat.le_refl _) _)
      · have h1 := ownsRow_setCell_below (ownsRow_setCell_below (ownsRow_setCell_below HO.out (a := ⟨w.heap.size, 0, none⟩) (by show w.heap.size < _; omega) (.int .i64 m)) (a := ⟨w.heap.size, 1, none⟩) (by show w.heap.size < _; omega) (.bool false)) (a := ⟨w.heap.size, 2, none⟩) (by show w.heap.size < _; omega) (.slice ua k uc)
        have h2 : k = ps.length := hps.symm
        rw [h2] at h1 ⊢
        exact (StrsIn.of_owns h1 (by omega)).mono (fun g _ hg => by show w.heap.size ≤ g; omega)
      · exact ((HR.out.other (a := ⟨w.heap.size, 0, none⟩) (by show R ≠ w.heap.size; omega) _).other (a := ⟨w.heap.size, 1, none⟩) (by show R ≠ w.heap.size; omega) _).other (a := ⟨w.heap.size, 2, none⟩) (by show R ≠ w.heap.size; omega) _

end Go.Proofs.Ytnpaejknoipicad

namespace Go.Proofs.Ytnpaejknoipicad
open Go.RowKit

set_option maxHeartbeats 1600000 in
theorem isInPlace_any (S : Nat → Prop) (v : Value) (l : List Fr) (k : Nat) (w : World) (hv : FrsIn S w v l) (hk : k < l.length) :
    Calls Try.prog 72 #[v, .int .i64 k] w fun e w' => e = .returned (.bool (inPl l k)) ∧ Below w.heap.size w w' := by
  obtain ⟨ao, c, hva, h1, h2, hc⟩ := hv
  obtain ⟨b, off, rfl, hb, _, pv, c0, c1, _⟩ := hc k hk
  obtain ⟨n, hn⟩ : ∃ n, n = l.length := ⟨_, rfl⟩
  rw [← hn] at hva hk h1
  have hki : (k : Int) < (n : Int) := by omega
  unfold inPl
  by_cases h0 : k = 0
  · rw [if_pos h0]
    subst h0
    simp only [Nat.zero_mul, Nat.add_zero] at c0 c1
    obtain ⟨q, hq⟩ : ∃ q, q = (frAt l 0).key := ⟨_, rfl⟩
    rw [← hq] at c1 ⊢
    subst hva
    clear hn hc hq
    cases q
    all_goals
      go_enter Try.func72, Try.ntmps72
      go_wp2_with fail
      go_quiet (fail)
      go_wp2
      go_ret
      exact ⟨rfl, below_drewN (Below.refl _ _) _⟩
  · rw [if_neg h0]
    obtain ⟨b', off', e1, _, _, pv', d0, _⟩ := hc (k - 1) (by omega)
    injection e1 with e1
    injection e1 with e1 e2
    subst e1 e2
    obtain ⟨k1, hk1⟩ : ∃ k1, k1 = k - 1 := ⟨_, rfl⟩
    rw [← hk1] at d0 ⊢
    have hk1i : (k : Int) - 1 = (k1 : Int) := by omega
    have hk1l : (k1 : Int) < (n : Int) := by omega
    have hk1w : IntKind.i64.wrap (k1 : Int) = (k1 : Int) := by rw [IntKind.wrap_i64]; omega
    have hk0i : ((k : Int) == 0) = false := by simpa using h0
    obtain ⟨q, hq⟩ : ∃ q, q = (frAt l k).key := ⟨_, rfl⟩
    obtain ⟨t, ht⟩ : ∃ t, t = (frAt l k).time := ⟨_, rfl⟩
    obtain ⟨t', ht'⟩ : ∃ t', t' = (frAt l k1).time := ⟨_, rfl⟩
    rw [← hq, ← ht, ← ht']
    rw [← hq] at c1
    rw [← ht] at c0
    rw [← ht'] at d0
    subst hva
    clear hn hc hq ht ht' hk1 h0
    cases q
    all_goals
      go_enter Try.func72, Try.ntmps72
      go_wp2_with fail
      go_quiet (fail)
      go_wp2
      go_ret
      exact ⟨by simp, below_drewN (Below.refl _ _) _⟩

set_option maxHeartbeats 2000000 in
theorem groupCheck_any (S : Nat → Prop) (v : Value) (l : List Fr) (w : World) (hv : FrsIn S w v l) :
    Calls Try.prog 47 #[.agg #[v]] w fun e w' => e = .returned (.int .i64 (gchk l)) ∧ Below w.heap.size w w' := by
  have HV : Hid (FrsIn S w v l) := hv
  obtain ⟨ao, c, hva, h1, h2, hc⟩ := hv
  have HC : Hid (∀ k, k < l.length → ∃ b off, ao = some ⟨b, off, none⟩ ∧ b < w.heap.size ∧ S b ∧ At3In S w b (off + k * 3) (l[k]?.getD Fr.zero)) := hc
  obtain ⟨n, hn⟩ : ∃ n, n = l.length := ⟨_, rfl⟩
  have HN : Hid (n = l.length) := hn
  obtain ⟨G, hG⟩ : ∃ G, G = gchk l := ⟨_, rfl⟩
  have HG : Hid (G = if n = 0 then 5 else if 6 < n then 2 else goN (gerr l) n 0) := by show _ = _; rw [hG, hn]; rfl
  rw [← hn] at hva h1
  rw [← hG]
  clear hc hn hG
  subst hva
  by_cases h0 : n = 0
  · have hg : G = 5 := by rw [HG.out, if_pos h0]
    rw [hg]
    subst h0
    go_enter Try.func47, Try.ntmps47
    go_wp2
    go_ret
    exact ⟨rfl, by go_grown⟩
  have h0i : ((n : Int) == 0) = false := by simpa using h0
  by_cases h6 : 6 < n
  · have hg : G = 2 := by rw [HG.out, if_neg h0, if_pos h6]
    rw [hg]
    go_enter Try.func47, Try.ntmps47
    go_wp2
    go_ret
    exact ⟨rfl, by go_grown⟩
  have HG2 : Hid (G = goN (gerr l) n 0) := by show _ = _; rw [HG.out, if_neg h0, if_neg h6]
  have hn6 : n ≤ 6 := by omega
  clear HG h0 h6
  go_enter Try.func47, Try.ntmps47
  go_wp2_with fail
  go_loopw [17] (fun i wr => ∃ k : Nat, k ≤ n ∧ i = .int .i64 k ∧ Hid (∀ j, j < k → gerr l j = 0) ∧ Hid (Blk wr w.heap.size #[.slice ao n c] 25) ∧ Hid (Below w.heap.size w wr))
    (fun i _ => n - (intOf i).toNat)
  case atStart => exact ⟨0, Nat.zero_le _, rfl, (show ∀ j, j < 0 → _ from fun j hj => absurd hj (Nat.not_lt_zero _)), Blk.new w _ _, (Below.refl _ w).alloc (Nat.le_refl _) _⟩
  case round =>
    obtain ⟨k, hk, rfl, HK, KB, HB⟩ := hrel
    have b0 := KB.out.one
    by_cases hlt : k < n
    · obtain ⟨b, off, hao, hb, _, pv, c0, c1, c2, hp⟩ := HC.out k (by rw [← HN.out]; exact hlt)
      subst hao
      have d0 := (HB.out.cell (p := ⟨b, off + k * 3, none⟩) hb).trans c0
      have d1 := (HB.out.cell (p := ⟨b, off + k * 3 + 1, none⟩) hb).trans c1
      have d2 := (HB.out.cell (p := ⟨b, off + k * 3 + 2, none⟩) hb).trans c2
      obtain ⟨f, hf⟩ : ∃ f, f = frAt l k := ⟨_, rfl⟩
      rw [show (l[k]?.getD Fr.zero) = f from hf.symm] at d0 d1 hp
      obtain ⟨pa, pc, ep⟩ := hp.1.len
      obtain ⟨pn, hpn⟩ : ∃ pn, pn = f.parts.length := ⟨_, rfl⟩
      rw [← hpn] at ep
      subst ep
      obtain ⟨ft, fk, fp⟩ := f
      simp only at d0 d1 d2 hp hpn
      obtain ⟨ck, hck⟩ : ∃ ck, ck = chkF ft fp := ⟨_, rfl⟩
      have HCF : Hid (∀ w' : World, Strs w' (.slice pa pn pc) fp → Calls Try.prog 65 #[.agg #[.int .i64 ft, .bool fk, .slice pa pn pc]] w' fun e w'' => e = .returned (.int .i64 ck) ∧ Below w'.heap.size w' w'') := fun w' hs => by rw [hck]; exact frameCheck_any ft fk _ fp w' hs hp.2.1
      have HP : Hid (Strs wr (.slice pa pn pc) fp) := hp.1.below HB.out
      have HCK : Hid ((frAt l k).chk = ck) := by show _ = _; rw [← hf, hck]; rfl
      have hlti : (k : Int) < (n : Int) := by omega
      have HIP : Hid (∀ w' : World, FrsIn S w' (.slice (some ⟨b, off, none⟩) n c) l → Calls Try.prog 72 #[.slice (some ⟨b, off, none⟩) n c, .int .i64 k] w' fun e w'' => e = .returned (.bool (inPl l k)) ∧ Below w'.heap.size w' w'') := fun w' hs => isInPlace_any S _ l k w' hs (by rw [← HN.out]; exact hlt)
      obtain ⟨ip, hip⟩ : ∃ ip, ip = inPl l k := ⟨_, rfl⟩
      rw [← hip] at HIP
      have HII : Hid (ip = inPl l k) := hip
      have hbw := KB.out.lt
      clear c0 c1 c2 hp hf hck hpn hip
      go_wp2_with fail
      refine (HCF.out _ (HP.out.alloc _)).mono ?_
      rintro e w1 ⟨rfl, hb1⟩
      have B1 : Hid (Below wr.heap.size wr w1) := ((Below.refl _ wr).alloc (Nat.le_refl _) _).trans (hb1.mono (by simp))
      have K1 : Hid (Blk w1 w.heap.size #[.slice (some ⟨b, off, none⟩) n c] 25) := KB.out.below B1.out KB.out.lt
      have V1 : Hid (FrsIn S w1 (.slice (some ⟨b, off, none⟩) n c) l) := (HV.out.below HB.out).below B1.out
      have BB1 : Hid (Below w.heap.size w w1) := HB.out.trans (B1.out.mono HB.out.size)
      clear hb1 d0 d1 d2 b0
      have b1 := K1.out.one
      by_cases hc0 : ck = 0
      · subst hc0
        go_wp2_with fail
        refine (HIP.out _ V1.out).mono ?_
        rintro e w2 ⟨rfl, hb2⟩
        have K2 : Hid (Blk w2 w.heap.size #[.slice (some ⟨b, off, none⟩) n c] 25) := K1.out.below hb2 K1.out.lt
        have BB2 : Hid (Below w.heap.size w w2) := BB1.out.trans (hb2.mono BB1.out.size)
        clear hb2 b1
        cases ip
        · have HGE : Hid (G = 4) := by
            show _ = _
            have he : gerr l k = 4 := by unfold gerr; rw [if_pos HCK.out, ← HII.out]; rfl
            rw [HG2.out, goN_hit n 0 k (Nat.zero_le _) (by omega) (fun j _ hj => HK.out j hj) (by rw [he]; decide), he]
          go_wp2
          go_ret
          exact ⟨by rw [HGE.out]; rfl, BB2.out⟩
        · have HGE : Hid (gerr l k = 0) := gerr_zero.2 ⟨HCK.out, HII.out.symm⟩
          go_wp2
          go_roundw
          case rel => exact ⟨k + 1, by omega, by go_num, (show ∀ j, j < k + 1 → _ from fun j hj => by
            by_cases e : j = k
            · subst e; exact HGE.out
            · exact HK.out j (by omega)), K2, BB2⟩
          case measure => simp [intOf]; omega
      · have HGE : Hid (G = ck) := by
          show _ = _
          have he : gerr l k = ck := by unfold gerr; rw [if_neg (by rw [HCK.out]; exact hc0), HCK.out]
          rw [HG2.out, goN_hit n 0 k (Nat.zero_le _) (by omega) (fun j _ hj => HK.out j hj) (by rw [he]; exact hc0), he]
        go_wp2
        go_ret
        exact ⟨by rw [HGE.out]; rfl, BB1.out⟩
    · have hkl : k = n := by omega
      subst hkl
      have HGE : Hid (G = 0) := by show _ = _; rw [HG2.out]; exact goN_all _ _ (fun j _ hj => HK.out j (by omega))
      go_wp2
      go_ret
      exact ⟨by rw [HGE.out]; rfl, HB.out⟩

set_option maxHeartbeats 2000000 in
theorem groupSize_any (S : Nat → Prop) (v : Value) (l : List Fr) (w : World) (hv : FrsIn S w v l) :
    Calls Try.prog 82 #[.agg #[v]] w fun e w' => e = .returned (.tuple #[.int .i64 (gsize l), .int .i64 (gchk l)]) ∧ Below w.heap.size w w' := by
  have HCG : Hid (∀ w' : World, FrsIn S w' v l → Calls Try.prog 47 #[.agg #[v]] w' fun e w'' => e = .returned (.int .i64 (gchk l)) ∧ Below w'.heap.size w' w'') := fun w' hs => groupCheck_any S v l w' hs
  have HV : Hid (FrsIn S w v l) := hv
  obtain ⟨ao, c, hva, h1, h2, hc⟩ := hv
  have HC : Hid (∀ k, k < l.length → ∃ b off, ao = some ⟨b, off, none⟩ ∧ b < w.heap.size ∧ S b ∧ At3In S w b (off + k * 3) (l[k]?.getD Fr.zero)) := hc
  obtain ⟨n, hn⟩ : ∃ n, n = l.length := ⟨_, rfl⟩
  have HN : Hid (n = l.length) := hn
  obtain ⟨G, hG⟩ : ∃ G, G = gchk l := ⟨_, rfl⟩
  obtain ⟨Z, hZ⟩ : ∃ Z, Z = gsize l := ⟨_, rfl⟩
  have HZ : Hid (Z = if G = 0 then szG l else 0) := by show _ = _; rw [hZ, hG]; rfl
  have HGZ : Hid (G = 0 → 0 < l.length ∧ l.length ≤ 6 ∧ ∀ k, k < l.length → (frAt l k).chk = 0 ∧ inPl l k = true) := fun h => gchk_zero.1 (by rw [← hG]; exact h)
  rw [← hn] at hva h1
  rw [← hG] at HCG
  rw [← hG, ← hZ]
  clear hc hn hG hZ
  subst hva
  by_cases hG0 : G = 0
  case neg =>
    have hZ0 : Z = 0 := by rw [HZ.out, if_neg hG0]
    subst hZ0
    go_enter Try.func82, Try.ntmps82
    go_wp2_with fail
    refine (HCG.out _ (HV.out.alloc _)).mono ?_
    rintro e w1 ⟨rfl, hb1⟩
    have B1 : Hid (Below w.heap.size w w1) := ((Below.refl _ w).alloc (Nat.le_refl _) _).trans (hb1.mono (by simp))
    clear hb1
    go_wp2
    exact bodyPost_ret (v := .tuple #[.int .i64 0, .int .i64 G]) (by simp [results, Try.results82, go_sem]) rfl ⟨rfl, B1.out⟩
  have HZ2 : Hid (Z = szG l) := by show _ = _; rw [HZ.out, if_pos hG0]
  have hg := HGZ.out hG0
  have hn6 : n ≤ 6 := by rw [HN.out]; exact hg.2.1
  have HFR : Hid (∀ k, k < n → (frAt l k).chk = 0) := fun k hk => (hg.2.2 k (by rw [← HN.out]; exact hk)).1
  have HLE : Hid (∀ k, k ≤ n → szG (l.take k) ≤ k * 32) := fun k hk => szG_le (fun j hj => fr_szP (hg.2.2 j hj).1) k (by rw [← HN.out]; exact hk)
  subst hG0
  clear HZ HGZ hg
  go_enter Try.func82, Try.ntmps82
  go_wp2_with fail
  refine (HCG.out _ (HV.out.alloc _)).mono ?_
  rintro e w1 ⟨rfl, hb1⟩
  have B1 : Hid (Below w.heap.size w w1) := ((Below.refl _ w).alloc (Nat.le_refl _) _).trans (hb1.mono (by simp))
  have k0 := ((Blk.new w #[.slice ao n c] 25).below hb1 (by simp)).one
  clear hb1 HCG
  go_wp2_with fail
  go_loopw [5, 18] (fun s i wr => ∃ (k z : Nat), k ≤ n ∧ i = .int .i64 k ∧ s = .int .i64 z ∧ Hid (z = szG (l.take k)) ∧ Hid (Below w.heap.size w wr))
    (fun _ i _ => n - (intOf i).toNat)
  case atStart => exact ⟨0, 0, Nat.zero_le _, rfl, rfl, (show 0 = szG (l.take 0) from rfl), B1⟩
  case round =>
    obtain ⟨k, z, hk, rfl, rfl, HZK, HB⟩ := hrel
    by_cases hlt : k < n
    · obtain ⟨b, off, hao, hb, _, pv, c0, c1, c2, hp⟩ := HC.out k (by rw [← HN.out]; exact hlt)
      subst hao
      have d0 := (HB.out.cell (p := ⟨b, off + k * 3, none⟩) hb).trans c0
      have d1 := (HB.out.cell (p := ⟨b, off + k * 3 + 1, none⟩) hb).trans c1
      have d2 := (HB.out.cell (p := ⟨b, off + k * 3 + 2, none⟩) hb).trans c2
      obtain ⟨f, hf⟩ : ∃ f, f = frAt l k := ⟨_, rfl⟩
      rw [show (l[k]?.getD Fr.zero) = f from hf.symm] at d0 d1 hp
      obtain ⟨po, pc, ep, hpc⟩ := (hp.1.below HB.out).parts
      obtain ⟨pn, hpn⟩ : ∃ pn, pn = f.parts.length := ⟨_, rfl⟩
      have HPC : Hid (∀ j, j < f.parts.length → ∃ b off, po = some ⟨b, off, none⟩ ∧ b < wr.heap.size ∧ wr.cell? ⟨b, off + j, none⟩ = some (.string (f.parts[j]?.getD ByteArray.empty))) := hpc
      have HPN : Hid (pn = f.parts.length) := hpn
      rw [← hpn] at ep
      subst ep
      have hlti : (k : Int) < (n : Int) := by omega
      have hfz := HFR.out k hlt
      rw [← hf] at hfz
      have hp4 : pn ≤ 4 := by rw [hpn]; exact (chkF_zero hfz).2.2.2.1
      have hp8 : ∀ j, j < pn → (f.parts[j]?.getD ByteArray.empty).size ≤ 8 := fun j hj => by
        rw [List.getElem?_eq_getElem (by omega), Option.getD_some]
        exact (chkF_zero hfz).2.2.2.2 _ (List.getElem_mem _)
      have HP8 : Hid (∀ j, j < pn → (f.parts[j]?.getD ByteArray.empty).size ≤ 8) := hp8
      have hz := HLE.out k hk
      rw [← HZK.out] at hz
      have HSU : Hid (szG (l.take (k + 1)) = z + szP f.parts) := by show _ = _; rw [szG_take l k (by rw [← HN.out]; exact hlt), ← HZK.out, hf]
      clear c0 c1 c2 hp hpc hpn hfz hp8 hf
      go_wp2_with fail
      obtain ⟨W, hW⟩ : ∃ W, W = wr.alloc (.cells #[.int .i64 f.time, .bool f.key, .slice po pn pc] 36) := ⟨_, rfl⟩
      have BW : Hid (Below wr.heap.size wr W) := by rw [hW]; exact (Below.refl _ wr).alloc (Nat.le_refl _) _
      rw [← hW]
      clear hW d0 d1 d2
      go_loopw [5, 25] (fun s i wi => ∃ (j y : Nat), j ≤ pn ∧ i = .int .i64 j ∧ s = .int .i64 y ∧ Hid (y = z + szP (f.parts.take j)) ∧ Hid (y ≤ z + j * 8) ∧ W = wi)
        (fun _ i _ => pn - (intOf i).toNat)
      case atStart => exact ⟨0, z, Nat.zero_le _, rfl, rfl, (show z = z + szP (f.parts.take 0) from rfl), (show _ ≤ _ from Nat.le_refl _), rfl⟩
      case round =>
        obtain ⟨j, y, hj, rfl, rfl, HY, HYL, rfl⟩ := hrel
        by_cases hjl : j < pn
        · obtain ⟨b2, off2, hpo, hb2, hct⟩ := HPC.out j (by rw [← HPN.out]; exact hjl)
          have hct2 := (BW.out.cell (p := ⟨b2, off2 + j, none⟩) hb2).trans hct
          obtain ⟨s, hs⟩ : ∃ s, s = f.parts[j]?.getD ByteArray.empty := ⟨_, rfl⟩
          have h8 := HP8.out j hjl
          have HNY : Hid (y + s.size = z + szP (f.parts.take (j + 1))) := by show _ = _; rw [szP_take f.parts j (by rw [← HPN.out]; exact hjl), HY.out, ← hs]; omega
          rw [← hs] at hct2 h8
          subst hpo
          have hji : (j : Int) < (pn : Int) := by omega
          have hyl := HYL.out
          clear hct hs
          go_wp2_with fail
          go_roundw
          case rel => exact ⟨j + 1, y + s.size, by omega, by go_num, by go_num, HNY, (show _ ≤ _ by omega), by first | rfl | trivial⟩
          case measure => simp [intOf]; omega
        · have hjn : j = pn := by omega
          subst hjn
          have hyz := HY.out
          rw [HPN.out, List.take_length, ← HSU.out] at hyz
          have HY2 : Hid (y = szG (l.take (k + 1))) := hyz
          clear hyz
          go_wp2_with fail
          go_roundw
          case rel => exact ⟨k + 1, y, by omega, by go_num, rfl, HY2, HB.out.trans (BW.out.mono HB.out.size)⟩
          case measure => simp [intOf]; omega
    · have hkl : k = n := by omega
      subst hkl
      have HE : Hid (Z = z) := by show _ = _; rw [HZ2.out, HZK.out, HN.out, List.take_length]
      go_wp2
      exact bodyPost_ret (v := .tuple #[.int .i64 z, .int .i64 0]) (by simp [results, Try.results82, go_sem]) rfl ⟨by rw [HE.out], HB.out⟩

end Go.Proofs.Ytnpaejknoipicad

namespace Go.Proofs.Ytnpaejknoipicad
open Go.RowKit

/-- blocks of what the maker's rows hold: none of them is its own, nor a row's that grows -/
def GS (base M : Nat) (fv cv : Value) : Nat → Prop := fun g => base ≤ g ∧ g ≠ M ∧ some g ≠ fv.ownBlock ∧ some g ≠ cv.ownBlock
def GMk (base M : Nat) (w : World) (fv cv : Value) (o : List Fr) (cl : List (List Fr)) : Prop := Blk w M #[fv, cv] 148 ∧ OwnFrs base (GS base M fv cv) w fv o ∧ OwnGrs base (GS base M fv cv) w cv cl
def GMake (base M : Nat) (w : World) (o : List Fr) (cl : List (List Fr)) : Prop := ∃ fv cv, GMk base M w fv cv o cl

theorem GMk.below {base M : Nat} {w w' : World} {fv cv : Value} {o : List Fr} {cl : List (List Fr)} (h : GMk base M w fv cv o cl) (hb : Below w.heap.size w w') : GMk base M w' fv cv o cl :=
  ⟨h.1.below hb h.1.lt, h.2.1.below hb, h.2.2.below hb⟩
theorem GMk.fneM {base M : Nat} {w : World} {fv cv : Value} {o : List Fr} {cl : List (List Fr)} (h : GMk base M w fv cv o cl) : fv.ownBlock ≠ some M := fun e => by
  obtain ⟨cur, hc⟩ := h.2.1.blk M e
  exact Apart_type h.1 hc (by decide) rfl
theorem GMk.cneM {base M : Nat} {w : World} {fv cv : Value} {o : List Fr} {cl : List (List Fr)} (h : GMk base M w fv cv o cl) : cv.ownBlock ≠ some M := fun e => by
  obtain ⟨cur, hc⟩ := h.2.2.blk M e
  exact Apart_type h.1 hc (by decide) rfl
theorem GMk.fnec {base M : Nat} {w : World} {fv cv : Value} {o : List Fr} {cl : List (List Fr)} (h : GMk base M w fv cv o cl) : ∀ g, fv.ownBlock = some g → cv.ownBlock ≠ some g := fun g e1 e2 => by
  obtain ⟨cur, hc⟩ := h.2.1.blk g e1
  obtain ⟨cur2, hc2⟩ := h.2.2.blk g e2
  exact Apart_type hc hc2 (by decide) rfl

/-- cells of groups: one each -/
theorem grp_one {S : Nat → Prop} {w : World} {ps : List (List Fr × Value)} (h : ∀ p ∈ ps, FrsIn S w p.2 p.1) : ∀ u ∈ ps.map Prod.snd, u.oneCell' = true := fun u hu => by
  obtain ⟨p, hp, rfl⟩ := List.mem_map.1 hu
  obtain ⟨a, c, e, _⟩ := (h p hp).len
  rw [e]; rfl

set_option maxHeartbeats 4000000 in
set_option maxRecDepth 100000 in
theorem groupClose_any (base M : Nat) (fv cv : Value) (o : List Fr) (cl : List (List Fr)) (w : World) (hM : GMk base M w fv cv o cl) (hbM : base ≤ M) (ho : o.length ≤ 6) (hcl : cl.length ≤ 1000) :
    Calls Try.prog 109 #[.pointer (some ⟨M, 0, none⟩)] w fun e w' => e = .returned (.tuple #[]) ∧ (∃ cv', GMk base M w' (.slice none 0 0) cv' [] (if 0 < o.length then cl ++ [o] else cl)) ∧ Below base w w' ∧ ∀ j, j < w.heap.size → j ≠ M → some j ≠ cv.ownBlock → w'.heap[j]? = w.heap[j]? := by
  obtain ⟨i0, hi, hz0, hz1, hz2⟩ := info_parts Try.infoGrp
  have HMK : Hid (GMk base M w fv cv o cl) := hM
  obtain ⟨kM, ⟨qs, fq1, fq2, fq3⟩, ⟨ps, cp1, cp2, cp3⟩⟩ := hM
  obtain ⟨fa, fc, efv, hfc, _⟩ := owns_cap fq2
  obtain ⟨ca, cc, ecv, hcc, _⟩ := owns_cap cp2
  have hql : qs.length = o.length := by rw [← fq1, List.length_map]
  have hpl : ps.length = cl.length := by rw [← cp1, List.length_map]
  obtain ⟨n, hn⟩ : ∃ n, n = o.length := ⟨_, rfl⟩
  obtain ⟨m, hm⟩ : ∃ m, m = cl.length := ⟨_, rfl⟩
  have HN : Hid (n = o.length) := hn
  have HM2 : Hid (m = cl.length) := hm
  rw [hql, ← hn] at efv hfc
  rw [hpl, ← hm] at ecv hcc cp2
  have k0 := kM.two
  obtain ⟨k0, k1⟩ := k0
  have kf := kM.free
  have hMw := kM.lt
  have KM : Hid (Blk w M #[fv, cv] 148) := kM
  have CP1 : Hid (ps.map Prod.fst = cl) := cp1
  have CP2 : Hid (w.ownsRow base 25 1 cv m (ps.map Prod.snd)) := cp2
  have CP3 : Hid (∀ p ∈ ps, FrsIn (GS base M fv cv) w p.2 p.1) := cp3
  have HPL : Hid (ps.length = m) := by show _ = _; rw [hpl, hm]
  have FIN0 : Hid (∀ (w' : World) (v' : Value) (L : List (List Fr)), Blk w' M #[fv, v'] 148 → OwnGrs base (GS base M (.slice none 0 0) v') w' v' L → v'.ownBlock ≠ some M → GMk base M (w'.setCell ⟨M, 0, none⟩ (.slice none 0 0)) (.slice none 0 0) v' [] L) := fun w' v' L h1 h2 h3 =>
    ⟨h1.set 0 _, OwnFrs.nil _ _ _, h2.to (SameOn.setCell (fun g hg => hg.2.1) _) (fun _ _ h => h) (fun g hg => Below.heap_setCell _ _ _ _ (fun e => h3 (by rw [hg]; exact congrArg some e)))⟩
  rw [← hn]
  rw [← hn] at ho
  rw [← hm] at hcl
  by_cases hn0 : 0 < n
  · rw [if_pos hn0]
    have hni : (0 : Int) < (n : Int) := by omega
    have hown : (w.drew.alloc (.cells #[fv] 25)).ownsRow base 25 1 cv m (ps.map Prod.snd) := cp2.alloc _
    have HOWN : Hid ((w.drew.alloc (.cells #[fv] 25)).ownsRow base 25 1 cv m (ps.map Prod.snd)) := hown
    have hfvs : ∃ a c, fv = .slice a n c := ⟨fa, fc, efv⟩
    have HFV1 : Hid (∀ u ∈ [fv], u.oneCell' = true) := fun u hu => by simp at hu; subst hu; rw [efv]; rfl
    have hbase : base ≤ w.heap.size := by omega
    clear hn hm hql hpl fq1 fq2 fq3 cp1 cp2 cp3 kM hown
    have HE1 : Hid (fv = .slice fa n fc) := efv
    have HE2 : Hid (cv = .slice ca m cc) := ecv
    rw [efv] at k0
    rw [ecv] at k1
    clear efv ecv
    go_enter Try.func109, Try.ntmps109
    go_wp2_with fail
    refine region_chain (by kernel_rfl) (by kernel_rfl) [.quiet (.pointer (some ⟨M, 0, none⟩)) 3, .quiet (.pointer (some ⟨M, 0, none⟩)) 3, .quiet (.pointer (some ⟨M, 0, none⟩)) 3, .quiet (.pointer (some ⟨M, 1, none⟩)) 3, .quiet (.slice ca m cc) 1, .quiet (.pointer (some ⟨M, 0, none⟩)) 3, .quiet (.pointer (some ⟨M, 0, none⟩)) 3, .quiet (.pointer (some ⟨M, 0, none⟩)) 3, .quiet (.agg #[.slice fa n fc]) 0, .step 0, .step 1, .quiet (.pointer (some ⟨M, 0, none⟩)) 3, .quiet (.pointer (some ⟨M, 1, none⟩)) 3, .step 2] [9, 10, 13] (by kernel_rfl)
      (fun s r w' => match s with
        | 0 => w' = w.drew
        | 1 => w' = w.drew.alloc (.cells #[fv] 25) ∧ r 0 = .slice (some ⟨w.heap.size, 0, none⟩) 1 1
        | 2 => w'.ownsRow base 25 1 (r 1) (m + 1) (ps.map Prod.snd ++ [fv]) ∧ (w.drew.alloc (.cells #[fv] 25)).grownBy w' cv.ownBlock ∧ ((r 1).ownBlock = cv.ownBlock ∨ ∀ g, (r 1).ownBlock = some g → (w.drew.alloc (.cells #[fv] 25)).heap.size ≤ g)
        | _ => ∃ (w2 : World) (v' : Value), w' = w2.setCell ⟨M, 1, none⟩ v' ∧ w2.ownsRow base 25 1 v' (m + 1) (ps.map Prod.snd ++ [fv]) ∧ (w.drew.alloc (.cells #[fv] 25)).grownBy w2 cv.ownBlock ∧ (v'.ownBlock = cv.ownBlock ∨ ∀ g, v'.ownBlock = some g → (w.drew.alloc (.cells #[fv] 25)).heap.size ≤ g)) rfl ?step ?fin
    case step =>
      intro i o ho a' w' s r hI hfree hvals
      have f0 : a'.eval (.tmp 0) = .pointer (some ⟨M, 0, none⟩) := (hfree 0 (by kernel_rfl)).trans rfl
      have hMd : w.drew.cell? ⟨M, 0, none⟩ = some (.slice fa n fc) := k0
      have hMd1 : w.drew.cell? ⟨M, 1, none⟩ = some (.slice ca m cc) := k1
      have hMs : M < w.drew.heap.size := hMw
      match i, ho with
      | 0, ho | 1, ho | 5, ho =>
        simp at ho; subst ho
        show s ≤ 3 → (execOp a'.eval _).run _ w' = .ok (.value _) w'
        intro _
        generalize a'.eval = ρ at *
        simp [execOp, go_sem, f0]
      | 2, ho =>
        simp at ho; subst ho
        have e1 : a'.eval (.tmp 10) = .pointer (some ⟨M, 0, none⟩) := hvals 1 _ _ (by kernel_rfl) rfl rfl
        show s ≤ 3 → (execOp a'.eval _).run _ w' = .ok (.value _) w'
        intro _
        generalize a'.eval = ρ at *
        simp [execOp, go_sem, e1]
      | 3, ho =>
        simp at ho; subst ho
        have e1 : a'.eval (.tmp 11) = .pointer (some ⟨M, 0, none⟩) := hvals 2 _ _ (by kernel_rfl) rfl rfl
        show s ≤ 3 → (execOp a'.eval _).run _ w' = .ok (.value _) w'
        intro _
        generalize a'.eval = ρ at *
        simp [execOp, go_sem, e1]
      | 4, ho =>
        simp at ho; subst ho
        have e1 : a'.eval (.tmp 12) = .pointer (some ⟨M, 1, none⟩) := hvals 3 _ _ (by kernel_rfl) rfl rfl
        show s ≤ 1 → (execOp a'.eval _).run _ w' = .ok (.value _) w'
        intro hs
        have hc : w'.cell? ⟨M, 1, none⟩ = some (.slice ca m cc) := by
          match s, hs, hI with
          | 0, _, hI => rw [show w' = w.drew from hI]; exact hMd1
          | 1, _, hI => rw [hI.1]; exact (World.cell?_alloc_past _ _ _ hMs).trans hMd1
        generalize a'.eval = ρ at *
        simp [execOp, go_sem, e1, hc]
      | 6, ho =>
        simp at ho; subst ho
        have e1 : a'.eval (.tmp 14) = .pointer (some ⟨M, 0, none⟩) := hvals 5 _ _ (by kernel_rfl) rfl rfl
        show s ≤ 3 → (execOp a'.eval _).run _ w' = .ok (.value _) w'
        intro _
        generalize a'.eval = ρ at *
        simp [execOp, go_sem, e1]
      | 7, ho =>
        simp at ho; subst ho
        have e1 : a'.eval (.tmp 15) = .pointer (some ⟨M, 0, none⟩) := hvals 6 _ _ (by kernel_rfl) rfl rfl
        show s ≤ 3 → (execOp a'.eval _).run _ w' = .ok (.value _) w'
        intro _
        generalize a'.eval = ρ at *
        simp [execOp, go_sem, e1]
      | 8, ho =>
        simp at ho; subst ho
        have e1 : a'.eval (.tmp 16) = .pointer (some ⟨M, 0, none⟩) := hvals 7 _ _ (by kernel_rfl) rfl rfl
        show s ≤ 0 → (execOp a'.eval _).run _ w' = .ok (.value _) w'
        intro hs
        have hc : w'.cell? ⟨M, 0, none⟩ = some (.slice fa n fc) := by
          match s, hs, hI with
          | 0, _, hI => rw [show w' = w.drew from hI]; exact hMd
        generalize a'.eval = ρ at *
        simp [execOp, go_sem, e1, hc]
      | 9, ho =>
        simp at ho; subst ho
        have e1 : a'.eval (.tmp 17) = .agg #[.slice fa n fc] := hvals 8 _ _ (by kernel_rfl) rfl rfl
        show s = 0 → Oper.wp _ _ _ _ _ _
        intro hs
        subst hs
        have hw : w' = w.drew := hI
        subst hw
        refine oper_wp_ok (v := .slice (some ⟨w.heap.size, 0, none⟩) 1 1) (w' := w.drew.alloc (.cells #[fv] 25)) ?_ ⟨_, rfl, rfl, updR_at _ _ _⟩
        generalize a'.eval = ρ at *
        rw [HE1.out]
        simp [execOp, go_sem, e1]
      | 10, ho =>
        simp at ho; subst ho
        have e1 : a'.eval (.tmp 13) = .slice ca m cc := hvals 4 _ _ (by kernel_rfl) rfl rfl
        have e2 : a'.eval (.tmp 18) = r 0 := hvals 9 _ _ (by kernel_rfl) rfl rfl
        show s = 1 → Oper.wp _ _ _ _ _ _
        intro hs
        subst hs
        obtain ⟨hw, hr0⟩ := hI
        rw [hr0] at e2
        subst hw
        obtain ⟨v', w2, hrun, g2, g3, g4⟩ := run_append_own2 (P := Try.prog) (w.drew.alloc (.cells #[fv] 25)) base 22 22 25 i0 _ 1 24 Try.underlying22 hi hz0 hz1 hz2 rfl (by decide) cv m (ps.map Prod.snd) HOWN.out ⟨w.heap.size, 0, none⟩ 1 1 [fv] rfl (news1 rfl) HFV1.out (by unfold maxLen; omega) (by omega) (by simp; omega)
        rw [HE2.out] at hrun
        refine oper_wp_ok (v := v') (w' := w2) ?_ ⟨_, rfl, ?_⟩
        · generalize a'.eval = ρ at *
          simp [execOp, resolve, invoke, builtin, e1, e2, hrun, Result.andThen]
        · show w2.ownsRow _ _ _ _ _ _ ∧ _ ∧ _
          rw [updR_at]
          exact ⟨g2, g3, g4⟩
      | 11, ho =>
        simp at ho; subst ho
        have e1 : a'.eval (.tmp 9) = .pointer (some ⟨M, 0, none⟩) := hvals 0 _ _ (by kernel_rfl) rfl rfl
        show s ≤ 3 → (execOp a'.eval _).run _ w' = .ok (.value _) w'
        intro _
        generalize a'.eval = ρ at *
        simp [execOp, go_sem, e1]
      | 12, ho =>
        simp at ho; subst ho
        have e1 : a'.eval (.tmp 20) = .pointer (some ⟨M, 0, none⟩) := hvals 11 _ _ (by kernel_rfl) rfl rfl
        show s ≤ 3 → (execOp a'.eval _).run _ w' = .ok (.value _) w'
        intro _
        generalize a'.eval = ρ at *
        simp [execOp, go_sem, e1]
      | 13, ho =>
        simp at ho; subst ho
        have e1 : a'.eval (.tmp 21) = .pointer (some ⟨M, 1, none⟩) := hvals 12 _ _ (by kernel_rfl) rfl rfl
        have e2 : a'.eval (.tmp 19) = r 1 := hvals 10 _ _ (by kernel_rfl) rfl rfl
        show s = 2 → Oper.wp _ _ _ _ _ _
        intro hs
        subst hs
        obtain ⟨g2, g3, g4⟩ := hI
        obtain ⟨va, vc, ev, _⟩ := owns_cap g2
        have kM2 : Blk w' M #[fv, cv] 148 := (g3.block M (by simp; omega) (fun e => HMK.out.cneM e.symm)).trans (KM.out.drew.alloc _)
        have y0 := kM2.two.2
        have y1 := kM2.free 1
        refine oper_wp_skip (w' := w'.setCell ⟨M, 1, none⟩ (r 1)) ?_ ⟨_, rfl, w', r 1, rfl, g2, g3, g4⟩
        rw [ev] at e2 ⊢
        generalize a'.eval = ρ at *
        simp [execOp, go_sem, e1, e2, y0, y1]
      | i + 14, ho => simp at ho
    case fin =>
      rintro r w' ⟨w2, v', hw, g2, g3, g4⟩
      have hk := HMK.out
      have kM2 : Blk w2 M #[fv, cv] 148 := (g3.block M (by simp; omega) (fun e => hk.cneM e.symm)).trans (KM.out.drew.alloc _)
      have hsz2 := g3.size
      simp only [World.size_alloc] at hsz2
      have hwd : w.drew.heap.size = w.heap.size := rfl
      have hvM : v'.ownBlock ≠ some M := fun e => by
        rcases g4 with g4 | g4
        · rw [g4] at e; exact hk.cneM e
        · have := g4 M e; simp at this; omega
      have hnew : ∀ g, g < w.heap.size → some g ≠ cv.ownBlock → some g ≠ v'.ownBlock := fun g hg h1 e => by
        rcases g4 with g4 | g4
        · rw [g4] at e; exact h1 e
        · have := g4 g e.symm; simp at this; omega
      have hsm : SameOn (fun g => g < w.heap.size ∧ some g ≠ cv.ownBlock) w w2 := ⟨by omega, fun g hg h2 => by
        rw [g3.block g (by simp; omega) h2.2]
        exact Below.heap_alloc w.drew _ g hg⟩
      have hfv : FrsIn (GS base M (.slice none 0 0) v') w2 fv o := by
        refine (hk.2.1.frsIn (S' := fun g => base ≤ g ∧ g ≠ M ∧ some g ≠ cv.ownBlock ∧ g < w.heap.size) (fun g h1 h2 => ⟨h2.1, h2.2.1, h2.2.2.2, h1⟩) (fun g hg => ⟨(hk.2.1.lt g hg).1, fun e => hk.fneM (by rw [hg, e]), fun e => hk.fnec g hg e.symm, (hk.2.1.lt g hg).2⟩)).to (hsm.mono (fun g h => ⟨h.2.2.2, h.2.2.1⟩)) (fun g h1 h2 => ⟨h2.1, h2.2.1, fun e => by simp [Value.ownBlock] at e, hnew g h1 h2.2.2.1⟩)
      have hps : ∀ p ∈ ps, FrsIn (GS base M (.slice none 0 0) v') w2 p.2 p.1 := fun p hp =>
        ((CP3.out p hp).mono (S' := fun g => base ≤ g ∧ g ≠ M ∧ some g ≠ cv.ownBlock ∧ g < w.heap.size) (fun g h1 h2 => ⟨h2.1, h2.2.1, h2.2.2.2, h1⟩)).to (hsm.mono (fun g h => ⟨h.2.2.2, h.2.2.1⟩)) (fun g h1 h2 => ⟨h2.1, h2.2.1, fun e => by simp [Value.ownBlock] at e, hnew g h1 h2.2.2.1⟩)
      have hog : OwnGrs base (GS base M (.slice none 0 0) v') w2 v' (cl ++ [o]) := ⟨ps ++ [(o, fv)], by rw [List.map_append, CP1.out]; rfl, by rw [List.length_append, List.map_append, HPL.out]; exact g2, fun p hp => by
        rcases List.mem_append.1 hp with hp | hp
        · exact hps p hp
        · simp at hp; subst hp; exact hfv⟩
      have hog3 : OwnGrs base (GS base M (.slice none 0 0) v') (w2.setCell ⟨M, 1, none⟩ v') v' (cl ++ [o]) := hog.to (SameOn.setCell (fun g hg => hg.2.1) _) (fun _ _ h => h) (fun g hg => Below.heap_setCell _ _ _ _ (fun e => hvM (by rw [hg]; exact congrArg some e)))
      have FIN : Hid (GMk base M ((w2.setCell ⟨M, 1, none⟩ v').setCell ⟨M, 0, none⟩ (.slice none 0 0)) (.slice none 0 0) v' [] (cl ++ [o])) := FIN0.out _ v' (cl ++ [o]) (kM2.set 1 _) hog3 hvM
      have BEL : Hid (Below base w ((w2.setCell ⟨M, 1, none⟩ v').setCell ⟨M, 0, none⟩ (.slice none 0 0))) := ((((Below.refl base w).drew.alloc (by show _ ≤ w.heap.size; omega) _).grown g3 (by simp; omega) (fun j hj => (CP2.out.lt j hj).1)).setCell (by exact hbM) _).setCell (by exact hbM) _
      have OTH : Hid (∀ j, j < w.heap.size → j ≠ M → some j ≠ cv.ownBlock → ((w2.setCell ⟨M, 1, none⟩ v').setCell ⟨M, 0, none⟩ (.slice none 0 0)).heap[j]? = w.heap[j]?) := fun j h1 h2 h3 => by
        rw [Below.heap_setCell _ _ _ _ (by exact h2), Below.heap_setCell _ _ _ _ (by exact h2)]
        exact hsm.2 j h1 ⟨h1, h3⟩
      have y0 := (kM2.set 1 v').two.1
      have y1 := (kM2.set 1 v').free 0
      subst hw
      simp only [putC, Ck.out]
      clear hog hog3 hps hfv hsm hnew g2 g3 g4 kM2 k0 k1 kf
      go_wp2
      go_end0
      exact ⟨rfl, ⟨v', FIN.out⟩, BEL.out, OTH.out⟩
  · rw [if_neg hn0]
    have hn00 : n = 0 := by omega
    have FIN : Hid (GMk base M (w.setCell ⟨M, 0, none⟩ (.slice none 0 0)) (.slice none 0 0) cv [] cl) := FIN0.out w cv cl KM.out (HMK.out.2.2.to (SameOn.refl _ _) (fun g _ h => ⟨h.1, h.2.1, fun e => by simp [Value.ownBlock] at e, h.2.2.2⟩) (fun _ _ => rfl)) HMK.out.cneM
    rw [efv] at k0
    subst hn00
    clear hn hm hql hpl fq1 fq2 fq3 cp1 cp2 cp3 kM efv ecv
    go_enter Try.func109, Try.ntmps109
    go_wp2
    go_end0
    exact ⟨rfl, ⟨cv, FIN.out⟩, (Below.refl base w).setCell (by exact hbM) _, fun j _ h2 _ => Below.heap_setCell _ _ _ _ h2⟩

end Go.Proofs.Ytnpaejknoipicad

namespace Go.Proofs.Ytnpaejknoipicad
open Go.RowKit

/-- what a row of frames shows, as cells -/
theorem FrsIn.sl {S : Nat → Prop} {w : World} {v : Value} {l : List Fr} (h : FrsIn S w v l) : ∃ ps : List (Fr × Value), ps.map Prod.fst = l ∧ Sl w v ps.length 3 (frCells ps) ∧ ∀ p ∈ ps, StrsIn S w p.2 p.1.parts := by
  obtain ⟨ao, c, rfl, _, _, hc⟩ := h
  have each : ∀ k, k < l.length → ∃ pv, ∃ b off, ao = some ⟨b, off, none⟩ ∧ b < w.heap.size ∧ w.cell? ⟨b, off + k * 3, none⟩ = some (.int .i64 (l[k]?.getD Fr.zero).time) ∧ w.cell? ⟨b, off + k * 3 + 1, none⟩ = some (.bool (l[k]?.getD Fr.zero).key) ∧ w.cell? ⟨b, off + k * 3 + 2, none⟩ = some pv ∧ StrsIn S w pv (l[k]?.getD Fr.zero).parts := fun k hk => by
    obtain ⟨b, off, e1, e2, _, pv, h1, h2, h3, h4⟩ := hc k hk
    exact ⟨pv, b, off, e1, e2, h1, h2, h3, h4⟩
  obtain ⟨f, hf⟩ := Go.Deep.choose_lt each
  have hlen : ((List.range l.length).map fun k => (l[k]?.getD Fr.zero, f k)).length = l.length := by simp
  have hat : ∀ k, k < l.length → ((List.range l.length).map fun k => (l[k]?.getD Fr.zero, f k))[k]? = some (l[k]?.getD Fr.zero, f k) := fun k hk => by
    rw [List.getElem?_map, List.getElem?_range hk]; rfl
  refine ⟨(List.range l.length).map fun k => (l[k]?.getD Fr.zero, f k), ?_, ?_, fun p hp => ?_⟩
  · refine List.ext_getElem (by simp) fun k h1 h2 => ?_
    simp [List.getElem?_eq_getElem h2]
  · rw [hlen]
    refine ⟨by rw [frCells_len, hlen], ?_⟩
    by_cases h0 : l.length = 0
    · exact .inl ⟨h0, ao, c, by rw [h0]⟩
    · obtain ⟨b, off, e1, e2, _⟩ := hf 0 (by omega)
      subst e1
      refine .inr ⟨b, off, c, rfl, e2, fun j u hj => ?_⟩
      have hjl : j < l.length * 3 := by
        have := (List.getElem?_eq_some_iff.1 hj).1
        rwa [frCells_len, hlen] at this
      have hjk : j = j / 3 * 3 + j % 3 := by omega
      rw [hjk, frCells_at _ (j / 3) (j % 3) _ (by omega) (hat (j / 3) (by omega))] at hj
      obtain ⟨b', off', e1, _, g0, g1, g2, _⟩ := hf (j / 3) (by omega)
      injection e1 with e1
      injection e1 with e1 e3
      subst e1 e3
      have h3 : j % 3 = 0 ∨ j % 3 = 1 ∨ j % 3 = 2 := by omega
      rcases h3 with h3 | h3 | h3
      · rw [h3] at hj hjk
        simp at hj; subst hj
        rw [show off + j = off + j / 3 * 3 by omega]; exact g0
      · rw [h3] at hj hjk
        simp at hj; subst hj
        rw [show off + j = off + j / 3 * 3 + 1 by omega]; exact g1
      · rw [h3] at hj hjk
        simp at hj; subst hj
        rw [show off + j = off + j / 3 * 3 + 2 by omega]; exact g2
  · obtain ⟨k, hk, rfl⟩ := List.mem_map.1 hp
    obtain ⟨b, off, _, _, _, _, _, h4⟩ := hf k (by simpa using hk)
    exact h4
theorem GrsIn.sl {S : Nat → Prop} {w : World} {v : Value} {L : List (List Fr)} (h : GrsIn S w v L) : ∃ ps : List (List Fr × Value), ps.map Prod.fst = L ∧ Sl w v ps.length 1 (ps.map Prod.snd) ∧ ∀ p ∈ ps, FrsIn S w p.2 p.1 := by
  obtain ⟨ao, c, rfl, _, _, hc⟩ := h
  have each : ∀ k, k < L.length → ∃ sv, ∃ b off, ao = some ⟨b, off, none⟩ ∧ b < w.heap.size ∧ w.cell? ⟨b, off + k, none⟩ = some sv ∧ FrsIn S w sv (L[k]?.getD []) := fun k hk => by
    obtain ⟨b, off, e1, e2, _, sv, h1, h2⟩ := hc k hk
    exact ⟨sv, b, off, e1, e2, h1, h2⟩
  obtain ⟨f, hf⟩ := Go.Deep.choose_lt each
  have hlen : ((List.range L.length).map fun k => (L[k]?.getD [], f k)).length = L.length := by simp
  refine ⟨(List.range L.length).map fun k => (L[k]?.getD [], f k), ?_, ?_, fun p hp => ?_⟩
  · refine List.ext_getElem (by simp) fun k h1 h2 => ?_
    simp [List.getElem?_eq_getElem h2]
  · rw [hlen]
    refine ⟨by simp, ?_⟩
    by_cases h0 : L.length = 0
    · exact .inl ⟨h0, ao, c, by rw [h0]⟩
    · obtain ⟨b, off, e1, e2, _⟩ := hf 0 (by omega)
      subst e1
      refine .inr ⟨b, off, c, rfl, e2, fun j u hj => ?_⟩
      have hjl : j < L.length := by
        have := (List.getElem?_eq_some_iff.1 hj).1
        simpa using this
      obtain ⟨b', off', e1, _, g0, _⟩ := hf j hjl
      injection e1 with e1
      injection e1 with e1 e3
      subst e1 e3
      rw [List.getElem?_map, List.getElem?_map, List.getElem?_range hjl] at hj
      simp at hj; subst hj
      exact g0
  · obtain ⟨k, hk, rfl⟩ := List.mem_map.1 hp
    obtain ⟨b, off, _, _, _, h4⟩ := hf k (by simpa using hk)
    exact h4
theorem fr_one2 {S : Nat → Prop} {w : World} {ps : List (Fr × Value)} (h : ∀ p ∈ ps, StrsIn S w p.2 p.1.parts) : ∀ u ∈ frCells ps, u.oneCell' = true := fun u hu => by
  obtain ⟨p, hp, hu⟩ := List.mem_flatMap.1 hu
  simp at hu
  rcases hu with rfl | rfl | rfl
  · rfl
  · rfl
  · obtain ⟨a, c, e⟩ := (h p hp).1.len
    rw [e]; rfl
/-- 'append(append([]api.Frame{}, a...), b...)' -/
theorem frames_two {S : Nat → Prop} {w : World} {u v : Value} {l m : List Fr} (hu : FrsIn S w u l) (hv : FrsIn S w v m) (hb : l.length + m.length ≤ 1000) :
    ∃ v3 w3 v4 w4, (Builtin.append_ #[23, 23] 23 #[.slice (some ⟨w.heap.size, 0, none⟩) 0 0, u]).run Try.prog (w.alloc (.cells #[] 36)) = .ok v3 w3 ∧ (Builtin.append_ #[23, 23] 23 #[v3, v]).run Try.prog w3 = .ok v4 w4 ∧ OwnFrs w.heap.size S w4 v4 (l ++ m) ∧ Below w.heap.size w w4 := by
  obtain ⟨i0, hi, hz0, hz1, hz2⟩ := info_parts Try.infoFrm
  obtain ⟨ps, p1, p2, p3⟩ := hu.sl
  obtain ⟨qs, q1, q2, q3⟩ := hv.sl
  have hps : ps.length = l.length := by rw [← p1, List.length_map]
  have hqs : qs.length = m.length := by rw [← q1, List.length_map]
  obtain ⟨v3, w3, v4, w4, r3, r4, o4, b4⟩ := app_two (P := Try.prog) w 23 36 i0 _ 3 40 Try.underlying23 hi hz0 hz1 hz2 rfl (by decide) u v ps.length qs.length (frCells ps) (frCells qs) p2 q2 (fr_one2 p3) (fr_one2 q3) (by unfold maxLen; omega) (by omega)
  refine ⟨v3, w3, v4, w4, r3, r4, ⟨ps ++ qs, by rw [List.map_append, p1, q1], by rw [List.length_append, frCells_append]; exact o4, fun p hp => ?_⟩, b4⟩
  rcases List.mem_append.1 hp with hp | hp
  · exact (p3 p hp).below b4
  · exact (q3 p hp).below b4
/-- append of groups to a row of the call's own -/
theorem groups_app {base : Nat} {S : Nat → Prop} {w : World} {v u : Value} {L M : List (List Fr)} {qs : List (List Fr × Value)} (hv : OwnGrs base S w v L) (q1 : qs.map Prod.fst = M) (q2 : Sl w u qs.length 1 (qs.map Prod.snd)) (q3 : ∀ p ∈ qs, FrsIn S w p.2 p.1) (hS : ∀ g, S g → some g ≠ v.ownBlock) (hb : L.length + M.length ≤ 1000) (hbase : base ≤ w.heap.size) :
    ∃ v' w', (Builtin.append_ #[22, 22] 22 #[v, u]).run Try.prog w = .ok v' w' ∧ OwnGrs base S w' v' (L ++ M) ∧ w.grownBy w' v.ownBlock ∧ (v'.ownBlock = v.ownBlock ∨ ∀ g, v'.ownBlock = some g → w.heap.size ≤ g) := by
  obtain ⟨i0, hi, hz0, hz1, hz2⟩ := info_parts Try.infoGrp
  obtain ⟨ps, p1, p2, p3⟩ := hv
  have hps : ps.length = L.length := by rw [← p1, List.length_map]
  have hqs : qs.length = M.length := by rw [← q1, List.length_map]
  obtain ⟨v', w', r, o, g, dd⟩ := run_append_any (P := Try.prog) w base 22 22 25 i0 _ 1 24 Try.underlying22 hi hz0 hz1 hz2 rfl (by decide) v ps.length (ps.map Prod.snd) p2 qs.length (qs.map Prod.snd) u q2 (grp_one q3) (by unfold maxLen; omega) (by omega) hbase
  refine ⟨v', w', r, ⟨ps ++ qs, by rw [List.map_append, p1, q1], by rw [List.length_append, List.map_append]; exact o, fun p hp => ?_⟩, g, dd⟩
  have hs : SameOn S w w' := SameOn.grown g hS
  rcases List.mem_append.1 hp with hp | hp
  · exact (p3 p hp).to hs (fun _ _ h => h)
  · exact (q3 p hp).to hs (fun _ _ h => h)
/-- 'append([]api.Group{}, a...)' -/
theorem groups_copy {w : World} {u : Value} {L : List (List Fr)} (hu : GrsIn (fun g => g < w.heap.size) w u L) (hb : L.length ≤ 1000) :
    ∃ v' w', (Builtin.append_ #[22, 22] 22 #[.slice (some ⟨w.heap.size, 0, none⟩) 0 0, u]).run Try.prog (w.alloc (.cells #[] 25)) = .ok v' w' ∧ OwnGrs w.heap.size (fun g => g < w.heap.size) w' v' L ∧ Below w.heap.size w w' := by
  obtain ⟨qs, q1, q2, q3⟩ := (hu.alloc (.cells #[] 25)).sl
  have h0 : OwnGrs w.heap.size (fun g => g < w.heap.size) (w.alloc (.cells #[] 25)) (.slice (some ⟨w.heap.size, 0, none⟩) 0 0) [] := ⟨[], rfl, World.ownsRow_lit (base := w.heap.size) (e := 25) (size := 1) w #[] 0 (Nat.le_refl _) (by unfold maxLen; omega) rfl, fun _ hp => absurd hp List.not_mem_nil⟩
  obtain ⟨v', w', r, o, g, _⟩ := groups_app h0 q1 q2 q3 (fun g hg e => by simp [Value.ownBlock] at e; omega) (by simpa using hb) (by simp)
  exact ⟨v', w', r, by simpa using o, ((Below.refl _ w).alloc (Nat.le_refl _) _).grown g (by simp) (fun j hj => by simp [Value.ownBlock] at hj; omega)⟩
/-- 'append(want, x)' -/
theorem groups_snoc {base B : Nat} {w : World} {v ov : Value} {L : List (List Fr)} {o : List Fr} (hv : OwnGrs base (fun g => g < B) w v L) (hB : B ≤ base) (ho : FrsIn (fun g => g < B) w ov o) (hb : L.length ≤ 999) (hbase : base ≤ w.heap.size) :
    ∃ v' w', (Builtin.append_ #[22, 22] 22 #[v, .slice (some ⟨w.heap.size, 0, none⟩) 1 1]).run Try.prog (w.alloc (.cells #[ov] 25)) = .ok v' w' ∧ OwnGrs base (fun g => g < B) w' v' (L ++ [o]) ∧ Below base w w' := by
  have hS : ∀ g, g < B → some g ≠ v.ownBlock := fun g hg e => by have := (hv.lt g e.symm).1; omega
  obtain ⟨v', w', r, o', g, _⟩ := groups_app (qs := [(o, ov)]) (hv.below ((Below.refl _ w).alloc (Nat.le_refl _) (.cells #[ov] 25))) rfl (Sl.new w #[ov] 25 1 1 1 rfl) (fun p hp => by simp at hp; subst hp; exact ho.alloc _) hS (by simpa using hb) (by simp; omega)
  exact ⟨v', w', r, o', ((Below.refl base w).alloc hbase _).grown g (by simp; omega) (fun j hj => (hv.lt j hj).1)⟩

end Go.Proofs.Ytnpaejknoipicad

namespace Go.Proofs.Ytnpaejknoipicad
open Go.RowKit

/-- new blocks, but a row's own -/
def NS (base : Nat) (u : Value) : Nat → Prop := fun g => base ≤ g ∧ some g ≠ u.ownBlock

/-- one more frame behind a row of the call's own -/
theorem fr_snoc {base : Nat} {w : World} {u pv : Value} {l : List Fr} {f : Fr} (h : OwnFrs base (NS base u) w u l) (hp : StrsIn (NS base u) w pv f.parts) (hl : l.length ≤ 999) (hb : base ≤ w.heap.size) :
    ∃ v' w', (Builtin.append_ #[23, 23] 23 #[u, .slice (some ⟨w.heap.size, 0, none⟩) 1 1]).run Try.prog (w.alloc (.cells #[.int .i64 f.time, .bool f.key, pv] 36)) = .ok v' w' ∧ OwnFrs base (NS base v') w' v' (l ++ [f]) ∧ Below base w w' := by
  obtain ⟨i0, hi, hz0, hz1, hz2⟩ := info_parts Try.infoFrm
  have h1 : OwnFrs base (fun g => NS base u g ∧ g < w.heap.size) (w.alloc (.cells #[.int .i64 f.time, .bool f.key, pv] 36)) u l := (h.to (SameOn.refl _ _) (fun g hg hs => ⟨hs, hg⟩) (fun _ _ => rfl)).below ((Below.refl _ w).alloc (Nat.le_refl _) _)
  have hp1 : StrsIn (fun g => NS base u g ∧ g < w.heap.size) (w.alloc (.cells #[.int .i64 f.time, .bool f.key, pv] 36)) pv f.parts := (hp.mono fun g hg hs => ⟨hs, hg⟩).alloc _
  obtain ⟨ps, p1, p2, p3⟩ := h1
  have hps : ps.length = l.length := by rw [← p1, List.length_map]
  obtain ⟨pa, pc, ep⟩ := hp.1.len
  obtain ⟨v', w', r, o, g, dd⟩ := run_append_any (P := Try.prog) (w.alloc (.cells #[.int .i64 f.time, .bool f.key, pv] 36)) base 23 23 36 i0 _ 3 40 Try.underlying23 hi hz0 hz1 hz2 rfl (by decide) u ps.length (frCells ps) p2 1 [.int .i64 f.time, .bool f.key, pv] (.slice (some ⟨w.heap.size, 0, none⟩) 1 1) (Sl.new w #[.int .i64 f.time, .bool f.key, pv] 36 1 3 1 rfl) (fun x hx => by simp at hx; rcases hx with rfl | rfl | rfl; rfl; rfl; rw [ep]; rfl) (by unfold maxLen; omega) (by omega) (by simp; omega)
  have o1 := OwnFrs.snoc p1 p3 hp1 o g (fun g hg => hg.1.2)
  refine ⟨v', w', r, o1.to (SameOn.refl _ _) (fun g _ hg => ⟨hg.1.1, fun e => ?_⟩) (fun _ _ => rfl), ((Below.refl base w).alloc hb _).grown g (by simp; omega) (fun j hj => (p2.lt j hj).1)⟩
  rcases dd with d | d
  · rw [d] at e; exact hg.1.2 e
  · have := d g e.symm; simp at this; omega
/-- one more group behind a row of the call's own -/
theorem gr_snoc {base : Nat} {w : World} {u sv : Value} {L : List (List Fr)} {g : List Fr} (h : OwnGrs base (NS base u) w u L) (hp : FrsIn (NS base u) w sv g) (hl : L.length ≤ 999) (hb : base ≤ w.heap.size) :
    ∃ v' w', (Builtin.append_ #[22, 22] 22 #[u, .slice (some ⟨w.heap.size, 0, none⟩) 1 1]).run Try.prog (w.alloc (.cells #[sv] 25)) = .ok v' w' ∧ OwnGrs base (NS base v') w' v' (L ++ [g]) ∧ Below base w w' := by
  have h1 : OwnGrs base (fun g => NS base u g ∧ g < w.heap.size) (w.alloc (.cells #[sv] 25)) u L := (h.to (SameOn.refl _ _) (fun g hg hs => ⟨hs, hg⟩) (fun _ _ => rfl)).below ((Below.refl _ w).alloc (Nat.le_refl _) _)
  obtain ⟨v', w', r, o, gr, dd⟩ := groups_app (qs := [(g, sv)]) h1 rfl (Sl.new w #[sv] 25 1 1 1 rfl) (fun p hp' => by
    simp at hp'; subst hp'
    exact ((hp.mono (S' := fun g => NS base u g ∧ g < w.heap.size) fun g hg hs => ⟨hs, hg⟩).alloc _)) (fun g hg => hg.1.2) (by simp; omega) (by simp; omega)
  refine ⟨v', w', r, o.to (SameOn.refl _ _) (fun g _ hg => ⟨hg.1.1, fun e => ?_⟩) (fun _ _ => rfl), ((Below.refl base w).alloc hb _).grown gr (by simp; omega) (fun j hj => (h.lt j hj).1)⟩
  rcases dd with d | d
  · rw [d] at e; exact hg.1.2 e
  · have := d g e.symm; simp at this; omega

set_option maxHeartbeats 4000000 in
set_option maxRecDepth 100000 in
theorem cloneFrs_any (S : Nat → Prop) (v : Value) (l : List Fr) (w : World) (hv : FrsIn S w v l) (hlen : l.length ≤ 6) (hck : ∀ k, k < l.length → (frAt l k).chk = 0) :
    Calls Try.prog 67 #[v, .func (.func 68) #[] #[]] w fun e w' => ∃ u, e = .returned u ∧ OwnFrs w.heap.size (NS w.heap.size u) w' u l ∧ Below w.heap.size w w' := by
  obtain ⟨ao, c, hva, h1, h2, hc⟩ := hv
  obtain ⟨n, hn⟩ : ∃ n, n = l.length := ⟨_, rfl⟩
  have HN : Hid (n = l.length) := hn
  have HC : Hid (∀ k, k < l.length → ∃ b off, ao = some ⟨b, off, none⟩ ∧ b < w.heap.size ∧ S b ∧ At3In S w b (off + k * 3) (l[k]?.getD Fr.zero)) := hc
  have H8 : Hid (∀ k, k < l.length → (frAt l k).chk = 0) := hck
  have eg : Enters Try.prog 68 := enters_of Try.func68 (by kernel_rfl) rfl
  have eg' : ∀ (args : Array Value) (w : World), (callFunc 68 args).run Try.prog w = .ok (.enter 68 args) w := eg
  rw [← hn] at hva hlen h1
  clear hc hn hck eg
  subst hva
  go_enter Try.func67, Try.ntmps67
  go_wp2_with fail
  go_loopw [5, 10] (fun u i wr => ∃ k : Nat, k ≤ n ∧ i = .int .i64 k ∧ Hid (OwnFrs w.heap.size (NS w.heap.size u) wr u (l.take k)) ∧ Hid (Below w.heap.size w wr))
    (fun _ i _ => n - (intOf i).toNat)
  case atStart => exact ⟨0, Nat.zero_le _, rfl, OwnFrs.nil _ _ _, Below.refl _ _⟩
  case round =>
    obtain ⟨k, hk, rfl, HO, HB⟩ := hrel
    by_cases hlt : k < n
    · obtain ⟨b, off, rfl, hb, _, pv, c0, c1, c2, hps⟩ := HC.out k (by rw [← HN.out]; exact hlt)
      obtain ⟨f, hf⟩ : ∃ f, f = frAt l k := ⟨_, rfl⟩
      rw [show l[k]?.getD Fr.zero = f from hf.symm] at c0 c1 hps
      have d0 := (HB.out.cell (p := ⟨b, off + k * 3, none⟩) hb).trans c0
      have d1 := (HB.out.cell (p := ⟨b, off + k * 3 + 1, none⟩) hb).trans c1
      have d2 := (HB.out.cell (p := ⟨b, off + k * 3 + 2, none⟩) hb).trans c2
      have hfk := H8.out k (by rw [← HN.out]; exact hlt)
      rw [← hf] at hfk
      obtain ⟨pa, pc, ep⟩ := hps.1.len
      obtain ⟨pn, hpn⟩ : ∃ pn, pn = f.parts.length := ⟨_, rfl⟩
      rw [← hpn] at ep
      have HCL : Hid (∀ U, Below w.heap.size w U → Calls Try.prog 68 #[.agg #[.int .i64 f.time, .bool f.key, pv]] U fun e w' => ∃ a c, e = .returned (.agg #[.int .i64 f.time, .bool f.key, .slice a pn c]) ∧ Hid (StrsIn (fun g => U.heap.size ≤ g) w' (.slice a pn c) f.parts) ∧ Below U.heap.size U w') := fun U hU => by
        rw [hpn]; exact cloneFrame_any S f pv U (hps.below hU) hfk
      have hlti : (k : Int) < (n : Int) := by omega
      have HTK : Hid (l.take (k + 1) = l.take k ++ [f]) := by show _ = _; rw [take_one (by rw [← HN.out]; exact hlt) Fr.zero, hf]
      clear hps hf hpn c0 c1 c2 hfk
      subst ep
      go_wp2_with fail
      have B1 : Hid (Below w.heap.size w (wr.alloc (.cells #[.int .i64 f.time, .bool f.key, .slice pa pn pc] 36))) := HB.out.alloc HB.out.size _
      refine (HCL.out _ B1.out).mono ?_
      rintro e w2 ⟨a2, c2, rfl, HS2, hb2⟩
      have B2 : Below w.heap.size w w2 := B1.out.trans (hb2.mono B1.out.size)
      have hsz := B1.out.size
      have O2 : OwnFrs w.heap.size (NS w.heap.size u5) w2 u5 (l.take k) := (HO.out.below ((Below.refl _ wr).alloc (Nat.le_refl _) _)).below hb2
      obtain ⟨v', w3, r3, o3, b3⟩ := fr_snoc (f := f) (pv := .slice a2 pn c2) O2 (HS2.out.mono fun g _ hg => ⟨by simp at hg; have := HB.out.size; omega, fun e => by have := (HO.out.lt g e.symm).2; simp at hg; omega⟩) (by simp; omega) B2.size
      have O3 : Hid (OwnFrs w.heap.size (NS w.heap.size v') w3 v' (l.take (k + 1))) := by
        show OwnFrs _ _ _ _ _
        rw [HTK.out]; exact o3
      have B3 : Hid (Below w.heap.size w w3) := B2.trans b3
      clear hb2 d0 d1 d2 O2 o3 b3 HS2 B1 HO HB B2
      go_wp2_with (at_builtin; refine wpList_append_run rfl (.tmp 14) (.tmp 18) 23 23 rfl _ _ rfl rfl r3 ?_)
      go_roundw
      case rel => exact ⟨k + 1, by omega, by go_num, O3, B3⟩
      case measure => simp [intOf]; omega
    · have hkl : k = n := by omega
      subst hkl
      go_wp2
      go_ret
      have ho := HO.out
      rw [HN.out, List.take_length] at ho
      exact ⟨_, rfl, ho, HB.out⟩

set_option maxHeartbeats 4000000 in
set_option maxRecDepth 100000 in
theorem cloneGroup_any (S : Nat → Prop) (v : Value) (l : List Fr) (w : World) (hv : FrsIn S w v l) (hk : gchk l = 0) :
    Calls Try.prog 41 #[.agg #[v]] w fun e w' => ∃ a c, e = .returned (.agg #[.slice a l.length c]) ∧ FrsIn (fun g => w.heap.size ≤ g) w' (.slice a l.length c) l ∧ Below w.heap.size w w' := by
  obtain ⟨_, h6, hck⟩ := gchk_zero.1 hk
  obtain ⟨va, vc, ev, _, _⟩ := hv.len
  obtain ⟨n, hn⟩ : ∃ n, n = l.length := ⟨_, rfl⟩
  have HN : Hid (n = l.length) := hn
  have HV : Hid (FrsIn S w v l) := hv
  have HC : Hid (∀ U, Below w.heap.size w U → Calls Try.prog 67 #[v, .func (.func 68) #[] #[]] U fun e w' => ∃ a c, e = .returned (.slice a n c) ∧ Hid (FrsIn (fun g => U.heap.size ≤ g) w' (.slice a n c) l) ∧ Below U.heap.size U w') := fun U hU => by
    refine (cloneFrs_any S v l U (HV.out.below hU) h6 (fun k hk => (hck k hk).1)).mono ?_
    rintro e w' ⟨u, rfl, ho, hb⟩
    have hf : FrsIn (fun g => U.heap.size ≤ g) w' u l := ho.frsIn (fun g _ h => h.1) (fun g hg => (ho.lt g hg).1)
    obtain ⟨a, c, e, _, _⟩ := hf.len
    rw [← hn] at e
    subst e
    exact ⟨a, c, rfl, hf, hb⟩
  rw [← hn] at ev ⊢
  clear hv hk hck hn h6
  subst ev
  go_enter Try.func41, Try.ntmps41
  go_wp2_with fail
  have B1 : Hid (Below w.heap.size w ((w.alloc (.cells #[.slice va n vc] 25)).alloc (.cells #[.slice none 0 0] 25))) := ((Below.refl _ _).alloc (Nat.le_refl _) _).alloc (by simp) _
  have K1 : Hid (Blk ((w.alloc (.cells #[.slice va n vc] 25)).alloc (.cells #[.slice none 0 0] 25)) (w.heap.size + 1) #[.slice none 0 0] 25) := by
    have := Blk.new (w.alloc (.cells #[.slice va n vc] 25)) #[.slice none 0 0] 25
    simpa [Hid] using this
  refine (HC.out _ B1.out).mono ?_
  rintro e w2 ⟨a2, c2, rfl, HF, hb2⟩
  have B2 : Hid (Below w.heap.size w w2) := B1.out.trans (hb2.mono B1.out.size)
  have K2 := K1.out.below hb2 K1.out.lt
  have r0 := K2.one
  have r1 := K2.free 0
  have c9 : (w2.setCell ⟨w.heap.size + 1, 0, none⟩ (.slice a2 n c2)).cell? ⟨w.heap.size + 1, 0, none⟩ = some (.slice a2 n c2) := (K2.set 0 _).cell rfl
  have F9 : Hid (FrsIn (fun g => w.heap.size ≤ g) (w2.setCell ⟨w.heap.size + 1, 0, none⟩ (.slice a2 n c2)) (.slice a2 n c2) l) := HF.out.to (SameOn.setCell (fun g hg => by simp at hg ⊢; omega) _) (fun g _ hg => by simp at hg; omega)
  clear hb2 K1 B1 K2 HF
  go_wp2
  exact bodyPost_ret (v := .agg #[.slice a2 n c2]) (by simp [results, Try.results41, go_sem, c9]) rfl ⟨a2, c2, rfl, F9.out, B2.out.setCell (by simp) _⟩

set_option maxHeartbeats 4000000 in
set_option maxRecDepth 100000 in
theorem cloneGroups_any (S : Nat → Prop) (v : Value) (L : List (List Fr)) (w : World) (hv : GrsIn S w v L) (hlen : L.length ≤ 100) (hck : ∀ g ∈ L, gchk g = 0) :
    Calls Try.prog 88 #[v] w fun e w' => ∃ u, e = .returned u ∧ OwnGrs w.heap.size (NS w.heap.size u) w' u L ∧ Below w.heap.size w w' := by
  obtain ⟨ao, c, hva, h1, h2, hc⟩ := hv
  obtain ⟨n, hn⟩ : ∃ n, n = L.length := ⟨_, rfl⟩
  have HN : Hid (n = L.length) := hn
  have HC : Hid (∀ k, k < L.length → ∃ b off, ao = some ⟨b, off, none⟩ ∧ b < w.heap.size ∧ S b ∧ ∃ sv, w.cell? ⟨b, off + k, none⟩ = some sv ∧ FrsIn S w sv (L[k]?.getD [])) := hc
  have H8 : Hid (∀ k, k < L.length → gchk (L[k]?.getD []) = 0) := fun k hk => hck _ (by rw [List.getElem?_eq_getElem hk]; exact List.getElem_mem _)
  have eg : Enters Try.prog 41 := enters_of Try.func41 (by kernel_rfl) rfl
  have eg' : ∀ (args : Array Value) (w : World), (callFunc 41 args).run Try.prog w = .ok (.enter 41 args) w := eg
  rw [← hn] at hva hlen h1
  clear hc hn hck eg
  subst hva
  have ALL : Hid (Calls Try.prog 105 #[.slice ao n c, .func (.func 41) #[] #[]] w fun e w' => ∃ u, e = .returned u ∧ OwnGrs w.heap.size (NS w.heap.size u) w' u L ∧ Below w.heap.size w w') := by
    show Calls _ _ _ _ _
    go_enter Try.func105, Try.ntmps105
    go_wp2_with fail
    go_loopw [5, 10] (fun u i wr => ∃ k : Nat, k ≤ n ∧ i = .int .i64 k ∧ Hid (OwnGrs w.heap.size (NS w.heap.size u) wr u (L.take k)) ∧ Hid (Below w.heap.size w wr))
      (fun _ i _ => n - (intOf i).toNat)
    case atStart => exact ⟨0, Nat.zero_le _, rfl, OwnGrs.nil _ _ _, Below.refl _ _⟩
    case round =>
      obtain ⟨k, hk, rfl, HO, HB⟩ := hrel
      by_cases hlt : k < n
      · obtain ⟨b, off, rfl, hb, _, sv, c0, hs⟩ := HC.out k (by rw [← HN.out]; exact hlt)
        have hgk := H8.out k (by rw [← HN.out]; exact hlt)
        obtain ⟨g, hg⟩ : ∃ g, g = L[k]?.getD [] := ⟨_, rfl⟩
        rw [← hg] at hs hgk
        have d0 := (HB.out.cell (p := ⟨b, off + k, none⟩) hb).trans c0
        obtain ⟨sa, sc, es, _, _⟩ := hs.len
        obtain ⟨gn, hgn⟩ : ∃ gn, gn = g.length := ⟨_, rfl⟩
        rw [← hgn] at es
        have HCL : Hid (∀ U, Below w.heap.size w U → Calls Try.prog 41 #[.agg #[sv]] U fun e w' => ∃ a c, e = .returned (.agg #[.slice a gn c]) ∧ Hid (FrsIn (fun g => U.heap.size ≤ g) w' (.slice a gn c) g) ∧ Below U.heap.size U w') := fun U hU => by
          rw [hgn]; exact cloneGroup_any S sv g U (hs.below hU) hgk
        have hlti : (k : Int) < (n : Int) := by omega
        have HTK : Hid (L.take (k + 1) = L.take k ++ [g]) := by show _ = _; rw [take_one (by rw [← HN.out]; exact hlt) [], hg]
        clear hs hg hgn c0 hgk
        subst es
        go_wp2_with fail
        have B1 : Hid (Below w.heap.size w (wr.alloc (.cells #[.slice sa gn sc] 25))) := HB.out.alloc HB.out.size _
        refine (HCL.out _ B1.out).mono ?_
        rintro e w2 ⟨a2, c2, rfl, HS2, hb2⟩
        have B2 : Below w.heap.size w w2 := B1.out.trans (hb2.mono B1.out.size)
        have hsz := B1.out.size
        have O2 : OwnGrs w.heap.size (NS w.heap.size u5) w2 u5 (L.take k) := (HO.out.below ((Below.refl _ wr).alloc (Nat.le_refl _) _)).below hb2
        obtain ⟨v', w3, r3, o3, b3⟩ := gr_snoc (g := g) (sv := .slice a2 gn c2) O2 (HS2.out.mono fun g _ hg => ⟨by simp at hg; have := HB.out.size; omega, fun e => by have := (HO.out.lt g e.symm).2; simp at hg; omega⟩) (by simp; omega) B2.size
        have O3 : Hid (OwnGrs w.heap.size (NS w.heap.size v') w3 v' (L.take (k + 1))) := by
          show OwnGrs _ _ _ _ _
          rw [HTK.out]; exact o3
        have B3 : Hid (Below w.heap.size w w3) := B2.trans b3
        clear hb2 d0 O2 o3 b3 HS2 B1 HO HB B2
        go_wp2_with (at_builtin; refine wpList_append_run rfl (.tmp 14) (.tmp 18) 22 22 rfl _ _ rfl rfl r3 ?_)
        go_roundw
        case rel => exact ⟨k + 1, by omega, by go_num, O3, B3⟩
        case measure => simp [intOf]; omega
      · have hkl : k = n := by omega
        subst hkl
        go_wp2
        go_ret
        have ho := HO.out
        rw [HN.out, List.take_length] at ho
        exact ⟨_, rfl, ho, HB.out⟩
  clear eg' HC H8
  go_enter Try.func88, Try.ntmps88
  go_wp2_with fail
  refine ALL.out.mono ?_
  rintro e w1 ⟨u, rfl, ho, hb⟩
  have HO : Hid (OwnGrs w.heap.size (NS w.heap.size u) w1 u L) := ho
  clear ho ALL
  go_wp2
  go_ret
  exact ⟨u, rfl, HO.out, hb⟩

end Go.Proofs.Ytnpaejknoipicad

namespace Go.Proofs.Ytnpaejknoipicad
open Go.RowKit

theorem zeroCells_len (z : Array Value) (n : Nat) : (Builtin.zeroCells z n).size = n * z.size := by simp [Builtin.zeroCells]

section
variable {P : Program}
theorem grow_run (w : World) (T tn ty E : TypeId) (i : TypeInfo) (z : Value) (size bytes : Nat) (ht : P.underlying T = some (.slice E)) (htn : P.underlying tn = some (.int .i64)) (hi : P.info? E = some i) (hz : i.zero = some z) (hsize : i.size = size) (hby : i.bytes = bytes) (hzs : z.cells.size = size) (hsz : 0 < size)
    (n : Nat) (h0 : 0 < n) (hn : n ≤ 1000) (hb : bytes ≤ 1000) :
    ∃ cap w', (Builtin.append_ #[T, tn] ty #[.slice none 0 0, .int .i64 n]).run P w = .ok (.slice (some ⟨w.heap.size, 0, none⟩) n cap) w' ∧ n ≤ cap ∧ w'.ownsRow w.heap.size E size (.slice (some ⟨w.heap.size, 0, none⟩) 0 cap) 0 [] ∧ Below w.heap.size w w' := by
  have hnb : n * i.bytes ≤ 1000 * 1000 := by rw [hby]; exact Nat.mul_le_mul hn hb
  have r := Lib.run_append_nil_zeros (P := P) w T tn ty E i z .i64 .i64 ht htn hi hz n h0 (by omega) (by omega) (by omega)
  have hg := grownCap_ge w n 0 E
  refine ⟨_, _, r, hg, ⟨by simp, .inr ⟨w.heap.size, _, _, rfl, Nat.le_refl _, heap_alloc_new w.drew _, Nat.zero_le _, grownCap_le_maxLen w n 0 E (by unfold maxLen; omega), ?_, by simp⟩⟩, (Below.refl _ w).drew.alloc (Nat.le_refl _) _⟩
  rw [Array.size_append, zeroCells_len, zeroCells_len, hzs, ← Nat.add_mul]
  congr 1; omega
end

/-- append of a row of frames to a row of the call's own -/
theorem appFrs {base : Nat} {S : Nat → Prop} {w : World} {v u : Value} {l m : List Fr} (hv : OwnFrs base S w v l) (hu : FrsIn S w u m) (hS : ∀ g, S g → g < base) (hb : l.length + m.length ≤ 1000) (hbase : base ≤ w.heap.size) :
    ∃ v' w', (Builtin.append_ #[23, 23] 23 #[v, u]).run Try.prog w = .ok v' w' ∧ OwnFrs base S w' v' (l ++ m) ∧ Below base w w' := by
  obtain ⟨i0, hi, hz0, hz1, hz2⟩ := info_parts Try.infoFrm
  obtain ⟨ps, p1, p2, p3⟩ := hv
  obtain ⟨qs, q1, q2, q3⟩ := hu.sl
  have hps : ps.length = l.length := by rw [← p1, List.length_map]
  have hqs : qs.length = m.length := by rw [← q1, List.length_map]
  obtain ⟨v', w', r, o, g, _⟩ := run_append_any (P := Try.prog) w base 23 23 36 i0 _ 3 40 Try.underlying23 hi hz0 hz1 hz2 rfl (by decide) v ps.length (frCells ps) p2 qs.length (frCells qs) u q2 (fr_one2 q3) (by unfold maxLen; omega) (by omega) hbase
  have hs : SameOn S w w' := SameOn.grown g (fun g hg e => by have := (p2.lt g e.symm).1; have := hS g hg; omega)
  refine ⟨v', w', r, ⟨ps ++ qs, by rw [List.map_append, p1, q1], by rw [List.length_append, frCells_append]; exact o, fun p hp => ?_⟩, (Below.refl base w).grown g hbase (fun j hj => (p2.lt j hj).1)⟩
  rcases List.mem_append.1 hp with hp | hp
  · exact (p3 p hp).to hs (fun _ _ h => h)
  · exact (q3 p hp).to hs (fun _ _ h => h)
theorem appGrs {base : Nat} {S : Nat → Prop} {w : World} {v u : Value} {l m : List (List Fr)} (hv : OwnGrs base S w v l) (hu : GrsIn S w u m) (hS : ∀ g, S g → g < base) (hb : l.length + m.length ≤ 1000) (hbase : base ≤ w.heap.size) :
    ∃ v' w', (Builtin.append_ #[22, 22] 22 #[v, u]).run Try.prog w = .ok v' w' ∧ OwnGrs base S w' v' (l ++ m) ∧ Below base w w' := by
  obtain ⟨qs, q1, q2, q3⟩ := hu.sl
  obtain ⟨v', w', r, o, g, _⟩ := groups_app hv q1 q2 q3 (fun g hg e => by have := (hv.lt g e.symm).1; have := hS g hg; omega) hb hbase
  exact ⟨v', w', r, o, (Below.refl base w).grown g hbase (fun j hj => (hv.lt j hj).1)⟩

set_option maxHeartbeats 2000000 in
set_option maxRecDepth 100000 in
theorem growFrs_any (n : Nat) (w : World) (hn : n ≤ 1000) :
    Calls Try.prog 104 #[.slice none 0 0, .int .i64 n] w fun e w' => ∃ u, e = .returned u ∧ w'.ownsRow w.heap.size 36 3 u 0 [] ∧ Below w.heap.size w w' := by
  by_cases h0 : n = 0
  · subst h0
    go_enter Try.func104, Try.ntmps104
    go_wp2
    go_ret
    exact ⟨_, rfl, World.ownsRow_nil _ _ _ _, Below.refl _ _⟩
  · obtain ⟨i0, hi, hz0, hz1, hz2⟩ := info_parts Try.infoFrm
    obtain ⟨cap, w', r, hc, ho, hb⟩ := grow_run (P := Try.prog) w 23 3 23 36 i0 _ 3 40 Try.underlying23 Try.underlying3 hi hz0 hz1 hz2 rfl (by decide) n (by omega) hn (by decide)
    have HO : Hid (w'.ownsRow w.heap.size 36 3 (.slice (some ⟨w.heap.size, 0, none⟩) 0 cap) 0 []) := ho
    have HB : Hid (Below w.heap.size w w') := hb
    have h0i : (0 : Int) < (n : Int) := by omega
    have hw : IntKind.i64.wrap (n : Int) = (n : Int) := by rw [IntKind.wrap_i64]; omega
    clear ho hb hi hz0 hz1 hz2
    go_enter Try.func104, Try.ntmps104
    go_wp2_with (at_builtin; refine wpList_append_run rfl (.tmp 20) (.tmp 21) 23 3 rfl _ _ rfl rfl r ?_)
    go_ret
    exact ⟨_, rfl, HO.out, HB.out⟩

set_option maxHeartbeats 4000000 in
set_option maxRecDepth 100000 in
theorem concatFrs_any (S : Nat → Prop) (q : Nat) (av bv : Value) (l m : List Fr) (w : World) (hq0 : w.cell? ⟨q, 0, none⟩ = some av) (hq1 : w.cell? ⟨q, 1, none⟩ = some bv) (ha : FrsIn S w av l) (hb : FrsIn S w bv m) (hlen : l.length + m.length ≤ 1000) :
    Calls Try.prog 87 #[.slice (some ⟨q, 0, none⟩) 2 2] w fun e w' => ∃ u, e = .returned u ∧ OwnFrs w.heap.size (fun g => S g ∧ g < w.heap.size) w' u (l ++ m) ∧ Below w.heap.size w w' := by
  have hqw : q < w.heap.size := block_lt_of_cell hq0
  have HA : Hid (FrsIn (fun g => S g ∧ g < w.heap.size) w av l) := ha.mono fun g hg hs => ⟨hs, hg⟩
  have HB' : Hid (FrsIn (fun g => S g ∧ g < w.heap.size) w bv m) := hb.mono fun g hg hs => ⟨hs, hg⟩
  obtain ⟨aa, ac, ea, _, _⟩ := ha.len
  obtain ⟨ba, bc, eb, _, _⟩ := hb.len
  obtain ⟨la, hla⟩ : ∃ n, n = l.length := ⟨_, rfl⟩
  obtain ⟨lb, hlb⟩ : ∃ n, n = m.length := ⟨_, rfl⟩
  have HLA : Hid (la = l.length) := hla
  have HLB : Hid (lb = m.length) := hlb
  rw [← hla] at ea hlen
  rw [← hlb] at eb hlen
  clear ha hb hla hlb
  subst ea eb
  go_enter Try.func87, Try.ntmps87
  go_wp2_with fail
  go_loopw [3, 11] (fun s i wr => ∃ k y : Nat, ((k = 0 ∧ y = 0) ∨ (k = 1 ∧ y = la) ∨ (k = 2 ∧ y = la + lb)) ∧ i = .int .i64 k ∧ s = .int .i64 y ∧ w = wr)
    (fun _ i _ => 2 - (intOf i).toNat)
  case atStart => exact ⟨0, 0, .inl ⟨rfl, rfl⟩, rfl, rfl, rfl⟩
  case round =>
    obtain ⟨k, y, hk, rfl, rfl, rfl⟩ := hrel
    rcases hk with ⟨rfl, rfl⟩ | ⟨rfl, rfl⟩ | ⟨rfl, rfl⟩
    · go_wp2_with fail
      go_roundw
      case rel => exact ⟨1, la, .inr (.inl ⟨rfl, rfl⟩), by go_num, by go_num, by first | rfl | trivial⟩
      case measure => simp [intOf]
    · go_wp2_with fail
      go_roundw
      case rel => exact ⟨2, y + lb, .inr (.inr ⟨rfl, rfl⟩), by go_num, by go_num, by first | rfl | trivial⟩
      case measure => simp [intOf]
    · have HG : Hid (∀ U : World, Calls Try.prog 104 #[.slice none 0 0, .int .i64 ((la : Int) + (lb : Int))] U fun e w' => ∃ u, e = .returned u ∧ Hid (w'.ownsRow U.heap.size 36 3 u 0 []) ∧ Below U.heap.size U w') := fun U => by
        have := growFrs_any (la + lb) U hlen
        rw [show ((la + lb : Nat) : Int) = (la : Int) + (lb : Int) by omega] at this
        exact this
      go_wp2_with fail
      refine (HG.out _).mono ?_
      rintro e w1 ⟨u1, rfl, HO1, hb1⟩
      have B1 : Hid (Below w.heap.size w w1) := hb1
      have O1 : Hid (OwnFrs w.heap.size (fun g => S g ∧ g < w.heap.size) w1 u1 []) := ⟨[], rfl, HO1.out, fun _ hp => absurd hp List.not_mem_nil⟩
      have CQ : Hid (∀ U, Below w.heap.size w U → U.cell? ⟨q, 0, none⟩ = some (.slice aa la ac) ∧ U.cell? ⟨q, 1, none⟩ = some (.slice ba lb bc)) := fun U hU => ⟨(hU.cell (p := ⟨q, 0, none⟩) hqw).trans hq0, (hU.cell (p := ⟨q, 1, none⟩) hqw).trans hq1⟩
      clear hb1 HO1 HG hq0 hq1
      go_wp2_with fail
      go_loopw [6, 27] (fun u i w2 => ∃ k : Nat, k ≤ 2 ∧ i = .int .i64 k ∧ Hid (OwnFrs w.heap.size (fun g => S g ∧ g < w.heap.size) w2 u (if k = 0 then [] else if k = 1 then l else l ++ m)) ∧ Hid (Below w.heap.size w w2))
        (fun _ i _ => 2 - (intOf i).toNat)
      case atStart => exact ⟨0, by omega, rfl, O1, B1⟩
      case round =>
        obtain ⟨k, hk, rfl, HO, HB⟩ := hrel
        have hk3 : k = 0 ∨ k = 1 ∨ k = 2 := by omega
        obtain ⟨c0, c1⟩ := CQ.out _ HB.out
        rcases hk3 with rfl | rfl | rfl
        · have ho : OwnFrs w.heap.size (fun g => S g ∧ g < w.heap.size) wr u6 [] := HO.out
          obtain ⟨v', w3, r3, o3, b3⟩ := appFrs ho (HA.out.below HB.out) (fun g hg => hg.2) (by rw [← HLA.out]; simp; omega) HB.out.size
          have O3 : Hid (OwnFrs w.heap.size (fun g => S g ∧ g < w.heap.size) w3 v' l) := by simpa [Hid] using o3
          have B3 : Hid (Below w.heap.size w w3) := HB.out.trans b3
          clear o3 b3 ho HO HB
          go_wp2_with (at_builtin; refine wpList_append_run rfl (.tmp 31) (.tmp 32) 23 23 rfl _ _ rfl rfl r3 ?_)
          go_roundw
          case rel => exact ⟨1, by omega, by go_num, O3, B3⟩
          case measure => simp [intOf]
        · have ho : OwnFrs w.heap.size (fun g => S g ∧ g < w.heap.size) wr u6 l := HO.out
          obtain ⟨v', w3, r3, o3, b3⟩ := appFrs ho (HB'.out.below HB.out) (fun g hg => hg.2) (by rw [← HLA.out, ← HLB.out]; omega) HB.out.size
          have O3 : Hid (OwnFrs w.heap.size (fun g => S g ∧ g < w.heap.size) w3 v' (l ++ m)) := o3
          have B3 : Hid (Below w.heap.size w w3) := HB.out.trans b3
          clear o3 b3 ho HO HB
          go_wp2_with (at_builtin; refine wpList_append_run rfl (.tmp 31) (.tmp 32) 23 23 rfl _ _ rfl rfl r3 ?_)
          go_roundw
          case rel => exact ⟨2, by omega, by go_num, O3, B3⟩
          case measure => simp [intOf]
        · have ho : OwnFrs w.heap.size (fun g => S g ∧ g < w.heap.size) wr u6 (l ++ m) := HO.out
          go_wp2
          go_ret
          exact ⟨_, rfl, ho, HB.out⟩

set_option maxHeartbeats 2000000 in
set_option maxRecDepth 100000 in
theorem growGrs_any (n : Nat) (w : World) (hn : n ≤ 1000) :
    Calls Try.prog 84 #[.slice none 0 0, .int .i64 n] w fun e w' => ∃ u, e = .returned u ∧ w'.ownsRow w.heap.size 25 1 u 0 [] ∧ Below w.heap.size w w' := by
  by_cases h0 : n = 0
  · subst h0
    go_enter Try.func84, Try.ntmps84
    go_wp2
    go_ret
    exact ⟨_, rfl, World.ownsRow_nil _ _ _ _, Below.refl _ _⟩
  · obtain ⟨i0, hi, hz0, hz1, hz2⟩ := info_parts Try.infoGrp
    obtain ⟨cap, w', r, hc, ho, hb⟩ := grow_run (P := Try.prog) w 22 3 22 25 i0 _ 1 24 Try.underlying22 Try.underlying3 hi hz0 hz1 hz2 rfl (by decide) n (by omega) hn (by decide)
    have HO : Hid (w'.ownsRow w.heap.size 25 1 (.slice (some ⟨w.heap.size, 0, none⟩) 0 cap) 0 []) := ho
    have HB : Hid (Below w.heap.size w w') := hb
    have h0i : (0 : Int) < (n : Int) := by omega
    have hw : IntKind.i64.wrap (n : Int) = (n : Int) := by rw [IntKind.wrap_i64]; omega
    clear ho hb hi hz0 hz1 hz2
    go_enter Try.func84, Try.ntmps84
    go_wp2_with (at_builtin; refine wpList_append_run rfl (.tmp 20) (.tmp 21) 22 3 rfl _ _ rfl rfl r ?_)
    go_ret
    exact ⟨_, rfl, HO.out, HB.out⟩

set_option maxHeartbeats 4000000 in
set_option maxRecDepth 100000 in
theorem concatGrs_any (S : Nat → Prop) (q : Nat) (av bv : Value) (l m : List (List Fr)) (w : World) (hq0 : w.cell? ⟨q, 0, none⟩ = some av) (hq1 : w.cell? ⟨q, 1, none⟩ = some bv) (ha : GrsIn S w av l) (hb : GrsIn S w bv m) (hlen : l.length + m.length ≤ 1000) :
    Calls Try.prog 64 #[.slice (some ⟨q, 0, none⟩) 2 2] w fun e w' => ∃ u, e = .returned u ∧ OwnGrs w.heap.size (fun g => S g ∧ g < w.heap.size) w' u (l ++ m) ∧ Below w.heap.size w w' := by
  have hqw : q < w.heap.size := block_lt_of_cell hq0
  have HA : Hid (GrsIn (fun g => S g ∧ g < w.heap.size) w av l) := ha.mono fun g hg hs => ⟨hs, hg⟩
  have HB' : Hid (GrsIn (fun g => S g ∧ g < w.heap.size) w bv m) := hb.mono fun g hg hs => ⟨hs, hg⟩
  obtain ⟨aa, ac, ea, _, _⟩ := ha.len
  obtain ⟨ba, bc, eb, _, _⟩ := hb.len
  obtain ⟨la, hla⟩ : ∃ n, n = l.length := ⟨_, rfl⟩
  obtain ⟨lb, hlb⟩ : ∃ n, n = m.length := ⟨_, rfl⟩
  have HLA : Hid (la = l.length) := hla
  have HLB : Hid (lb = m.length) := hlb
  rw [← hla] at ea hlen
  rw [← hlb] at eb hlen
  clear ha hb hla hlb
  subst ea eb
  go_enter Try.func64, Try.ntmps64
  go_wp2_with fail
  go_loopw [3, 11] (fun s i wr => ∃ k y : Nat, ((k = 0 ∧ y = 0) ∨ (k = 1 ∧ y = la) ∨ (k = 2 ∧ y = la + lb)) ∧ i = .int .i64 k ∧ s = .int .i64 y ∧ w = wr)
    (fun _ i _ => 2 - (intOf i).toNat)
  case atStart => exact ⟨0, 0, .inl ⟨rfl, rfl⟩, rfl, rfl, rfl⟩
  case round =>
    obtain ⟨k, y, hk, rfl, rfl, rfl⟩ := hrel
    rcases hk with ⟨rfl, rfl⟩ | ⟨rfl, rfl⟩ | ⟨rfl, rfl⟩
    · go_wp2_with fail
      go_roundw
      case rel => exact ⟨1, la, .inr (.inl ⟨rfl, rfl⟩), by go_num, by go_num, by first | rfl | trivial⟩
      case measure => simp [intOf]
    · go_wp2_with fail
      go_roundw
      case rel => exact ⟨2, y + lb, .inr (.inr ⟨rfl, rfl⟩), by go_num, by go_num, by first | rfl | trivial⟩
      case measure => simp [intOf]
    · have HG : Hid (∀ U : World, Calls Try.prog 84 #[.slice none 0 0, .int .i64 ((la : Int) + (lb : Int))] U fun e w' => ∃ u, e = .returned u ∧ Hid (w'.ownsRow U.heap.size 25 1 u 0 []) ∧ Below U.heap.size U w') := fun U => by
        have := growGrs_any (la + lb) U hlen
        rw [show ((la + lb : Nat) : Int) = (la : Int) + (lb : Int) by omega] at this
        exact this
      go_wp2_with fail
      refine (HG.out _).mono ?_
      rintro e w1 ⟨u1, rfl, HO1, hb1⟩
      have B1 : Hid (Below w.heap.size w w1) := hb1
      have O1 : Hid (OwnGrs w.heap.size (fun g => S g ∧ g < w.heap.size) w1 u1 []) := ⟨[], rfl, HO1.out, fun _ hp => absurd hp List.not_mem_nil⟩
      have CQ : Hid (∀ U, Below w.heap.size w U → U.cell? ⟨q, 0, none⟩ = some (.slice aa la ac) ∧ U.cell? ⟨q, 1, none⟩ = some (.slice ba lb bc)) := fun U hU => ⟨(hU.cell (p := ⟨q, 0, none⟩) hqw).trans hq0, (hU.cell (p := ⟨q, 1, none⟩) hqw).trans hq1⟩
      clear hb1 HO1 HG hq0 hq1
      go_wp2_with fail
      go_loopw [6, 27] (fun u i w2 => ∃ k : Nat, k ≤ 2 ∧ i = .int .i64 k ∧ Hid (OwnGrs w.heap.size (fun g => S g ∧ g < w.heap.size) w2 u (if k = 0 then [] else if k = 1 then l else l ++ m)) ∧ Hid (Below w.heap.size w w2))
        (fun _ i _ => 2 - (intOf i).toNat)
      case atStart => exact ⟨0, by omega, rfl, O1, B1⟩
      case round =>
        obtain ⟨k, hk, rfl, HO, HB⟩ := hrel
        have hk3 : k = 0 ∨ k = 1 ∨ k = 2 := by omega
        obtain ⟨c0, c1⟩ := CQ.out _ HB.out
        rcases hk3 with rfl | rfl | rfl
        · have ho : OwnGrs w.heap.size (fun g => S g ∧ g < w.heap.size) wr u6 [] := HO.out
          obtain ⟨v', w3, r3, o3, b3⟩ := appGrs ho (HA.out.below HB.out) (fun g hg => hg.2) (by rw [← HLA.out]; simp; omega) HB.out.size
          have O3 : Hid (OwnGrs w.heap.size (fun g => S g ∧ g < w.heap.size) w3 v' l) := by simpa [Hid] using o3
          have B3 : Hid (Below w.heap.size w w3) := HB.out.trans b3
          clear o3 b3 ho HO HB
          go_wp2_with (at_builtin; refine wpList_append_run rfl (.tmp 31) (.tmp 32) 22 22 rfl _ _ rfl rfl r3 ?_)
          go_roundw
          case rel => exact ⟨1, by omega, by go_num, O3, B3⟩
          case measure => simp [intOf]
        · have ho : OwnGrs w.heap.size (fun g => S g ∧ g < w.heap.size) wr u6 l := HO.out
          obtain ⟨v', w3, r3, o3, b3⟩ := appGrs ho (HB'.out.below HB.out) (fun g hg => hg.2) (by rw [← HLA.out, ← HLB.out]; omega) HB.out.size
          have O3 : Hid (OwnGrs w.heap.size (fun g => S g ∧ g < w.heap.size) w3 v' (l ++ m)) := o3
          have B3 : Hid (Below w.heap.size w w3) := HB.out.trans b3
          clear o3 b3 ho HO HB
          go_wp2_with (at_builtin; refine wpList_append_run rfl (.tmp 31) (.tmp 32) 22 22 rfl _ _ rfl rfl r3 ?_)
          go_roundw
          case rel => exact ⟨2, by omega, by go_num, O3, B3⟩
          case measure => simp [intOf]
        · have ho : OwnGrs w.heap.size (fun g => S g ∧ g < w.heap.size) wr u6 (l ++ m) := HO.out
          go_wp2
          go_ret
          exact ⟨_, rfl, ho, HB.out⟩

end Go.Proofs.Ytnpaejknoipicad

namespace Go.Proofs.Ytnpaejknoipicad
open Go.RowKit

/-- a row of frames behind a row of the call's own -/
theorem fr_app {base : Nat} {w : World} {u x : Value} {l m : List Fr} (h : OwnFrs base (NS base u) w u l) (hx : FrsIn (NS base u) w x m) (hl : l.length + m.length ≤ 1000) (hb : base ≤ w.heap.size) :
    ∃ v' w', (Builtin.append_ #[23, 23] 23 #[u, x]).run Try.prog w = .ok v' w' ∧ OwnFrs base (NS base v') w' v' (l ++ m) ∧ w.grownBy w' u.ownBlock := by
  obtain ⟨i0, hi, hz0, hz1, hz2⟩ := info_parts Try.infoFrm
  have h1 : OwnFrs base (fun g => NS base u g ∧ g < w.heap.size) w u l := h.to (SameOn.refl _ _) (fun g hg hs => ⟨hs, hg⟩) (fun _ _ => rfl)
  have hx1 : FrsIn (fun g => NS base u g ∧ g < w.heap.size) w x m := hx.mono fun g hg hs => ⟨hs, hg⟩
  obtain ⟨ps, p1, p2, p3⟩ := h1
  obtain ⟨qs, q1, q2, q3⟩ := hx1.sl
  have hps : ps.length = l.length := by rw [← p1, List.length_map]
  have hqs : qs.length = m.length := by rw [← q1, List.length_map]
  obtain ⟨v', w', r, o, g, dd⟩ := run_append_any (P := Try.prog) w base 23 23 36 i0 _ 3 40 Try.underlying23 hi hz0 hz1 hz2 rfl (by decide) u ps.length (frCells ps) p2 qs.length (frCells qs) x q2 (fr_one2 q3) (by unfold maxLen; omega) (by omega) hb
  have hs : SameOn (fun g => NS base u g ∧ g < w.heap.size) w w' := SameOn.grown g (fun g hg => hg.1.2)
  have o1 : OwnFrs base (fun g => NS base u g ∧ g < w.heap.size) w' v' (l ++ m) := by
    refine ⟨ps ++ qs, by rw [List.map_append, p1, q1], by rw [List.length_append, frCells_append]; exact o, fun p hp => ?_⟩
    rcases List.mem_append.1 hp with hp | hp
    · exact (p3 p hp).to hs (fun _ _ h => h)
    · exact (q3 p hp).to hs (fun _ _ h => h)
  refine ⟨v', w', r, o1.to (SameOn.refl _ _) (fun g _ hg => ⟨hg.1.1, fun e => ?_⟩) (fun _ _ => rfl), g⟩
  rcases dd with d | d
  · rw [d] at e; exact hg.1.2 e
  · have := d g e.symm; omega

/-- one more frame behind a row of the call's own -/
theorem fr_snocK {base : Nat} {w : World} {u pv : Value} {l : List Fr} {f : Fr} (h : OwnFrs base (NS base u) w u l) (hp : StrsIn (NS base u) w pv f.parts) (hl : l.length ≤ 999) (hb : base ≤ w.heap.size) :
    ∃ v' w', (Builtin.append_ #[23, 23] 23 #[u, .slice (some ⟨w.heap.size, 0, none⟩) 1 1]).run Try.prog (w.alloc (.cells #[.int .i64 f.time, .bool f.key, pv] 36)) = .ok v' w' ∧ OwnFrs base (NS base v') w' v' (l ++ [f]) ∧ (w.alloc (.cells #[.int .i64 f.time, .bool f.key, pv] 36)).grownBy w' u.ownBlock := by
  have h1 : OwnFrs base (NS base u) (w.alloc (.cells #[.int .i64 f.time, .bool f.key, pv] 36)) u l := h.below ((Below.refl _ w).alloc (Nat.le_refl _) _)
  have hW : base ≤ (w.alloc (.cells #[.int .i64 f.time, .bool f.key, pv] 36)).heap.size := by simp; omega
  refine fr_app h1 ⟨some ⟨w.heap.size, 0, none⟩, 1, rfl, Nat.le_refl _, by decide, fun k hk => ?_⟩ (by simp; omega) hW
  have hk0 : k = 0 := by simpa using hk
  subst hk0
  have hB := Blk.new w #[.int .i64 f.time, .bool f.key, pv] 36
  refine ⟨w.heap.size, 0, rfl, hB.lt, ⟨hb, fun e => ?_⟩, pv, hB.cell rfl, hB.cell rfl, hB.cell rfl, hp.alloc _⟩
  have := (h.lt _ e.symm).2
  omega
theorem OwnFrs.but {base : Nat} {S : Nat → Prop} {w w' : World} {v : Value} {l : List Fr} (h : OwnFrs base S w v l) (hb : Below w.heap.size w w') : OwnFrs base S w' v l := h.below hb
theorem OwnFrs.set {base : Nat} {w : World} {v : Value} {l : List Fr} (h : OwnFrs base (NS base v) w v l) {b i : Nat} (hb : b < base) (y : Value) : OwnFrs base (NS base v) (w.setCell ⟨b, i, none⟩ y) v l :=
  h.to (SameOn.setCell (S := NS base v) (a := ⟨b, i, none⟩) (fun g hg => by have := hg.1; show g ≠ b; omega) y) (fun _ _ h => h) (fun g hg => Below.heap_setCell _ _ _ _ (by have := (h.lt g hg).1; show g ≠ b; omega))
/-- what an append leaves of the rest -/
theorem grown_but {B base : Nat} {w w' : World} {row : Option Nat} (hg : w.grownBy w' row) (hb : base ≤ w.heap.size) (hr : ∀ k, row = some k → base ≤ k) : But B base w w' := .of_below ((Below.refl base w).grown hg hb hr)

end Go.Proofs.Ytnpaejknoipicad

namespace Go.Proofs.Ytnpaejknoipicad
open Go.RowKit

theorem tkF_key (b : Bool) (l : List UInt8) : tkF b l = (tkF false l).map fun a => (⟨a.1.time, b, a.1.parts⟩, a.2) := by
  unfold tkF
  split
  · rw [Option.map_map]; rfl
  · rfl
theorem OwnFrs.cap {base : Nat} {S : Nat → Prop} {w : World} {v : Value} {l : List Fr} (h : OwnFrs base S w v l) : ∃ a c, v = .slice a l.length c ∧ l.length ≤ c := by
  obtain ⟨ps, h1, h2, _⟩ := h
  obtain ⟨a, c, e, h3, _⟩ := owns_cap h2
  have : ps.length = l.length := by rw [← h1, List.length_map]
  rw [this] at e h3
  exact ⟨a, c, e, h3⟩
/-- what the closure of decode answers -/
def DcP (R Nb Gb : Nat) (w : World) (O : Option (Int × List Fr × List UInt8)) (e : Ending) (w' : World) : Prop :=
  Kept [R, Nb, Gb] w w' ∧ ((O = none ∧ e = .panicked few) ∨ ∃ n fs r gv, O = some (n, fs, r) ∧ e = .returned (.tuple #[]) ∧ Blk w' R #[.string (ba r)] 158 ∧ Blk w' Nb #[.int .i64 n] 3 ∧ Blk w' Gb #[gv] 25 ∧ FrsIn (fun g => w.heap.size ≤ g) w' gv fs)

set_option maxHeartbeats 8000000 in
set_option maxRecDepth 100000 in
theorem decode1_any (R Nb Gb : Nat) (l : List UInt8) (y0 : Int) (w : World) (bR : Blk w R #[.string (ba l)] 158) (bN : Blk w Nb #[.int .i64 y0] 3) (bG : Blk w Gb #[.slice none 0 0] 25) (hRN : R ≠ Nb) (hRG : R ≠ Gb) (hNG : Nb ≠ Gb) :
    Calls Try.prog 96 #[.pointer (some ⟨R, 0, none⟩), .pointer (some ⟨Nb, 0, none⟩), .pointer (some ⟨Gb, 0, none⟩)] w (DcP R Nb Gb w (tkG l)) := by
  obtain ⟨O, hO⟩ : ∃ O, O = tkG l := ⟨_, rfl⟩
  obtain ⟨m, hm⟩ : ∃ m, m = num (l.take 4) := ⟨_, rfl⟩
  obtain ⟨n, hn⟩ : ∃ n, n = at8 l 4 := ⟨_, rfl⟩
  obtain ⟨l4, hl4⟩ : ∃ r, r = l.drop 4 := ⟨_, rfl⟩
  obtain ⟨l5, hl5⟩ : ∃ r, r = l.drop 5 := ⟨_, rfl⟩
  have hn255 : n ≤ 255 := by have := at8_lt l 4; omega
  have HF0 : Hid (l.length < 5 → O = none) := fun h => by rw [hO]; unfold tkG; rw [if_neg (by omega)]
  have HF1 : Hid (∀ k, k ≤ n → tkFs k l5 = none → O = none) := fun k hk h => by
    rw [hO]; unfold tkG
    split
    · rw [← hn, ← hl5, tkFs_fail h n hk]; rfl
    · rfl
  have HF2 : Hid (5 ≤ l.length → ∀ fs r, tkFs n l5 = some (fs, r) → O = some (m, fs, r)) := fun h fs r hs => by
    rw [hO]; unfold tkG
    rw [if_pos h, ← hn, ← hl5, hs, hm]; rfl
  have hlen4 : l4.length = l.length - 4 := by rw [hl4, List.length_drop]
  have HM4 : Hid (m = num (l.take 4)) := hm
  have HL4 : Hid (l4 = l.drop 4) := hl4
  have HL5 : Hid (l5 = l4.drop 1) := by show _ = _; rw [hl5, hl4, List.drop_drop]
  have HN1 : Hid ((n : Int) = num (l4.take 1)) := by show _ = _; rw [hl4, num_at, hn]
  have sub : ∀ {a b : World}, Kept [R] a b → Kept [R, Nb, Gb] a b := fun h => ⟨h.os, h.tape, h.output, h.size, fun k hk hS => h.block k hk (fun hm => hS (by simp at hm ⊢; exact .inl hm))⟩
  have HSub := @id (Hid (∀ {a b : World}, Kept [R] a b → Kept [R, Nb, Gb] a b)) sub
  rw [← hO]
  clear hO hm hn hl4 hl5 sub
  have hRl := bR.lt
  have hNl := bN.lt
  have hGl := bG.lt
  have HNE : Hid (R ≠ Nb ∧ R ≠ Gb ∧ Nb ≠ Gb) := ⟨hRN, hRG, hNG⟩
  clear hRN hRG hNG
  go_enter Try.func96, Try.ntmps96
  go_wp2_with fail
  by_cases h4 : l.length < 4
  · refine (numberL_few R l 4 w bR (by omega)).mono ?_
    rintro e _ ⟨rfl, rfl⟩
    exact ⟨rfl, Kept.refl _ _, .inl ⟨HF0.out (by omega), rfl⟩⟩
  refine (numberL_some R 4 4 m l l4 w HM4.out HL4.out rfl bR (by omega) (by omega)).mono ?_
  rintro e w1 ⟨rfl, hR1, k1⟩
  have hN1 := bN.kept k1 (by simp; exact fun h => HNE.out.1 h.symm)
  have hG1 := bG.kept k1 (by simp; exact fun h => HNE.out.2.1 h.symm)
  have HK1 : Hid (Kept [R, Nb, Gb] w w1) := HSub.out k1
  obtain ⟨W1, hW1⟩ : ∃ W1, W1 = w1.setCell ⟨Nb, 0, none⟩ (.int .i64 m) := ⟨_, rfl⟩
  have HN2 : Hid (Blk W1 Nb #[.int .i64 m] 3) := by show Blk _ _ _ _; rw [hW1]; exact hN1.set 0 _
  have hR2 : Blk W1 R #[.string (ba l4)] 158 := by rw [hW1]; exact hR1.other (a := ⟨Nb, 0, none⟩) HNE.out.1 _
  have HG2 : Hid (Blk W1 Gb #[.slice none 0 0] 25) := by show Blk _ _ _ _; rw [hW1]; exact hG1.other (a := ⟨Nb, 0, none⟩) (fun h => HNE.out.2.2 h.symm) _
  have HK2 : Hid (Kept [R, Nb, Gb] w W1) := by show Kept _ _ _; rw [hW1]; exact HK1.out.setCell (p := ⟨Nb, 0, none⟩) (by simp) _
  have n0 := hN1.cell (j := 0) (u := .int .i64 y0) rfl
  have nf := hN1.free 0
  clear k1 hR1 hN1 hG1 HK1 bR bN bG
  go_wp2_with fail
  rw [← hW1]
  clear hW1 n0 nf
  by_cases h5 : l4.length < 1
  · refine (numberL_few R l4 1 W1 hR2 (by omega)).mono ?_
    rintro e _ ⟨rfl, rfl⟩
    exact ⟨rfl, HK2.out, .inl ⟨HF0.out (by omega), rfl⟩⟩
  have hl5 : 5 ≤ l.length := by omega
  refine (numberL_some R 1 1 (n : Int) l4 l5 W1 HN1.out HL5.out rfl hR2 (by omega) (by omega)).mono ?_
  rintro e w2 ⟨rfl, hR3, k2⟩
  have HR3 : Hid (Blk w2 R #[.string (ba l5)] 158) := hR3
  have HK3 : Hid (Kept [R, Nb, Gb] w w2) := HK2.out.trans (HSub.out k2)
  have HN3 : Hid (Blk w2 Nb #[.int .i64 m] 3) := HN2.out.kept k2 (by simp; exact fun h => HNE.out.1 h.symm)
  have HG3 : Hid (Blk w2 Gb #[.slice none 0 0] 25) := HG2.out.kept k2 (by simp; exact fun h => HNE.out.2.1 h.symm)
  obtain ⟨base, hbase⟩ : ∃ b, b = w.heap.size := ⟨_, rfl⟩
  clear hR3 k2 hR2 HN2 HG2 HK2 h4 h5 hlen4 HM4 HL4 HL5 HN1
  go_wp2_with fail
  go_loopw [4, 5, 10] (fun _ _ i wr => ∃ (k : Nat) (fs : List Fr) (rk : List UInt8) (ua : Option Addr) (uc : Nat), k ≤ n ∧ i = .int .i64 k ∧ Hid (tkFs k l5 = some (fs, rk)) ∧ Hid (Blk wr R #[.string (ba rk)] 158) ∧ Hid (Blk wr Nb #[.int .i64 m] 3) ∧ Hid (Blk wr Gb #[.slice ua k uc] 25) ∧ Hid (OwnFrs base (NS base (.slice ua k uc)) wr (.slice ua k uc) fs) ∧ Hid (Kept [R, Nb, Gb] w wr))
    (fun _ _ i _ => n - (intOf i).toNat)
  case atStart => exact ⟨0, [], l5, none, 0, Nat.zero_le _, rfl, (show tkFs 0 l5 = _ from rfl), HR3, HN3, HG3, (show OwnFrs _ _ _ _ _ from OwnFrs.nil _ _ _), HK3⟩
  case round =>
    obtain ⟨k, fs, rk, ua, uc, hk, rfl, HT, HR, HN, HG, HO, HK⟩ := hrel
    clear HR3 HN3 HG3 HK3
    have hbw : base ≤ wr.heap.size := by rw [hbase]; exact HK.out.size
    by_cases hlt : k < n
    · have hlti : (k : Int) < (n : Int) := by omega
      go_wp2_with fail
      refine (takeFrame_any R rk wr HR.out).mono ?_
      rintro e w3 ⟨k3, ⟨ho, rfl⟩ | ⟨f, r, pv, ho, rfl, hs, hR3⟩⟩
      · refine ⟨rfl, HK.out.trans (HSub.out k3), .inl ⟨HF1.out (k + 1) (by omega) (tkFs_bad HT.out ?_), rfl⟩⟩
        rw [tkF_key, ho]; rfl
      · obtain ⟨ft, hft⟩ : ∃ x, x = f.time := ⟨_, rfl⟩
        obtain ⟨fk, hfk⟩ : ∃ x, x = f.key := ⟨_, rfl⟩
        obtain ⟨key, hkey⟩ : ∃ x, x = ((k : Int) == 0) := ⟨_, rfl⟩
        obtain ⟨pa, pc, ep⟩ := hs.1.len
        obtain ⟨pn, hpn⟩ : ∃ x, x = f.parts.length := ⟨_, rfl⟩
        rw [← hpn] at ep
        have HT2 : Hid (tkFs (k + 1) l5 = some (fs ++ [⟨ft, key, f.parts⟩], r)) := by
          refine tkFs_good HT.out ?_
          rw [tkF_key, ho, hft, hkey]
          have : (k == 0) = ((k : Int) == 0) := by rw [Bool.eq_iff_iff]; simp
          rw [this]; rfl
        have hws := k3.size
        have hGw := HG.out.lt
        have HN3 : Hid (Blk w3 Nb #[.int .i64 m] 3) := HN.out.kept k3 (by simp; exact fun h => HNE.out.1 h.symm)
        have HG3 : Hid (Blk w3 Gb #[.slice ua k uc] 25) := HG.out.kept k3 (by simp; exact fun h => HNE.out.2.1 h.symm)
        have HO3 : Hid (OwnFrs base (NS base (.slice ua k uc)) w3 (.slice ua k uc) fs) := HO.out.to (k3.sameOn (fun g hg => by have := hg.1; simp; omega)) (fun _ _ h => h) (fun g hg => k3.block g (HO.out.lt g hg).2 (by have := (HO.out.lt g hg).1; simp; omega))
        have HK3 : Hid (Kept [R, Nb, Gb] w w3) := HK.out.trans (HSub.out k3)
        have HS3 : Hid (StrsIn (NS base (.slice ua k uc)) w3 pv f.parts) := hs.mono (fun g _ hg => ⟨by show base ≤ g; omega, fun e => by have := (HO.out.lt g e.symm).2; omega⟩)
        have HR3 : Hid (Blk w3 R #[.string (ba r)] 158) := hR3
        rw [← hft, ← hfk]
        clear k3 hs hR3 HR HN HG HO HK HT ho
        subst ep
        obtain ⟨X, hX⟩ : ∃ X, X = w3.heap.size := ⟨_, rfl⟩
        obtain ⟨W4, hW4⟩ : ∃ W, W = w3.alloc (.cells #[.int .i64 ft, .bool key, .slice pa pn pc] 36) := ⟨_, rfl⟩
        have KX4 : Blk W4 X #[.int .i64 ft, .bool key, .slice pa pn pc] 36 := by rw [hX]; exact Blk.newE hW4
        have HB4 : Hid (Below w3.heap.size w3 W4) := by show Below _ _ _; rw [hW4]; exact (Below.refl _ w3).alloc (Nat.le_refl _) _
        have KG4 := HG3.out.below HB4.out HG3.out.lt
        have HO4 := HO3.out.below HB4.out
        have HS4 := HS3.out.below HB4.out
        have hW4s := HB4.out.size
        obtain ⟨v', W5, hrun, o5, g5⟩ := fr_snocK (f := ⟨ft, key, f.parts⟩) HO4 HS4 (by have := (tkFs_len HT2.out).1; simp at this; omega) (by omega)
        have hl5s : (fs ++ [(⟨ft, key, f.parts⟩ : Fr)]).length = k + 1 := (tkFs_len HT2.out).1
        obtain ⟨va, vc, ev, _⟩ := o5.cap
        rw [hl5s] at ev
        subst ev
        simp only at hrun g5
        obtain ⟨W6, hW6⟩ : ∃ W, W = W4.alloc (.cells #[.int .i64 ft, .bool key, .slice pa pn pc] 36) := ⟨_, rfl⟩
        rw [← hW6] at hrun g5
        have hB6 : Below W4.heap.size W4 W6 := by rw [hW6]; exact (Below.refl _ _).alloc (Nat.le_refl _) _
        have hB6s := hB6.size
        have hrow : ∀ g, (Value.slice ua k uc).ownBlock = some g → base ≤ g := fun g hg => (HO4.lt g hg).1
        have hlt0 : ∀ g, g < base → some g ≠ (Value.slice ua k uc).ownBlock := fun g hg e => by have := hrow g e.symm; omega
        have KG5 : Blk W5 Gb #[.slice ua k uc] 25 := (g5.block Gb (by omega) (hlt0 Gb (by omega))).trans (KG4.below hB6 KG4.lt)
        have HB5 : Hid (Kept [R, Nb, Gb] w W5) := by
          have k6 : Kept [R, Nb, Gb] w W6 := (HK3.out.below HB4.out).below hB6
          exact ⟨g5.os.trans k6.os, g5.tape.trans k6.tape, g5.output.trans k6.output, Nat.le_trans k6.size g5.size, fun j hj hn => (g5.block j (Nat.lt_of_lt_of_le hj k6.size) (hlt0 j (by omega))).trans (k6.block j hj hn)⟩
        have KR4 := HR3.out.below HB4.out HR3.out.lt
        have KN4 := HN3.out.below HB4.out HN3.out.lt
        have KR5 : Hid (Blk W5 R #[.string (ba r)] 158) := (g5.block R (by omega) (hlt0 R (by omega))).trans (KR4.below hB6 KR4.lt)
        have KN5 : Hid (Blk W5 Nb #[.int .i64 m] 3) := (g5.block Nb (by omega) (hlt0 Nb (by omega))).trans (KN4.below hB6 KN4.lt)
        have HO5 : Hid (OwnFrs base (NS base (.slice va (k + 1) vc)) W5 (.slice va (k + 1) vc) (fs ++ [⟨ft, key, f.parts⟩])) := o5
        obtain ⟨y0, y1, y2⟩ := KX4.three
        have q0 := KG4.cell (j := 0) (u := .slice ua k uc) rfl
        have s0 := KG5.cell (j := 0) (u := .slice ua k uc) rfl
        have sf := KG5.free 0
        have HG5 : Hid (Blk W5 Gb #[.slice ua k uc] 25) := KG5
        have HX : Hid (X = w3.heap.size) := hX
        have HW4 : Hid (W4 = w3.alloc (.cells #[.int .i64 ft, .bool key, .slice pa pn pc] 36)) := hW4
        have HKY : Hid (key = ((k : Int) == 0)) := hkey
        clear hX hW4 hkey KX4 KG4 KR4 KN4 KG5 o5 g5 HO4 HS4 HR3 HN3 HG3 HK3 HO3 HS3 hrow hlt0 hB6 hft hfk hpn
        go_upto_region 6 with fail
        rw [← HKY.out, ← HW4.out, ← HX.out]
        clear HW4 HX HKY
        go_wp2_with (at_builtin; rw [← hW6]; refine wpList_append_run rfl (.tmp 19) (.tmp 21) 23 23 rfl _ _ rfl rfl hrun ?_)
        go_roundw
        case rel =>
          refine ⟨k + 1, fs ++ [⟨ft, key, f.parts⟩], r, va, vc, by omega, by go_num, HT2, ?_, ?_, ?_, ?_, ?_⟩
          · exact KR5.out.other (a := ⟨Gb, 0, none⟩) HNE.out.2.1 _
          · exact KN5.out.other (a := ⟨Gb, 0, none⟩) HNE.out.2.2 _
          · exact HG5.out.set 0 _
          · exact HO5.out.set (by omega) _
          · exact HB5.out.setCell (p := ⟨Gb, 0, none⟩) (by simp) _
        case measure => simp [intOf]; omega
    · have hkl : k = n := by omega
      subst hkl
      go_wp2_with fail
      go_end0
      exact ⟨HK.out, .inr ⟨m, fs, rk, _, HF2.out hl5 fs rk HT.out, rfl, HR.out, HN.out, HG.out, HO.out.frsIn (fun g _ hg => by have := hg.1; show w.heap.size ≤ g; omega) (fun g hg => by have := (HO.out.lt g hg).1; show w.heap.size ≤ g; omega)⟩⟩

end Go.Proofs.Ytnpaejknoipicad

namespace Go.Proofs.Ytnpaejknoipicad
open Go.RowKit

/-- blocks of P are as they were, but block B -/
structure ButP (B : Nat) (P : Nat → Prop) (w w' : World) : Prop where
  os : w'.os = w.os
  tape : w'.tape = w.tape
  output : w'.output = w.output
  size : w.heap.size ≤ w'.heap.size
  block : ∀ k, P k → k ≠ B → w'.heap[k]? = w.heap[k]?
theorem ButP.refl (B : Nat) (P : Nat → Prop) (w : World) : ButP B P w w := ⟨rfl, rfl, rfl, Nat.le_refl _, fun _ _ _ => rfl⟩
theorem ButP.trans {B : Nat} {P : Nat → Prop} {a b c : World} (h : ButP B P a b) (k : ButP B P b c) : ButP B P a c :=
  ⟨k.os.trans h.os, k.tape.trans h.tape, k.output.trans h.output, Nat.le_trans h.size k.size, fun j hj hn => (k.block j hj hn).trans (h.block j hj hn)⟩
theorem ButP.of_below {B : Nat} {P : Nat → Prop} {a b : World} (h : Below a.heap.size a b) (hP : ∀ k, P k → k < a.heap.size) : ButP B P a b := ⟨h.os, h.tape, h.output, h.size, fun j hj _ => h.block j (hP j hj)⟩
theorem ButP.set {B : Nat} {P : Nat → Prop} {a b : World} (h : ButP B P a b) (i : Nat) (v : Value) : ButP B P a (b.setCell ⟨B, i, none⟩ v) :=
  ⟨h.os, h.tape, h.output, by simpa using h.size, fun j hj hn => (Below.heap_setCell b ⟨B, i, none⟩ v j hn).trans (h.block j hj hn)⟩
theorem ButP.toBelow {B c : Nat} {P : Nat → Prop} {a b : World} (h : ButP B P a b) (h1 : ∀ k, k < c → P k) (h2 : c ≤ B) : Below c a b := ⟨h.os, h.tape, h.output, h.size, fun j hj => h.block j (h1 j hj) (by omega)⟩
theorem ButP.mono {B : Nat} {P Q : Nat → Prop} {a b : World} (h : ButP B P a b) (hq : ∀ k, Q k → P k) : ButP B Q a b := ⟨h.os, h.tape, h.output, h.size, fun j hj hn => h.block j (hq j hj) hn⟩
theorem ButP.alloc {B : Nat} {P : Nat → Prop} {a b : World} (h : ButP B P a b) (hP : ∀ k, P k → k < b.heap.size) (o : Obj) : ButP B P a (b.alloc o) := h.trans (ButP.of_below ((Below.refl _ b).alloc (Nat.le_refl _) o) hP)
theorem ButP.sameOn {B : Nat} {P X : Nat → Prop} {a b : World} (h : ButP B P a b) (hX : ∀ g, X g → P g ∧ g ≠ B) : SameOn X a b := ⟨h.size, fun g _ hg => h.block g (hX g hg).1 (hX g hg).2⟩
theorem Blk.butP {B : Nat} {P : Nat → Prop} {w w' : World} {b : Nat} {C : Array Value} {t : TypeId} (h : Blk w b C t) (hk : ButP B P w w') (h1 : P b) (h2 : b ≠ B) : Blk w' b C t := (hk.block b h1 h2).trans h

/-- a writer in block B that has put these bytes, into a row that is not among the blocks of P -/
def WrP (B : Nat) (P : Nat → Prop) (w : World) (xs : List UInt8) : Prop := ∃ a c, Blk w B #[.slice a xs.length c] 118 ∧ w.ownsRow 0 5 1 (.slice a xs.length c) xs.length (bcells xs) ∧ ∀ g, (Value.slice a xs.length c).ownBlock = some g → ¬ P g
theorem WrP.lt {B : Nat} {P : Nat → Prop} {w : World} {xs : List UInt8} (h : WrP B P w xs) : B < w.heap.size := by
  obtain ⟨_, _, h1, _⟩ := h
  exact h1.lt
/-- what is made anew may be added to what stays -/
theorem WrP.alloc {B : Nat} {P Q : Nat → Prop} {w : World} {xs : List UInt8} (h : WrP B P w xs) (hq : ∀ g, g < w.heap.size → Q g → P g) (o : Obj) : WrP B Q (w.alloc o) xs := by
  obtain ⟨a, c, h1, h2, h3⟩ := h
  exact ⟨a, c, h1.alloc o, h2.alloc o, fun g hg hQ => h3 g hg (hq g (h2.lt g hg).2 hQ)⟩
theorem WrP.mono {B : Nat} {P Q : Nat → Prop} {w : World} {xs : List UInt8} (h : WrP B P w xs) (hq : ∀ g, g < w.heap.size → Q g → P g) : WrP B Q w xs := by
  obtain ⟨a, c, h1, h2, h3⟩ := h
  exact ⟨a, c, h1, h2, fun g hg hQ => h3 g hg (hq g (h2.lt g hg).2 hQ)⟩
theorem WrP.below {B : Nat} {P Q : Nat → Prop} {w w' : World} {xs : List UInt8} (h : WrP B P w xs) (hb : Below w.heap.size w w') (hq : ∀ g, g < w.heap.size → Q g → P g) : WrP B Q w' xs := by
  obtain ⟨a, c, h1, h2, h3⟩ := h
  exact ⟨a, c, h1.below hb h1.lt, owns_same h2 (fun g hg => hb.block g (h2.lt g hg).2), fun g hg hQ => h3 g hg (hq g (h2.lt g hg).2 hQ)⟩
theorem WrP.new (w : World) : ∀ P : Nat → Prop, WrP w.heap.size P (w.alloc (.cells #[.slice none 0 0] 118)) [] := fun _ => ⟨none, 0, Blk.new _ _ _, World.ownsRow_nil _ _ _ _, fun g hg => by simp [Value.ownBlock] at hg⟩

set_option maxHeartbeats 1000000 in
theorem putP_any (B : Nat) (P : Nat → Prop) (xs ys : List UInt8) (ua : Option Addr) (uc : Nat) (w : World) (hPB : P B) (hP : ∀ g, P g → g < w.heap.size) (hw : WrP B P w xs) (hu : Sl w (.slice ua ys.length uc) ys.length 1 (bcells ys)) (hm : xs.length + ys.length ≤ 1000000) :
    Calls Try.prog 98 #[.pointer (some ⟨B, 0, none⟩), .slice ua ys.length uc] w fun r w' => r = .returned (.tuple #[]) ∧ WrP B P w' (xs ++ ys) ∧ ButP B P w w' := by
  obtain ⟨i0, hi, hz0, hz1, hz2⟩ := info_parts Try.infoU8
  obtain ⟨a, c, hblk, hown, hnP⟩ := hw
  obtain ⟨v', w1, hr, ho1, hg1, hor⟩ := run_append_any (P := Try.prog) w 0 116 116 5 i0 (.int .u8 0) 1 1 Try.underlying116 hi hz0 hz1 hz2 rfl (by decide) _ _ _ hown _ _ _ hu (bcells_one2 _) (by unfold maxLen; omega) (by omega) (Nat.zero_le _)
  have hn : xs.length + ys.length = (xs ++ ys).length := by simp
  rw [hn, ← bcells_append] at ho1
  obtain ⟨va, vc, ev⟩ := owns_slice ho1
  subst ev
  have hblk1 : Blk w1 B #[.slice a xs.length c] 118 := (hg1.block B hblk.lt (fun e => hnP B e.symm hPB)).trans hblk
  have hbe1 : ButP B P w w1 := ⟨hg1.os, hg1.tape, hg1.output, hg1.size, fun k hk _ => hg1.block k (hP k hk) (fun e => hnP k e.symm hk)⟩
  obtain ⟨m, hmm⟩ : ∃ m, m = (xs ++ ys).length := ⟨_, rfl⟩
  have HM : Hid (m = (xs ++ ys).length) := hmm
  rw [← hmm] at ho1 hr hor
  have HNP : Hid (∀ g, (Value.slice va m vc).ownBlock = some g → ¬ P g) := fun g hg hPg => by
    rcases hor with h | h
    · exact hnP g (by rw [← h]; exact hg) hPg
    · have h1 := h g hg
      have h2 := hP g hPg
      omega
  have HO : Hid (w1.ownsRow 0 5 1 (.slice va m vc) m (bcells (xs ++ ys))) := ho1
  have HB1 : Hid (ButP B P w w1) := hbe1
  have hc := hblk.cell (j := 0) (u := .slice a xs.length c) rfl
  have HK : Hid (Blk w1 B #[.slice a xs.length c] 118) := hblk1
  have hc1 := hblk1.cell (j := 0) (u := .slice a xs.length c) rfl
  have hf1 := hblk1.free 0
  have HPB : Hid (P B) := hPB
  clear hown hblk hg1 ho1 hbe1 hblk1 hmm hn hm hu hor hnP hP hPB
  go_enter Try.func98, Try.ntmps98
  go_wp2_with (at_builtin; refine wpList_append_run rfl (.tmp 8) (.tmp 9) 116 116 rfl _ _ rfl rfl hr ?_)
  go_end0
  refine ⟨rfl, ⟨va, vc, ?_, ?_, ?_⟩, HB1.out.set 0 _⟩
  · rw [← HM.out]; exact HK.out.set 0 _
  · rw [← HM.out]
    exact owns_same HO.out (fun g hg => Below.heap_setCell _ _ _ _ (fun e => HNP.out g hg (by rw [e]; exact HPB.out)))
  · rw [← HM.out]; exact HNP.out

set_option maxHeartbeats 1000000 in
set_option maxRecDepth 1000000 in
theorem numberP_any (B size : Nat) (P : Nat → Prop) (xs : List UInt8) (n sz : Int) (w : World) (hsz : sz = (size : Int)) (_hn : 0 ≤ n) (_hn2 : n ≤ 4294967295) (hs : size ≤ 8) (hm : xs.length ≤ 900000) (hPB : P B) (hP : ∀ g, P g → g < w.heap.size) (hw : WrP B P w xs) :
    Calls Try.prog 73 #[.pointer (some ⟨B, 0, none⟩), .int .i64 n, .int .i64 sz] w fun r w' => r = .returned (.tuple #[]) ∧ WrP B P w' (xs ++ be n size) ∧ ButP B P w w' := by
  subst hsz
  have HPB : Hid (P B) := hPB
  have HP : Hid (∀ g, P g → g < w.heap.size) := hP
  have HW0 : Hid (WrP B P w xs) := hw
  clear hPB hP hw
  go_enter Try.func73, Try.ntmps73
  go_wp2
  go_loopw [6] (fun i wr => ∃ (k : Nat), k ≤ size ∧ i = .int .i64 ((size : Int) - 1 - k) ∧ Hid (WrP B P wr (xs ++ beK n size k)) ∧ Hid (ButP B P w wr)) (fun i _ => (intOf i + 1).toNat)
  case atStart => exact ⟨0, Nat.zero_le _, by simp, (by show WrP B P w (xs ++ beK n size 0); rw [show beK n size 0 = [] from rfl, List.append_nil]; exact HW0.out), ButP.refl _ _ _⟩
  case round =>
    obtain ⟨k, hk, rfl, HW, HB⟩ := hrel
    by_cases hlt : k < size
    · have h1 : 0 ≤ (size : Int) - 1 - k := by omega
      have h2 : (size : Int) - 1 - k ≤ 7 := by omega
      obtain ⟨x, hx⟩ : ∃ x, x = byteU n (size - 1 - k) := ⟨_, rfl⟩
      have hxs := byteU_toNat n (size - 1 - k)
      rw [← hx] at hxs
      have HXS : Hid ((x.toNat : Int) = n / 2 ^ (8 * (size - 1 - k)) % 256) := hxs
      have HX : Hid (x = byteU n (size - 1 - k)) := hx
      clear hx hxs
      go_wp2_with fail
      rw [← HXS.out]
      have hSl := Sl.new wr #[Value.int .u8 x.toNat] 5 1 1 1 rfl
      have hbs := HB.out.size
      have hPr : ∀ g, P g → g < wr.heap.size := fun g hg => Nat.lt_of_lt_of_le (HP.out g hg) hbs
      refine (putP_any B P (xs ++ beK n size k) [x] (some ⟨wr.heap.size, 0, none⟩) 1 _ HPB.out (fun g hg => by rw [World.size_alloc]; have := hPr g hg; omega) (HW.out.alloc (fun _ _ h => h) _) hSl (by rw [List.length_append, beK_len]; simp; omega)).mono ?_
      rintro r w2 ⟨rfl, W2, B2⟩
      have HB2 : Hid (ButP B P w w2) := (HB.out.alloc hPr _).trans B2
      have HW2 : Hid (WrP B P w2 (xs ++ beK n size (k + 1))) := by
        rw [beK_succ, ← List.append_assoc, ← HX.out]; exact W2
      clear hSl W2 B2 HW HB hPr
      go_wp2
      exact ⟨⟨k + 1, by omega, by go_num, HW2, HB2⟩, by simp [intOf]; omega⟩
    · have hkl : k = size := by omega
      subst hkl
      go_wp2
      go_end0
      exact ⟨rfl, HW.out, HB.out⟩

set_option maxHeartbeats 1000000 in
theorem textP_any (B : Nat) (P : Nat → Prop) (xs : List UInt8) (s : ByteArray) (w : World) (hm : xs.length + s.size ≤ 1000000) (hPB : P B) (hP : ∀ g, P g → g < w.heap.size) (hw : WrP B P w xs) :
    Calls Try.prog 76 #[.pointer (some ⟨B, 0, none⟩), .string s] w fun r w' => r = .returned (.tuple #[]) ∧ WrP B P w' (xs ++ s.data.toList) ∧ ButP B P w w' := by
  have hbs := fun (wx : World) (s : ByteArray) => run_bytes_of_string (P := Try.prog) wx 9 116 5 s Try.underlying9 Try.underlying116 Try.underlying5
  have HW : Hid (WrP B P w xs) := hw
  have HPB : Hid (P B) := hPB
  have HP : Hid (∀ g, P g → g < w.heap.size) := hP
  clear hw hPB hP
  go_enter Try.func76, Try.ntmps76
  go_wp2_with fail
  have hSl := Sl.marked w s (grownCap w s.size 0 5) 5 ((bytesRow s (grownCap w s.size 0 5)).size, (bytesRow s (grownCap w s.size 0 5)).size + 1) (grownCap w s.size 0 5)
  obtain ⟨c, hc⟩ : ∃ c, c = grownCap w s.size 0 5 := ⟨_, rfl⟩
  rw [← hc] at hSl ⊢
  obtain ⟨W1, hW1⟩ : ∃ W1, W1 = (w.alloc (Obj.cells (bytesRow s c) 5 ((bytesRow s c).size, (bytesRow s c).size + 1))).drew := ⟨_, rfl⟩
  rw [← hW1] at hSl ⊢
  have hB1 : Below w.heap.size w W1 := by rw [hW1]; exact ((Below.refl _ w).alloc (Nat.le_refl _) _).drew
  have hW : WrP B P W1 xs := HW.out.below hB1 (fun _ _ h => h)
  have hsz : s.size = s.data.toList.length := Array.length_toList.symm
  rw [hsz] at hSl hm ⊢
  refine (putP_any B P xs s.data.toList (some ⟨w.heap.size, 0, none⟩) c W1 HPB.out (fun g hg => Nat.lt_of_lt_of_le (HP.out g hg) hB1.size) hW hSl hm).mono ?_
  rintro r w2 ⟨rfl, W2, B2⟩
  have HB2 : Hid (ButP B P w w2) := (ButP.of_below hB1 HP.out).trans B2
  have HW2 : Hid (WrP B P w2 (xs ++ s.data.toList)) := W2
  clear hSl hW hB1 W2 B2 hW1 hbs hsz hm
  go_wp2
  go_end0
  exact ⟨rfl, HW2.out, HB2.out⟩

theorem allP_any (B : Nat) (P : Nat → Prop) (xs : List UInt8) (w : World) (h0 : 0 < xs.length) (hw : WrP B P w xs) :
    Calls Try.prog 75 #[.pointer (some ⟨B, 0, none⟩)] w fun r w' => r = .returned (.string (ba xs)) ∧ w = w' := by
  obtain ⟨a, c, h1, h2, _⟩ := hw
  exact rawAll_any B 0 xs w h0 ⟨a, c, h1, h2⟩

end Go.Proofs.Ytnpaejknoipicad

namespace Go.Proofs.Ytnpaejknoipicad
open Go.RowKit

theorem encTs_take {ps : List ByteArray} {k : Nat} (hk : k < ps.length) : encTs (ps.take (k + 1)) = encTs (ps.take k) ++ (be ((ps[k]?.getD ByteArray.empty).size) 1 ++ (ps[k]?.getD ByteArray.empty).data.toList) := by
  rw [take_one hk ByteArray.empty]; simp [encTs, encT, be1]
theorem encTs_len {ps : List ByteArray} (h : ∀ s ∈ ps, s.size ≤ 8) (k : Nat) (hk : k ≤ ps.length) : (encTs (ps.take k)).length ≤ k * 9 := by
  have h1 := flat_len encT 9 (ps.take k) (fun s hs => by rw [encT_len]; have := h s (List.mem_of_mem_take hs); omega)
  rw [List.length_take, Nat.min_eq_left hk] at h1
  exact h1

set_option maxHeartbeats 2000000 in
set_option maxRecDepth 100000 in
theorem putFrame_any (B : Nat) (P : Nat → Prop) (xs : List UInt8) (f : Fr) (pv : Value) (w : World) (hf : f.chk = 0) (hm : xs.length ≤ 1000) (hPB : P B) (hP : ∀ g, P g → g < w.heap.size) (hw : WrP B P w xs) (hp : StrsIn (fun g => P g ∧ g ≠ B) w pv f.parts) :
    Calls Try.prog 74 #[.pointer (some ⟨B, 0, none⟩), .agg #[.int .i64 f.time, .bool f.key, pv]] w fun r w' => r = .returned (.tuple #[]) ∧ WrP B P w' (xs ++ encF f) ∧ ButP B P w w' := by
  obtain ⟨h0, h1, h2, h3, h4⟩ := chkF_zero hf
  obtain ⟨pa, pc, ep⟩ := hp.1.len
  obtain ⟨n, hn⟩ : ∃ n, n = f.parts.length := ⟨_, rfl⟩
  rw [← hn] at ep h2 h3
  obtain ⟨ft, hft⟩ : ∃ x, x = f.time := ⟨_, rfl⟩
  rw [← hft] at h0 h1 ⊢
  have HN : Hid (n = f.parts.length ∧ ft = f.time) := ⟨hn, hft⟩
  have H8 : Hid (∀ k, k < n → (f.parts[k]?.getD ByteArray.empty).size ≤ 8) := fun k hk => h4 _ (by rw [List.getElem?_eq_getElem (by omega)]; exact List.getElem_mem _)
  have HLEN : Hid (∀ k, k ≤ n → (encTs (f.parts.take k)).length ≤ k * 9) := fun k hk => encTs_len h4 k (by omega)
  have HPB : Hid (P B) := hPB
  have HP : Hid (∀ g, P g → g < w.heap.size) := hP
  have HW : Hid (WrP B P w xs) := hw
  have HS : Hid (StrsIn (fun g => P g ∧ g ≠ B) w pv f.parts) := hp
  have hBl := hw.lt
  obtain ⟨fk, hfk⟩ : ∃ x, x = f.key := ⟨_, rfl⟩
  rw [← hfk]
  clear hf hn hft h4 hPB hP hw hp hfk
  subst ep
  go_enter Try.func74, Try.ntmps74
  go_wp2_with fail
  obtain ⟨X, hX⟩ : ∃ X, X = w.heap.size := ⟨_, rfl⟩
  obtain ⟨W0, hW0⟩ : ∃ W0, W0 = w.alloc (.cells #[.int .i64 ft, .bool fk, .slice pa n pc] 36) := ⟨_, rfl⟩
  obtain ⟨Q, hQ⟩ : ∃ Q : Nat → Prop, Q = fun g => P g ∨ g = X := ⟨_, rfl⟩
  have HQB : Hid (Q B) := by show Q B; rw [hQ]; exact .inl HPB.out
  have HQX : Hid (Q X) := by show Q X; rw [hQ]; exact .inr rfl
  have HXB : Hid (X ≠ B) := fun e => by omega
  have HQP : Hid (∀ g, P g → Q g) := fun g hg => by rw [hQ]; exact .inl hg
  have HW0 : Hid (WrP B Q W0 xs) := by
    show WrP B Q W0 xs
    rw [hW0]
    refine HW.out.alloc (fun g hg h => ?_) _
    rw [hQ] at h
    rcases h with h | h
    · exact h
    · omega
  have HQL : Hid (∀ g, Q g → g < W0.heap.size) := fun g hg => by
    rw [hQ] at hg
    rw [hW0, World.size_alloc]
    rcases hg with h | h
    · have := HP.out g h; omega
    · omega
  have HBW : Hid (ButP B P w W0) := by show ButP B P w W0; rw [hW0]; exact (ButP.refl B P w).alloc HP.out _
  have HX0 : Hid (Blk W0 X #[.int .i64 ft, .bool fk, .slice pa n pc] 36) := by show Blk _ _ _ _; rw [hX]; exact Blk.newE hW0
  have HS0 : Hid (StrsIn (fun g => Q g ∧ g ≠ B) W0 (.slice pa n pc) f.parts) := by
    show StrsIn _ _ _ _
    rw [hW0]
    exact (HS.out.alloc _).mono (fun g _ h => ⟨HQP.out g h.1, h.2⟩)
  rw [← hW0, ← hX]
  clear hW0 HW HS HP hQ HPB hX
  refine (numberP_any B 4 Q xs ft 4 W0 rfl h0 (by omega) (by decide) (by omega) HQB.out HQL.out HW0.out).mono ?_
  rintro e w1 ⟨rfl, W1, b1⟩
  have HW1 : Hid (WrP B Q w1 (xs ++ be ft 4)) := W1
  have HB1 : Hid (ButP B Q W0 w1) := b1
  have k1 := (HX0.out.butP b1 HQX.out HXB.out)
  obtain ⟨c0, c1, c2⟩ := k1.three
  have HQ1 : Hid (∀ g, Q g → g < w1.heap.size) := fun g hg => Nat.lt_of_lt_of_le (HQL.out g hg) b1.size
  clear W1 b1 HW0 k1
  go_wp2_with fail
  have hn4 : ((n : Nat) : Int) ≤ 4 := by omega
  refine (numberP_any B 1 Q (xs ++ be ft 4) n 1 w1 rfl (by omega) (by omega) (by decide) (by rw [be4]; simp; omega) HQB.out HQ1.out HW1.out).mono ?_
  rintro e w2 ⟨rfl, W2, b2⟩
  have HW2 : Hid (WrP B Q w2 (xs ++ be ft 4 ++ be n 1)) := W2
  have HB2 : Hid (ButP B Q W0 w2) := HB1.out.trans b2
  obtain ⟨c0, c1, c2⟩ := (HX0.out.butP HB2.out HQX.out HXB.out).three
  clear W2 b2 HW1 HB1 HQ1
  go_wp2_with fail
  go_loopw [5, 18] (fun _ i wr => ∃ k : Nat, k ≤ n ∧ i = .int .i64 k ∧ Hid (WrP B Q wr (xs ++ be ft 4 ++ be n 1 ++ encTs (f.parts.take k))) ∧ Hid (ButP B Q W0 wr))
    (fun _ i _ => n - (intOf i).toNat)
  case atStart => exact ⟨0, Nat.zero_le _, rfl, (by show WrP _ _ _ _; rw [List.take_zero, show encTs [] = [] from rfl, List.append_nil]; exact HW2.out), HB2⟩
  case round =>
    obtain ⟨k, hk, rfl, HWk, HBk⟩ := hrel
    by_cases hlt : k < n
    · have hkl : k < f.parts.length := by rw [← HN.out.1]; exact hlt
      have HSk := HS0.out.to (HBk.out.sameOn (fun _ h => h)) (fun _ _ h => h)
      obtain ⟨ao, c, hva, hc⟩ := HSk.1.parts
      obtain ⟨b, off, eb, hb, hat⟩ := hc k hkl
      injection hva with q1 q2 q3
      subst q1 eb
      clear q2 q3
      have h8 := H8.out k hlt
      have hl9 := HLEN.out k (by omega)
      obtain ⟨s, hs⟩ : ∃ s, s = f.parts[k]?.getD ByteArray.empty := ⟨_, rfl⟩
      have HE : Hid (encTs (f.parts.take (k + 1)) = encTs (f.parts.take k) ++ (be s.size 1 ++ s.data.toList)) := by show _ = _; rw [hs]; exact encTs_take hkl
      rw [← hs] at hat h8
      obtain ⟨T, hT⟩ : ∃ T, T = encTs (f.parts.take k) := ⟨_, rfl⟩
      rw [← hT] at HWk HE hl9
      have HQk : Hid (∀ g, Q g → g < wr.heap.size) := fun g hg => Nat.lt_of_lt_of_le (HQL.out g hg) HBk.out.size
      have hlti : (k : Int) < (n : Int) := by omega
      clear hs hT HSk hc hkl
      go_wp2_with fail
      refine (numberP_any B 1 Q (xs ++ be ft 4 ++ be n 1 ++ T) s.size 1 wr rfl (by omega) (by omega) (by decide) (by rw [be4, be1]; simp; omega) HQB.out HQk.out HWk.out).mono ?_
      rintro e w3 ⟨rfl, W3, b3⟩
      have HW3 : Hid (WrP B Q w3 (xs ++ be ft 4 ++ be n 1 ++ T ++ be s.size 1)) := W3
      have HB3 : Hid (ButP B Q W0 w3) := HBk.out.trans b3
      have HQ3 : Hid (∀ g, Q g → g < w3.heap.size) := fun g hg => Nat.lt_of_lt_of_le (HQL.out g hg) HB3.out.size
      clear W3 b3 HWk HBk HQk hat
      go_wp2_with fail
      refine (textP_any B Q (xs ++ be ft 4 ++ be n 1 ++ T ++ be s.size 1) s w3 (by rw [be4, be1, be1]; simp; omega) HQB.out HQ3.out HW3.out).mono ?_
      rintro e w4 ⟨rfl, W4, b4⟩
      have HW4 : Hid (WrP B Q w4 (xs ++ be ft 4 ++ be n 1 ++ encTs (f.parts.take (k + 1)))) := by
        show WrP _ _ _ _
        rw [HE.out, ← List.append_assoc, ← List.append_assoc]; exact W4
      have HB4 : Hid (ButP B Q W0 w4) := HB3.out.trans b4
      clear W4 b4 HW3 HB3 HQ3
      go_wp2_with fail
      go_roundw
      case rel => exact ⟨k + 1, by omega, by go_num, HW4, HB4⟩
      case measure => simp [intOf]; omega
    · have hkl : k = n := by omega
      subst hkl
      go_wp2_with fail
      go_end0
      refine ⟨rfl, ?_, HBW.out.trans (HBk.out.mono HQP.out)⟩
      have := HWk.out
      rw [HN.out.1, List.take_length, ← HN.out.1] at this
      unfold encF
      rw [← HN.out.2, ← HN.out.1, ← List.append_assoc, ← List.append_assoc]
      exact this.mono (fun g _ hg => HQP.out g hg)

theorem encFs_take {g : List Fr} {k : Nat} (hk : k < g.length) : encFs (g.take (k + 1)) = encFs (g.take k) ++ encF (frAt g k) := by
  rw [take_one hk Fr.zero]; simp [encFs]

set_option maxHeartbeats 2000000 in
set_option maxRecDepth 100000 in
theorem recordOf_any (S : Nat → Prop) (n : Int) (g : List Fr) (gv : Value) (w : World) (hr : recE n g = 0) (hg : FrsIn S w gv g) :
    Calls Try.prog 48 #[.int .i64 n, .agg #[gv]] w fun r w' => r = .returned (.string (ba (recB n g))) ∧ Below w.heap.size w w' := by
  obtain ⟨h0, h1, hgc⟩ := recE_zero.1 hr
  obtain ⟨hl0, hl6, _⟩ := gchk_zero.1 hgc
  obtain ⟨ga, gc, eg, _, _⟩ := hg.len
  have HG : Hid (FrsIn (fun b => b < w.heap.size) w gv g) := hg.mono (fun _ h _ => h)
  obtain ⟨m, hm⟩ : ∃ m, m = g.length := ⟨_, rfl⟩
  have HM : Hid (m = g.length) := hm
  rw [← hm] at eg hl0 hl6
  have HCK : Hid (∀ k, k < m → (frAt g k).chk = 0) := fun k hk => by
    have := (gkey hgc (show k < g.length by omega)).2
    rw [show frAt g k = g[k] from by simp [frAt, List.getElem?_eq_getElem (show k < g.length by omega)]]
    exact this
  have HL : Hid (∀ k, k ≤ m → (encFs (g.take k)).length ≤ k * 41) := fun k hk => encFs_len hgc k (by omega)
  have HEL : Hid (5 ≤ (encG n g).length ∧ (encG n g).length ≤ 251) := encG_len hr
  clear hr hgc hg hm
  subst eg
  go_enter Try.func48, Try.ntmps48
  go_wp2_with fail
  obtain ⟨W0, hW0⟩ : ∃ W0, W0 = (w.alloc (.cells #[.slice ga m gc] 25)).alloc (.cells #[.slice none 0 0] 118) := ⟨_, rfl⟩
  obtain ⟨B, hB⟩ : ∃ B, B = w.heap.size + 1 := ⟨_, rfl⟩
  obtain ⟨P, hP⟩ : ∃ P : Nat → Prop, P = fun g => g < w.heap.size + 2 := ⟨_, rfl⟩
  have HX0 : Hid (Blk W0 w.heap.size #[.slice ga m gc] 25) := by show Blk _ _ _ _; rw [hW0]; exact (Blk.new _ _ _).alloc _
  have HW0 : Hid (WrP B P W0 []) := by
    show WrP _ _ _ _
    have := WrP.new (w.alloc (.cells #[.slice ga m gc] 25)) P
    rw [World.size_alloc, ← hW0, ← hB] at this
    exact this
  have HPB : Hid (P B) := by show P B; rw [hP, hB]; show w.heap.size + 1 < _; omega
  have HPX : Hid (P w.heap.size ∧ w.heap.size ≠ B) := by rw [hP, hB]; exact ⟨by show w.heap.size < _; omega, by omega⟩
  have HPL : Hid (∀ g, P g → g < W0.heap.size) := fun g hg => by
    rw [hP] at hg
    rw [hW0, World.size_alloc, World.size_alloc]
    exact hg
  have HPS : Hid (∀ g, g < w.heap.size → P g ∧ g ≠ B) := fun g hg => by
    rw [hP, hB]; exact ⟨by show g < _; omega, by omega⟩
  have HB0 : Hid (Below w.heap.size w W0) := by show Below _ _ _; rw [hW0]; go_grown
  have HG0 : Hid (FrsIn (fun b => P b ∧ b ≠ B) W0 (.slice ga m gc) g) := by
    show FrsIn _ _ _ _
    rw [hW0]
    exact ((HG.out.alloc _).alloc _).mono (fun g _ h => HPS.out g h)
  have HBB : Hid (w.heap.size ≤ B) := by show _ ≤ _; omega
  rw [← hW0, ← hB]
  clear hW0 hB hP HG
  refine (numberP_any B 4 P [] n 4 W0 rfl h0 (by omega) (by decide) (by simp) HPB.out HPL.out HW0.out).mono ?_
  rintro e w1 ⟨rfl, W1, b1⟩
  have HW1 : Hid (WrP B P w1 (be n 4)) := W1
  have HB1 : Hid (ButP B P W0 w1) := b1
  have k1 := HX0.out.butP b1 HPX.out.1 HPX.out.2
  have c1 := k1.cell (j := 0) (u := .slice ga m gc) rfl
  have HP1 : Hid (∀ g, P g → g < w1.heap.size) := fun g hg => Nat.lt_of_lt_of_le (HPL.out g hg) b1.size
  clear W1 b1 k1 HW0
  go_wp2_with fail
  have hm6 : ((m : Nat) : Int) ≤ 6 := by omega
  refine (numberP_any B 1 P (be n 4) m 1 w1 rfl (by omega) (by omega) (by decide) (by rw [be4]; simp) HPB.out HP1.out HW1.out).mono ?_
  rintro e w2 ⟨rfl, W2, b2⟩
  have HW2 : Hid (WrP B P w2 (be n 4 ++ be m 1)) := W2
  have HB2 : Hid (ButP B P W0 w2) := HB1.out.trans b2
  have c1 := (HX0.out.butP HB2.out HPX.out.1 HPX.out.2).cell (j := 0) (u := .slice ga m gc) rfl
  clear W2 b2 HW1 HB1 HP1
  go_wp2_with fail
  go_loopw [7, 18] (fun _ i wr => ∃ k : Nat, k ≤ m ∧ i = .int .i64 k ∧ Hid (WrP B P wr (be n 4 ++ be m 1 ++ encFs (g.take k))) ∧ Hid (ButP B P W0 wr))
    (fun _ i _ => m - (intOf i).toNat)
  case atStart => exact ⟨0, Nat.zero_le _, rfl, (by show WrP _ _ _ _; rw [List.take_zero, show encFs [] = [] from rfl, List.append_nil]; exact HW2.out), HB2⟩
  case round =>
    obtain ⟨k, hk, rfl, HWk, HBk⟩ := hrel
    by_cases hlt : k < m
    · have hkl : k < g.length := by rw [← HM.out]; exact hlt
      obtain ⟨ao, c, hva, _, _, hc⟩ := HG0.out.to (HBk.out.sameOn (fun _ h => h)) (fun _ _ h => h)
      obtain ⟨b, off, eb, hb, hPb, pv, a0, a1, a2, hs⟩ := hc k hkl
      injection hva with q1 q2 q3
      subst q1 eb
      clear q2 q3 hc hPb
      obtain ⟨pa, pc, ep⟩ := hs.1.len
      obtain ⟨x, hx⟩ : ∃ x, x = frAt g k := ⟨_, rfl⟩
      rw [show (g[k]?.getD Fr.zero) = x from hx.symm] at a0 a1 hs ep
      have hxc : x.chk = 0 := by rw [hx]; exact HCK.out k hlt
      have hl9 := HL.out k (by omega)
      have HE : Hid (encFs (g.take (k + 1)) = encFs (g.take k) ++ encF x) := by show _ = _; rw [hx]; exact encFs_take hkl
      obtain ⟨T, hT⟩ : ∃ T, T = encFs (g.take k) := ⟨_, rfl⟩
      rw [← hT] at HWk HE hl9
      have HPk : Hid (∀ g, P g → g < wr.heap.size) := fun g hg => Nat.lt_of_lt_of_le (HPL.out g hg) HBk.out.size
      obtain ⟨xt, hxt⟩ : ∃ y, y = x.time := ⟨_, rfl⟩
      obtain ⟨xk, hxk⟩ : ∃ y, y = x.key := ⟨_, rfl⟩
      obtain ⟨xn, hxn⟩ : ∃ y, y = x.parts.length := ⟨_, rfl⟩
      rw [← hxt] at a0
      rw [← hxk] at a1
      rw [← hxn] at ep
      subst ep
      obtain ⟨W3, hW3⟩ : ∃ W3, W3 = wr.alloc (.cells #[.int .i64 xt, .bool xk, .slice pa xn pc] 36) := ⟨_, rfl⟩
      have HCF : Hid (Calls Try.prog 74 #[.pointer (some ⟨B, 0, none⟩), .agg #[.int .i64 xt, .bool xk, .slice pa xn pc]] W3 fun r w' => r = .returned (.tuple #[]) ∧ WrP B P w' (be n 4 ++ be m 1 ++ T ++ encF x) ∧ ButP B P W3 w') := by
        show Calls _ _ _ _ _
        rw [hxt, hxk]
        refine putFrame_any B P _ x _ W3 hxc (by rw [be4, be1]; simp; omega) HPB.out (fun g hg => by rw [hW3, World.size_alloc]; have := HPk.out g hg; omega) (by rw [hW3]; exact HWk.out.alloc (fun _ _ h => h) _) (by rw [hW3]; exact hs.alloc _)
      have HB3 : Hid (ButP B P W0 W3) := by show ButP _ _ _ _; rw [hW3]; exact HBk.out.alloc HPk.out _
      have hlti : (k : Int) < (m : Int) := by omega
      clear hx hT hs hxt hxk hxn hxc hkl hl9 HWk HPk HBk
      go_wp2_with fail
      rw [← hW3]
      clear hW3
      refine HCF.out.mono ?_
      rintro e w4 ⟨rfl, W4, b4⟩
      have HW4 : Hid (WrP B P w4 (be n 4 ++ be m 1 ++ encFs (g.take (k + 1)))) := by
        show WrP _ _ _ _
        rw [HE.out, ← List.append_assoc]; exact W4
      have HB4 : Hid (ButP B P W0 w4) := HB3.out.trans b4
      clear W4 b4 HB3 HCF a0 a1 a2
      go_wp2_with fail
      go_roundw
      case rel => exact ⟨k + 1, by omega, by go_num, HW4, HB4⟩
      case measure => simp [intOf]; omega
    · have hkl : k = m := by omega
      subst hkl
      have HWA : Hid (WrP B P wr (encG n g)) := by
        have := HWk.out
        rw [HM.out, List.take_length] at this
        show WrP _ _ _ _
        unfold encG
        rw [← List.append_assoc]; exact this
      have HBA : Hid (Below w.heap.size w wr) := HB0.out.trans (HBk.out.toBelow (fun j hj => (HPS.out j hj).1) HBB.out)
      have hws : w.heap.size ≤ wr.heap.size := HBA.out.size
      obtain ⟨C, hC⟩ : ∃ C, C = wr.heap.size := ⟨_, rfl⟩
      obtain ⟨s, hs⟩ : ∃ s, s = ba (encG n g) := ⟨_, rfl⟩
      obtain ⟨z, hz⟩ : ∃ z, z = (encG n g).length := ⟨_, rfl⟩
      have hsz : s.size = z := by rw [hs, ba_size, hz]
      have HSD : Hid (s.data.toList = encG n g) := by show _ = _; rw [hs, ba_data]
      obtain ⟨l5, l251⟩ := HEL.out
      rw [← hz] at l5 l251
      have HALL : Hid (∀ V : World, WrP B P V (encG n g) → Calls Try.prog 75 #[.pointer (some ⟨B, 0, none⟩)] V fun r w' => r = .returned (.string s) ∧ V = w') := fun V hV => by rw [hs]; exact allP_any B P _ V (by rw [← hz]; omega) hV
      have HZ : Hid (z = (encG n g).length) := hz
      obtain ⟨W5, hW5⟩ : ∃ W5, W5 = wr.alloc (.cells #[.slice none 0 0] 118) := ⟨_, rfl⟩
      obtain ⟨Q, hQ⟩ : ∃ Q : Nat → Prop, Q = fun g => g < wr.heap.size + 1 := ⟨_, rfl⟩
      have HBE : Hid (Below wr.heap.size wr W5) := by show Below _ _ _; rw [hW5]; exact (Below.refl _ wr).alloc (Nat.le_refl _) _
      have HQC : Hid (Q C) := by show Q C; rw [hQ, hC]; exact Nat.lt_succ_self _
      have HQL : Hid (∀ g, Q g → g < W5.heap.size) := fun g hg => by rw [hQ] at hg; rw [hW5, World.size_alloc]; exact hg
      have HQW : Hid (∀ g, g < wr.heap.size → Q g) := fun g hg => by rw [hQ]; show g < _; omega
      have HWC : Hid (WrP C Q W5 []) := by show WrP _ _ _ _; rw [hW5, hC]; exact WrP.new wr Q
      have HCS : Hid (wr.heap.size ≤ C) := by show _ ≤ _; omega
      clear hs hz HWk HW2 HB2 c1 hQ HEL
      go_wp2_with fail
      rw [← hW5, ← hC]
      refine (HALL.out W5 (HWA.out.below HBE.out (fun _ _ h => h))).mono ?_
      rintro e _ ⟨rfl, rfl⟩
      clear hW5 hC
      go_wp2_with fail
      refine (numberP_any C 2 Q [] z 2 W5 rfl (by omega) (by omega) (by decide) (by simp) HQC.out HQL.out HWC.out).mono ?_
      rintro e w6 ⟨rfl, W6, b6⟩
      have HW6 : Hid (WrP C Q w6 (be z 2)) := W6
      have HBE6 : Hid (Below wr.heap.size wr w6) := HBE.out.trans (b6.toBelow HQW.out HCS.out)
      have HQ6 : Hid (∀ g, Q g → g < w6.heap.size) := fun g hg => Nat.lt_of_lt_of_le (HQL.out g hg) b6.size
      clear W6 b6 HWC HBE HQL
      go_wp2_with fail
      refine (HALL.out w6 (HWA.out.below HBE6.out (fun _ _ h => h))).mono ?_
      rintro e _ ⟨rfl, rfl⟩
      go_wp2_with fail
      refine (textP_any C Q (be z 2) s w6 (by rw [be2, hsz]; simp; omega) HQC.out HQ6.out HW6.out).mono ?_
      rintro e w7 ⟨rfl, W7, b7⟩
      have HW7 : Hid (WrP C Q w7 (recB n g)) := by
        show WrP _ _ _ _
        unfold recB
        rw [← HZ.out, ← HSD.out]; exact W7
      have HBE7 : Hid (Below wr.heap.size wr w7) := HBE6.out.trans (b7.toBelow HQW.out HCS.out)
      clear W7 b7 HW6 HBE6 HQ6
      go_wp2_with fail
      refine (allP_any C Q (recB n g) w7 (by rw [recB_len]; omega) HW7.out).mono ?_
      rintro e _ ⟨rfl, rfl⟩
      go_wp2_with fail
      go_ret
      exact ⟨rfl, HBA.out.trans (HBE7.out.mono hws)⟩

set_option maxHeartbeats 2000000 in
set_option maxRecDepth 100000 in
theorem diskEncode_any (S : Nat → Prop) (n : Int) (g : List Fr) (gv : Value) (w : World) (hg : FrsIn S w gv g) :
    Calls Try.prog 16 #[.int .i64 n, .agg #[gv]] w fun r w' => r = .returned (.tuple #[.string (if recE n g = 0 then ba (recB n g) else ⟨#[]⟩), .int .i64 (recE n g)]) ∧ Below w.heap.size w w' := by
  obtain ⟨ga, gc, eg, _, _⟩ := hg.len
  obtain ⟨m, hm⟩ : ∃ m, m = g.length := ⟨_, rfl⟩
  rw [← hm] at eg
  subst eg
  obtain ⟨E, hE⟩ : ∃ E, E = gchk g := ⟨_, rfl⟩
  have HCG : Hid (∀ V : World, Below w.heap.size w V → Calls Try.prog 47 #[.agg #[.slice ga m gc]] V fun e w' => e = .returned (.int .i64 E) ∧ Below V.heap.size V w') := fun V hV => by rw [hE]; exact groupCheck_any S _ g V (hg.below hV)
  have HRO : Hid (recE n g = 0 → ∀ V : World, Below w.heap.size w V → Calls Try.prog 48 #[.int .i64 n, .agg #[.slice ga m gc]] V fun r w' => r = .returned (.string (ba (recB n g))) ∧ Below V.heap.size V w') := fun h V hV => recordOf_any S n g _ V h (hg.below hV)
  obtain ⟨R, hR⟩ : ∃ R, R = (if recE n g = 0 then ba (recB n g) else ⟨#[]⟩) := ⟨_, rfl⟩
  obtain ⟨F, hF⟩ : ∃ F, F = recE n g := ⟨_, rfl⟩
  have HR1 : Hid ((n < 0 ∨ 100000 < n) → F = 3 ∧ R = ⟨#[]⟩) := fun h => by
    have : recE n g = 3 := by unfold recE; rw [if_pos h]
    rw [hF, hR, this]; exact ⟨rfl, rfl⟩
  have HR2 : Hid (¬ (n < 0 ∨ 100000 < n) → F = E) := fun h => by rw [hF, hE]; unfold recE; rw [if_neg h]
  have HR3 : Hid (F = 0 → recE n g = 0 ∧ R = ba (recB n g)) := fun h => by
    rw [← hF, hR, ← hF, if_pos h]; exact ⟨h, rfl⟩
  have HR4 : Hid (¬ F = 0 → R = ⟨#[]⟩) := fun h => by
    rw [hR, ← hF, if_neg h]
  rw [← hR, ← hF]
  clear hm hE hg hR hF
  go_enter Try.func16, Try.ntmps16
  have HB0 : Hid (Below w.heap.size w (w.alloc (.cells #[.slice ga m gc] 25))) := (Below.refl _ w).alloc (Nat.le_refl _) _
  have HX0 := Blk.new w #[.slice ga m gc] 25
  by_cases h1 : n < 0 ∨ 100000 < n
  · obtain ⟨e3, e4⟩ := HR1.out h1
    subst e3 e4
    clear HCG HRO HR1 HR2 HR3 HR4
    rcases h1 with h1 | h1
    · go_wp2_with fail
      go_ret2
      exact ⟨rfl, HB0.out⟩
    · have h2 : ¬ n < 0 := by omega
      go_wp2_with fail
      go_ret2
      exact ⟨rfl, HB0.out⟩
  · have e3 := HR2.out h1
    have h2 : ¬ n < 0 := by omega
    have h3 : ¬ 100000 < n := by omega
    subst e3
    go_wp2_with fail
    refine (HCG.out _ HB0.out).mono ?_
    rintro e w1 ⟨rfl, b1⟩
    have HB1 : Hid (Below w.heap.size w w1) := HB0.out.trans (b1.mono (by simp))
    have c1 := (HX0.below b1 HX0.lt).cell (j := 0) (u := .slice ga m gc) rfl
    clear HX0 b1 HCG HR1 HR2 h1
    by_cases h4 : F = 0
    · obtain ⟨h5, e5⟩ := HR3.out h4
      have HRO2 : Hid (∀ V : World, Below w.heap.size w V → Calls Try.prog 48 #[.int .i64 n, .agg #[.slice ga m gc]] V fun r w' => r = .returned (.string R) ∧ Below V.heap.size V w') := by rw [e5]; exact HRO.out h5
      clear HRO HR3 HR4 h5 e5
      subst h4
      go_wp2_with fail
      refine (HRO2.out _ HB1.out).mono ?_
      rintro e w2 ⟨rfl, b2⟩
      have HB2 : Hid (Below w.heap.size w w2) := HB1.out.trans (b2.mono HB1.out.size)
      clear b2
      go_wp2_with fail
      go_ret2
      exact ⟨rfl, HB2.out⟩
    · have e5 := HR4.out h4
      subst e5
      clear HRO HR3 HR4
      go_wp2_with fail
      go_ret2
      exact ⟨rfl, HB1.out⟩

end Go.Proofs.Ytnpaejknoipicad

namespace Go.Proofs.Ytnpaejknoipicad
open Go.RowKit

set_option maxHeartbeats 2000000 in
theorem readDecode_any (Nb Gb : Nat) (l : List UInt8) (y0 : Int) (w : World) (bN : Blk w Nb #[.int .i64 y0] 3) (bG : Blk w Gb #[.slice none 0 0] 25) (hNG : Nb ≠ Gb) :
    Calls Try.prog 92 #[.string (ba l), .func (.func 96) #[] #[.pointer (some ⟨Nb, 0, none⟩), .pointer (some ⟨Gb, 0, none⟩)]] w fun e w' =>
      Kept [Nb, Gb] w w' ∧ ((tkG l = none ∧ e = .returned (.tuple #[.string ⟨#[]⟩, .bool false])) ∨ ∃ n fs r gv, tkG l = some (n, fs, r) ∧ e = .returned (.tuple #[.string (ba r), .bool true]) ∧ Blk w' Nb #[.int .i64 n] 3 ∧ Blk w' Gb #[gv] 25 ∧ FrsIn (fun g => w.heap.size ≤ g) w' gv fs) := by
  have hmf : ∀ (fn : Fn) (first cap : Array Value) (w : World), (Instr.makeFunc fn first cap).run Try.prog w = .ok (.func fn first cap) w := fun _ _ _ _ => rfl
  have HC := @id (Hid _) (fun R W bR bN bG h1 h2 => decode1_any R Nb Gb l y0 W bR bN bG h1 h2 hNG)
  obtain ⟨O, hO⟩ : ∃ O, O = tkG l := ⟨_, rfl⟩
  rw [← hO] at HC ⊢
  clear hO
  go_enter_defers Try.func92, Try.ntmps92
  go_wp2_with fail
  obtain ⟨W0, hW0⟩ : ∃ W0, W0 = ((w.alloc (.cells #[.string ⟨#[]⟩] 9)).alloc (.cells #[.bool false] 4)).alloc (.cells #[.string (ba l)] 158) := ⟨_, rfl⟩
  obtain ⟨bA0, bB0, bR0, be0, hs0⟩ := read_start w l W0 hW0
  have hNl := bN.lt
  have hGl := bG.lt
  have bN0 := bN.below be0 bN.lt
  have bG0 := bG.below be0 bG.lt
  have K0 : Kept [Nb, Gb] w W0 := (Kept.refl _ w).below be0
  rw [← hW0]
  clear hW0
  refine (HC.out (w.heap.size + 1 + 1) W0 bR0 bN0 bG0 (by omega) (by omega)).mono ?_
  rintro e w1 ⟨k1, ⟨hO, rfl⟩ | ⟨n, fs, r, gv, hO, rfl, bR1, bN1, bG1, hF1⟩⟩
  · have bA1 := bA0.kept k1 (by simp; omega)
    have bB1 := bB0.kept k1 (by simp; omega)
    have K1 := K0.more k1 (by intro j hj hl; simp at hj ⊢; omega)
    clear k1 bR0 bA0 bB0 bN0 bG0 K0 HC
    have HO : Hid (O = none) := hO
    clear hO
    simp only [few]
    go_wp2
    refine leaves_cons (f := 106) (args := #[.pointer (some ⟨w.heap.size, 0, none⟩), .pointer (some ⟨w.heap.size + 1, 0, none⟩)]) (by simp) (by simp [go_sem]) ?_
    refine (catch_few w.heap.size (w.heap.size + 1) (.string ⟨#[]⟩) (.bool false) [] _ bA1 bB1 (by omega)).mono ?_
    rintro e u' w'' ⟨rfl, rfl, rfl⟩
    have bA2 := ((bA1.alloc (.cells #[] 155)).set 0 (.string ⟨#[]⟩)).other (a := ⟨w.heap.size + 1, 0, none⟩) (by show w.heap.size ≠ w.heap.size + 1; omega) (.bool false)
    have bB2 := ((bB1.alloc (.cells #[] 155)).other (a := ⟨w.heap.size, 0, none⟩) (by show w.heap.size + 1 ≠ w.heap.size; omega) (.string ⟨#[]⟩)).set 0 (.bool false)
    have cA2 := bA2.cell (j := 0) (u := .string ⟨#[]⟩) rfl
    have cB2 := bB2.cell (j := 0) (u := .bool false) rfl
    simp [Leaves, settle, results, Try.results92, go_sem, cA2, cB2]
    exact ⟨((K1.alloc _).setNew (p := ⟨w.heap.size, 0, none⟩) (Nat.le_refl _) _).setNew (p := ⟨w.heap.size + 1, 0, none⟩) (Nat.le_succ _) _, HO.out⟩
  · have bA1 := bA0.kept k1 (by simp; omega)
    have bB1 := bB0.kept k1 (by simp; omega)
    have K1 := K0.more k1 (by intro j hj hl; simp at hj ⊢; omega)
    have cR := bR1.cell (j := 0) (u := .string (ba r)) rfl
    have cA := bA1.cell (j := 0) (u := .string ⟨#[]⟩) rfl
    have fA := bA1.free 0
    have bB2 := bB1.other (a := ⟨w.heap.size, 0, none⟩) (by show w.heap.size + 1 ≠ w.heap.size; omega) (.string (ba r))
    have cB := bB2.cell (j := 0) (u := .bool false) rfl
    have fB := bB2.free 0
    have HO : Hid (O = some (n, fs, r)) := hO
    have HF : Hid (FrsIn (fun g => W0.heap.size ≤ g) w1 gv fs) := hF1
    have HK1 : Hid (Kept [Nb, Gb] w w1) := K1
    have HN1 : Hid (Blk w1 Nb #[.int .i64 n] 3) := bN1
    have HG1 : Hid (Blk w1 Gb #[gv] 25) := bG1
    clear k1 bR0 bA0 bB0 bN0 bG0 K0 bR1 HC hO hF1 K1 bN1 bG1
    go_wp2
    have bA3 := (bA1.set 0 (.string (ba r))).other (a := ⟨w.heap.size + 1, 0, none⟩) (by show w.heap.size ≠ w.heap.size + 1; omega) (.bool true)
    have bB3 := bB2.set 0 (.bool true)
    have cA3 := bA3.cell (j := 0) (u := .string (ba r)) rfl
    have cB3 := bB3.cell (j := 0) (u := .bool true) rfl
    refine leaves_cons (f := 106) (args := #[.pointer (some ⟨w.heap.size, 0, none⟩), .pointer (some ⟨w.heap.size + 1, 0, none⟩)]) (by simp) (by simp [go_sem]) ?_
    refine (catch_idle ⟨w.heap.size, 0, none⟩ ⟨w.heap.size + 1, 0, none⟩ _).mono ?_
    rintro e u' w'' ⟨rfl, rfl, rfl⟩
    simp [Leaves, settle, results, Try.results92, go_sem, cA3, cB3]
    have K3 := (HK1.out.setNew (p := ⟨w.heap.size, 0, none⟩) (Nat.le_refl _) (.string (ba r))).setNew (p := ⟨w.heap.size + 1, 0, none⟩) (Nat.le_succ _) (.bool true)
    refine ⟨K3, n, fs, r, HO.out, rfl, (HN1.out.other (a := ⟨w.heap.size, 0, none⟩) (by show Nb ≠ w.heap.size; omega) (.string (ba r))).other (a := ⟨w.heap.size + 1, 0, none⟩) (by show Nb ≠ w.heap.size + 1; omega) (.bool true), gv, (HG1.out.other (a := ⟨w.heap.size, 0, none⟩) (by show Gb ≠ w.heap.size; omega) (.string (ba r))).other (a := ⟨w.heap.size + 1, 0, none⟩) (by show Gb ≠ w.heap.size + 1; omega) (.bool true), ?_⟩
    refine HF.out.to ((SameOn.setCell (a := ⟨w.heap.size, 0, none⟩) (fun g hg => by have : W0.heap.size ≤ g := hg; show g ≠ w.heap.size; omega) _).trans (SameOn.setCell (a := ⟨w.heap.size + 1, 0, none⟩) (fun g hg => by have : W0.heap.size ≤ g := hg; show g ≠ w.heap.size + 1; omega) _)) (fun g _ hg => by have : W0.heap.size ≤ g := hg; show w.heap.size ≤ g; omega)

theorem takeL_few (B : Nat) (l : List UInt8) (n : Int) (w : World) (hb : Blk w B #[.string (ba l)] 158) (hn : (l.length : Int) < n) :
    Calls Try.prog 94 #[.pointer (some ⟨B, 0, none⟩), .int .i64 n] w fun e w' => e = .panicked few ∧ w = w' := take_few B (ba l) n w (hb.cell rfl) (by rw [ba_size]; exact hn)
theorem takeL_some (B n : Nat) (m : Int) (a r : List UInt8) (l : List UInt8) (w : World) (hm : m = (n : Int)) (ha : a = l.take n) (hr : r = l.drop n) (hb : Blk w B #[.string (ba l)] 158) (hn : n ≤ l.length) :
    Calls Try.prog 94 #[.pointer (some ⟨B, 0, none⟩), .int .i64 m] w fun e w' => e = .returned (.string (ba a)) ∧ Blk w' B #[.string (ba r)] 158 ∧ Kept [B] w w' := by
  subst hm ha hr
  refine (take_some B n (ba l) w (hb.cell rfl) (hb.free 0) (by rw [ba_size]; exact hn)).mono ?_
  rintro e w' ⟨rfl, rfl⟩
  rw [ba_take, ba_drop]
  exact ⟨rfl, hb.set 0 _, (Kept.refl [B] w).setCell (p := ⟨B, 0, none⟩) (by simp) _⟩

set_option maxHeartbeats 2000000 in
theorem rec1_any (R Bb : Nat) (l : List UInt8) (y : ByteArray) (w : World) (bR : Blk w R #[.string (ba l)] 158) (bB : Blk w Bb #[.string y] 9) (hRB : R ≠ Bb) :
    Calls Try.prog 93 #[.pointer (some ⟨R, 0, none⟩), .pointer (some ⟨Bb, 0, none⟩)] w fun e w' =>
      Kept [R, Bb] w w' ∧ ((tkR l = none ∧ e = .panicked few) ∨ ∃ a r, tkR l = some (a, r) ∧ e = .returned (.tuple #[]) ∧ Blk w' R #[.string (ba r)] 158 ∧ Blk w' Bb #[.string (ba a)] 9) := by
  obtain ⟨m, hm⟩ : ∃ m, m = num (l.take 2) := ⟨_, rfl⟩
  obtain ⟨l2, hl2⟩ : ∃ r, r = l.drop 2 := ⟨_, rfl⟩
  have hm0 : 0 ≤ m := by rw [hm]; exact (num_bd _).1
  obtain ⟨n, hn⟩ : ∃ n : Nat, m = (n : Int) := ⟨m.toNat, by omega⟩
  have hlen : l2.length = l.length - 2 := by rw [hl2, List.length_drop]
  obtain ⟨O, hO⟩ : ∃ O, O = tkR l := ⟨_, rfl⟩
  have HN0 : Hid (l.length < 2 → O = none) := fun h => by rw [hO]; exact tkR_none.2 (.inl h)
  have HN1 : Hid ((l2.length : Int) < m → O = none) := fun h => by
    rw [hO]
    by_cases h2 : l.length < 2
    · exact tkR_none.2 (.inl h2)
    · exact tkR_none.2 (.inr (by rw [← hm]; omega))
  have HS : Hid (2 ≤ l.length → n ≤ l2.length → O = some (l2.take n, l2.drop n)) := fun h h2 => by
    rw [hO, tkR_of (by rw [← hm, hn]) (show 2 + n ≤ l.length by omega), hl2, List.drop_drop]
  have HM : Hid (m = num (l.take 2)) := hm
  have HL : Hid (l2 = l.drop 2) := hl2
  have HNE : Hid (R ≠ Bb) := hRB
  have HMN : Hid (m = (n : Int)) := hn
  rw [← hO]
  clear hO hm hl2 hRB hn
  go_enter Try.func93, Try.ntmps93
  go_wp2_with fail
  by_cases h2 : l.length < 2
  · refine (numberL_few R l 2 w bR (by omega)).mono ?_
    rintro e _ ⟨rfl, rfl⟩
    exact ⟨rfl, Kept.refl _ _, .inl ⟨HN0.out h2, rfl⟩⟩
  refine (numberL_some R 2 2 m l l2 w HM.out HL.out rfl bR (by omega) (by omega)).mono ?_
  rintro e w1 ⟨rfl, hR1, k1⟩
  have hB1 := bB.kept k1 (by simp; exact fun h => HNE.out h.symm)
  have HK1 : Hid (Kept [R, Bb] w w1) := ⟨k1.os, k1.tape, k1.output, k1.size, fun k hk hS => k1.block k hk (fun hm => hS (by simp at hm ⊢; exact .inl hm))⟩
  clear k1
  by_cases h3 : (l2.length : Int) < m
  · go_wp2_with fail
    refine (takeL_few R l2 m w1 hR1 h3).mono ?_
    rintro e _ ⟨rfl, rfl⟩
    exact ⟨rfl, HK1.out, .inl ⟨HN1.out h3, rfl⟩⟩
  have hn2 : n ≤ l2.length := by have := HMN.out; omega
  have HOS := @id (Hid _) (HS.out (by omega) hn2)
  obtain ⟨a, ha⟩ : ∃ a, a = l2.take n := ⟨_, rfl⟩
  obtain ⟨r, hr⟩ : ∃ r, r = l2.drop n := ⟨_, rfl⟩
  rw [← ha, ← hr] at HOS
  have HA : Hid (a = l2.take n) := ha
  have HR : Hid (r = l2.drop n) := hr
  clear ha hr HS h3
  go_wp2_with fail
  refine (takeL_some R n m a r l2 w1 HMN.out HA.out HR.out hR1 hn2).mono ?_
  rintro e w2 ⟨rfl, hR2, k2⟩
  have hB2 := hB1.kept k2 (by simp; exact fun h => HNE.out h.symm)
  have HK2 : Hid (Kept [R, Bb] w w2) := HK1.out.trans ⟨k2.os, k2.tape, k2.output, k2.size, fun k hk hS => k2.block k hk (fun hm => hS (by simp at hm ⊢; exact .inl hm))⟩
  have c2 := hB2.cell (j := 0) (u := .string y) rfl
  have f2 := hB2.free 0
  clear k2 HA HR HMN hR1 hB1 HK1
  have HR2 : Hid (Blk w2 R #[.string (ba r)] 158) := hR2
  have HB2 : Hid (Blk w2 Bb #[.string y] 9) := hB2
  clear hR2 hB2
  go_wp2_with fail
  go_end0
  exact ⟨HK2.out.setCell (p := ⟨Bb, 0, none⟩) (by simp) _, .inr ⟨a, r, HOS.out, rfl, HR2.out.other (a := ⟨Bb, 0, none⟩) HNE.out _, HB2.out.set 0 _⟩⟩

set_option maxHeartbeats 2000000 in
theorem readRec_any (Bb : Nat) (l : List UInt8) (y : ByteArray) (w : World) (bB : Blk w Bb #[.string y] 9) :
    Calls Try.prog 92 #[.string (ba l), .func (.func 93) #[] #[.pointer (some ⟨Bb, 0, none⟩)]] w fun e w' =>
      Kept [Bb] w w' ∧ ((tkR l = none ∧ e = .returned (.tuple #[.string ⟨#[]⟩, .bool false])) ∨ ∃ a r, tkR l = some (a, r) ∧ e = .returned (.tuple #[.string (ba r), .bool true]) ∧ Blk w' Bb #[.string (ba a)] 9) := by
  have hmf : ∀ (fn : Fn) (first cap : Array Value) (w : World), (Instr.makeFunc fn first cap).run Try.prog w = .ok (.func fn first cap) w := fun _ _ _ _ => rfl
  have HC := @id (Hid _) (fun R W bR bB h1 => rec1_any R Bb l y W bR bB h1)
  obtain ⟨O, hO⟩ : ∃ O, O = tkR l := ⟨_, rfl⟩
  rw [← hO] at HC ⊢
  clear hO
  go_enter_defers Try.func92, Try.ntmps92
  go_wp2_with fail
  obtain ⟨W0, hW0⟩ : ∃ W0, W0 = ((w.alloc (.cells #[.string ⟨#[]⟩] 9)).alloc (.cells #[.bool false] 4)).alloc (.cells #[.string (ba l)] 158) := ⟨_, rfl⟩
  obtain ⟨bA0, bB0, bR0, be0, hs0⟩ := read_start w l W0 hW0
  have hGl := bB.lt
  have bG0 := bB.below be0 bB.lt
  have K0 : Kept [Bb] w W0 := (Kept.refl _ w).below be0
  rw [← hW0]
  clear hW0
  refine (HC.out (w.heap.size + 1 + 1) W0 bR0 bG0 (by omega)).mono ?_
  rintro e w1 ⟨k1, ⟨hO, rfl⟩ | ⟨a, r, hO, rfl, bR1, bG1⟩⟩
  · have bA1 := bA0.kept k1 (by simp; omega)
    have bB1 := bB0.kept k1 (by simp; omega)
    have K1 := K0.more k1 (by intro j hj hl; simp at hj ⊢; omega)
    clear k1 bR0 bA0 bB0 bG0 K0 HC
    have HO : Hid (O = none) := hO
    clear hO
    simp only [few]
    go_wp2
    refine leaves_cons (f := 106) (args := #[.pointer (some ⟨w.heap.size, 0, none⟩), .pointer (some ⟨w.heap.size + 1, 0, none⟩)]) (by simp) (by simp [go_sem]) ?_
    refine (catch_few w.heap.size (w.heap.size + 1) (.string ⟨#[]⟩) (.bool false) [] _ bA1 bB1 (by omega)).mono ?_
    rintro e u' w'' ⟨rfl, rfl, rfl⟩
    have bA2 := ((bA1.alloc (.cells #[] 155)).set 0 (.string ⟨#[]⟩)).other (a := ⟨w.heap.size + 1, 0, none⟩) (by show w.heap.size ≠ w.heap.size + 1; omega) (.bool false)
    have bB2 := ((bB1.alloc (.cells #[] 155)).other (a := ⟨w.heap.size, 0, none⟩) (by show w.heap.size + 1 ≠ w.heap.size; omega) (.string ⟨#[]⟩)).set 0 (.bool false)
    have cA2 := bA2.cell (j := 0) (u := .string ⟨#[]⟩) rfl
    have cB2 := bB2.cell (j := 0) (u := .bool false) rfl
    simp [Leaves, settle, results, Try.results92, go_sem, cA2, cB2]
    exact ⟨((K1.alloc _).setNew (p := ⟨w.heap.size, 0, none⟩) (Nat.le_refl _) _).setNew (p := ⟨w.heap.size + 1, 0, none⟩) (Nat.le_succ _) _, HO.out⟩
  · have bA1 := bA0.kept k1 (by simp; omega)
    have bB1 := bB0.kept k1 (by simp; omega)
    have K1 := K0.more k1 (by intro j hj hl; simp at hj ⊢; omega)
    have cR := bR1.cell (j := 0) (u := .string (ba r)) rfl
    have cA := bA1.cell (j := 0) (u := .string ⟨#[]⟩) rfl
    have fA := bA1.free 0
    have bB2 := bB1.other (a := ⟨w.heap.size, 0, none⟩) (by show w.heap.size + 1 ≠ w.heap.size; omega) (.string (ba r))
    have cB := bB2.cell (j := 0) (u := .bool false) rfl
    have fB := bB2.free 0
    have HO : Hid (O = some (a, r)) := hO
    have HK1 : Hid (Kept [Bb] w w1) := K1
    have HG1 : Hid (Blk w1 Bb #[.string (ba a)] 9) := bG1
    clear k1 bR0 bA0 bB0 bG0 K0 bR1 HC hO K1 bG1
    go_wp2
    have bA3 := (bA1.set 0 (.string (ba r))).other (a := ⟨w.heap.size + 1, 0, none⟩) (by show w.heap.size ≠ w.heap.size + 1; omega) (.bool true)
    have bB3 := bB2.set 0 (.bool true)
    have cA3 := bA3.cell (j := 0) (u := .string (ba r)) rfl
    have cB3 := bB3.cell (j := 0) (u := .bool true) rfl
    refine leaves_cons (f := 106) (args := #[.pointer (some ⟨w.heap.size, 0, none⟩), .pointer (some ⟨w.heap.size + 1, 0, none⟩)]) (by simp) (by simp [go_sem]) ?_
    refine (catch_idle ⟨w.heap.size, 0, none⟩ ⟨w.heap.size + 1, 0, none⟩ _).mono ?_
    rintro e u' w'' ⟨rfl, rfl, rfl⟩
    simp [Leaves, settle, results, Try.results92, go_sem, cA3, cB3]
    have K3 := (HK1.out.setNew (p := ⟨w.heap.size, 0, none⟩) (Nat.le_refl _) (.string (ba r))).setNew (p := ⟨w.heap.size + 1, 0, none⟩) (Nat.le_succ _) (.bool true)
    exact ⟨K3, a, r, HO.out, rfl, (HG1.out.other (a := ⟨w.heap.size, 0, none⟩) (by show Bb ≠ w.heap.size; omega) (.string (ba r))).other (a := ⟨w.heap.size + 1, 0, none⟩) (by show Bb ≠ w.heap.size + 1; omega) (.bool true)⟩

end Go.Proofs.Ytnpaejknoipicad

namespace Go.Proofs.Ytnpaejknoipicad
open Go.RowKit

set_option maxHeartbeats 4000000 in
theorem areTooGreat_any (S : Nat → Prop) (v : Value) (L : List (List Fr)) (w : World) (hv : GrsIn S w v L) (hL : L.length ≤ 1000) :
    Calls Try.prog 57 #[v] w fun e w' => e = .returned (.bool (tooB L)) ∧ Below w.heap.size w w' := by
  obtain ⟨ao, c, hva, h1, h2, hc⟩ := hv
  obtain ⟨n, hn⟩ : ∃ n, n = L.length := ⟨_, rfl⟩
  have HN : Hid (n = L.length) := hn
  have HC : Hid (∀ k, k < L.length → ∃ b off, ao = some ⟨b, off, none⟩ ∧ b < w.heap.size ∧ S b ∧ ∃ sv, w.cell? ⟨b, off + k, none⟩ = some sv ∧ FrsIn S w sv (L[k]?.getD [])) := hc
  rw [← hn] at hva h1 hL
  obtain ⟨T, hT⟩ : ∃ T, T = tooB L := ⟨_, rfl⟩
  have HT : Hid (T = tooB L) := hT
  rw [← hT]
  clear hc hn hT
  subst hva
  go_enter Try.func57, Try.ntmps57
  go_wp2_with fail
  go_loopw [3, 10] (fun s i wr => ∃ k y : Nat, k ≤ n ∧ i = .int .i64 k ∧ s = .int .i64 y ∧ Hid (y = sumG (L.take k)) ∧ Hid (y ≤ k * 192) ∧ Hid (Below w.heap.size w wr))
    (fun _ i _ => n - (intOf i).toNat)
  case atStart => exact ⟨0, 0, Nat.zero_le _, rfl, rfl, (show 0 = sumG [] from rfl), (show 0 ≤ 0 from Nat.le_refl _), Below.refl _ _⟩
  case round =>
    obtain ⟨k, y, hk, rfl, rfl, HY, HYL, HB⟩ := hrel
    by_cases hlt : k < n
    · obtain ⟨b, off, rfl, hb, _, sv, c0, hs⟩ := HC.out k (by rw [← HN.out]; exact hlt)
      obtain ⟨g, hg⟩ : ∃ g, g = L[k]?.getD [] := ⟨_, rfl⟩
      rw [← hg] at hs
      have c1 := (HB.out.cell (p := ⟨b, off + k, none⟩) hb).trans c0
      obtain ⟨sa, sc, esv, _, _⟩ := hs.len
      obtain ⟨gn, hgn⟩ : ∃ gn, gn = g.length := ⟨_, rfl⟩
      rw [← hgn] at esv
      obtain ⟨z, hz⟩ : ∃ z : Nat, z = gsize g := ⟨_, rfl⟩
      obtain ⟨e, he⟩ : ∃ e, e = gchk g := ⟨_, rfl⟩
      have HS : Hid (∀ U, Below w.heap.size w U → Calls Try.prog 82 #[.agg #[sv]] U fun e' w'' => e' = .returned (.tuple #[.int .i64 z, .int .i64 e]) ∧ Below U.heap.size U w'') := fun U hU => by
        rw [hz, he]; exact groupSize_any S sv g U (hs.below hU)
      have HY2 : Hid (y + z = sumG (L.take (k + 1))) := by show _ = _; rw [sumG_take L k (by rw [← HN.out]; exact hlt), HY.out, hz, hg]
      have hz2 : z ≤ 192 := by rw [hz]; exact gsize_le g
      have hyl := HYL.out
      have hlti : (k : Int) < (n : Int) := by omega
      clear hs hg hgn hz he c0
      subst esv
      go_wp2_with fail
      have B1 : Hid (Below w.heap.size w (wr.alloc (.cells #[.slice sa gn sc] 25))) := HB.out.alloc HB.out.size _
      refine (HS.out _ B1.out).mono ?_
      rintro e' w2 ⟨rfl, hb2⟩
      have B2 : Hid (Below w.heap.size w w2) := B1.out.trans (hb2.mono B1.out.size)
      clear hb2 c1
      go_wp2_with fail
      go_roundw
      case rel => exact ⟨k + 1, y + z, by omega, by go_num, by go_num, HY2, (show _ ≤ _ by omega), B2⟩
      case measure => simp [intOf]; omega
    · have hkl : k = n := by omega
      subst hkl
      have hy : y = sumG L := by rw [HY.out, HN.out, List.take_length]
      have hT : T = (decide (1 < k) && decide (100 < y)) := by rw [HT.out, hy]; unfold tooB; rw [← HN.out]
      clear hy
      by_cases h1 : 1 < k
      · have h1i : (1 : Int) < (k : Int) := by omega
        by_cases h2 : 100 < y
        · have h2i : (100 : Int) < (y : Int) := by omega
          have hT2 : T = true := by rw [hT]; simp [h1, h2]
          go_wp2
          go_ret
          exact ⟨by first | rfl | (rw [hT2]; rfl), HB.out⟩
        · have h2i : ¬ (100 : Int) < (y : Int) := by omega
          have hT2 : T = false := by rw [hT]; simp [h1, h2]
          go_wp2
          go_ret
          exact ⟨by first | rfl | (rw [hT2]; rfl), HB.out⟩
      · have h1i : ¬ (1 : Int) < (k : Int) := by omega
        have hT2 : T = false := by rw [hT]; simp [h1]
        go_wp2
        go_ret
        exact ⟨by first | rfl | (rw [hT2]; rfl), HB.out⟩

set_option maxHeartbeats 4000000 in
theorem storeCheck_any (S : Nat → Prop) (first : Int) (gv ov : Value) (L : List (List Fr)) (O : List Fr) (w : World) (hg : GrsIn S w gv L) (ho : FrsIn S w ov O) :
    Calls Try.prog 29 #[.agg #[.int .i64 first, gv, ov]] w fun e w' => e = .returned (.int .i64 (stchk first L O)) ∧ Below w.heap.size w w' := by
  have HG : Hid (GrsIn S w gv L) := hg
  have HO : Hid (FrsIn S w ov O) := ho
  obtain ⟨ao, c, hva, h1, h2, hc⟩ := hg
  obtain ⟨oa, oc, eo, _, hol⟩ := ho.len
  obtain ⟨n, hn⟩ : ∃ n, n = L.length := ⟨_, rfl⟩
  obtain ⟨m, hm⟩ : ∃ m, m = O.length := ⟨_, rfl⟩
  have HN : Hid (n = L.length) := hn
  have HC : Hid (∀ k, k < L.length → ∃ b off, ao = some ⟨b, off, none⟩ ∧ b < w.heap.size ∧ S b ∧ ∃ sv, w.cell? ⟨b, off + k, none⟩ = some sv ∧ FrsIn S w sv (L[k]?.getD [])) := hc
  rw [← hn] at hva h1
  rw [← hm] at eo hol
  obtain ⟨E, hE⟩ : ∃ E, E = stchk first L O := ⟨_, rfl⟩
  have HE : Hid (E = if first < 0 then 3 else if 100000 < first then 3 else if 5 < n then 2 else
    if goN (fun k => gchk (grAt L k)) n 0 = 0 then (if tooB L then 2 else if 0 < m then gchk O else 0) else goN (fun k => gchk (grAt L k)) n 0) := by show _ = _; rw [hE, hn, hm]; rfl
  rw [← hE]
  clear hc hn hm hE ho
  subst hva eo
  by_cases f1 : first < 0
  · have e : E = 3 := by rw [HE.out, if_pos f1]
    rw [e]
    go_enter Try.func29, Try.ntmps29
    go_wp2
    go_ret
    exact ⟨rfl, (Below.refl _ _).alloc (Nat.le_refl _) _⟩
  by_cases f2 : 100000 < first
  · have e : E = 3 := by rw [HE.out, if_neg f1, if_pos f2]
    rw [e]
    go_enter Try.func29, Try.ntmps29
    go_wp2
    go_ret
    exact ⟨rfl, (Below.refl _ _).alloc (Nat.le_refl _) _⟩
  by_cases f3 : 5 < n
  · have e : E = 2 := by rw [HE.out, if_neg f1, if_neg f2, if_pos f3]
    have f3i : (5 : Int) < (n : Int) := by omega
    rw [e]
    go_enter Try.func29, Try.ntmps29
    go_wp2
    go_ret
    exact ⟨rfl, (Below.refl _ _).alloc (Nat.le_refl _) _⟩
  have f3i : ¬ (5 : Int) < (n : Int) := by omega
  have HE2 : Hid (E = if goN (fun k => gchk (grAt L k)) n 0 = 0 then (if tooB L then 2 else if 0 < m then gchk O else 0) else goN (fun k => gchk (grAt L k)) n 0) := by show _ = _; rw [HE.out, if_neg f1, if_neg f2, if_neg f3]
  clear HE
  go_enter Try.func29, Try.ntmps29
  go_wp2_with fail
  go_loopw [21] (fun i wr => ∃ k : Nat, k ≤ n ∧ i = .int .i64 k ∧ Hid (∀ j, j < k → gchk (grAt L j) = 0) ∧ Hid (Blk wr w.heap.size #[.int .i64 first, .slice ao n c, .slice oa m oc] 27) ∧ Hid (Below w.heap.size w wr))
    (fun i _ => n - (intOf i).toNat)
  case atStart => exact ⟨0, Nat.zero_le _, rfl, (show ∀ j, _ → _ from fun j hj => absurd hj (Nat.not_lt_zero _)), Blk.new _ _ _, (Below.refl _ _).alloc (Nat.le_refl _) _⟩
  case round =>
    obtain ⟨k, hk, rfl, HK, KB, HB⟩ := hrel
    by_cases hlt : k < n
    · obtain ⟨b, off, rfl, hb, _, sv, c0, hs⟩ := HC.out k (by rw [← HN.out]; exact hlt)
      obtain ⟨g, hg⟩ : ∃ g, g = grAt L k := ⟨_, rfl⟩
      rw [show L[k]?.getD [] = g from hg.symm] at hs
      have c1 := (HB.out.cell (p := ⟨b, off + k, none⟩) hb).trans c0
      obtain ⟨sa, sc, esv, _, _⟩ := hs.len
      obtain ⟨gn, hgn⟩ : ∃ gn, gn = g.length := ⟨_, rfl⟩
      rw [← hgn] at esv
      obtain ⟨e, he⟩ : ∃ e, e = gchk g := ⟨_, rfl⟩
      have HS : Hid (∀ U, Below w.heap.size w U → Calls Try.prog 47 #[.agg #[sv]] U fun e' w'' => e' = .returned (.int .i64 e) ∧ Below U.heap.size U w'') := fun U hU => by
        rw [he]; exact groupCheck_any S sv g U (hs.below hU)
      have hlti : (k : Int) < (n : Int) := by omega
      have HGE : Hid (e = gchk (grAt L k)) := by show _ = _; rw [he, hg]
      clear hs hg hgn he c0
      subst esv
      go_wp2_with fail
      have B1 : Hid (Below w.heap.size w (wr.alloc (.cells #[.slice sa gn sc] 25))) := HB.out.alloc HB.out.size _
      have K1 : Hid (Blk (wr.alloc (.cells #[.slice sa gn sc] 25)) w.heap.size #[.int .i64 first, .slice (some ⟨b, off, none⟩) n c, .slice oa m oc] 27) := KB.out.alloc _
      refine (HS.out _ B1.out).mono ?_
      rintro e' w2 ⟨rfl, hb2⟩
      have B2 : Hid (Below w.heap.size w w2) := B1.out.trans (hb2.mono B1.out.size)
      have K2 : Hid (Blk w2 w.heap.size #[.int .i64 first, .slice (some ⟨b, off, none⟩) n c, .slice oa m oc] 27) := K1.out.below hb2 K1.out.lt
      clear hb2 c1 K1 B1 KB HB
      by_cases he0 : e = 0
      · have HK2 : Hid (∀ j, j < k + 1 → gchk (grAt L j) = 0) := fun j hj => by
          by_cases e' : j = k
          · subst e'; rw [← HGE.out]; exact he0
          · exact HK.out j (by omega)
        clear HGE
        subst he0
        go_wp2_with fail
        go_roundw
        case rel => exact ⟨k + 1, by omega, by go_num, HK2, K2, B2⟩
        case measure => simp [intOf]; omega
      · have hE : E = e := by
          have hh := goN_hit (e := fun k => gchk (grAt L k)) n 0 k (Nat.zero_le _) (by omega) (fun j _ hj => HK.out j hj) (by show ¬ gchk (grAt L k) = 0; rw [← HGE.out]; exact he0)
          change goN (fun k => gchk (grAt L k)) n 0 = gchk (grAt L k) at hh
          rw [← HGE.out] at hh
          rw [HE2.out, hh, if_neg he0]
        have HEE : Hid (E = e) := hE
        clear hE
        go_wp2
        go_ret
        exact ⟨by rw [HEE.out]; rfl, B2.out⟩
    · have hkl : k = n := by omega
      subst hkl
      have hz : goN (fun k => gchk (grAt L k)) k 0 = 0 := goN_all _ _ (fun j _ hj => HK.out j (by omega))
      have HE3 : Hid (E = if tooB L then 2 else if 0 < m then gchk O else 0) := by show _ = _; rw [HE2.out, if_pos hz]
      obtain ⟨T, hT⟩ : ∃ T, T = tooB L := ⟨_, rfl⟩
      have HTG : Hid (∀ U, Below w.heap.size w U → Calls Try.prog 57 #[.slice ao k c] U fun e' w'' => e' = .returned (.bool T) ∧ Below U.heap.size U w'') := fun U hU => by
        rw [hT]; exact areTooGreat_any S _ L U (HG.out.below hU) (by rw [← HN.out]; omega)
      have HE4 : Hid (E = if T then 2 else if 0 < m then gchk O else 0) := by show _ = _; rw [hT]; exact HE3.out
      clear hz hT HE3 HE2
      obtain ⟨k0, k1, k2⟩ := KB.out.three
      go_wp2_with fail
      refine (HTG.out _ HB.out).mono ?_
      rintro e' w2 ⟨rfl, hb2⟩
      have B2 : Hid (Below w.heap.size w w2) := HB.out.trans (hb2.mono HB.out.size)
      obtain ⟨j0, j1, j2⟩ := (KB.out.below hb2 KB.out.lt).three
      clear hb2 k0 k1 k2
      cases T
      case true =>
        have HEE : Hid (E = 2) := HE4.out
        go_wp2
        go_ret
        exact ⟨by rw [HEE.out]; rfl, B2.out⟩
      case false =>
        by_cases hm0 : 0 < m
        · have hm0i : (0 : Int) < (m : Int) := by omega
          have HEO : Hid (E = gchk O) := by show _ = _; rw [HE4.out]; simp [hm0]
          go_wp2_with fail
          refine (groupCheck_any S _ O _ (HO.out.below B2.out)).mono ?_
          rintro e' w3 ⟨rfl, hb3⟩
          rw [← HEO.out]
          have B3 : Hid (Below w.heap.size w w3) := B2.out.trans (hb3.mono B2.out.size)
          clear hb3 j0 j1 j2
          go_wp2
          go_ret
          exact ⟨rfl, B3.out⟩
        · have hm0i : ¬ (0 : Int) < (m : Int) := by omega
          have HEE : Hid (E = 0) := by show _ = _; rw [HE4.out]; simp [hm0]
          go_wp2
          go_ret
          exact ⟨by rw [HEE.out]; rfl, B2.out⟩

end Go.Proofs.Ytnpaejknoipicad

namespace Go.Proofs.Ytnpaejknoipicad
open Go.RowKit

/-- how many of the first groups go -/
def trimD : List (List Fr) → Nat
  | [] => 0
  | g :: r => if fullB (g :: r) then trimD r + 1 else 0
theorem fullB_nil : fullB [] = false := by simp [fullB, tooB]
theorem trimD_no {L : List (List Fr)} (h : fullB L = false) : trimD L = 0 := by
  cases L with
  | nil => rfl
  | cons g r => simp [trimD, h]
theorem trimD_yes {L : List (List Fr)} (h : fullB L = true) : trimD L = trimD L.tail + 1 := by
  cases L with
  | nil => rw [fullB_nil] at h; cases h
  | cons g r => simp [trimD, h]
theorem trimD_drop (L : List (List Fr)) : ∀ k, (∀ j, j < k → fullB (L.drop j) = true) → trimD L = k + trimD (L.drop k)
  | 0, _ => by simp
  | k + 1, h => by
    rw [trimD_drop L k (fun j hj => h j (by omega)), trimD_yes (h k (by omega)), List.tail_drop]
    omega
theorem fullB_len {L : List (List Fr)} (h : fullB L = true) : 1 < L.length := by
  simp only [fullB, tooB, Bool.or_eq_true, Bool.and_eq_true, decide_eq_true_eq] at h
  omega

theorem GrsIn.tail {S : Nat → Prop} {w : World} {ao : Option Addr} {n c : Nat} {L : List (List Fr)} (h : GrsIn S w (.slice ao n c) L) (h1 : 1 < L.length) : ∃ b off, ao = some ⟨b, off, none⟩ ∧ n = L.length ∧ L.length ≤ c ∧ GrsIn S w (.slice (some ⟨b, off + 1, none⟩) (L.length - 1) (c - 1)) L.tail := by
  obtain ⟨ao', c', e, hc1, hc2, hc⟩ := h
  injection e with e1 e2 e3
  subst e1 e2 e3
  obtain ⟨b, off, e, _⟩ := hc 0 (by omega)
  subst e
  refine ⟨b, off, rfl, rfl, hc1, some ⟨b, off + 1, none⟩, c - 1, by rw [List.length_tail], by rw [List.length_tail]; omega, by omega, fun k hk => ?_⟩
  rw [List.length_tail] at hk
  obtain ⟨b', off', e, hb, hS, sv, h1, h2⟩ := hc (k + 1) (by omega)
  injection e with e
  injection e with e1 e2
  subst e1 e2
  refine ⟨b, off + 1, rfl, hb, hS, sv, by rw [show off + 1 + k = off + (k + 1) by omega]; exact h1, ?_⟩
  rw [List.getElem?_tail]; exact h2

set_option maxHeartbeats 4000000 in
set_option maxRecDepth 100000 in
theorem letGo_any (M : Nat) (first : Int) (gv ov : Value) (L : List (List Fr)) (S : Nat → Prop) (w : World) (hM : Blk w M #[.int .i64 first, gv, ov] 72) (hg : GrsIn S w gv L) (hS : ∀ g, S g → g ≠ M) (hL : L.length ≤ 1000) (hf0 : 0 ≤ first) (hf1 : first ≤ 1000000) :
    Calls Try.prog 89 #[.pointer (some ⟨M, 0, none⟩)] w fun e w' => e = .returned (.tuple #[]) ∧ ∃ gv', Blk w' M #[.int .i64 (first + trimD L), gv', ov] 72 ∧ GrsIn S w' gv' (L.drop (trimD L)) ∧ Kept [M] w w' := by
  have HL : Hid (L.length ≤ 1000) := hL
  obtain ⟨n, hn⟩ : ∃ n, n = L.length := ⟨_, rfl⟩
  have HN : Hid (n = L.length) := hn
  have hn1 : n ≤ 1000 := by omega
  have HS : Hid (∀ g, S g → g ≠ M) := hS
  have HG : Hid (GrsIn S w gv L) := hg
  have HM : Hid (Blk w M #[.int .i64 first, gv, ov] 72) := hM
  clear hn hL hg hM hS
  go_enter Try.func89, Try.ntmps89
  go_wp2_with fail
  go_loopw [] (fun wr => ∃ (k : Nat) (gk : Value), k ≤ n ∧ Hid (∀ j, j < k → fullB (L.drop j) = true) ∧ Hid (Blk wr M #[.int .i64 (first + k), gk, ov] 72) ∧ Hid (GrsIn S wr gk (L.drop k)) ∧ Hid (Kept [M] w wr))
    (fun wr => n - (intOf ((wr.cell? ⟨M, 0, none⟩).getD undef) - first).toNat)
  case atStart => exact ⟨0, gv, Nat.zero_le _, (show ∀ j, _ → _ from fun j hj => absurd hj (Nat.not_lt_zero _)), by simpa [Hid] using HM.out, by simpa [Hid] using HG.out, Kept.refl _ _⟩
  case round =>
    obtain ⟨k, gk, hk, HF, KB, GK, KP⟩ := hrel
    obtain ⟨N, hN⟩ : ∃ N, N = L.drop k := ⟨_, rfl⟩
    have HNK : Hid (N = L.drop k) := hN
    rw [← hN] at GK
    obtain ⟨q, hq⟩ : ∃ q, q = N.length := ⟨_, rfl⟩
    have HQ : Hid (q = N.length) := hq
    have hql : q ≤ 1000 := by rw [hq, hN, List.length_drop]; have := HL.out; omega
    have HQN : Hid (q = n - k) := by show _ = _; rw [hq, hN, List.length_drop, HN.out]
    obtain ⟨ga, gc, eg, hgl, hg63⟩ := GK.out.len
    rw [← hq] at eg hgl hg63
    clear hN hq
    subst eg
    obtain ⟨k0, k1, k2⟩ := KB.out.three
    have f0 := KB.out.free 0
    have f1 := KB.out.free 1
    have hms : (intOf ((wr.cell? ⟨M, 0, none⟩).getD undef) - first).toNat = k := by rw [k0]; simp [intOf]; omega
    -- one goes
    have GO : Hid (fullB N = true → ∃ b off, ga = some ⟨b, off, none⟩ ∧ 1 < q ∧ q ≤ gc ∧ ∀ V : World, Blk V M #[.int .i64 (first + k), .slice ga q gc, ov] 72 → GrsIn S V (.slice ga q gc) N → Kept [M] w V → Hid (Blk ((V.setCell ⟨M, 1, none⟩ (.slice (some ⟨b, off + 1, none⟩) (q - 1) (gc - 1))).setCell ⟨M, 0, none⟩ (.int .i64 (first + k + 1))) M #[.int .i64 (first + (k + 1 : Nat)), .slice (some ⟨b, off + 1, none⟩) (q - 1) (gc - 1), ov] 72) ∧ Hid (GrsIn S ((V.setCell ⟨M, 1, none⟩ (.slice (some ⟨b, off + 1, none⟩) (q - 1) (gc - 1))).setCell ⟨M, 0, none⟩ (.int .i64 (first + k + 1))) (.slice (some ⟨b, off + 1, none⟩) (q - 1) (gc - 1)) (L.drop (k + 1))) ∧ Hid (Kept [M] w ((V.setCell ⟨M, 1, none⟩ (.slice (some ⟨b, off + 1, none⟩) (q - 1) (gc - 1))).setCell ⟨M, 0, none⟩ (.int .i64 (first + k + 1)))) ∧ Hid (∀ j, j < k + 1 → fullB (L.drop j) = true)) := fun hf => by
      have h1 := fullB_len hf
      obtain ⟨b, off, e1, _, h3, _⟩ := GK.out.tail h1
      refine ⟨b, off, e1, by rw [HQ.out]; exact h1, by rw [HQ.out]; exact h3, fun V h4 h5 h6 => ?_⟩
      obtain ⟨b', off', e2, _, _, h7⟩ := h5.tail h1
      rw [e1] at e2
      injection e2 with e2
      injection e2 with e2 e3
      subst e2 e3
      have hd : L.drop (k + 1) = N.tail := by rw [HNK.out, List.tail_drop]
      refine ⟨?_, ?_, (h6.setCell (by simp) _).setCell (by simp) _, fun j hj => ?_⟩
      · have := (h4.set 1 (.slice (some ⟨b, off + 1, none⟩) (q - 1) (gc - 1))).set 0 (.int .i64 (first + k + 1))
        rw [show first + ((k + 1 : Nat) : Int) = first + k + 1 by omega]
        simpa [Hid] using this
      · show GrsIn _ _ _ _
        rw [hd, HQ.out]
        exact h7.to ((SameOn.setCell (fun g hg => HS.out g hg) _).trans (SameOn.setCell (fun g hg => HS.out g hg) _)) (fun _ _ h => h)
      · by_cases e : j = k
        · subst e; rw [← HNK.out]; exact hf
        · exact HF.out j (by omega)
    -- nothing goes
    have END : Hid (fullB N = false → ∀ V : World, Blk V M #[.int .i64 (first + k), .slice ga q gc, ov] 72 → GrsIn S V (.slice ga q gc) N → Kept [M] w V → ∃ gv', Blk V M #[.int .i64 (first + trimD L), gv', ov] 72 ∧ GrsIn S V gv' (L.drop (trimD L)) ∧ Kept [M] w V) := fun hf V h1 h2 h3 => by
      have ht : trimD L = k := by rw [trimD_drop L k HF.out, ← HNK.out, trimD_no hf]; omega
      rw [ht]
      exact ⟨_, h1, by rw [← HNK.out]; exact h2, h3⟩
    by_cases h5 : 5 < q
    · have h5i : (5 : Int) < (q : Int) := by omega
      have hfull : fullB N = true := by unfold fullB; rw [← HQ.out]; simp [h5]
      obtain ⟨b, off, e1, h1q, hqc, hgo⟩ := GO.out hfull
      obtain ⟨r1, r2, r3, r4⟩ := hgo wr KB.out GK.out KP.out
      subst e1
      have h1i : (1 : Int) ≤ (q : Int) := by omega
      have hqci : (q : Int) ≤ (gc : Int) := by omega
      have c1 : (wr.setCell ⟨M, 1, none⟩ (.slice (some ⟨b, off + 1, none⟩) (q - 1) (gc - 1))).cell? ⟨M, 0, none⟩ = some (.int .i64 (first + k)) := (KB.out.set 1 _).cell rfl
      clear hfull hgo GO END HF
      go_wp2_with fail
      go_roundw
      case rel => exact ⟨k + 1, _, by have := HQN.out; omega, r4, r1, r2, r3⟩
      case measure =>
        have c2 := r1.out.cell (j := 0) rfl
        rw [hms, c2]
        simp [intOf]
        have := HQN.out
        omega
    · have h5i : ¬ (5 : Int) < (q : Int) := by omega
      obtain ⟨T, hT⟩ : ∃ T, T = tooB N := ⟨_, rfl⟩
      have HTG : Hid (Calls Try.prog 57 #[.slice ga q gc] wr fun e' w'' => e' = .returned (.bool T) ∧ Below wr.heap.size wr w'') := by
        show Calls _ _ _ _ _
        rw [hT]; exact areTooGreat_any S _ N wr GK.out (by rw [← HQ.out]; omega)
      have HFB : Hid (fullB N = T) := by show _ = _; unfold fullB; rw [← HQ.out, ← hT]; simp; omega
      clear hT
      go_wp2_with fail
      refine HTG.out.mono ?_
      rintro e' w2 ⟨rfl, hb2⟩
      have KB2 : Hid (Blk w2 M #[.int .i64 (first + k), .slice ga q gc, ov] 72) := KB.out.below hb2 KB.out.lt
      have GK2 : Hid (GrsIn S w2 (.slice ga q gc) N) := GK.out.below hb2
      have KP2 : Hid (Kept [M] w w2) := KP.out.below hb2
      clear hb2 HTG k0 k1 k2 f0 f1
      obtain ⟨k0, k1, k2⟩ := KB2.out.three
      have f0 := KB2.out.free 0
      have f1 := KB2.out.free 1
      cases T
      case true =>
        obtain ⟨b, off, e1, h1q, hqc, hgo⟩ := GO.out HFB.out
        obtain ⟨r1, r2, r3, r4⟩ := hgo w2 KB2.out GK2.out KP2.out
        subst e1
        have h1i : (1 : Int) ≤ (q : Int) := by omega
        have hqci : (q : Int) ≤ (gc : Int) := by omega
        have c1 : (w2.setCell ⟨M, 1, none⟩ (.slice (some ⟨b, off + 1, none⟩) (q - 1) (gc - 1))).cell? ⟨M, 0, none⟩ = some (.int .i64 (first + k)) := (KB2.out.set 1 _).cell rfl
        clear hgo GO END HF
        go_wp2_with fail
        go_roundw
        case rel => exact ⟨k + 1, _, by have := HQN.out; omega, r4, r1, r2, r3⟩
        case measure =>
          have c2 := r1.out.cell (j := 0) rfl
          rw [hms, c2]
          simp [intOf]
          have := HQN.out
          omega
      case false =>
        have HEND : Hid (∃ gv', Blk w2 M #[.int .i64 (first + trimD L), gv', ov] 72 ∧ GrsIn S w2 gv' (L.drop (trimD L)) ∧ Kept [M] w w2) := END.out HFB.out w2 KB2.out GK2.out KP2.out
        clear GO END HF
        go_wp2
        go_end0
        exact ⟨rfl, HEND.out⟩

end Go.Proofs.Ytnpaejknoipicad

namespace Go.Proofs.Ytnpaejknoipicad
open Go.RowKit

/-- groups of a store, the open one, too -/
def allG (L : List (List Fr)) (O : List Fr) : List (List Fr) := if 0 < O.length then L ++ [O] else L

theorem GrsIn.one {S : Nat → Prop} {w : World} {b : Nat} {O : List Fr} {ov : Value} (hb : Blk w b #[ov] 25) (hS : S b) (ho : FrsIn S w ov O) : GrsIn S w (.slice (some ⟨b, 0, none⟩) 1 1) [O] := by
  refine ⟨some ⟨b, 0, none⟩, 1, rfl, Nat.le_refl _, by omega, fun k hk => ⟨b, 0, rfl, hb.lt, hS, ov, ?_⟩⟩
  have : k = 0 := by simpa using hk
  subst this
  exact ⟨hb.one, ho⟩

set_option maxHeartbeats 4000000 in
set_option maxRecDepth 100000 in
theorem keeperAll_any (M : Nat) (first : Int) (gv ov : Value) (L : List (List Fr)) (O : List Fr) (w : World) (hM : Blk w M #[.int .i64 first, gv, ov] 72) (hg : GrsIn (fun _ => True) w gv L) (ho : FrsIn (fun _ => True) w ov O) (hL : L.length ≤ 100) :
    Calls Try.prog 37 #[.pointer (some ⟨M, 0, none⟩)] w fun e w' => ∃ u, e = .returned u ∧ GrsIn (fun _ => True) w' u (allG L O) ∧ Below w.heap.size w w' := by
  obtain ⟨ga, gc, eg, _, _⟩ := hg.len
  obtain ⟨oa, oc, eo, _, hol⟩ := ho.len
  obtain ⟨n, hn⟩ : ∃ n, n = L.length := ⟨_, rfl⟩
  obtain ⟨m, hm⟩ : ∃ m, m = O.length := ⟨_, rfl⟩
  rw [← hn] at eg hL
  rw [← hm] at eo hol
  have HG : Hid (GrsIn (fun _ => True) w gv L) := hg
  have HO : Hid (FrsIn (fun _ => True) w ov O) := ho
  have HN : Hid (n = L.length) := hn
  have HK : Hid (Blk w M #[.int .i64 first, gv, ov] 72) := hM
  obtain ⟨k0, k1, k2⟩ := hM.three
  obtain ⟨A, hA⟩ : ∃ A, A = allG L O := ⟨_, rfl⟩
  have HA : Hid (A = if 0 < m then L ++ [O] else L) := by show _ = _; rw [hA, hm]; rfl
  rw [← hA]
  clear hg ho hn hm hM hA
  subst eg eo
  by_cases h0 : m = 0
  · have HAA : Hid (A = L) := by show _ = _; rw [HA.out, if_neg (by omega)]
    subst h0
    go_enter Try.func37, Try.ntmps37
    go_wp2
    go_ret
    exact ⟨_, rfl, by rw [HAA.out]; exact HG.out, Below.refl _ _⟩
  have HAA : Hid (A = L ++ [O]) := by show _ = _; rw [HA.out, if_pos (by omega)]
  have h0i : ((m : Int) == 0) = false := by simp; omega
  have hMw : M < w.heap.size := HK.out.lt
  clear h0
  go_enter Try.func37, Try.ntmps37
  go_wp2_with fail
  refine region_chain (by kernel_rfl) (by kernel_rfl) [.quiet (.pointer (some ⟨M, 0, none⟩)) 4, .quiet (.pointer (some ⟨M, 0, none⟩)) 4, .quiet (.pointer (some ⟨M, 0, none⟩)) 4, .quiet (.pointer (some ⟨M, 1, none⟩)) 4, .quiet (.slice ga n gc) 4, .quiet (.pointer (some ⟨M, 0, none⟩)) 4, .quiet (.pointer (some ⟨M, 0, none⟩)) 4, .quiet (.pointer (some ⟨M, 0, none⟩)) 4, .quiet (.pointer (some ⟨M, 2, none⟩)) 4, .quiet (.agg #[.slice oa m oc]) 4, .step 0, .step 1, .step 2, .step 3] [10, 11, 12, 13] (by kernel_rfl)
    (fun s r w' => match s with
      | 0 => Below w.heap.size w w'
      | 1 => ∃ V, Below w.heap.size w V ∧ w' = V.alloc (.cells #[.slice oa m oc] 25) ∧ r 0 = .slice (some ⟨V.heap.size, 0, none⟩) 1 1
      | 2 => ∃ V, Below w.heap.size w V ∧ w' = (V.alloc (.cells #[.slice oa m oc] 25)).alloc (.cells #[.slice ga n gc, .slice (some ⟨V.heap.size, 0, none⟩) 1 1] 22) ∧ r 1 = .slice (some ⟨V.heap.size + 1, 0, none⟩) 2 2
      | 3 => GrsIn (fun _ => True) w' (r 2) (L ++ [O]) ∧ Below w.heap.size w w'
      | _ => GrsIn (fun _ => True) w' (r 3) (L ++ [O]) ∧ Below w.heap.size w w') ?i0 ?step ?fin
  case i0 => exact ⟨rfl, rfl, rfl, Nat.le_refl _, fun _ _ => rfl⟩
  case step =>
    intro i o ho a' w' s r hI hfree hvals
    have f0 : a'.eval (.tmp 0) = .pointer (some ⟨M, 0, none⟩) := (hfree 0 (by kernel_rfl)).trans rfl
    have hBw : Below w.heap.size w w' := by
      match s, hI with
      | 0, h => exact h
      | 1, ⟨V, h1, h2, _⟩ => rw [h2]; exact h1.alloc h1.size _
      | 2, ⟨V, h1, h2, _⟩ => rw [h2]; exact (h1.alloc h1.size _).alloc (by have := h1.size; simp; omega) _
      | 3, h => exact h.2
      | _ + 4, h => exact h.2
    have y1 := (hBw.cell (p := ⟨M, 1, none⟩) hMw).trans k1
    have y2 := (hBw.cell (p := ⟨M, 2, none⟩) hMw).trans k2
    match i, ho with
    | 0, ho | 5, ho =>
      simp at ho; subst ho
      show s ≤ 4 → (execOp a'.eval _).run _ w' = .ok (.value _) w'
      intro _
      generalize a'.eval = ρ at *
      simp [execOp, go_sem, f0]
    | 1, ho =>
      simp at ho; subst ho
      have e1 : a'.eval (.tmp 16) = .pointer (some ⟨M, 0, none⟩) := hvals 0 _ _ (by kernel_rfl) rfl rfl
      show s ≤ 4 → (execOp a'.eval _).run _ w' = .ok (.value _) w'
      intro _
      generalize a'.eval = ρ at *
      simp [execOp, go_sem, e1]
    | 2, ho =>
      simp at ho; subst ho
      have e1 : a'.eval (.tmp 17) = .pointer (some ⟨M, 0, none⟩) := hvals 1 _ _ (by kernel_rfl) rfl rfl
      show s ≤ 4 → (execOp a'.eval _).run _ w' = .ok (.value _) w'
      intro _
      generalize a'.eval = ρ at *
      simp [execOp, go_sem, e1]
    | 3, ho =>
      simp at ho; subst ho
      have e1 : a'.eval (.tmp 18) = .pointer (some ⟨M, 0, none⟩) := hvals 2 _ _ (by kernel_rfl) rfl rfl
      show s ≤ 4 → (execOp a'.eval _).run _ w' = .ok (.value _) w'
      intro _
      generalize a'.eval = ρ at *
      simp [execOp, go_sem, e1]
    | 4, ho =>
      simp at ho; subst ho
      have e1 : a'.eval (.tmp 19) = .pointer (some ⟨M, 1, none⟩) := hvals 3 _ _ (by kernel_rfl) rfl rfl
      show s ≤ 4 → (execOp a'.eval _).run _ w' = .ok (.value _) w'
      intro _
      generalize a'.eval = ρ at *
      simp [execOp, go_sem, e1, y1]
    | 6, ho =>
      simp at ho; subst ho
      have e1 : a'.eval (.tmp 21) = .pointer (some ⟨M, 0, none⟩) := hvals 5 _ _ (by kernel_rfl) rfl rfl
      show s ≤ 4 → (execOp a'.eval _).run _ w' = .ok (.value _) w'
      intro _
      generalize a'.eval = ρ at *
      simp [execOp, go_sem, e1]
    | 7, ho =>
      simp at ho; subst ho
      have e1 : a'.eval (.tmp 22) = .pointer (some ⟨M, 0, none⟩) := hvals 6 _ _ (by kernel_rfl) rfl rfl
      show s ≤ 4 → (execOp a'.eval _).run _ w' = .ok (.value _) w'
      intro _
      generalize a'.eval = ρ at *
      simp [execOp, go_sem, e1]
    | 8, ho =>
      simp at ho; subst ho
      have e1 : a'.eval (.tmp 23) = .pointer (some ⟨M, 0, none⟩) := hvals 7 _ _ (by kernel_rfl) rfl rfl
      show s ≤ 4 → (execOp a'.eval _).run _ w' = .ok (.value _) w'
      intro _
      generalize a'.eval = ρ at *
      simp [execOp, go_sem, e1]
    | 9, ho =>
      simp at ho; subst ho
      have e1 : a'.eval (.tmp 24) = .pointer (some ⟨M, 2, none⟩) := hvals 8 _ _ (by kernel_rfl) rfl rfl
      show s ≤ 4 → (execOp a'.eval _).run _ w' = .ok (.value _) w'
      intro _
      generalize a'.eval = ρ at *
      simp [execOp, go_sem, e1, y2]
    | 10, ho =>
      simp at ho; subst ho
      have e1 : a'.eval (.tmp 25) = .agg #[.slice oa m oc] := hvals 9 _ _ (by kernel_rfl) rfl rfl
      show s = 0 → _
      intro hs
      subst hs
      refine oper_wp_ok (v := .slice (some ⟨w'.heap.size, 0, none⟩) 1 1) (w' := w'.alloc (.cells #[.slice oa m oc] 25)) ?_ ⟨_, rfl, ?_⟩
      · generalize a'.eval = ρ at *
        simp [execOp, go_sem, e1]
      · exact ⟨w', hBw, rfl, updR_at _ _ _⟩
    | 11, ho =>
      simp at ho; subst ho
      show s = 1 → _
      intro hs
      subst hs
      obtain ⟨V, h1, h2, h3⟩ := hI
      have e1 : a'.eval (.tmp 20) = .slice ga n gc := hvals 4 _ _ (by kernel_rfl) rfl rfl
      have e2 : a'.eval (.tmp 26) = .slice (some ⟨V.heap.size, 0, none⟩) 1 1 := (hvals 10 _ _ (by kernel_rfl) rfl rfl).trans h3
      refine oper_wp_ok (v := .slice (some ⟨V.heap.size + 1, 0, none⟩) 2 2) (w' := w'.alloc (.cells #[.slice ga n gc, .slice (some ⟨V.heap.size, 0, none⟩) 1 1] 22)) ?_ ⟨_, rfl, ?_⟩
      · generalize a'.eval = ρ at *
        rw [h2]
        simp [execOp, go_sem, e1, e2]
      · exact ⟨V, h1, by rw [h2], updR_at _ _ _⟩
    | 12, ho =>
      simp at ho; subst ho
      show s = 2 → _
      intro hs
      subst hs
      obtain ⟨V, h1, h2, h3⟩ := hI
      have e1 : a'.eval (.tmp 27) = .slice (some ⟨V.heap.size + 1, 0, none⟩) 2 2 := (hvals 11 _ _ (by kernel_rfl) rfl rfl).trans h3
      have ef : a'.eval (.func 64) = .func (.func 64) #[] #[] := rfl
      have KV : Blk w' (V.heap.size + 1) #[.slice ga n gc, .slice (some ⟨V.heap.size, 0, none⟩) 1 1] 22 := by
        have := Blk.new (V.alloc (.cells #[.slice oa m oc] 25)) #[.slice ga n gc, .slice (some ⟨V.heap.size, 0, none⟩) 1 1] 22
        rw [h2]; simpa using this
      have KO : Blk w' V.heap.size #[.slice oa m oc] 25 := by rw [h2]; exact (Blk.new V _ _).alloc _
      obtain ⟨z0, z1⟩ := KV.two
      have hc := concatGrs_any (fun _ => True) (V.heap.size + 1) (.slice ga n gc) (.slice (some ⟨V.heap.size, 0, none⟩) 1 1) L [O] w' z0 z1 (HG.out.below hBw) (GrsIn.one KO trivial (HO.out.below hBw)) (by rw [← HN.out]; simp; omega)
      refine oper_wp_call (f := 64) (args := #[.slice (some ⟨V.heap.size + 1, 0, none⟩) 2 2]) ?_ (hc.mono ?_)
      · generalize a'.eval = ρ at *
        simp [execOp, go_sem, e1, ef]
      · rintro e w'' ⟨u, rfl, o1, b1⟩
        exact ⟨u, rfl, u, rfl, by rw [updR_at]; exact o1.grsIn (fun _ _ _ => trivial) (fun _ _ => trivial), hBw.trans (b1.mono hBw.size)⟩
    | 13, ho =>
      simp at ho; subst ho
      show s = 3 → _
      intro hs
      subst hs
      have e1 : a'.eval (.tmp 28) = r 2 := hvals 12 _ _ (by kernel_rfl) rfl rfl
      refine oper_wp_ok (v := r 2) (w' := w') ?_ ⟨_, rfl, ?_⟩
      · generalize a'.eval = ρ at *
        simp [execOp, go_sem, e1]
      · exact ⟨by rw [updR_at]; exact hI.1, hI.2⟩
    | i + 14, ho => simp at ho
  case fin =>
    rintro r W ⟨h1, h2⟩
    have H1 : Hid (GrsIn (fun _ => True) W (r 3) A ∧ Below w.heap.size w W) := ⟨by rw [HAA.out]; exact h1, h2⟩
    clear h1 h2 k0 k1 k2 h0i hMw HG HO HN HK HA HAA
    simp only [putC, Ck.out]
    go_wp2_with fail
    exact bodyPost_ret (v := r 3) (by simp [results, Try.results37, go_sem]) rfl ⟨_, rfl, H1.out⟩

end Go.Proofs.Ytnpaejknoipicad

namespace Go.Proofs.Ytnpaejknoipicad
open Go.RowKit

section
variable {P : Program} {Q : Exit → Act → World → Prop}

/-- operations in the text's order -/
def tl (P : Program) (Q : Exit → Act → World → Prop) : List Oper → Act → World → Prop
  | [], a, w => Q .normal a w
  | o :: r, a, w => o.wp P a w (fun a' w' => tl P Q r a' w') Q

/-- (a structure of its own: nothing looks into it unasked) -/
structure TL (P : Program) (Q : Exit → Act → World → Prop) (l : List Oper) (a : Act) (w : World) : Prop where
  out : tl P Q l a w

/-- each of the last ones waits for all ahead of it -/
def tailB (n : Nat) (l : List Oper) : Bool := (List.range l.length).all fun i => decide (i < n) || (match l[i]? with | none => false | some o => (List.range i).all fun j => o.after.toList.any fun e => e.on == j && Region.binds .any e)
def regOkT (l : List Oper) : Bool := l.all (fun o => o.guard.isNone) && (l.zipIdx.all fun p => p.1.after.all fun e => decide (e.on < p.2) || !(Region.binds .any e))

theorem tailB_spec {n : Nat} {l : List Oper} (h : tailB n l = true) {i : Nat} {o : Oper} (ho : l[i]? = some o) (hn : n ≤ i) {L : Array Bool} (hr : ∀ e ∈ o.after, Region.binds .any e = true → L.getD e.on false = true) : ∀ j, j < i → L.getD j false = true := by
  intro j hj
  have hi : i < l.length := (List.getElem?_eq_some_iff.1 ho).1
  have h1 := List.all_eq_true.1 h i (List.mem_range.2 hi)
  simp only [Bool.or_eq_true, decide_eq_true_eq] at h1
  rcases h1 with h1 | h1
  · omega
  · rw [ho] at h1
    have h2 := List.all_eq_true.1 h1 j (List.mem_range.2 hj)
    obtain ⟨e, he, h3⟩ := List.any_eq_true.1 h2
    simp only [Bool.and_eq_true, beq_iff_eq] at h3
    rw [← h3.1]; exact hr e (by simpa using he) h3.2

theorem rep_no (n j : Nat) : (Array.replicate n false).getD j false = false := by
  simp [Array.getD_eq_getD_getElem?, Array.getElem?_replicate]; split <;> rfl

theorem wp_region_tail {id : Nat} {a : Act} {w : World} {l t : List Oper} (hm : P.follows .mixedOrders = true) (hd : dstsApart l = true) (hB : regOkT (l ++ t) = true) (hT : tailB l.length (l ++ t) = true) (F : Array Bool → (Nat → Value) → World → Prop)
    (h0 : F (Array.replicate l.length false) (fun _ => undef) { w with drawn := w.drawn + 1 })
    (hstep : ∀ L vs w', F L vs w' → ∀ (i : Nat) (o : Oper), l[i]? = some o → L[i]? = some false → (∀ e ∈ o.after, Region.binds .any e = true → L.getD e.on false = true) →
      o.wp P (putL L vs 0 l a) w' (fun a' w'' => ∃ v, a' = (putL L vs 0 l a).put o.dst v ∧ F (L.setIfInBounds i true) (upd vs i v) w'') Q)
    (hend : ∀ L vs w', F L vs w' → (∀ i, i < l.length → L.getD i false = true) → tl P Q t (putL L vs 0 l a) w') : (Code.region id (l ++ t).toArray true).wp P Q a w := by
  simp only [regOkT, Bool.and_eq_true] at hB
  obtain ⟨hg, hA⟩ := hB
  have hAft : ∀ (i : Nat) (o : Oper), (l ++ t).toArray[i]? = some o → ∀ e ∈ o.after, Region.binds .any e = true → e.on < i := fun i o ho e he hb => by
    have h1 : (o, i) ∈ (l ++ t).zipIdx := by
      rw [List.mem_zipIdx_iff_getElem?]; simpa using ho
    have h2 := List.all_eq_true.1 hA _ h1
    rw [Array.all_eq_true_iff_forall_mem] at h2
    simpa [hb] using h2 e he
  refine wp_region_any hm ?_
  refine wpAny_inv (md := .any) (fun L a' w' => (∃ L1 vs, L1.size = l.length ∧ (∀ j, j < l.length → L.getD j false = L1.getD j false) ∧ (∀ j, l.length ≤ j → L.getD j false = false) ∧ a' = putL L1 vs 0 l a ∧ F L1 vs w') ∨ (∃ k, k ≤ t.length ∧ 0 < k ∧ (∀ j, j < l.length + k → L.getD j false = true) ∧ (∀ j, l.length + k ≤ j → L.getD j false = false) ∧ tl P Q (t.drop k) a' w')) ?_ ?_ ?_ _ _ _ _ (by simp) ?_ ?_
  · intro o ho
    have := List.all_eq_true.1 hg o (by simpa using ho)
    simpa using this
  · rintro L a' w' hs hI i o ho hL hrdy
    have ho' : (l ++ t)[i]? = some o := by simpa using ho
    have hLi : L.getD i false = false := by simp [Array.getD_eq_getD_getElem?, hL]
    have hit : i < l.length + t.length := by have := (List.getElem?_eq_some_iff.1 ho').1; simpa using this
    have next : ∀ k, k < t.length → i = l.length + k → (∀ j, j < i → L.getD j false = true) → (∀ j, i < j → L.getD j false = false) → tl P Q (t.drop k) a' w' → o.wp P a' w' (fun a'' w'' => (∃ L1 vs, L1.size = l.length ∧ (∀ j, j < l.length → (L.setIfInBounds i true).getD j false = L1.getD j false) ∧ (∀ j, l.length ≤ j → (L.setIfInBounds i true).getD j false = false) ∧ a'' = putL L1 vs 0 l a ∧ F L1 vs w'') ∨ (∃ k, k ≤ t.length ∧ 0 < k ∧ (∀ j, j < l.length + k → (L.setIfInBounds i true).getD j false = true) ∧ (∀ j, l.length + k ≤ j → (L.setIfInBounds i true).getD j false = false) ∧ tl P Q (t.drop k) a'' w'')) Q := fun k hk hik h1 h2 h3 => by
      have hok : t.drop k = o :: t.drop (k + 1) := by
        have e : t[k]? = some o := by
          rw [List.getElem?_append_right (by omega)] at ho'
          rw [← ho']; congr 1; omega
        rw [List.drop_eq_getElem_cons hk]
        congr 1
        rw [List.getElem?_eq_getElem hk] at e
        injection e
      rw [hok] at h3
      refine Oper.wp_mono (fun a'' w'' h => ?_) h3
      refine .inr ⟨k + 1, hk, by omega, fun j hj => ?_, fun j hj => ?_, h⟩
      · by_cases e : j = i
        · subst e; exact getD_set_at hL _
        · rw [getD_set_other e]; exact h1 j (by omega)
      · rw [getD_set_other (by omega)]; exact h2 j (by omega)
    rcases hI with ⟨L1, vs, hs1, hj1, hj2, rfl, hF⟩ | ⟨k, hk, hk0, hj1, hj2, ht⟩
    · by_cases hi : i < l.length
      · have hl : l[i]? = some o := by rw [List.getElem?_append_left hi] at ho'; exact ho'
        have hL1 : L1[i]? = some false := by
          have h1 := hj1 i hi
          rw [hLi] at h1
          have h2 : i < L1.size := by omega
          rw [Array.getElem?_eq_getElem h2]
          simp [Array.getD_eq_getD_getElem?, h2] at h1
          rw [h1]
        have hsub : ∀ e ∈ o.after, Region.binds .any e = true → L1.getD e.on false = true := fun e he hb => by
          have := hAft i o ho e he hb
          rw [← hj1 e.on (by omega)]; exact hrdy e he hb
        refine Oper.wp_mono (fun a'' w'' ⟨v, h1, h2⟩ => ?_) (hstep L1 vs w' hF i o hl hL1 hsub)
        · refine .inl ⟨L1.setIfInBounds i true, upd vs i v, by simpa using hs1, fun j hj => ?_, fun j hj => ?_, by rw [h1, putL_set hL1 l 0 a o hd (Nat.zero_le _) (by simpa using hl)], h2⟩
          · by_cases e : j = i
            · subst e; rw [getD_set_at hL, getD_set_at hL1]
            · rw [getD_set_other e, getD_set_other e]; exact hj1 j hj
          · rw [getD_set_other (by omega)]; exact hj2 j hj
      · have hall := tailB_spec hT ho' (by omega) hrdy
        have hin : i = l.length := by
          by_cases h : i = l.length
          · exact h
          · have h1 := hall l.length (by omega)
            rw [hj2 _ (Nat.le_refl _)] at h1; cases h1
        refine next 0 (by omega) (by omega) hall (fun j hj => hj2 j (by omega)) ?_
        exact hend L1 vs w' hF (fun j hj => by rw [← hj1 j hj]; exact hall j (by omega))
    · have hik : l.length + k ≤ i := by
        by_cases h : i < l.length + k
        · rw [hj1 i h] at hLi; cases hLi
        · omega
      have hall := tailB_spec hT ho' (by omega) hrdy
      have hin : i = l.length + k := by
        by_cases h : i = l.length + k
        · exact h
        · have h1 := hall (l.length + k) (by omega)
          rw [hj2 _ (Nat.le_refl _)] at h1; cases h1
      exact next k (by omega) hin hall (fun j hj => hj2 j (by omega)) ht
  · rintro L a' w' hs hI hr
    have hall : ∀ i, i < l.length + t.length → L.getD i false = true := fun i hi => by
      have := ready_nil hs hAft hr i (by simpa using hi)
      simp [Array.getD_eq_getD_getElem?, this]
    rcases hI with ⟨L1, vs, hs1, hj1, hj2, rfl, hF⟩ | ⟨k, hk, hk0, hj1, hj2, ht⟩
    · have ht0 : t = [] := by
        cases t with
        | nil => rfl
        | cons o r =>
          have h1 := hall l.length (by simp)
          rw [hj2 _ (Nat.le_refl _)] at h1; cases h1
      subst ht0
      exact hend L1 vs w' hF (fun j hj => by rw [← hj1 j hj]; exact hall j (by simpa using hj))
    · have hkt : k = t.length := by
        by_cases h : k = t.length
        · exact h
        · have h1 := hall (l.length + k) (by omega)
          rw [hj2 _ (Nat.le_refl _)] at h1; cases h1
      subst hkt
      simpa [tl] using ht
  · simp only [left]; exact Nat.le_trans List.countP_le_length (by simp)
  · refine .inl ⟨Array.replicate l.length false, fun _ => undef, by simp, fun j hj => ?_, fun j hj => ?_, ?_, h0⟩
    · rw [rep_no, rep_no]
    · exact rep_no _ _
    · have : ∀ (m : List Oper) (k : Nat) (a : Act), a = putL (Array.replicate l.length false) (fun _ => undef) k m a := by
        intro m
        induction m with
        | nil => intro k a; rfl
        | cons o r ih =>
          intro k a
          simp only [putL]
          rw [if_neg (by simp [Array.getD_eq_getD_getElem?, Array.getElem?_replicate]; split <;> simp)]
          exact ih (k + 1) a
      exact this l 0 a
end
end Go.Proofs.Ytnpaejknoipicad

namespace Go.Proofs.Ytnpaejknoipicad
open Go.RowKit

section
variable {P : Program} {Q : Exit → Act → World → Prop}

theorem tl_ok {o : Oper} {r : List Oper} {a : Act} {w w' : World} (v : Value) (h : (execOp a.eval o).run P w = .ok (.value v) w') (k : TL P Q r (a.put o.dst v) w') : TL P Q (o :: r) a w := ⟨oper_wp_ok h k.out⟩
theorem tl_skip {o : Oper} {r : List Oper} {a : Act} {w : World} (w' : World) (h : (execOp a.eval o).run P w = .ok .skip w') (k : TL P Q r (a.put o.dst undef) w') : TL P Q (o :: r) a w := ⟨by
  show o.wp P a w _ Q
  unfold Oper.wp; rw [h]; exact k.out⟩
theorem tl_skip2 {o : Oper} {r : List Oper} {a : Act} {w : World} (w' : World) (s1 s2 : Operand) (x1 x2 : Value) (e1 : a.eval s1 = x1) (e2 : a.eval s2 = x2) (h : ∀ ρ : Operand → Value, ρ s1 = x1 → ρ s2 = x2 → (execOp ρ o).run P w = .ok .skip w') (k : TL P Q r (a.put o.dst undef) w') : TL P Q (o :: r) a w := tl_skip w' (h _ e1 e2) k
theorem tl_ok0 {o : Oper} {r : List Oper} {a : Act} {w w' : World} (v : Value) (h : ∀ ρ : Operand → Value, (execOp ρ o).run P w = .ok (.value v) w') (k : TL P Q r (a.put o.dst v) w') : TL P Q (o :: r) a w := tl_ok v (h _) k
theorem tl_ok1 {o : Oper} {r : List Oper} {a : Act} {w w' : World} (v : Value) (s1 : Operand) (x1 : Value) (e1 : a.eval s1 = x1) (h : ∀ ρ : Operand → Value, ρ s1 = x1 → (execOp ρ o).run P w = .ok (.value v) w') (k : TL P Q r (a.put o.dst v) w') : TL P Q (o :: r) a w := tl_ok v (h _ e1) k
theorem tl_end {a : Act} {w : World} (h : Q .normal a w) : TL P Q [] a w := ⟨h⟩

/-- what is known of those that came -/
structure App3 (h7 : Value → Value) (W : World) (E : TypeId) (size n : Nat) (cells xc : List Value) (v1 v2 v4 : Value) (ls : Nat → Bool) (vs : Nat → Value) (w : World) : Prop where
  below : Below W.heap.size W w
  f0 : ls 0 = true → ls 3 = false → ∃ g, vs 0 = .slice (some ⟨g, 0, none⟩) 0 0 ∧ W.heap.size ≤ g ∧ Blk w g #[] E
  f1 : ls 1 = true → vs 1 = v1
  f2 : ls 2 = true → vs 2 = v2
  f3 : ls 3 = true → ls 6 = false → w.ownsRow W.heap.size E size (vs 3) n cells
  f4 : ls 4 = true → vs 4 = v4
  f5 : ls 5 = true → ls 6 = false → ∃ g, vs 5 = .slice (some ⟨g, 0, none⟩) 1 1 ∧ W.heap.size ≤ g ∧ Blk w g xc.toArray E ∧ (ls 3 = true → (vs 3).ownBlock ≠ some g)
  f6 : ls 6 = true → w.ownsRow W.heap.size E size (vs 6) (n + 1) (cells ++ xc) ∧ ls 3 = true ∧ ls 5 = true
  f7 : ls 7 = true → vs 7 = h7 (vs 6) ∧ ls 6 = true

theorem region_app3 {id : Nat} {a : Act} {w : World} {o0 o1 o2 o3 o4 o5 o6 o7 : Oper} {t : List Oper} (h7 : Value → Value) (hm : P.follows .mixedOrders = true)
    (hap : dstsApart [o0, o1, o2, o3, o4, o5, o6, o7] = true) (hB : regOkT ([o0, o1, o2, o3, o4, o5, o6, o7] ++ t) = true) (hT : tailB 8 ([o0, o1, o2, o3, o4, o5, o6, o7] ++ t) = true)
    (hw : (waits [o0, o1, o2, o3, o4, o5, o6, o7] 2 1 && waits [o0, o1, o2, o3, o4, o5, o6, o7] 3 0 && waits [o0, o1, o2, o3, o4, o5, o6, o7] 3 2 && waits [o0, o1, o2, o3, o4, o5, o6, o7] 5 4 && waits [o0, o1, o2, o3, o4, o5, o6, o7] 6 3 && waits [o0, o1, o2, o3, o4, o5, o6, o7] 6 5 && waits [o0, o1, o2, o3, o4, o5, o6, o7] 7 6) = true)
    (T E : TypeId) (i : TypeInfo) (z : Value) (size bytes : Nat) (ht : P.underlying T = some (.slice E)) (hi : P.info? E = some i) (hz : i.zero = some z) (hsize : i.size = size) (hby : i.bytes = bytes) (hzs : z.cells.size = size) (hsz : 0 < size)
    (k0 k1 k2 k3 k4 k5 k6 k7 sb : Nat) (d0 : o0.dst = some k0) (d1 : o1.dst = some k1) (d2 : o2.dst = some k2) (d3 : o3.dst = some k3) (d4 : o4.dst = some k4) (d5 : o5.dst = some k5) (d6 : o6.dst = some k6) (d7 : o7.dst = some k7)
    (hsz1 : ([k0, k1, k2, k3, k4, k5, k6, k7].all fun k => decide (k < a.tmps.size)) = true)
    (n : Nat) (cells : List Value) (v2 : Value) (happ : App1 P w T E o3.type size n cells v2)
    (xc : List Value) (hxl : xc.length = size) (hx1 : ∀ u ∈ xc, u.oneCell' = true)
    (v1 v4 : Value) (sx : Nat)
    (hsb : ([k0, k1, k2, k3, k4, k5, k6, k7].all fun k => decide (k ≠ sb) && decide (k ≠ sx)) = true)
    (r0 : ∀ (a' : Act) (w' : World), (execOp a'.eval o0).run P w' = .ok (.value (.slice (some ⟨w'.heap.size, 0, none⟩) 0 0)) (w'.alloc (.cells #[] E)))
    (r1 : ∀ (a' : Act) (w' : World), a'.eval (.tmp sb) = a.eval (.tmp sb) → (execOp a'.eval o1).run P w' = .ok (.value v1) w')
    (r2 : ∀ (a' : Act) (w' : World), a'.eval (.tmp k1) = v1 → Below w.heap.size w w' → (execOp a'.eval o2).run P w' = .ok (.value v2) w')
    (r3 : o3.op = .call { callee := .builtin .append, args := #[.tmp k0, .tmp k2], argTypes := #[T, T] })
    (r4 : ∀ (a' : Act) (w' : World), a'.eval (.tmp sx) = a.eval (.tmp sx) → Below w.heap.size w w' → (execOp a'.eval o4).run P w' = .ok (.value v4) w')
    (r5 : ∀ (a' : Act) (w' : World), a'.eval (.tmp k4) = v4 → (execOp a'.eval o5).run P w' = .ok (.value (.slice (some ⟨w'.heap.size, 0, none⟩) 1 1)) (w'.alloc (.cells xc.toArray E)))
    (r6 : o6.op = .call { callee := .builtin .append, args := #[.tmp k3, .tmp k5], argTypes := #[T, T] })
    (r7 : ∀ (a' : Act) (w' : World) (x : Option Addr) (c : Nat), a'.eval (.tmp k6) = .slice x (n + 1) c → (execOp a'.eval o7).run P w' = .ok (.value (h7 (.slice x (n + 1) c))) w')
    (h63 : n + 1 ≤ maxLen) (hbytes : (n + 1) * bytes ≤ 140737488355328)
    (hend : ∀ (u0 u3 u5 v : Value) (w' : World), w'.ownsRow w.heap.size E size v (n + 1) (cells ++ xc) → Below w.heap.size w w' →
      TL P Q t ((((((((a.put o0.dst u0).put o1.dst v1).put o2.dst v2).put o3.dst u3).put o4.dst v4).put o5.dst u5).put o6.dst v).put o7.dst (h7 v)) w') :
    (Code.region id ([o0, o1, o2, o3, o4, o5, o6, o7] ++ t).toArray true).wp P Q a w := by
  simp only [Bool.and_eq_true] at hw
  obtain ⟨⟨⟨⟨⟨⟨w21, w30⟩, w32⟩, w54⟩, w63⟩, w65⟩, w76⟩ := hw
  simp only [List.all_cons, List.all_nil, Bool.and_true, Bool.and_eq_true, decide_eq_true_eq] at hsz1 hsb
  obtain ⟨z0, z1, z2, z3, z4, z5, z6, z7⟩ := hsz1
  obtain ⟨⟨q0, y0⟩, ⟨q1, y1⟩, ⟨q2, y2⟩, ⟨q3, y3⟩, ⟨q4, y4⟩, ⟨q5, y5⟩, ⟨q6, y6⟩, q7, y7⟩ := hsb
  have hval : ∀ (L : Array Bool) (vs : Nat → Value) (j : Nat) (o : Oper) (k : Nat), [o0, o1, o2, o3, o4, o5, o6, o7][j]? = some o → o.dst = some k → k < a.tmps.size → L.getD j false = true → (putL L vs 0 [o0, o1, o2, o3, o4, o5, o6, o7] a).eval (.tmp k) = vs j :=
    fun L vs j o k h1 h2 h3 h4 => putL_at h4 _ 0 a o hap (Nat.zero_le _) (by simpa using h1) h2 h3
  have hoth : ∀ (L : Array Bool) (vs : Nat → Value) (s : Nat), k0 ≠ s → k1 ≠ s → k2 ≠ s → k3 ≠ s → k4 ≠ s → k5 ≠ s → k6 ≠ s → k7 ≠ s → (putL L vs 0 [o0, o1, o2, o3, o4, o5, o6, o7] a).eval (.tmp s) = a.eval (.tmp s) :=
    fun L vs s e0 e1 e2 e3 e4 e5 e6 e7 => putL_other _ 0 a (fun p hp t ht e => by
      injection e with e
      subst e
      simp only [List.mem_cons, List.not_mem_nil, or_false] at hp
      rcases hp with rfl | rfl | rfl | rfl | rfl | rfl | rfl | rfl
      · rw [d0] at ht; injection ht with ht; exact e0 ht
      · rw [d1] at ht; injection ht with ht; exact e1 ht
      · rw [d2] at ht; injection ht with ht; exact e2 ht
      · rw [d3] at ht; injection ht with ht; exact e3 ht
      · rw [d4] at ht; injection ht with ht; exact e4 ht
      · rw [d5] at ht; injection ht with ht; exact e5 ht
      · rw [d6] at ht; injection ht with ht; exact e6 ht
      · rw [d7] at ht; injection ht with ht; exact e7 ht)
  refine wp_region_tail (t := t) hm hap hB hT (fun L vs w' => App3 h7 w E size n cells xc v1 v2 v4 (fun j => L.getD j false) vs w') ?_ ?_ ?_
  · have hno : ∀ j, ¬ (Array.replicate [o0, o1, o2, o3, o4, o5, o6, o7].length false).getD j false = true := fun j => by
      simp [Array.getD_eq_getD_getElem?, Array.getElem?_replicate]; split <;> simp
    exact ⟨⟨rfl, rfl, rfl, Nat.le_refl _, fun _ _ => rfl⟩, fun h => absurd h (hno 0), fun h => absurd h (hno 1), fun h => absurd h (hno 2), fun h => absurd h (hno 3), fun h => absurd h (hno 4), fun h => absurd h (hno 5), fun h => absurd h (hno 6), fun h => absurd h (hno 7)⟩
  · intro L vs w' F j o ho hL hr
    have nj : L.getD j false = false := by simpa using listed_no hL
    have hset := setfun hL
    have hv := hval L vs
    have ho2 := hoth L vs
    have hwt : ∀ k, waits [o0, o1, o2, o3, o4, o5, o6, o7] j k = true → L.getD k false = true := fun k hk => waits_spec hk ho hr
    rw [hset]
    clear hset hr hL
    obtain ⟨ls, hls⟩ : ∃ ls : Nat → Bool, ls = fun j => L.getD j false := ⟨_, rfl⟩
    have hlsj : ∀ j, L.getD j false = ls j := fun j => by rw [hls]
    simp only [hlsj] at F nj hv hwt ⊢
    obtain ⟨fb, f0, f1, f2, f3, f4, f5, f6, f7⟩ := F
    match j, ho with
    | 0, ho =>
      simp at ho; subst ho
      refine oper_wp_ok (r0 _ w') ⟨_, rfl, ?_⟩
      have hb : Below w'.heap.size w' (w'.alloc (.cells #[] E)) := (Below.refl _ _).alloc (Nat.le_refl _) _
      refine ⟨fb.trans (hb.mono fb.size), fun _ _ => ⟨w'.heap.size, by rw [upd_at], fb.size, Blk.new _ _ _⟩, by simpa [upd] using f1, by simpa [upd] using f2, ?_, by simpa [upd] using f4, ?_, ?_, by simpa [upd] using f7⟩
      · simp only [upd]; simp; exact fun h1 h2 => (f3 h1 h2).alloc _
      · simp only [upd]; simp
        intro h1 h2
        obtain ⟨g, e1, e2, e3, e4⟩ := f5 h1 h2
        exact ⟨g, e1, e2, e3.alloc _, e4⟩
      · simp only [upd]; simp; exact fun h1 => ⟨(f6 h1).1.alloc _, (f6 h1).2⟩
    | 1, ho =>
      simp at ho; subst ho
      refine oper_wp_ok (r1 _ w' (ho2 _ q0 q1 q2 q3 q4 q5 q6 q7)) ⟨_, rfl, ?_⟩
      exact ⟨fb, by simpa [upd] using f0, by simp [upd], by simpa [upd] using f2, by simpa [upd] using f3, by simpa [upd] using f4, by simpa [upd] using f5, by simpa [upd] using f6, by simpa [upd] using f7⟩
    | 2, ho =>
      simp at ho; subst ho
      have l1 := hwt 1 w21
      refine oper_wp_ok (r2 _ w' ((hv 1 _ k1 rfl d1 z1 l1).trans (f1 l1)) fb) ⟨_, rfl, ?_⟩
      exact ⟨fb, by simpa [upd] using f0, by simpa [upd] using f1, by simp [upd], by simpa [upd] using f3, by simpa [upd] using f4, by simpa [upd] using f5, by simpa [upd] using f6, by simpa [upd] using f7⟩
    | 3, ho =>
      simp at ho; subst ho
      have l0 := hwt 0 w30
      have l2 := hwt 2 w32
      have n6 : ls 6 = false := by
        cases h : ls 6
        · rfl
        · rw [(f6 h).2.1] at nj; cases nj
      obtain ⟨g, e1, e2, e3⟩ := f0 l0 nj
      have ev0 := (hv 0 _ k0 rfl d0 z0 l0).trans e1
      have ev2 := (hv 2 _ k2 rfl d2 z2 l2).trans (f2 l2)
      obtain ⟨v', w2, hrun, g2, g3, g4⟩ := happ w' g fb e2 e3
      have hex : (execOp (putL L vs 0 [o0, o1, o2, o3, o4, o5, o6, o7] a).eval o3).run P w' = .ok (.value v') w2 := by
        simp [execOp, r3, resolve, invoke, builtin, ev0, ev2, hrun, Result.andThen]
      refine oper_wp_ok hex ⟨_, rfl, ?_⟩
      have hb2 : Below w.heap.size w w2 := fb.grown g3 fb.size (fun j hj => by injection hj with hj; omega)
      refine ⟨hb2, by simp, by simpa [upd] using f1, by simpa [upd] using f2, ?_, by simpa [upd] using f4, ?_, by simp [n6], by simpa [upd] using f7⟩
      · simp only [upd]; simp; exact fun _ => g2
      · simp only [upd]; simp
        intro h1 h2
        obtain ⟨g', e1', e2', e3', e4'⟩ := f5 h1 h2
        have hne : g' ≠ g := fun e => by
          subst e
          have h1 : w'.heap[g']? = some (.cells #[] E (0, 0)) := e3
          have h2 : w'.heap[g']? = some (.cells xc.toArray E (0, 0)) := e3'
          rw [h1] at h2
          have h3 : xc = [] := by simpa using h2.symm
          rw [h3] at hxl
          simp at hxl; omega
        refine ⟨g', e1', e2', (g3.block g' e3'.lt (by intro e; injection e with e; exact hne e)).trans e3', fun e => ?_⟩
        rcases g4 with g4 | g4
        · rw [g4] at e; injection e with e; exact hne e.symm
        · have := g4 g' e; have := e3'.lt; omega
    | 4, ho =>
      simp at ho; subst ho
      refine oper_wp_ok (r4 _ w' (ho2 _ y0 y1 y2 y3 y4 y5 y6 y7) fb) ⟨_, rfl, ?_⟩
      exact ⟨fb, by simpa [upd] using f0, by simpa [upd] using f1, by simpa [upd] using f2, by simpa [upd] using f3, by simp [upd], by simpa [upd] using f5, by simpa [upd] using f6, by simpa [upd] using f7⟩
    | 5, ho =>
      simp at ho; subst ho
      have l4 := hwt 4 w54
      refine oper_wp_ok (r5 _ w' ((hv 4 _ k4 rfl d4 z4 l4).trans (f4 l4))) ⟨_, rfl, ?_⟩
      have hb : Below w'.heap.size w' (w'.alloc (.cells xc.toArray E)) := (Below.refl _ _).alloc (Nat.le_refl _) _
      refine ⟨fb.trans (hb.mono fb.size), ?_, by simpa [upd] using f1, by simpa [upd] using f2, ?_, by simpa [upd] using f4, ?_, ?_, by simpa [upd] using f7⟩
      · simp only [upd]; simp
        intro h1 h2
        obtain ⟨g, e1, e2, e3⟩ := f0 h1 h2
        exact ⟨g, e1, e2, e3.alloc _⟩
      · simp only [upd]; simp; exact fun h1 h2 => (f3 h1 h2).alloc _
      · simp only [upd]; simp
        intro h6
        exact ⟨fb.size, Blk.new _ _ _, fun h3 e => by have := ((f3 h3 h6).lt _ e).2; omega⟩
      · simp only [upd]; simp; exact fun h1 => ⟨(f6 h1).1.alloc _, (f6 h1).2.1⟩
    | 6, ho =>
      simp at ho; subst ho
      have l3 := hwt 3 w63
      have l5 := hwt 5 w65
      have n7 : ls 7 = false := by
        cases h : ls 7
        · rfl
        · rw [(f7 h).2] at nj; cases nj
      obtain ⟨g, e1, e2, e3, e4⟩ := f5 l5 nj
      have ev3 := hv 3 _ k3 rfl d3 z3 l3
      have ev5 := (hv 5 _ k5 rfl d5 z5 l5).trans e1
      obtain ⟨v', w2, hrun, g2, g3, g4⟩ := run_append_own2 (P := P) w' w.heap.size T o6.type E i z size bytes ht hi hz hsize hby hzs hsz (vs 3) n cells (f3 l3 nj) ⟨g, 0, none⟩ 1 1 xc (by rw [hxl, Nat.one_mul]) (fun j u hj => by rw [Addr.add_lit, Nat.zero_add]; exact e3.cell (by simpa using hj)) hx1 h63 hbytes fb.size
      have hex : (execOp (putL L vs 0 [o0, o1, o2, o3, o4, o5, o6, o7] a).eval o6).run P w' = .ok (.value v') w2 := by
        simp [execOp, r6, resolve, invoke, builtin, ev3, ev5, hrun, Result.andThen]
      refine oper_wp_ok hex ⟨_, rfl, ?_⟩
      have hb2 : Below w.heap.size w w2 := fb.grown g3 fb.size (fun j hj => ((f3 l3 nj).lt j hj).1)
      refine ⟨hb2, ?_, by simpa [upd] using f1, by simpa [upd] using f2, by simp, by simpa [upd] using f4, by simp, ?_, by simp [n7]⟩
      · simp [l3]
      · simp only [upd]; simp; exact ⟨g2, l3, l5⟩
    | 7, ho =>
      simp at ho; subst ho
      have l6 := hwt 6 w76
      obtain ⟨x7, c7, e7⟩ := Sl.len (Sl.of_owns (f6 l6).1)
      refine oper_wp_ok (r7 _ w' x7 c7 ((hv 6 _ k6 rfl d6 z6 l6).trans e7)) ⟨_, rfl, ?_⟩
      refine ⟨fb, by simpa [upd] using f0, by simpa [upd] using f1, by simpa [upd] using f2, by simpa [upd] using f3, by simpa [upd] using f4, by simpa [upd] using f5, by simpa [upd] using f6, ?_⟩
      simp only [upd]; simp
      exact ⟨by rw [e7], l6⟩
    | j + 8, ho => simp at ho
  · intro L vs w' F hall
    obtain ⟨fb, f0, f1, f2, f3, f4, f5, f6, f7⟩ := F
    have := hend (vs 0) (vs 3) (vs 5) (vs 6) w' (f6 (hall 6 (by simp))).1 fb
    simp only [putL]
    rw [if_pos (hall 0 (by simp)), if_pos (hall (0 + 1) (by simp)), if_pos (hall (0 + 1 + 1) (by simp)), if_pos (hall (0 + 1 + 1 + 1) (by simp)), if_pos (hall (0 + 1 + 1 + 1 + 1) (by simp)), if_pos (hall (0 + 1 + 1 + 1 + 1 + 1) (by simp)), if_pos (hall (0 + 1 + 1 + 1 + 1 + 1 + 1) (by simp)), if_pos (hall (0 + 1 + 1 + 1 + 1 + 1 + 1 + 1) (by simp))]
    rw [show vs (0 + 1) = v1 from f1 (hall 1 (by simp)), show vs (0 + 1 + 1) = _ from f2 (hall 2 (by simp)), show vs (0 + 1 + 1 + 1 + 1) = _ from f4 (hall 4 (by simp)), show vs (0 + 1 + 1 + 1 + 1 + 1 + 1 + 1) = h7 (vs 6) from (f7 (hall 7 (by simp))).1]
    exact this.out
end
end Go.Proofs.Ytnpaejknoipicad

namespace Go.Proofs.Ytnpaejknoipicad
open Go.RowKit

/-- none of these is wanted -/
def skipB (ops : Array Oper) : List Oper → Act → Bool
  | [], _ => true
  | o :: r, a => !(Region.wanted o (yielded ops a.tmps)) && skipB ops r (a.put o.dst undef)
/-- the frame behind them -/
def putU : List Oper → Act → Act
  | [], a => a
  | o :: r, a => putU r (a.put o.dst undef)

theorem wpQuiet_jump {P : Program} {ops : Array Oper} {C : World → Prop} {Q : Act → Prop} (n : Nat) : ∀ {l : List Oper} {a : Act}, skipB ops (l.take n) a = true → (∀ b, b = putU (l.take n) a → wpQuiet P ops C Q (l.drop n) b) → wpQuiet P ops C Q l a := by
  induction n with
  | zero => intro l a _ h; simpa using h a rfl
  | succ n ih =>
    intro l a hs h
    cases l with
    | nil => simpa using h a rfl
    | cons o r =>
      simp only [List.take_succ_cons, skipB, Bool.and_eq_true, Bool.not_eq_true'] at hs
      refine BigFrame.wpQuiet_skip hs.1 (ih hs.2 (fun b hb => ?_))
      have := h b (by rw [List.take_succ_cons]; exact hb)
      simpa using this

end Go.Proofs.Ytnpaejknoipicad

namespace Go.Proofs.Ytnpaejknoipicad
open Go.RowKit

theorem Blk.drewN {w : World} {b : Nat} {C : Array Value} {t : TypeId} (h : Blk w b C t) (k : Nat) : Blk (w.drewN k) b C t := h

theorem FrsIn.one {S : Nat → Prop} {w : World} {b : Nat} {f : Fr} {pv : Value} (hb : Blk w b #[.int .i64 f.time, .bool f.key, pv] 36) (hS : S b) (hp : StrsIn S w pv f.parts) : FrsIn S w (.slice (some ⟨b, 0, none⟩) 1 1) [f] := by
  refine ⟨some ⟨b, 0, none⟩, 1, rfl, Nat.le_refl _, by omega, fun k hk => ⟨b, 0, rfl, hb.lt, hS, pv, ?_⟩⟩
  have : k = 0 := by simpa using hk
  subst this
  obtain ⟨c0, c1, c2⟩ := hb.three
  exact ⟨c0, c1, c2, hp⟩

end Go.Proofs.Ytnpaejknoipicad
