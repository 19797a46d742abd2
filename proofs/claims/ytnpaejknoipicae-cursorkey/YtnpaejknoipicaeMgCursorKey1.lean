/-
  What is known within a region that asks cursor.Next of the laws' shelf.
-/
import Derived.Test.YtnpaejknoipicaeRows
import Derived.Test.YtnpaejknoipicaeSlices
import Derived.ProofKit
import Derived.OpenShut
import Derived.ShutString
import Derived.ChangeOld
import Derived.Below
import Derived.SizedLaws
import Derived.Test.YtnpaejknoipicaeSlotRows
import Derived.Deep.Slices
import Derived.Test.YtnpaejknoipicaeFrameCheck
import Derived.Test.YtnpaejknoipicaeNest
import Derived.Test.YtnpaejknoipicaeRegChain
import Derived.Test.YtnpaejknoipicaeStoreTrim
import Derived.Test.YtnpaejknoipicaeStoreAll
import Derived.Test.YtnpaejknoipicaeRefGrow
import Derived.Test.YtnpaejknoipicaeGroupAll
import Derived.Test.YtnpaejknoipicaeBlocks
import Derived.Test.YtnpaejknoipicaeRegMain
import Derived.Deep.RegionHeld3

namespace Go.Proofs.Ytnpaejknoipicae
open Go.ChangeShapes Go.WideShapes Go.ChangeAt Go.RowKit
open Go.ChangeMaps (open_string shut_string)

theorem own : ownKnob Try.prog.godebug = none := by kernel_rfl
theorem laidOut : laidOutB Try.prog = true := by kernel_rfl

section
variable {H : Type} {enc : TypeId × Value → H} {P : Program} {W : World} {r : Reach} {b0 : Nat} {t e : TypeId} {v : Value} {d : DataW H} {p : List MemPlace}

theorem op_int (ht : P.underlying t = some (.int .i64)) (hval : Value.okWide P W r b0 t v) (h : DataW.Trod enc P W 0 (fun _ => true) true t v d p) :
    ∃ a, v = .int .i64 a ∧ (Lit.int .i64 a).wf = true := by
  obtain ⟨a, rfl, _, _, w0⟩ := open_int ht hval h
  exact ⟨a, rfl, w0⟩

theorem op_ints (ht : P.underlying t = some (.slice e)) (he : P.underlying e = some (.int .i64)) (hc : P.cellsOf e = 1) (hval : Value.okWide P W r b0 t v) (h : DataW.Trod enc P W 0 (fun _ => true) true t v d p)
    (hsz : ∀ elems spare, d = .slice elems spare → (elems.length + spare.length) * 8 ≤ 140737488351232) :
    ∃ zs : List Int, Sl W v zs.length 1 (zs.map (Value.int .i64)) ∧ (∀ n ∈ zs, (Lit.int .i64 n).wf = true) ∧ zs.length * 8 ≤ 140737488351232 := by
  obtain ⟨a, len, cap, rfl⟩ := okWide_slice ht hval
  obtain ⟨fuel, hf⟩ := h
  rcases open_ints ht he hc hf with ⟨hcs, hx⟩ | ⟨x, l, c, zs, hcs, _, hl, hm, hz, hx, hcell, hwz⟩
  · simp [Value.cells] at hcs
    obtain ⟨rfl, rfl, rfl⟩ := hcs
    exact ⟨[], ⟨by simp, .inl ⟨rfl, none, 0, rfl⟩⟩, by simp, by simp⟩
  · simp [Value.cells] at hcs
    obtain ⟨rfl, rfl, rfl⟩ := hcs
    simp only [if_true] at hz
    simp only [Prod.mk.injEq] at hx
    have hb := hsz _ _ hx.1
    simp only [lits, List.length_map, List.length_take, List.length_drop] at hb
    obtain ⟨hs, hw⟩ := Sl.of_row (w := W) (a := some x) (len := len) (cap := cap) (zs := zs) (k := .i64) (.inr ⟨x, rfl, hl, hm, hz, hcell, hwz⟩)
    have hlen : (zs.take len).length = len := by simp; omega
    refine ⟨zs.take len, ?_, hw, by omega⟩
    rw [hlen]
    exact hs
end

theorem wf_i64 {a : Int} (h : (Lit.int .i64 a).wf = true) : -9223372036854775808 ≤ a ∧ a ≤ 9223372036854775807 := by
  have h1 : IntKind.i64.min = -9223372036854775808 := rfl
  have h2 : IntKind.i64.max = 9223372036854775807 := rfl
  simp only [Lit.wf, Bool.and_eq_true, decide_eq_true_eq] at h
  omega

end Go.Proofs.Ytnpaejknoipicae

namespace Go.Proofs.Ytnpaejknoipicae
open Go.ChangeShapes Go.WideShapes Go.ChangeAt Go.RowKit
open Go.ChangeMaps (open_string shut_string)

section
variable {H : Type} {enc : TypeId × Value → H} {W : World} {r : Reach} {b0 base : Nat} {spare : Nat → Bool} {held : Bool} {v : Value} {d : DataW H} {p : List MemPlace}

theorem Try.cellsI : Try.prog.cellsOf 3 = 1 := by kernel_rfl
theorem Try.cellsB : Try.prog.cellsOf 4 = 1 := by kernel_rfl
theorem Try.cellsS : Try.prog.cellsOf 9 = 1 := by kernel_rfl
theorem list7 {α : Type} {l : List α} (h : l.length = 7) : ∃ c0 c1 c2 c3 c4 c5 c6, l = [c0, c1, c2, c3, c4, c5, c6] := by
  match l, h with
  | [c0, c1, c2, c3, c4, c5, c6], _ => exact ⟨c0, c1, c2, c3, c4, c5, c6, rfl⟩
theorem list6' {α : Type} {l : List α} (h : l.length = 6) : ∃ c0 c1 c2 c3 c4 c5, l = [c0, c1, c2, c3, c4, c5] := by
  match l, h with
  | [c0, c1, c2, c3, c4, c5], _ => exact ⟨c0, c1, c2, c3, c4, c5, rfl⟩
theorem list2 {α : Type} {l : List α} (h : l.length = 2) : ∃ c0 c1, l = [c0, c1] := by
  match l, h with
  | [c0, c1], _ => exact ⟨c0, c1, rfl⟩

/-- within what an input can be -/
def Sk.fits (x : Sk) : Prop := (Lit.int .i64 x.n).wf = true ∧ (Lit.int .i64 x.p.seq).wf = true ∧ (Lit.int .i64 x.p.time).wf = true ∧ x.p.t.size ≤ maxLen

end
end Go.Proofs.Ytnpaejknoipicae

namespace Go.Proofs.Ytnpaejknoipicae
open Go.ChangeShapes Go.WideShapes Go.ChangeAt Go.RowKit

section
variable {H : Type} {enc : TypeId × Value → H} {W : World} {r : Reach} {b0 base : Nat} {spare : Nat → Bool} {held : Bool} {v : Value} {d : DataW H} {p : List MemPlace}

theorem Try.cellsFrm : Try.prog.cellsOf 39 = 3 := by kernel_rfl
theorem Try.cellsStrs : Try.prog.cellsOf 37 = 1 := by kernel_rfl

theorem list1 {α : Type} {l : List α} (h : l.length = 1) : ∃ c0, l = [c0] := by
  match l, h with
  | [c0], _ => exact ⟨c0, rfl⟩
theorem list3 {α : Type} {l : List α} (h : l.length = 3) : ∃ c0 c1 c2, l = [c0, c1, c2] := by
  match l, h with
  | [c0, c1, c2], _ => exact ⟨c0, c1, c2, rfl⟩

set_option maxRecDepth 100000 in
theorem trod_strs {fuel : Nat} {cs : List Value} {x : DataW H × List MemPlace} (h : DataW.trod enc Try.prog W base spare held fuel 37 cs = some x) :
    ∃ (u : Value) (l : List ByteArray), cs = [u] ∧ Strs W u l ∧ (∀ s ∈ l, s.size ≤ maxLen) ∧ l.length ≤ maxLen ∧ (∀ a n c, u = .slice a n c → n ≤ c) := by
  rcases Go.Deep.open_slice Try.underlying37 h with ⟨rfl, rfl⟩ | ⟨a, len, cap, m, n, D, Pl, rfl, hb, hl, hm, hmm, rfl, hx⟩
  · exact ⟨_, [], rfl, Strs.nil W, by simp, by simp, fun a n c e => by cases e; exact Nat.le_refl _⟩
  · have hlm : len ≤ m := by rw [hmm]; split <;> omega
    rw [Try.cellsS] at hx
    have each : ∀ i, i < len → ∃ s : ByteArray, s.size ≤ maxLen ∧ W.cell? (a.add i) = some (.string s) := fun i hi => by
      obtain ⟨cs', h1, h2⟩ := hx i (by omega)
      obtain ⟨s, hs, _, hw⟩ := DataW.trod_string Try.underlying9 h2
      obtain ⟨_, hl1, hc⟩ := World.cells?_some h1
      refine ⟨s, hw, ?_⟩
      have := hc 0 (by omega)
      rw [hs, Go.Deep.add_add] at this
      simpa using this
    obtain ⟨f, hf⟩ := Go.Deep.choose_lt each
    have hll : ((List.range len).map f).length = len := by simp
    refine ⟨_, (List.range len).map f, rfl, ?_, ?_, by rw [hll]; omega, fun a' n' c' e => by cases e; exact hl⟩
    · show Sl W _ _ 1 _
      rw [hll]
      refine ⟨by simp, ?_⟩
      by_cases h0 : len = 0
      · subst h0
        exact .inl ⟨rfl, _, _, rfl⟩
      · right
        obtain ⟨b, off, spot⟩ := a
        have hc0 := (hf 0 (by omega)).2
        have hspot : spot = none := by simpa [Addr.add] using World.cell?_spot hc0
        subst hspot
        refine ⟨b, off, cap, rfl, by simpa [Addr.add] using World.block_lt_of_cell? W _ hc0, fun j u hj => ?_⟩
        have hjl : j < len := by
          have := (List.getElem?_eq_some_iff.1 hj).1
          simpa using this
        rw [List.getElem?_map, List.getElem?_map, List.getElem?_range hjl] at hj
        simp at hj
        subst hj
        have := (hf j hjl).2
        rw [Addr.add_lit] at this
        exact this
    · intro s hs
      obtain ⟨i, hi, rfl⟩ := List.mem_map.1 hs
      exact (hf i (by simpa using hi)).1

set_option maxRecDepth 100000 in
theorem op_frm (hval : Value.okWide Try.prog W r b0 39 v) (h : DataW.Trod enc Try.prog W base spare held 39 v d p) :
    ∃ (time : Int) (key : Bool) (u : Value) (l : List ByteArray), v = .agg #[.int .i64 time, .bool key, u] ∧ (Lit.int .i64 time).wf = true ∧ Strs W u l ∧ (∀ s ∈ l, s.size ≤ maxLen) ∧ l.length ≤ maxLen := by
  obtain ⟨cs, rfl, _⟩ := okWide_struct Try.underlying39 hval
  obtain ⟨fuel, hf⟩ := h
  obtain ⟨xs, n, _, _, hl, hxl, hg⟩ := DataW.trod_struct Try.underlying39 hf
  rw [Try.cellsFrm] at hl
  obtain ⟨c0, c1, c2, hcs⟩ := list3 hl
  obtain ⟨x0, x1, x2, rfl⟩ := list3 (show xs.length = 3 from hxl)
  rw [hcs] at hg
  have h0 : DataW.trod enc Try.prog W base spare held n 3 (([c0, c1, c2].drop 0).take (Try.prog.cellsOf 3)) = some x0 := hg 0 _ rfl
  have h1 : DataW.trod enc Try.prog W base spare held n 4 (([c0, c1, c2].drop 1).take (Try.prog.cellsOf 4)) = some x1 := hg 1 _ rfl
  have h2 : DataW.trod enc Try.prog W base spare held n 37 (([c0, c1, c2].drop 2).take (Try.prog.cellsOf 37)) = some x2 := hg 2 _ rfl
  rw [Try.cellsI] at h0
  rw [Try.cellsB] at h1
  rw [Try.cellsStrs] at h2
  obtain ⟨a, ea, _, wa⟩ := DataW.trod_int Try.underlying3 h0
  obtain ⟨k, ek, _⟩ := DataW.trod_bool Try.underlying4 h1
  obtain ⟨u, l, eu, hS, hfit, hlen, _⟩ := trod_strs h2
  simp at ea ek eu
  subst ea ek eu
  refine ⟨a, k, c2, l, ?_, wa, hS, hfit, hlen⟩
  have : cs = #[.int .i64 a, .bool k, c2] := by
    apply Array.ext'
    simpa [Value.cells] using hcs
  rw [this]

end
end Go.Proofs.Ytnpaejknoipicae

namespace Go.Proofs.Ytnpaejknoipicae
open Go.ChangeShapes Go.WideShapes Go.ChangeAt Go.RowKit

theorem StrsIn.of {w : World} {v : Value} {l : List ByteArray} (h : Strs w v l) (hl : l.length ≤ 9223372036854775807) : StrsIn (fun _ => True) w v l := by
  refine ⟨h, hl, fun g hg h0 => ⟨trivial, ?_⟩⟩
  obtain ⟨_, ⟨h1, _⟩ | ⟨b, off, c, rfl, hb, _⟩⟩ := h
  · omega
  · simp [Value.ownBlock] at hg
    subst hg
    exact hb

instance : Inhabited Fr := ⟨Fr.zero⟩

section
variable {H : Type} {enc : TypeId × Value → H} {W : World} {r : Reach} {b0 base : Nat} {spare : Nat → Bool} {held : Bool} {v : Value} {d : DataW H} {p : List MemPlace}

theorem Try.cellsFrs : Try.prog.cellsOf 32 = 1 := by kernel_rfl
theorem Try.cellsGrp : Try.prog.cellsOf 34 = 1 := by kernel_rfl

set_option maxRecDepth 100000 in
theorem trod_frm {fuel : Nat} {cs : List Value} {x : DataW H × List MemPlace} (h : DataW.trod enc Try.prog W base spare held fuel 39 cs = some x) :
    ∃ (f : Fr) (u : Value), cs = [.int .i64 f.time, .bool f.key, u] ∧ StrsIn (fun _ => True) W u f.parts := by
  obtain ⟨xs, n, _, _, hl, hxl, hg⟩ := DataW.trod_struct Try.underlying39 h
  rw [Try.cellsFrm] at hl
  obtain ⟨c0, c1, c2, hcs⟩ := list3 hl
  obtain ⟨x0, x1, x2, rfl⟩ := list3 (show xs.length = 3 from hxl)
  rw [hcs] at hg
  have h0 : DataW.trod enc Try.prog W base spare held n 3 (([c0, c1, c2].drop 0).take (Try.prog.cellsOf 3)) = some x0 := hg 0 _ rfl
  have h1 : DataW.trod enc Try.prog W base spare held n 4 (([c0, c1, c2].drop 1).take (Try.prog.cellsOf 4)) = some x1 := hg 1 _ rfl
  have h2 : DataW.trod enc Try.prog W base spare held n 37 (([c0, c1, c2].drop 2).take (Try.prog.cellsOf 37)) = some x2 := hg 2 _ rfl
  rw [Try.cellsI] at h0
  rw [Try.cellsB] at h1
  rw [Try.cellsStrs] at h2
  obtain ⟨a, ea, _, wa⟩ := DataW.trod_int Try.underlying3 h0
  obtain ⟨k, ek, _⟩ := DataW.trod_bool Try.underlying4 h1
  obtain ⟨u, l, eu, hS, hfit, hlen, _⟩ := trod_strs h2
  simp at ea ek eu
  subst ea ek eu
  exact ⟨⟨a, k, l⟩, c2, hcs, StrsIn.of hS (by unfold maxLen at hlen; omega)⟩

set_option maxRecDepth 100000 in
theorem trod_frs {fuel : Nat} {cs : List Value} {x : DataW H × List MemPlace} (h : DataW.trod enc Try.prog W base spare held fuel 32 cs = some x) :
    ∃ (u : Value) (l : List Fr), cs = [u] ∧ FrsIn (fun _ => True) W u l := by
  rcases Go.Deep.open_slice Try.underlying32 h with ⟨rfl, rfl⟩ | ⟨a, len, cap, m, n, D, Pl, rfl, hb, hl, hm, hmm, rfl, hx⟩
  · exact ⟨_, [], rfl, FrsIn.nil _ W⟩
  · have hlm : len ≤ m := by rw [hmm]; split <;> omega
    rw [Try.cellsFrm] at hx
    have each : ∀ i, i < len → ∃ q : Fr × Value, StrsIn (fun _ => True) W q.2 q.1.parts ∧ ∀ j u, [Value.int .i64 q.1.time, .bool q.1.key, q.2][j]? = some u → W.cell? (a.add (i * 3 + j)) = some u := fun i hi => by
      obtain ⟨cs', h1, h2⟩ := hx i (by omega)
      obtain ⟨f, u, hs, hw⟩ := trod_frm h2
      refine ⟨(f, u), hw, fun j y hj => ?_⟩
      obtain ⟨_, hl3, hc⟩ := World.cells?_some h1
      have hj3 : j < 3 := by
        have := (List.getElem?_eq_some_iff.1 hj).1
        simpa using this
      rw [← Go.Deep.add_add, hc j hj3, hs]
      simpa using hj
    obtain ⟨f, hf⟩ := Go.Deep.choose_lt each
    have hll : ((List.range len).map fun i => (f i).1).length = len := by simp
    refine ⟨_, (List.range len).map fun i => (f i).1, rfl, some a, cap, by rw [hll], by rw [hll]; omega, by unfold maxLen at hm; omega, fun k hk => ?_⟩
    rw [hll] at hk
    obtain ⟨b, off, spot⟩ := a
    have hc0 := (hf 0 (by omega)).2 0 _ rfl
    have hspot : spot = none := by simpa [Addr.add] using World.cell?_spot hc0
    subst hspot
    have hel : ((List.range len).map fun i => (f i).1)[k]?.getD Fr.zero = (f k).1 := by
      rw [List.getElem?_map, List.getElem?_range hk]; rfl
    rw [hel]
    have g : ∀ j u, [Value.int .i64 (f k).1.time, .bool (f k).1.key, (f k).2][j]? = some u → W.cell? ⟨b, off + k * 3 + j, none⟩ = some u := fun j u hj => by
      have := (hf k hk).2 j u hj
      rw [Addr.add_lit, ← Nat.add_assoc] at this
      exact this
    exact ⟨b, off, rfl, by simpa [Addr.add] using World.block_lt_of_cell? W _ hc0, trivial, (f k).2, g 0 _ rfl, g 1 _ rfl, g 2 _ rfl, (hf k hk).1⟩

set_option maxRecDepth 100000 in
theorem op_frs (hval : Value.okWide Try.prog W r b0 32 v) (h : DataW.Trod enc Try.prog W base spare held 32 v d p) :
    ∃ l : List Fr, FrsIn (fun _ => True) W v l := by
  obtain ⟨a, len, cap, rfl⟩ := okWide_slice Try.underlying32 hval
  obtain ⟨fuel, hf⟩ := h
  obtain ⟨u, l, eu, hS⟩ := trod_frs hf
  simp [Value.cells] at eu
  subst eu
  exact ⟨l, hS⟩

set_option maxRecDepth 100000 in
theorem op_grp (hval : Value.okWide Try.prog W r b0 34 v) (h : DataW.Trod enc Try.prog W base spare held 34 v d p) :
    ∃ (u : Value) (l : List Fr), v = .agg #[u] ∧ FrsIn (fun _ => True) W u l := by
  obtain ⟨cs, rfl, _⟩ := okWide_struct Try.underlying34 hval
  obtain ⟨fuel, hf⟩ := h
  obtain ⟨xs, n, _, _, hl, hxl, hg⟩ := DataW.trod_struct Try.underlying34 hf
  rw [Try.cellsGrp] at hl
  obtain ⟨c0, hcs⟩ := list1 hl
  obtain ⟨x0, rfl⟩ := list1 (show xs.length = 1 from hxl)
  rw [hcs] at hg
  have h0 : DataW.trod enc Try.prog W base spare held n 32 (([c0].drop 0).take (Try.prog.cellsOf 32)) = some x0 := hg 0 _ rfl
  rw [Try.cellsFrs] at h0
  obtain ⟨u, l, eu, hS⟩ := trod_frs h0
  simp at eu
  subst eu
  refine ⟨c0, l, ?_, hS⟩
  have : cs = #[c0] := by
    apply Array.ext'
    simpa [Value.cells] using hcs
  rw [this]
end
end Go.Proofs.Ytnpaejknoipicae

namespace Go.Proofs.Ytnpaejknoipicae
open Go.ChangeShapes Go.WideShapes Go.ChangeAt Go.RowKit

section
variable {H : Type} {enc : TypeId × Value → H} {W : World} {r : Reach} {b0 base : Nat} {spare : Nat → Bool} {held : Bool} {v : Value} {d : DataW H} {p : List MemPlace}

theorem Try.cellsGrs : Try.prog.cellsOf 31 = 1 := by kernel_rfl
theorem Try.cellsStore : Try.prog.cellsOf 36 = 3 := by kernel_rfl
theorem Try.cellsIntS : Try.prog.cellsOf 3 = 1 := by kernel_rfl

set_option maxRecDepth 100000 in
theorem trod_grp {fuel : Nat} {cs : List Value} {x : DataW H × List MemPlace} (h : DataW.trod enc Try.prog W base spare held fuel 34 cs = some x) :
    ∃ (u : Value) (l : List Fr), cs = [u] ∧ FrsIn (fun _ => True) W u l := by
  obtain ⟨xs, n, _, _, hl, hxl, hg⟩ := DataW.trod_struct Try.underlying34 h
  rw [Try.cellsGrp] at hl
  obtain ⟨c0, hcs⟩ := list1 hl
  obtain ⟨x0, rfl⟩ := list1 (show xs.length = 1 from hxl)
  rw [hcs] at hg
  have h0 : DataW.trod enc Try.prog W base spare held n 32 (([c0].drop 0).take (Try.prog.cellsOf 32)) = some x0 := hg 0 _ rfl
  rw [Try.cellsFrs] at h0
  obtain ⟨u, l, eu, hS⟩ := trod_frs h0
  simp at eu
  subst eu
  exact ⟨c0, l, hcs, hS⟩

set_option maxRecDepth 100000 in
theorem trod_grs {fuel : Nat} {cs : List Value} {x : DataW H × List MemPlace} (h : DataW.trod enc Try.prog W base spare held fuel 31 cs = some x) :
    ∃ (u : Value) (L : List (List Fr)), cs = [u] ∧ GrsIn (fun _ => True) W u L := by
  rcases Go.Deep.open_slice Try.underlying31 h with ⟨rfl, rfl⟩ | ⟨a, len, cap, m, n, D, Pl, rfl, hb, hl, hm, hmm, rfl, hx⟩
  · exact ⟨_, [], rfl, GrsIn.nil _ W⟩
  · have hlm : len ≤ m := by rw [hmm]; split <;> omega
    rw [Try.cellsGrp] at hx
    have each : ∀ i, i < len → ∃ q : List Fr × Value, FrsIn (fun _ => True) W q.2 q.1 ∧ W.cell? (a.add i) = some q.2 := fun i hi => by
      obtain ⟨cs', h1, h2⟩ := hx i (by omega)
      obtain ⟨u, l, hs, hw⟩ := trod_grp h2
      refine ⟨(l, u), hw, ?_⟩
      obtain ⟨_, hl1, hc⟩ := World.cells?_some h1
      have := hc 0 (by omega)
      rw [hs, Go.Deep.add_add] at this
      simpa using this
    obtain ⟨f, hf⟩ := Go.Deep.choose_lt each
    have hll : ((List.range len).map fun i => (f i).1).length = len := by simp
    refine ⟨_, (List.range len).map fun i => (f i).1, rfl, some a, cap, by rw [hll], by rw [hll]; omega, by unfold maxLen at hm; omega, fun k hk => ?_⟩
    rw [hll] at hk
    obtain ⟨b, off, spot⟩ := a
    have hc0 := (hf 0 (by omega)).2
    have hspot : spot = none := by simpa [Addr.add] using World.cell?_spot hc0
    subst hspot
    have hel : ((List.range len).map fun i => (f i).1)[k]?.getD [] = (f k).1 := by
      rw [List.getElem?_map, List.getElem?_range hk]; rfl
    rw [hel]
    have g : W.cell? ⟨b, off + k, none⟩ = some (f k).2 := by
      have := (hf k hk).2
      rw [Addr.add_lit] at this
      exact this
    exact ⟨b, off, rfl, by simpa [Addr.add] using World.block_lt_of_cell? W _ hc0, trivial, (f k).2, g, (hf k hk).1⟩

set_option maxRecDepth 100000 in
theorem op_store (hval : Value.okWide Try.prog W r b0 36 v) (h : DataW.Trod enc Try.prog W base spare held 36 v d p) :
    ∃ (first : Int) (gv ov : Value) (L : List (List Fr)) (O : List Fr), v = .agg #[.int .i64 first, gv, ov] ∧ (Lit.int .i64 first).wf = true ∧ GrsIn (fun _ => True) W gv L ∧ FrsIn (fun _ => True) W ov O := by
  obtain ⟨cs, rfl, _⟩ := okWide_struct Try.underlying36 hval
  obtain ⟨fuel, hf⟩ := h
  obtain ⟨xs, n, _, _, hl, hxl, hg⟩ := DataW.trod_struct Try.underlying36 hf
  rw [Try.cellsStore] at hl
  obtain ⟨c0, c1, c2, hcs⟩ := list3 hl
  obtain ⟨x0, x1, x2, rfl⟩ := list3 (show xs.length = 3 from hxl)
  rw [hcs] at hg
  have h0 : DataW.trod enc Try.prog W base spare held n 3 (([c0, c1, c2].drop 0).take (Try.prog.cellsOf 3)) = some x0 := hg 0 _ rfl
  have h1 : DataW.trod enc Try.prog W base spare held n 31 (([c0, c1, c2].drop 1).take (Try.prog.cellsOf 31)) = some x1 := hg 1 _ rfl
  have h2 : DataW.trod enc Try.prog W base spare held n 34 (([c0, c1, c2].drop 2).take (Try.prog.cellsOf 34)) = some x2 := hg 2 _ rfl
  rw [Try.cellsIntS] at h0
  rw [Try.cellsGrs] at h1
  rw [Try.cellsGrp] at h2
  obtain ⟨a, ea, _, wa⟩ := DataW.trod_int Try.underlying3 h0
  obtain ⟨u1, L, eu1, hL⟩ := trod_grs h1
  obtain ⟨u2, O, eu2, hO⟩ := trod_grp h2
  simp at ea eu1 eu2
  subst ea eu1 eu2
  refine ⟨a, c1, c2, L, O, ?_, wa, hL, hO⟩
  have : cs = #[.int .i64 a, c1, c2] := by
    apply Array.ext'
    simpa [Value.cells] using hcs
  rw [this]
end
end Go.Proofs.Ytnpaejknoipicae

namespace Go.Proofs.Ytnpaejknoipicae
open Go.ChangeShapes Go.WideShapes Go.ChangeAt Go.RowKit

section
variable {H : Type} {enc : TypeId × Value → H} {W : World} {r : Reach} {b0 base : Nat} {spare : Nat → Bool} {held : Bool} {v : Value} {d : DataW H} {p : List MemPlace}

theorem Try.cellsIntC : Try.prog.cellsOf 3 = 1 := by kernel_rfl

theorem Try.cellsCur : Try.prog.cellsOf 41 = 3 := by kernel_rfl

set_option maxRecDepth 100000 in
theorem op_cur (hval : Value.okWide Try.prog W r b0 41 v) (h : DataW.Trod enc Try.prog W base spare held 41 v d p) :
    ∃ a b c : Int, v = .agg #[.int .i64 a, .int .i64 b, .int .i64 c] ∧ (Lit.int .i64 a).wf = true ∧ (Lit.int .i64 b).wf = true ∧ (Lit.int .i64 c).wf = true := by
  obtain ⟨cs, rfl, _⟩ := okWide_struct Try.underlying41 hval
  obtain ⟨fuel, hf⟩ := h
  obtain ⟨xs, n, _, _, hl, hxl, hf⟩ := DataW.trod_struct Try.underlying41 hf
  rw [Try.cellsCur] at hl
  obtain ⟨c0, c1, c2, hc⟩ := list3 hl
  obtain ⟨x0, x1, x2, rfl⟩ := list3 (show xs.length = 3 from hxl)
  rw [hc] at hf
  have h0 : DataW.trod enc Try.prog W base spare held n 3 (([c0, c1, c2].drop 0).take (Try.prog.cellsOf 3)) = some x0 := hf 0 _ rfl
  have h1 : DataW.trod enc Try.prog W base spare held n 3 (([c0, c1, c2].drop 1).take (Try.prog.cellsOf 3)) = some x1 := hf 1 _ rfl
  have h2 : DataW.trod enc Try.prog W base spare held n 3 (([c0, c1, c2].drop 2).take (Try.prog.cellsOf 3)) = some x2 := hf 2 _ rfl
  rw [Try.cellsIntC] at h0 h1 h2
  obtain ⟨a0, e0, _, w0⟩ := DataW.trod_int Try.underlying3 h0
  obtain ⟨a1, e1, _, w1⟩ := DataW.trod_int Try.underlying3 h1
  obtain ⟨a2, e2, _, w2⟩ := DataW.trod_int Try.underlying3 h2
  simp at e0 e1 e2
  subst e0 e1 e2
  refine ⟨a0, a1, a2, ?_, w0, w1, w2⟩
  have : cs = #[.int .i64 a0, .int .i64 a1, .int .i64 a2] := by
    apply Array.ext'
    simpa [Value.cells] using hc
  rw [this]

set_option maxRecDepth 100000 in
theorem op_bool (hval : Value.okWide Try.prog W r b0 4 v) (h : DataW.Trod enc Try.prog W base spare held 4 v d p) : ∃ a : Bool, v = .bool a := by
  obtain ⟨a, rfl, _⟩ := open_bool Try.underlying4 hval h
  exact ⟨a, rfl⟩
end
end Go.Proofs.Ytnpaejknoipicae

namespace Go.Proofs.Ytnpaejknoipicae
open Go.RowKit

/-- an operation of such a region -/
inductive Cb where
  | quiet (v : Value) (lim : Nat)
  | step (s : Nat)
  | fin (t : Nat) (f : Value → Value)
  | box
def cbAt (ks : List Cb) (i : Nat) : Cb := (ks[i]?).getD (.quiet undef 0)
def Cb.out (r : Nat → Value) (b : Option Nat) : Cb → Value
  | .quiet v _ => v
  | .step s => r s
  | .fin t f => f (r t)
  | .box => match b with
    | some g => .pointer (some ⟨g, 0, none⟩)
    | none => undef
def Cb.isBox : Cb → Bool
  | .box => true
  | _ => false
def putB (r : Nat → Value) (b : Option Nat) : List Cb → List Oper → Act → Act
  | d :: ks, o :: l, a => putB r b ks l (a.put o.dst (d.out r b))
  | _, _, a => a
/-- the steps' places; what waits for what -/
def boxOk (ks : List Cb) (l : List Oper) (st : List Nat) (bx n : Nat) : Bool :=
  decide (ks.length = l.length) && (l.all fun o => match o.dst with | some k => decide (k < n) | none => true) &&
  ((List.range st.length).all fun s => match st[s]? with
    | some i => decide (i < l.length) && (match cbAt ks i with | .step t => t == s | _ => false) && (s == 0 || (match st[s - 1]? with | some j => waits l i j | none => false))
    | none => false) &&
  ((List.range l.length).all fun i => match cbAt ks i with
    | .quiet _ lim => decide (st.length ≤ lim) || (match st[lim]? with | some j => waits l j i | none => false)
    | .step t => st[t]? == some i
    | .fin t _ => (List.range l.length).any fun j => waits l i j && (match cbAt ks j with | .step t' => t' == t | .fin t' _ => t' == t | _ => false)
    | .box => i == bx) && decide (bx < l.length) && (cbAt ks bx).isBox

section
variable {P : Program} {Q : Exit → Act → World → Prop}

structure RB (ks : List Cb) (l : List Oper) (n m bx : Nat) (I : Nat → (Nat → Value) → Option Nat → World → Prop) (ls : Nat → Bool) (vs : Nat → Value) (s : Nat) (r : Nat → Value) (b : Option Nat) (w' : World) : Prop where
  lt : ∀ i, ls i = true → i < n
  steps : ∀ i t, i < n → cbAt ks i = .step t → (ls i = true ↔ t < s)
  fins : ∀ i t f, ls i = true → cbAt ks i = .fin t f → t < s
  box : ls bx = true ↔ b.isSome = true
  vals : ∀ i, ls i = true → vs i = (cbAt ks i).out r b
  inv : I s r b w'
  le : s ≤ m
  closed : ∀ i j, ls j = true → waits l j i = true → ls i = true

theorem putB_all (L : Array Bool) (vs : Nat → Value) (r : Nat → Value) (b : Option Nat) : ∀ (l : List Oper) (k : Nat) (ks : List Cb) (a : Act), ks.length = l.length → (∀ i, i < l.length → L.getD (k + i) false = true) → (∀ i, i < l.length → vs (k + i) = (cbAt ks i).out r b) → putL L vs k l a = putB r b ks l a
  | [], _, [], _, _, _, _ => rfl
  | o :: l, k, d :: ks, a, hl, hL, hv => by
    simp only [putL, putB]
    rw [if_pos (by simpa using hL 0 (by simp)), show vs k = d.out r b by simpa [cbAt] using hv 0 (by simp)]
    refine putB_all L vs r b l (k + 1) ks _ (by simpa using hl) (fun i hi => ?_) (fun i hi => ?_)
    · have := hL (i + 1) (by simpa using hi)
      rw [show k + (i + 1) = k + 1 + i by omega] at this; exact this
    · have := hv (i + 1) (by simpa using hi)
      rw [show k + (i + 1) = k + 1 + i by omega] at this
      simpa [cbAt] using this

theorem region_box {id : Nat} {a : Act} {w : World} {l : List Oper} (hm : P.follows .mixedOrders = true) (hB : regOk l = true) (ks : List Cb) (st : List Nat) (bx : Nat) (hK : boxOk ks l st bx a.tmps.size = true)
    (I : Nat → (Nat → Value) → Option Nat → World → Prop) (h0 : I 0 (fun _ => undef) none { w with drawn := w.drawn + 1 })
    (hstep : ∀ i o, l[i]? = some o → ∀ (a' : Act) (w' : World) (s : Nat) (r : Nat → Value) (b : Option Nat), I s r b w' → (∀ s, (l.all fun o => o.dst != some s) = true → a'.eval (.tmp s) = a.eval (.tmp s)) → (∀ j oj k, waits l i j = true → l[j]? = some oj → oj.dst = some k → a'.eval (.tmp k) = (cbAt ks j).out r b) → (waits l i bx = true → b.isSome = true) →
      match cbAt ks i with
      | .quiet v lim => s ≤ lim → (execOp a'.eval o).run P w' = .ok (.value v) w'
      | .step t => s = t → o.wp P a' w' (fun a'' w'' => ∃ v, a'' = a'.put o.dst v ∧ I (t + 1) (updR r t v) b w'') Q
      | .fin t f => t < s → (execOp a'.eval o).run P w' = .ok (.value (f (r t))) w'
      | .box => b = none → ∃ ob, (execOp a'.eval o).run P w' = .ok (.value (.pointer (some ⟨w'.heap.size, 0, none⟩))) (w'.alloc ob) ∧ I s r (some w'.heap.size) (w'.alloc ob))
    (hend : ∀ (r : Nat → Value) (g : Nat) (w' : World), I st.length r (some g) w' → Q .normal (putB r (some g) ks l a) w') :
    (Code.region id l.toArray true).wp P Q a w := by
  simp only [boxOk, Bool.and_eq_true, decide_eq_true_eq] at hK
  obtain ⟨⟨⟨⟨⟨hlen, hdst⟩, hst⟩, hall⟩, hbl⟩, hbb⟩ := hK
  have hbk : cbAt ks bx = .box := by cases h : cbAt ks bx <;> rw [h] at hbb <;> first | rfl | cases hbb
  have hap : dstsApart l = true := by simp only [regOk, Bool.and_eq_true] at hB; exact hB.1.1
  have hal : ∀ i, i < l.length → _ := fun i hi => List.all_eq_true.1 hall i (List.mem_range.2 hi)
  have hsl : ∀ s, s < st.length → _ := fun s hs => List.all_eq_true.1 hst s (List.mem_range.2 hs)
  have hstp : ∀ s, s < st.length → ∃ i, st[s]? = some i ∧ i < l.length ∧ cbAt ks i = .step s ∧ (0 < s → ∃ j, st[s - 1]? = some j ∧ waits l i j = true) := fun s hs => by
    have h := hsl s hs
    have e : st[s]? = some st[s] := List.getElem?_eq_getElem hs
    rw [e] at h
    simp only [Bool.and_eq_true, decide_eq_true_eq, Bool.or_eq_true, beq_iff_eq] at h
    refine ⟨st[s], e, h.1.1, ?_, fun h0 => ?_⟩
    · have h2 := h.1.2
      cases hk : cbAt ks st[s] with
      | quiet v lim => rw [hk] at h2; cases h2
      | fin t f => rw [hk] at h2; cases h2
      | box => rw [hk] at h2; cases h2
      | step t => rw [hk] at h2; simp at h2; rw [h2]
    · have h3 := h.2
      rcases h3 with h3 | h3
      · omega
      · have e2 : st[s - 1]? = some st[s - 1] := List.getElem?_eq_getElem (by omega)
        rw [e2] at h3
        exact ⟨_, e2, h3⟩
  have hst2 : ∀ i t, i < l.length → cbAt ks i = .step t → st[t]? = some i := fun i t hi hk => by
    have h := hal i hi
    rw [hk] at h
    simpa using h
  refine wp_region_inv hm hB (fun L vs w' => ∃ s r b, RB ks l l.length st.length bx I (fun j => L.getD j false) vs s r b w') ?_ ?_ ?_
  · have hno : ∀ j, ¬ (Array.replicate l.length false).getD j false = true := fun j => by
      simp [Array.getD_eq_getD_getElem?, Array.getElem?_replicate]; split <;> simp
    exact ⟨0, fun _ => undef, none, fun i h => absurd h (hno i), fun i t _ _ => ⟨fun h => absurd h (hno i), fun h => absurd h (Nat.not_lt_zero _)⟩, fun i _ _ h => absurd h (hno i), ⟨fun h => absurd h (hno bx), fun h => by cases h⟩, fun i h => absurd h (hno i), h0, Nat.zero_le _, fun _ j h => absurd h (hno j)⟩
  · rintro L vs w' ⟨s, r, b, F⟩ i o ho hL hr
    have hi : i < l.length := (List.getElem?_eq_some_iff.1 ho).1
    have ni : L.getD i false = false := by simpa using listed_no hL
    have hset := setfun hL
    have hwt : ∀ j, waits l i j = true → L.getD j false = true := fun j hw => waits_spec hw ho hr
    have hfree : ∀ s, (l.all fun o => o.dst != some s) = true → (putL L vs 0 l a).eval (.tmp s) = a.eval (.tmp s) := fun s hs => putL_other l 0 a (fun p hp t ht e => by
      injection e with e
      subst e
      have := List.all_eq_true.1 hs p hp
      rw [ht] at this
      simp at this)
    have hvals : ∀ j oj k, waits l i j = true → l[j]? = some oj → oj.dst = some k → (putL L vs 0 l a).eval (.tmp k) = (cbAt ks j).out r b := fun j oj k hw hoj hk => by
      have h1 := hwt j hw
      have hk2 := List.all_eq_true.1 hdst oj (List.mem_of_getElem? hoj)
      rw [hk] at hk2
      rw [putL_at h1 l 0 a oj hap (Nat.zero_le _) (by simpa using hoj) hk (by simpa using hk2)]
      exact F.vals j h1
    have hs := hstep i o ho (putL L vs 0 l a) w' s r b F.inv hfree hvals (fun hw => F.box.1 (hwt bx hw))
    rw [hset]
    obtain ⟨ls, hls⟩ : ∃ ls : Nat → Bool, ls = fun j => L.getD j false := ⟨_, rfl⟩
    have hlsj : ∀ j, L.getD j false = ls j := fun j => by rw [hls]
    simp only [hlsj] at F ni hwt ⊢
    have hlt' : ∀ j, (decide (j = i) || ls j) = true → j < l.length := fun j hj => by
      simp only [Bool.or_eq_true, decide_eq_true_eq] at hj
      rcases hj with rfl | hj
      · exact hi
      · exact F.lt j hj
    have hcl : ∀ p j, (decide (j = i) || ls j) = true → waits l j p = true → (decide (p = i) || ls p) = true := fun p j hj hw => by
      simp only [Bool.or_eq_true, decide_eq_true_eq] at hj ⊢
      rcases hj with rfl | hj
      · exact .inr (hwt p hw)
      · exact .inr (F.closed p j hj hw)
    have hbne : ∀ k, cbAt ks i = k → k.isBox = false → bx ≠ i := fun k h1 h2 e => by subst e; rw [hbk] at h1; subst h1; cases h2
    have hbxs : ∀ k, cbAt ks i = k → k.isBox = false → ((decide (bx = i) || ls bx) = true ↔ b.isSome = true) := fun k h1 h2 => by
      have := hbne k h1 h2
      simpa [this] using F.box
    have plain : ∀ (k : Cb) (v : Value), cbAt ks i = k → k.isBox = false → (∀ t, k ≠ .step t) → (∀ t f, k = .fin t f → t < s) → k.out r b = v → ∃ s r b, RB ks l l.length st.length bx I (fun j => decide (j = i) || ls j) (upd vs i v) s r b w' := fun k v hk h1 h2 h3 h4 => by
      refine ⟨s, r, b, hlt', ?_, ?_, hbxs k hk h1, ?_, F.inv, F.le, hcl⟩
      · intro j t hj hjk
        have e : j ≠ i := fun e => by subst e; rw [hk] at hjk; exact h2 t hjk
        simpa [e] using F.steps j t hj hjk
      · intro j t f hj hjk
        by_cases e : j = i
        · subst e; rw [hk] at hjk; exact h3 t f hjk
        · exact F.fins j t f (by simpa [e] using hj) hjk
      · intro j hj
        by_cases e : j = i
        · subst e; rw [upd_at, hk, h4]
        · rw [upd_ne e]; exact F.vals j (by simpa [e] using hj)
    cases hk : cbAt ks i with
    | fin t f =>
      rw [hk] at hs
      have hts : t < s := by
        have h := hal i hi
        rw [hk] at h
        obtain ⟨j, hjm, hj⟩ := List.any_eq_true.1 h
        simp only [Bool.and_eq_true] at hj
        have hjl := hwt j hj.1
        have h2 := hj.2
        cases hkj : cbAt ks j with
        | quiet v lim => rw [hkj] at h2; cases h2
        | box => rw [hkj] at h2; cases h2
        | step t' => rw [hkj] at h2; simp at h2; subst h2; exact (F.steps j t' (F.lt j hjl) hkj).1 hjl
        | fin t' f' => rw [hkj] at h2; simp at h2; subst h2; exact F.fins j t' f' hjl hkj
      exact oper_wp_ok (hs hts) ⟨_, rfl, plain (.fin t f) _ hk rfl (fun _ e => by cases e) (fun t' f' e => by injection e with e1; omega) rfl⟩
    | box =>
      rw [hk] at hs
      have hib : i = bx := by
        have h := hal i hi
        rw [hk] at h
        simpa using h
      subst hib
      have hb0 : b = none := by
        cases b with
        | none => rfl
        | some g => have := F.box.2 rfl; rw [this] at ni; cases ni
      subst hb0
      obtain ⟨ob, h1, h2⟩ := hs rfl
      refine oper_wp_ok h1 ⟨_, rfl, s, r, some w'.heap.size, hlt', ?_, ?_, ⟨fun _ => rfl, fun _ => by simp⟩, ?_, h2, F.le, hcl⟩
      · intro j t hj hjk
        have e : j ≠ i := fun e => by subst e; rw [hk] at hjk; cases hjk
        simpa [e] using F.steps j t hj hjk
      · intro j t f hj hjk
        have e : j ≠ i := fun e => by subst e; rw [hk] at hjk; cases hjk
        exact F.fins j t f (by simpa [e] using hj) hjk
      · intro j hj
        by_cases e : j = i
        · subst e; rw [upd_at, hk]; rfl
        · have hlj : ls j = true := by simpa [e] using hj
          rw [upd_ne e, F.vals j hlj]
          have hjb : cbAt ks j ≠ .box := fun e' => by
            have h := hal j (F.lt j hlj)
            rw [e'] at h
            exact e (by simpa using h)
          cases hkj : cbAt ks j with
          | quiet v' lim' => rfl
          | step t' => rfl
          | fin t' f' => rfl
          | box => exact absurd hkj hjb
    | quiet v lim =>
      rw [hk] at hs
      have hle : s ≤ lim := by
        have h := hal i hi
        rw [hk] at h
        simp only [Bool.or_eq_true, decide_eq_true_eq] at h
        rcases h with h | h
        · exact Nat.le_trans F.le h
        · by_cases hlt : s ≤ lim
          · exact hlt
          · exfalso
            have hll : lim < st.length := by have := F.le; omega
            obtain ⟨j, e1, e2, e3, _⟩ := hstp lim hll
            rw [e1] at h
            have hlj := (F.steps j lim e2 e3).2 (by omega)
            rw [F.closed i j hlj h] at ni
            cases ni
      exact oper_wp_ok (hs hle) ⟨v, rfl, plain (.quiet v lim) v hk rfl (fun _ e => by cases e) (fun _ _ e => by cases e) rfl⟩
    | step t =>
      rw [hk] at hs
      have hti := hst2 i t hi hk
      have htl : t < st.length := (List.getElem?_eq_some_iff.1 hti).1
      have hst' : s = t := by
        have h1 : ¬ t < s := fun h => by rw [(F.steps i t hi hk).2 h] at ni; cases ni
        by_cases h0 : t = 0
        · omega
        · obtain ⟨i', e1, e2, e3, e4⟩ := hstp t htl
          rw [hti] at e1
          injection e1 with e1
          subst e1
          obtain ⟨j, q1, q2⟩ := e4 (by omega)
          obtain ⟨j', r1, r2, r3, _⟩ := hstp (t - 1) (by omega)
          rw [q1] at r1
          injection r1 with r1
          subst r1
          have := (F.steps j (t - 1) r2 r3).1 (hwt j q2)
          omega
      subst hst'
      refine Oper.wp_mono ?_ (hs rfl)
      rintro a'' w'' ⟨v, h1, h2⟩
      refine ⟨v, h1, s + 1, updR r s v, b, hlt', ?_, ?_, hbxs _ hk rfl, ?_, h2, htl, hcl⟩
      · intro j t' hj hjk
        by_cases e : j = i
        · subst e
          rw [hk] at hjk
          injection hjk with hjk
          subst hjk
          simp
        · have h3 := F.steps j t' hj hjk
          have hne : t' ≠ s := fun e' => by
            subst e'
            have := hst2 j t' hj hjk
            rw [hti] at this
            injection this with this
            exact e this.symm
          simp only [e, decide_false, Bool.false_or]
          rw [h3]; omega
      · intro j t' f hj hjk
        have e : j ≠ i := fun e => by subst e; rw [hk] at hjk; cases hjk
        have := F.fins j t' f (by simpa [e] using hj) hjk
        omega
      · intro j hj
        by_cases e : j = i
        · subst e; rw [upd_at, hk]; exact (updR_at r s v).symm
        · have hlj : ls j = true := by simpa [e] using hj
          rw [upd_ne e, F.vals j hlj]
          cases hkj : cbAt ks j with
          | quiet v' lim' => rfl
          | box => rfl
          | fin t' f' =>
            have := F.fins j t' f' hlj hkj
            exact congrArg f' (updR_ne (by omega)).symm
          | step t' =>
            have := (F.steps j t' (F.lt j hlj) hkj).1 hlj
            exact (updR_ne (by omega)).symm
  · rintro L vs w' ⟨s, r, b, F⟩ hlst
    have hs : s = st.length := by
      by_cases h : s < st.length
      · obtain ⟨i, e1, e2, e3, _⟩ := hstp s h
        have := (F.steps i s e2 e3).1 (hlst i e2)
        omega
      · have := F.le; omega
    subst hs
    obtain ⟨g, hg⟩ : ∃ g, b = some g := Option.isSome_iff_exists.1 (F.box.1 (hlst bx hbl))
    subst hg
    rw [putB_all L vs r (some g) l 0 ks a hlen (fun i hi => by rw [Nat.zero_add]; exact hlst i hi) (fun i hi => by rw [Nat.zero_add]; exact F.vals i (hlst i hi))]
    exact hend r g w' F.inv
end
end Go.Proofs.Ytnpaejknoipicae

namespace Go.Proofs.Ytnpaejknoipicae
open Go.RowKit

theorem FrsIn.two {S : Nat → Prop} {w : World} {b : Nat} {f : Fr} {pv : Value} (hb : Blk w b #[.int .i64 f.time, .bool f.key, pv] 39) (hS : S b) (hp : StrsIn S w pv f.parts) : FrsIn S w (.slice (some ⟨b, 0, none⟩) 1 1) [f] := FrsIn.one hb hS hp

/-- what is known behind each step -/
def AddI (w1 : World) (f : Fr) (pa : Option Addr) (pn pc : Nat) (oa : Option Addr) (lo oc : Nat) (X : List Fr) (C : List (List Fr)) (R : List Fr) (E : Int) (s : Nat) (r : Nat → Value) (b : Option Nat) (w' : World) : Prop :=
  Below w1.heap.size w1 w' ∧ (s ≤ 4 → ∀ g, b = some g → w1.heap.size ≤ g ∧ Blk w' g #[.slice none 0 0] 34) ∧ match s with
    | 0 => True
    | 1 => ∃ g1, r 0 = .slice (some ⟨g1, 0, none⟩) 1 1 ∧ Blk w' g1 #[.int .i64 f.time, .bool f.key, .slice pa pn pc] 39
    | 2 => ∃ g1 g2, r 1 = .slice (some ⟨g2, 0, none⟩) 2 2 ∧ Blk w' g1 #[.int .i64 f.time, .bool f.key, .slice pa pn pc] 39 ∧ Blk w' g2 #[.slice oa lo oc, .slice (some ⟨g1, 0, none⟩) 1 1] 32
    | 3 => FrsIn (fun _ => True) w' (r 2) X
    | 4 => ∃ ca cc fa fc, r 3 = .tuple #[.slice ca C.length cc, .agg #[.slice fa R.length fc], .int .i64 E] ∧ GrsIn (fun x => b ≠ some x ∧ w1.heap.size ≤ x) w' (.slice ca C.length cc) C ∧ FrsIn (fun x => b ≠ some x ∧ w1.heap.size ≤ x) w' (.slice fa R.length fc) R
    | _ => ∃ g ca cc fa fc, b = some g ∧ w1.heap.size ≤ g ∧ r 3 = .tuple #[.slice ca C.length cc, .agg #[.slice fa R.length fc], .int .i64 E] ∧ GrsIn (fun x => b ≠ some x ∧ w1.heap.size ≤ x) w' (.slice ca C.length cc) C ∧ FrsIn (fun x => b ≠ some x ∧ w1.heap.size ≤ x) w' (.slice fa R.length fc) R ∧ Blk w' g #[.slice fa R.length fc] 34

theorem AddI.box {w1 : World} {f : Fr} {pa : Option Addr} {pn pc : Nat} {oa : Option Addr} {lo oc : Nat} {X : List Fr} {C : List (List Fr)} {R : List Fr} {E : Int} {s : Nat} {r : Nat → Value} {w' : World} (h : AddI w1 f pa pn pc oa lo oc X C R E s r none w') : AddI w1 f pa pn pc oa lo oc X C R E s r (some w'.heap.size) (w'.alloc (.cells #[.slice none 0 0] 34)) := by
  obtain ⟨h1, _, h3⟩ := h
  refine ⟨h1.alloc h1.size _, fun _ g hg => by injection hg with hg; subst hg; exact ⟨h1.size, Blk.new _ _ _⟩, ?_⟩
  match s, h3 with
  | 0, _ => trivial
  | 1, ⟨g1, e1, e2⟩ => exact ⟨g1, e1, e2.alloc _⟩
  | 2, ⟨g1, g2, e1, e2, e3⟩ => exact ⟨g1, g2, e1, e2.alloc _, e3.alloc _⟩
  | 3, h => exact FrsIn.alloc h _
  | 4, ⟨ca, cc, fa, fc, e1, e2, e3⟩ => exact ⟨ca, cc, fa, fc, e1, (e2.mono fun g hg h => ⟨fun e => (by injection e with e; omega), h.2⟩).alloc _, (e3.mono fun g hg h => ⟨fun e => (by injection e with e; omega), h.2⟩).alloc _⟩
  | _ + 5, ⟨g, _, _, _, _, e, _⟩ => cases e

end Go.Proofs.Ytnpaejknoipicae

namespace Go.Proofs.Ytnpaejknoipicae
open Go.RowKit

/-- what the frames of a right group make: that group -/
theorem upG_group {O : List Fr} (h : O = [] ∨ gchk O = 0) : ∀ k, k ≤ O.length → upG O k = ([], O.take k) := by
  rcases h with h | h
  · subst h; intro k hk
    have : k = 0 := by simpa using hk
    subst this; rfl
  · obtain ⟨_, h6, hc⟩ := gchk_zero.1 h
    intro k
    induction k with
    | zero => intro _; rfl
    | succ k ih =>
      intro hk
      rw [upG_succ O k (by omega), ih (by omega), take_one (by omega) Fr.zero]
      have hin := (hc k (by omega)).2
      unfold inPl at hin
      by_cases h0 : k = 0
      · subst h0
        rw [if_pos rfl] at hin
        simp [stepG, growG, hin]
      · rw [if_neg h0] at hin
        simp only [Bool.and_eq_true, Bool.not_eq_true', decide_eq_true_eq] at hin
        have hl : (O.take k).length = k := by simp; omega
        have hlast : frAt (O.take k) (k - 1) = frAt O (k - 1) := by
          unfold frAt; rw [List.getElem?_take_of_lt (by omega)]
        simp only [stepG, hin.1, Bool.false_and, Bool.false_eq_true, if_false]
        unfold growG
        rw [if_neg (by rw [hin.1]; simp), hl, hlast, if_neg (by omega)]
theorem groups_more {O : List Fr} {f : Fr} (h : O = [] ∨ gchk O = 0) (hf : f.chk = 0) : groupsE (O ++ [f]) = 0 ∧ groupsR (O ++ [f]) = (if f.key && decide (0 < O.length) then [O] else [], growG O f) := by
  have hO6 : O.length ≤ 6 := by
    rcases h with h | h
    · rw [h]; simp
    · exact (gchk_zero.1 h).2.1
  have hok : ∀ k, k < (O ++ [f]).length → (frAt (O ++ [f]) k).chk = 0 := fun k hk => by
    by_cases hkl : k < O.length
    · have e : frAt (O ++ [f]) k = frAt O k := by unfold frAt; rw [List.getElem?_append_left hkl]
      rw [e]
      rcases h with h | h
      · rw [h] at hkl; simp at hkl
      · exact ((gchk_zero.1 h).2.2 k hkl).1
    · have : k = O.length := by simp at hk; omega
      subst this
      have e : frAt (O ++ [f]) O.length = f := by unfold frAt; simp
      rw [e]; exact hf
  have hE : groupsE (O ++ [f]) = 0 := by
    unfold groupsE
    rw [if_neg (by simp; omega)]
    exact goN_all _ _ (fun j _ hj => hok j (by omega))
  refine ⟨hE, ?_⟩
  unfold groupsR
  rw [if_pos hE]
  have h1 : upG (O ++ [f]) (O ++ [f]).length = stepG (upG O O.length) f := by
    unfold upG
    rw [List.take_length, List.take_length, List.foldl_append]; rfl
  rw [h1, upG_group h O.length (Nat.le_refl _), List.take_length]
  simp [stepG]

set_option maxHeartbeats 8000000 in
set_option maxRecDepth 100000 in
theorem keeperAdd_any (M : Nat) (first : Int) (gv ov pv : Value) (L : List (List Fr)) (O : List Fr) (f : Fr) (w : World) (hM : Blk w M #[.int .i64 first, gv, ov] 82) (hg : GrsIn (fun g => g ≠ M) w gv L) (ho : FrsIn (fun g => g ≠ M) w ov O) (hp : StrsIn (fun g => g ≠ M) w pv f.parts)
    (hL : L.length ≤ 5) (hLr : ∀ g ∈ L, gchk g = 0) (hOr : O = [] ∨ gchk O = 0) (hf : f.chk = 0) (hf0 : 0 ≤ first) (hf1 : first ≤ 100000) (C : List (List Fr)) (hC : C = if f.key && decide (0 < O.length) then [O] else []) :
    Calls Try.prog 45 #[.pointer (some ⟨M, 0, none⟩), .agg #[.int .i64 f.time, .bool f.key, pv]] w fun e w' => e = .returned (.bool (decide (0 < C.length))) ∧ ∃ gv' ov', Blk w' M #[.int .i64 (first + trimD (L ++ C)), gv', ov'] 82 ∧ GrsIn (fun g => w.heap.size ≤ g) w' gv' ((L ++ C).drop (trimD (L ++ C))) ∧ FrsIn (fun g => w.heap.size ≤ g) w' ov' (growG O f) ∧ Kept [M] w w' := by
  obtain ⟨hE, hR⟩ := groups_more hOr hf
  rw [← hC] at hR
  obtain ⟨R, hRR⟩ : ∃ R, R = growG O f := ⟨_, rfl⟩
  rw [← hRR] at hR
  obtain ⟨ga, gc, eg, _, _⟩ := hg.len
  obtain ⟨oa, oc, eo, _, _⟩ := ho.len
  obtain ⟨pa, pc, ep⟩ := hp.1.len
  obtain ⟨ln, hln⟩ : ∃ n, n = L.length := ⟨_, rfl⟩
  obtain ⟨lo, hlo⟩ : ∃ n, n = O.length := ⟨_, rfl⟩
  obtain ⟨pn, hpn⟩ : ∃ n, n = f.parts.length := ⟨_, rfl⟩
  rw [← hln] at eg
  rw [← hlo] at eo
  rw [← hpn] at ep
  have hO6 : O.length ≤ 6 := by
    rcases hOr with h | h
    · rw [h]; simp
    · exact (gchk_zero.1 h).2.1
  have hC1 : C.length ≤ 1 := by rw [hC]; split <;> simp
  have HX : Hid (∀ (U : World) (x : Value), FrsIn (fun _ => True) U x (O ++ [f]) → Calls Try.prog 57 #[x] U fun e w'' => ∃ ca cc fa fc, e = .returned (.tuple #[.slice ca C.length cc, .agg #[.slice fa R.length fc], .int .i64 0]) ∧ GrsIn (fun g => U.heap.size ≤ g) w'' (.slice ca C.length cc) C ∧ FrsIn (fun g => U.heap.size ≤ g) w'' (.slice fa R.length fc) R ∧ Below U.heap.size U w'') := fun U x hx => by
    have := groupAll_any x (O ++ [f]) U _ hx
    rw [hE, hR] at this
    exact this
  have HG : Hid (GrsIn (fun g => g ≠ M) w gv L) := hg
  have HO : Hid (FrsIn (fun g => g ≠ M) w ov O) := ho
  have HP : Hid (StrsIn (fun g => g ≠ M) w pv f.parts) := hp
  have HM : Hid (Blk w M #[.int .i64 first, gv, ov] 82) := hM
  have HLR : Hid (∀ g ∈ L, gchk g = 0) := hLr
  have HO6 : Hid (O.length ≤ 6) := hO6
  have HLO : Hid (lo = O.length) := hlo
  have hMw : M < w.heap.size := hM.lt
  rw [← hRR]
  clear hE hR hg ho hp hM hLr hOr hf hRR hC hln hpn hlo
  subst eg eo ep
  go_enter Try.func45, Try.ntmps45
  go_wp2_with fail
  obtain ⟨w1, hw1⟩ : ∃ w1, w1 = w.alloc (.cells #[.int .i64 f.time, .bool f.key, .slice pa pn pc] 39) := ⟨_, rfl⟩
  have B1 : Below w.heap.size w w1 := by rw [hw1]; exact (Below.refl _ _).alloc (Nat.le_refl _) _
  have KF : Blk w1 w.heap.size #[.int .i64 f.time, .bool f.key, .slice pa pn pc] 39 := by rw [hw1]; exact Blk.new _ _ _
  have KM : Blk w1 M #[.int .i64 first, .slice ga ln gc, .slice oa lo oc] 82 := HM.out.below B1 hMw
  have hw1s : w1.heap.size = w.heap.size + 1 := by rw [hw1]; simp
  rw [← hw1]
  have BB1 : Hid (Below w.heap.size w w1) := B1
  have KMH : Hid (Blk w1 M #[.int .i64 first, .slice ga ln gc, .slice oa lo oc] 82) := KM
  clear hw1 B1
  refine region_box (by kernel_rfl) (by kernel_rfl) [.quiet (.pointer (some ⟨M, 0, none⟩)) 5, .quiet (.pointer (some ⟨M, 0, none⟩)) 5, .quiet (.pointer (some ⟨M, 0, none⟩)) 5, .quiet (.pointer (some ⟨M, 2, none⟩)) 5, .quiet (.pointer (some ⟨M, 2, none⟩)) 5, .quiet (.slice oa lo oc) 5, .quiet (.agg #[.int .i64 f.time, .bool f.key, .slice pa pn pc]) 5, .step 0, .step 1, .step 2, .step 3, .fin 3 (fun x => x), .fin 3 (exT 0), .fin 3 (exT 1), .fin 3 (exT 2), .box, .fin 3 (exT 0), .step 4, .fin 3 (exT 2)] [7, 8, 9, 10, 17] 15 (by kernel_rfl)
    (AddI w1 f pa pn pc oa lo oc (O ++ [f]) C R 0) ?i0 ?step ?fin
  case i0 => exact ⟨⟨rfl, rfl, rfl, Nat.le_refl _, fun _ _ => rfl⟩, fun _ g hg => (by cases hg), trivial⟩
  case step =>
    intro i o ho a' w' s r b hI hfree hvals hbx
    have f0 : a'.eval (.tmp 0) = .pointer (some ⟨M, 0, none⟩) := (hfree 0 (by kernel_rfl)).trans rfl
    have f3 : a'.eval (.tmp 3) = .pointer (some ⟨w.heap.size, 0, none⟩) := (hfree 3 (by kernel_rfl)).trans rfl
    have hBw : Below w1.heap.size w1 w' := hI.1
    have hMw1 := KM.lt
    have hFw1 := KF.lt
    obtain ⟨_, _, y2⟩ := (KM.below hBw hMw1).three
    obtain ⟨z0, z1, z2⟩ := (KF.below hBw hFw1).three
    have hR3 : 3 < s → ∃ ca cc fa fc, r 3 = .tuple #[.slice ca C.length cc, .agg #[.slice fa R.length fc], .int .i64 0] := fun hs => by
      match s, hs, hI.2.2 with
      | 4, _, ⟨ca, cc, fa, fc, e, _⟩ => exact ⟨ca, cc, fa, fc, e⟩
      | _ + 5, _, ⟨_, ca, cc, fa, fc, _, _, e, _⟩ => exact ⟨ca, cc, fa, fc, e⟩
    match i, ho with
    | 0, ho =>
      simp at ho; subst ho
      show s ≤ 5 → (execOp a'.eval _).run _ w' = .ok (.value _) w'
      intro _
      generalize a'.eval = ρ at *
      simp [execOp, go_sem, f0]
    | 1, ho =>
      simp at ho; subst ho
      have e1 : a'.eval (.tmp 9) = .pointer (some ⟨M, 0, none⟩) := hvals 0 _ _ (by kernel_rfl) rfl rfl
      show s ≤ 5 → (execOp a'.eval _).run _ w' = .ok (.value _) w'
      intro _
      generalize a'.eval = ρ at *
      simp [execOp, go_sem, e1]
    | 2, ho =>
      simp at ho; subst ho
      have e1 : a'.eval (.tmp 10) = .pointer (some ⟨M, 0, none⟩) := hvals 1 _ _ (by kernel_rfl) rfl rfl
      show s ≤ 5 → (execOp a'.eval _).run _ w' = .ok (.value _) w'
      intro _
      generalize a'.eval = ρ at *
      simp [execOp, go_sem, e1]
    | 3, ho =>
      simp at ho; subst ho
      have e1 : a'.eval (.tmp 11) = .pointer (some ⟨M, 0, none⟩) := hvals 2 _ _ (by kernel_rfl) rfl rfl
      show s ≤ 5 → (execOp a'.eval _).run _ w' = .ok (.value _) w'
      intro _
      generalize a'.eval = ρ at *
      simp [execOp, go_sem, e1]
    | 4, ho =>
      simp at ho; subst ho
      have e1 : a'.eval (.tmp 12) = .pointer (some ⟨M, 2, none⟩) := hvals 3 _ _ (by kernel_rfl) rfl rfl
      show s ≤ 5 → (execOp a'.eval _).run _ w' = .ok (.value _) w'
      intro _
      generalize a'.eval = ρ at *
      simp [execOp, go_sem, e1]
    | 5, ho =>
      simp at ho; subst ho
      have e1 : a'.eval (.tmp 13) = .pointer (some ⟨M, 2, none⟩) := hvals 4 _ _ (by kernel_rfl) rfl rfl
      show s ≤ 5 → (execOp a'.eval _).run _ w' = .ok (.value _) w'
      intro _
      generalize a'.eval = ρ at *
      simp [execOp, go_sem, e1, y2]
    | 6, ho =>
      simp at ho; subst ho
      show s ≤ 5 → (execOp a'.eval _).run _ w' = .ok (.value _) w'
      intro _
      generalize a'.eval = ρ at *
      simp [execOp, go_sem, f3, z0, z1, z2]
    | 7, ho =>
      simp at ho; subst ho
      have e1 : a'.eval (.tmp 15) = .agg #[.int .i64 f.time, .bool f.key, .slice pa pn pc] := hvals 6 _ _ (by kernel_rfl) rfl rfl
      show s = 0 → _
      intro hs
      subst hs
      refine oper_wp_ok (v := .slice (some ⟨w'.heap.size, 0, none⟩) 1 1) (w' := w'.alloc (.cells #[.int .i64 f.time, .bool f.key, .slice pa pn pc] 39)) ?_ ⟨_, rfl, hBw.alloc hBw.size _, fun _ g hg => ⟨(hI.2.1 (by omega) g hg).1, (hI.2.1 (by omega) g hg).2.alloc _⟩, w'.heap.size, updR_at _ _ _, Blk.new _ _ _⟩
      generalize a'.eval = ρ at *
      simp [execOp, go_sem, e1]
    | 8, ho =>
      simp at ho; subst ho
      show s = 1 → _
      intro hs
      subst hs
      obtain ⟨g1, q1, q2⟩ := hI.2.2
      have e1 : a'.eval (.tmp 14) = .slice oa lo oc := hvals 5 _ _ (by kernel_rfl) rfl rfl
      have e2 : a'.eval (.tmp 16) = .slice (some ⟨g1, 0, none⟩) 1 1 := (hvals 7 _ _ (by kernel_rfl) rfl rfl).trans q1
      refine oper_wp_ok (v := .slice (some ⟨w'.heap.size, 0, none⟩) 2 2) (w' := w'.alloc (.cells #[.slice oa lo oc, .slice (some ⟨g1, 0, none⟩) 1 1] 32)) ?_ ⟨_, rfl, hBw.alloc hBw.size _, fun _ g hg => ⟨(hI.2.1 (by omega) g hg).1, (hI.2.1 (by omega) g hg).2.alloc _⟩, g1, w'.heap.size, updR_at _ _ _, q2.alloc _, Blk.new _ _ _⟩
      generalize a'.eval = ρ at *
      simp [execOp, go_sem, e1, e2]
    | 9, ho =>
      simp at ho; subst ho
      show s = 2 → _
      intro hs
      subst hs
      obtain ⟨g1, g2, q1, q2, q3⟩ := hI.2.2
      have e1 : a'.eval (.tmp 17) = .slice (some ⟨g2, 0, none⟩) 2 2 := (hvals 8 _ _ (by kernel_rfl) rfl rfl).trans q1
      have ef : a'.eval (.func 58) = .func (.func 58) #[] #[] := rfl
      obtain ⟨t0, t1⟩ := q3.two
      have hbw : Below w.heap.size w w' := BB1.out.trans (hBw.mono BB1.out.size)
      have hc := concatFrs_any (fun _ => True) g2 (.slice oa lo oc) (.slice (some ⟨g1, 0, none⟩) 1 1) O [f] w' t0 t1 ((HO.out.below hbw).mono fun _ _ _ => trivial) (FrsIn.one q2 trivial ((HP.out.below hbw).mono fun _ _ _ => trivial)) (by have := HO6.out; simp; omega)
      refine oper_wp_call (f := 58) (args := #[.slice (some ⟨g2, 0, none⟩) 2 2]) ?_ (hc.mono ?_)
      · generalize a'.eval = ρ at *
        simp [execOp, go_sem, e1, ef]
      · rintro e w'' ⟨u, rfl, o1, b1⟩
        exact ⟨u, rfl, u, rfl, hBw.trans (b1.mono hBw.size), fun _ g hg => ⟨(hI.2.1 (by omega) g hg).1, (hI.2.1 (by omega) g hg).2.below b1 (hI.2.1 (by omega) g hg).2.lt⟩, by show FrsIn _ _ _ _; rw [updR_at]; exact o1.frsIn (fun _ _ _ => trivial) (fun _ _ => trivial)⟩
    | 10, ho =>
      simp at ho; subst ho
      show s = 3 → _
      intro hs
      subst hs
      have e1 : a'.eval (.tmp 18) = r 2 := hvals 9 _ _ (by kernel_rfl) rfl rfl
      have ef : a'.eval (.func 57) = .func (.func 57) #[] #[] := rfl
      refine oper_wp_call (f := 57) (args := #[r 2]) ?_ ((HX.out w' (r 2) hI.2.2).mono ?_)
      · generalize a'.eval = ρ at *
        simp [execOp, go_sem, e1, ef]
      · rintro e w'' ⟨ca, cc, fa, fc, rfl, s1, s2, b1⟩
        have hne : ∀ x, w'.heap.size ≤ x → b ≠ some x := fun x hx e => by have := (hI.2.1 (by omega) x e).2.lt; omega
        exact ⟨_, rfl, _, rfl, hBw.trans (b1.mono hBw.size), fun _ g hg => ⟨(hI.2.1 (by omega) g hg).1, (hI.2.1 (by omega) g hg).2.below b1 (hI.2.1 (by omega) g hg).2.lt⟩, ca, cc, fa, fc, updR_at _ _ _, s1.mono fun x _ hx => ⟨hne x hx, by have := hBw.size; omega⟩, s2.mono fun x _ hx => ⟨hne x hx, by have := hBw.size; omega⟩⟩
    | 11, ho =>
      simp at ho; subst ho
      have e1 : a'.eval (.tmp 19) = r 3 := hvals 10 _ _ (by kernel_rfl) rfl rfl
      show 3 < s → (execOp a'.eval _).run _ w' = .ok (.value _) w'
      intro hs
      obtain ⟨ca, cc, fa, fc, er⟩ := hR3 hs
      rw [er] at e1 ⊢
      generalize a'.eval = ρ at *
      simp [execOp, go_sem, e1]
    | 12, ho =>
      simp at ho; subst ho
      have e1 : a'.eval (.tmp 8) = r 3 := hvals 11 _ _ (by kernel_rfl) rfl rfl
      show 3 < s → (execOp a'.eval _).run _ w' = .ok (.value _) w'
      intro hs
      obtain ⟨ca, cc, fa, fc, er⟩ := hR3 hs
      rw [er] at e1 ⊢
      simp only [exT] at e1 ⊢
      generalize a'.eval = ρ at *
      simp [execOp, go_sem, e1]
    | 13, ho =>
      simp at ho; subst ho
      have e1 : a'.eval (.tmp 8) = r 3 := hvals 11 _ _ (by kernel_rfl) rfl rfl
      show 3 < s → (execOp a'.eval _).run _ w' = .ok (.value _) w'
      intro hs
      obtain ⟨ca, cc, fa, fc, er⟩ := hR3 hs
      rw [er] at e1 ⊢
      simp only [exT] at e1 ⊢
      generalize a'.eval = ρ at *
      simp [execOp, go_sem, e1]
    | 14, ho =>
      simp at ho; subst ho
      have e1 : a'.eval (.tmp 8) = r 3 := hvals 11 _ _ (by kernel_rfl) rfl rfl
      show 3 < s → (execOp a'.eval _).run _ w' = .ok (.value _) w'
      intro hs
      obtain ⟨ca, cc, fa, fc, er⟩ := hR3 hs
      rw [er] at e1 ⊢
      simp only [exT] at e1 ⊢
      generalize a'.eval = ρ at *
      simp [execOp, go_sem, e1]
    | 15, ho =>
      simp at ho; subst ho
      show b = none → _
      intro hb
      subst hb
      refine ⟨.cells #[.slice none 0 0] 34, ?_, hI.box⟩
      generalize a'.eval = ρ at *
      simp [execOp, go_sem]
    | 16, ho =>
      simp at ho; subst ho
      have e1 : a'.eval (.tmp 20) = exT 0 (r 3) := hvals 12 _ _ (by kernel_rfl) rfl rfl
      show 3 < s → (execOp a'.eval _).run _ w' = .ok (.value _) w'
      intro hs
      obtain ⟨ca, cc, fa, fc, er⟩ := hR3 hs
      rw [er] at e1 ⊢
      simp only [exT] at e1 ⊢
      generalize a'.eval = ρ at *
      simp [execOp, go_sem, e1]
    | 17, ho =>
      simp at ho; subst ho
      show s = 4 → _
      intro hs
      subst hs
      obtain ⟨ca, cc, fa, fc, er, s1, s2⟩ := hI.2.2
      obtain ⟨g, hg⟩ := Option.isSome_iff_exists.1 (hbx (by kernel_rfl))
      subst hg
      obtain ⟨hgb, kg⟩ := hI.2.1 (by omega) g rfl
      have e1 : a'.eval (.tmp 6) = .pointer (some ⟨g, 0, none⟩) := hvals 15 _ _ (by kernel_rfl) rfl rfl
      have e2 : a'.eval (.tmp 21) = .agg #[.slice fa R.length fc] := (hvals 13 _ _ (by kernel_rfl) rfl rfl).trans (by show exT 1 (r 3) = _; rw [er]; rfl)
      have t0 := kg.one
      have t1 := kg.free 0
      refine oper_wp_skip (w' := w'.setCell ⟨g, 0, none⟩ (.slice fa R.length fc)) ?_ ⟨_, rfl, hBw.setCell hgb _, fun h => absurd h (by omega), ?_⟩
      · generalize a'.eval = ρ at *
        simp [execOp, go_sem, e1, e2, t0, t1]
      · exact ⟨g, ca, cc, fa, fc, rfl, hgb, by rw [updR_ne (by omega)]; exact er, s1.to (SameOn.setCell (fun x hx e => hx.1 (by rw [e])) _) (fun _ _ h => h), s2.to (SameOn.setCell (fun x hx e => hx.1 (by rw [e])) _) (fun _ _ h => h), kg.set 0 _⟩
    | 18, ho =>
      simp at ho; subst ho
      have e1 : a'.eval (.tmp 22) = exT 2 (r 3) := hvals 14 _ _ (by kernel_rfl) rfl rfl
      show 3 < s → (execOp a'.eval _).run _ w' = .ok (.value _) w'
      intro hs
      obtain ⟨ca, cc, fa, fc, er⟩ := hR3 hs
      rw [er] at e1 ⊢
      simp only [exT] at e1 ⊢
      generalize a'.eval = ρ at *
      simp [execOp, go_sem, e1]
    | i + 19, ho => simp at ho
  case fin =>
    rintro r g W ⟨hB, _, g', ca, cc, fa, fc, hgg, hg1, er, s1, s2, kg⟩
    injection hgg with hgg
    subst hgg
    simp only [putB, Cb.out, er, exT]
    obtain ⟨nC, hnC⟩ : ∃ n, n = C.length := ⟨_, rfl⟩
    obtain ⟨nR, hnR⟩ : ∃ n, n = R.length := ⟨_, rfl⟩
    rw [← hnC] at s1
    rw [← hnR] at s2 kg
    have HNC : Hid (nC = C.length) := hnC
    simp only [← hnC, ← hnR]
    have KMW : Blk W M #[.int .i64 first, .slice ga ln gc, .slice oa lo oc] 82 := KMH.out.below hB KMH.out.lt
    have BW : Below w.heap.size w W := BB1.out.trans (hB.mono BB1.out.size)
    have GW : GrsIn (fun x => x ≠ M) W (.slice ga ln gc) L := HG.out.below BW
    have hMW : M < W.heap.size := KMW.lt
    have HCLN : Hid (Calls Try.prog 59 #[.slice ga ln gc] W fun e w' => ∃ u, e = .returned u ∧ OwnGrs W.heap.size (NS W.heap.size u) w' u L ∧ Below W.heap.size W w') := cloneGroups_any _ _ L W GW (by omega) HLR.out
    have S1 : Hid (GrsIn (fun x => w1.heap.size ≤ x ∧ x < W.heap.size) W (.slice ca nC cc) C) := s1.mono fun x hx h => ⟨h.2, hx⟩
    have S2 : Hid (FrsIn (fun x => w1.heap.size ≤ x ∧ x < W.heap.size) W (.slice fa nR fc) R) := s2.mono fun x hx h => ⟨h.2, hx⟩
    have KG : Hid (Blk W g #[.slice fa nR fc] 34) := kg
    have KMW2 : Hid (Blk W M #[.int .i64 first, .slice ga ln gc, .slice oa lo oc] 82) := KMW
    have HKW : Hid (Kept [M] w W) := (Kept.refl [M] w).below BW
    have hgM : g ≠ M := by omega
    have hWw : w.heap.size ≤ W.heap.size := BW.size
    obtain ⟨q0, q1, q2⟩ := KMW.three
    clear s1 s2 kg hB er BW GW KMW
    have HNR : Hid (nR = R.length) := hnR
    clear hnC hnR KM KF
    go_wp2_with fail
    refine HCLN.out.mono ?_
    rintro e w2 ⟨u, rfl, ou, bu⟩
    have hu : ∀ x, u.ownBlock = some x → W.heap.size ≤ x ∧ x < w2.heap.size := ou.lt
    have O2 : OwnGrs W.heap.size (fun x => w.heap.size ≤ x ∧ some x ≠ u.ownBlock ∧ x < w2.heap.size) w2 u L := ou.to (SameOn.refl _ _) (fun x hx h => ⟨by have := h.1; omega, h.2, hx⟩) (fun _ _ => rfl)
    have S3 : GrsIn (fun x => w.heap.size ≤ x ∧ some x ≠ u.ownBlock ∧ x < w2.heap.size) w2 (.slice ca nC cc) C := (S1.out.below bu).mono fun x hx h => ⟨by have := h.1; omega, fun e => (by have := (hu x e.symm).1; omega), hx⟩
    obtain ⟨qs, t1, t2, t3⟩ := S3.sl
    obtain ⟨v', w3, r3, o3, g3, dd⟩ := groups_app O2 t1 t2 t3 (fun x hx => hx.2.1) (by omega) bu.size
    have hg3 : ∀ x, x < W.heap.size → w3.heap[x]? = W.heap[x]? := fun x hx => (g3.block x (Nat.lt_of_lt_of_le hx bu.size) (fun e => by have := (hu x e.symm).1; omega)).trans (bu.block x hx)
    have hs3 : w2.heap.size ≤ w3.heap.size := g3.size
    have hWs3 : W.heap.size ≤ w3.heap.size := Nat.le_trans bu.size hs3
    have BW3 : Below W.heap.size W w3 := bu.grown g3 bu.size (fun x hx => (hu x hx).1)
    have K3 : Blk w3 M #[.int .i64 first, .slice ga ln gc, .slice oa lo oc] 82 := (hg3 M hMW).trans KMW2.out
    have G3 : Blk w3 g #[.slice fa nR fc] 34 := (hg3 g KG.out.lt).trans KG.out
    have hv' : ∀ x, v'.ownBlock = some x → W.heap.size ≤ x := fun x hx => (o3.lt x hx).1
    have V3 : GrsIn (fun x => w.heap.size ≤ x) w3 v' (L ++ C) := o3.grsIn (fun x _ h => h.1) (fun x hx => by have := hv' x hx; omega)
    have R3 : FrsIn (fun x => w.heap.size ≤ x) w3 (.slice fa nR fc) R := S2.out.to ⟨hWs3, fun x hx _ => hg3 x hx⟩ (fun x _ h => by have := h.1; omega)
    obtain ⟨va, vc, ev, _, _⟩ := V3.len
    obtain ⟨nV, hnV⟩ : ∃ n, n = (L ++ C).length := ⟨_, rfl⟩
    rw [← hnV] at ev
    clear hnV
    have c1 := K3.three
    obtain ⟨c10, c11, c12⟩ := c1
    have fr := K3.free
    have cg := G3.one
    obtain ⟨w5, hw5⟩ : ∃ w5, w5 = (w3.setCell ⟨M, 1, none⟩ v').setCell ⟨M, 2, none⟩ (.slice fa nR fc) := ⟨_, rfl⟩
    have K5 : Blk w5 M #[.int .i64 first, v', .slice fa nR fc] 82 := by
      rw [hw5]; exact (K3.set 1 v').set 2 (.slice fa nR fc)
    have same5 : SameOn (fun x => w.heap.size ≤ x) w3 w5 := by
      rw [hw5]
      exact (SameOn.setCell (S := fun x => w.heap.size ≤ x) (w := w3) (a := ⟨M, 1, none⟩) (fun x hx => (by show x ≠ M; omega)) v').trans (SameOn.setCell (S := fun x => w.heap.size ≤ x) (w := w3.setCell ⟨M, 1, none⟩ v') (a := ⟨M, 2, none⟩) (fun x hx => (by show x ≠ M; omega)) (.slice fa nR fc))
    have V5 : GrsIn (fun x => w.heap.size ≤ x) w5 v' (L ++ C) := V3.to same5 (fun _ _ h => h)
    have R5 : Hid (FrsIn (fun x => w.heap.size ≤ x) w5 (.slice fa nR fc) R) := R3.to same5 (fun _ _ h => h)
    have P5 : Hid (Kept [M] w w5) := by
      rw [hw5]; exact ((HKW.out.below BW3).setCell (by simp) _).setCell (by simp) _
    have HLG : Hid (Calls Try.prog 60 #[.pointer (some ⟨M, 0, none⟩)] w5 fun e w' => e = .returned (.tuple #[]) ∧ ∃ gv', Blk w' M #[.int .i64 (first + trimD (L ++ C)), gv', .slice fa nR fc] 82 ∧ GrsIn (fun x => w.heap.size ≤ x) w' gv' ((L ++ C).drop (trimD (L ++ C))) ∧ Kept [M] w5 w') := letGo_any M first v' _ (L ++ C) _ w5 K5 V5 (fun x hx => (by show x ≠ M; omega)) (by simp; omega) hf0 (by omega)
    clear ou bu hu O2 S3 t1 t2 t3 o3 g3 dd hg3 hs3 BW3 K3 G3 hv' V3 R3 K5 V5 same5 q0 q1 q2 HCLN
    subst ev
    go_wp2_with (at_builtin; refine wpList_append_run rfl (.tmp 29) (.tmp 30) 31 31 rfl _ _ rfl rfl r3 ?_)
    rw [← hw5]
    refine HLG.out.mono ?_
    rintro e w6 ⟨rfl, gv', k6, v6, p6⟩
    have R6 : FrsIn (fun x => w.heap.size ≤ x) w6 (.slice fa nR fc) R := R5.out.to ⟨p6.size, fun x hx h => p6.block x hx (by simp; omega)⟩ (fun _ _ h => h)
    have FIN : Hid (∃ gv' ov', Blk w6 M #[.int .i64 (first + trimD (L ++ C)), gv', ov'] 82 ∧ GrsIn (fun g => w.heap.size ≤ g) w6 gv' ((L ++ C).drop (trimD (L ++ C))) ∧ FrsIn (fun g => w.heap.size ≤ g) w6 ov' R ∧ Kept [M] w w6) := ⟨gv', .slice fa nR fc, k6, v6, R6, P5.out.trans p6⟩
    clear k6 v6 p6 R6 R5 P5 HLG hw5 c10 c11 c12 fr cg r3
    go_wp2
    go_ret
    exact ⟨by rw [← HNC.out]; first | rfl | simp, FIN.out⟩

end Go.Proofs.Ytnpaejknoipicae

namespace Go.Proofs.Ytnpaejknoipicae
open Go.RowKit

/-- the group that a frame closes -/
def closedG (O : List Fr) (f : Fr) : List (List Fr) := if f.key && decide (0 < O.length) then [O] else []
/-- what Add says, and what it leaves -/
def addsE (first : Int) (L : List (List Fr)) (O : List Fr) (f : Fr) : Int := if stchk first L O = 0 then (if f.chk = 0 then (if 100000 < first + trimD (L ++ closedG O f) then 2 else 0) else f.chk) else stchk first L O
def addsF (first : Int) (L : List (List Fr)) (O : List Fr) (f : Fr) : Int := if addsE first L O f = 0 then first + trimD (L ++ closedG O f) else 0
def addsL (first : Int) (L : List (List Fr)) (O : List Fr) (f : Fr) : List (List Fr) := if addsE first L O f = 0 then (L ++ closedG O f).drop (trimD (L ++ closedG O f)) else []
def addsO (first : Int) (L : List (List Fr)) (O : List Fr) (f : Fr) : List Fr := if addsE first L O f = 0 then growG O f else []
def addsB (first : Int) (L : List (List Fr)) (O : List Fr) (f : Fr) : Bool := if addsE first L O f = 0 then decide (0 < (closedG O f).length) else false

set_option maxHeartbeats 8000000 in
set_option maxRecDepth 100000 in
theorem storeAdd_new (first : Int) (gv ov pv : Value) (L : List (List Fr)) (O : List Fr) (f : Fr) (w : World) (hg : GrsIn (fun _ => True) w gv L) (ho : FrsIn (fun _ => True) w ov O) (hp : StrsIn (fun _ => True) w pv f.parts) :
    Calls Try.prog 19 #[.agg #[.int .i64 first, gv, ov], .agg #[.int .i64 f.time, .bool f.key, pv]] w fun e w' => ∃ gv' ov', e = .returned (.tuple #[.agg #[.int .i64 (addsF first L O f), gv', ov'], .bool (addsB first L O f), .int .i64 (addsE first L O f)]) ∧ GrsIn (fun g => w.heap.size ≤ g) w' gv' (addsL first L O f) ∧ FrsIn (fun g => w.heap.size ≤ g) w' ov' (addsO first L O f) ∧ Below w.heap.size w w' := by
  obtain ⟨ga, gc, eg, _, _⟩ := hg.len
  obtain ⟨oa, oc, eo, _, _⟩ := ho.len
  obtain ⟨pa, pc, ep⟩ := hp.1.len
  obtain ⟨ln, hln⟩ : ∃ n, n = L.length := ⟨_, rfl⟩
  obtain ⟨lo, hlo⟩ : ∃ n, n = O.length := ⟨_, rfl⟩
  obtain ⟨pn, hpn⟩ : ∃ n, n = f.parts.length := ⟨_, rfl⟩
  rw [← hln] at eg
  rw [← hlo] at eo
  rw [← hpn] at ep
  have HG : Hid (GrsIn (fun g => g < w.heap.size) w gv L) := hg.mono fun g h _ => h
  have HO : Hid (FrsIn (fun g => g < w.heap.size) w ov O) := ho.mono fun g h _ => h
  have HP : Hid (StrsIn (fun g => g < w.heap.size) w pv f.parts) := hp.mono fun g h _ => h
  obtain ⟨E, hE⟩ : ∃ E, E = addsE first L O f := ⟨_, rfl⟩
  obtain ⟨K, hK⟩ : ∃ K, K = stchk first L O := ⟨_, rfl⟩
  obtain ⟨Z, hZ⟩ : ∃ Z, Z = f.chk := ⟨_, rfl⟩
  obtain ⟨C, hC⟩ : ∃ C, C = closedG O f := ⟨_, rfl⟩
  have HE : Hid (E = if K = 0 then (if Z = 0 then (if 100000 < first + trimD (L ++ C) then 2 else 0) else Z) else K) := by show _ = _; rw [hE, hK, hZ, hC]; rfl
  have HBAD : Hid (¬ E = 0 → addsF first L O f = 0 ∧ addsL first L O f = [] ∧ addsO first L O f = [] ∧ addsB first L O f = false) := fun h => by
    rw [hE] at h
    exact ⟨if_neg h, if_neg h, if_neg h, if_neg h⟩
  have HGOOD : Hid (E = 0 → addsF first L O f = first + trimD (L ++ C) ∧ addsL first L O f = (L ++ C).drop (trimD (L ++ C)) ∧ addsO first L O f = growG O f ∧ addsB first L O f = decide (0 < C.length)) := fun h => by
    rw [hE] at h
    rw [hC]
    exact ⟨if_pos h, if_pos h, if_pos h, if_pos h⟩
  have HCK : Hid (∀ U, Below w.heap.size w U → Calls Try.prog 40 #[.agg #[.int .i64 first, gv, ov]] U fun e w' => e = .returned (.int .i64 K) ∧ Below U.heap.size U w') := fun U hU => by
    rw [hK]; exact storeCheck_any _ first gv ov L O U (HG.out.below hU) (HO.out.below hU)
  have HCF : Hid (∀ U, Below w.heap.size w U → Calls Try.prog 44 #[.agg #[.int .i64 f.time, .bool f.key, pv]] U fun e w' => e = .returned (.int .i64 Z) ∧ Below U.heap.size U w') := fun U hU => by
    rw [hZ]; exact frameCheck_any _ _ _ _ _ (HP.out.below hU).1 HP.out.2.1
  have HADD : Hid (K = 0 → Z = 0 → ∀ (M : Nat) (U : World), w.heap.size ≤ M → Blk U M #[.int .i64 first, gv, ov] 82 → Below w.heap.size w U → Calls Try.prog 45 #[.pointer (some ⟨M, 0, none⟩), .agg #[.int .i64 f.time, .bool f.key, pv]] U fun e w' => e = .returned (.bool (decide (0 < C.length))) ∧ ∃ gv' ov', Blk w' M #[.int .i64 (first + trimD (L ++ C)), gv', ov'] 82 ∧ GrsIn (fun g => U.heap.size ≤ g) w' gv' ((L ++ C).drop (trimD (L ++ C))) ∧ FrsIn (fun g => U.heap.size ≤ g) w' ov' (growG O f) ∧ Kept [M] U w') := fun h1 h2 M U hM hk hU => by
    have h1' : stchk first L O = 0 := by rw [← hK]; exact h1
    obtain ⟨a1, a2, a3, a4, _, a6⟩ := stchk_zero.1 h1'
    exact keeperAdd_any M first gv ov pv L O f U hk ((HG.out.below hU).mono fun g _ h => by omega) ((HO.out.below hU).mono fun g _ h => by omega) ((HP.out.below hU).mono fun g _ h => by omega) a3 a4 a6 (by rw [← hZ]; exact h2) a1 a2 C hC
  have HTR : Hid (K = 0 → 0 ≤ first ∧ first ≤ 100000) := fun h => by
    have h1' : stchk first L O = 0 := by rw [← hK]; exact h
    obtain ⟨a1, a2, _⟩ := stchk_zero.1 h1'
    exact ⟨a1, a2⟩
  have HEE : Hid (E = addsE first L O f) := hE
  clear hg ho hp hE hK hZ hC hln hlo hpn
  subst eg eo ep
  go_enter Try.func19, Try.ntmps19
  go_wp2_with fail
  obtain ⟨w1, hw1⟩ : ∃ w1, w1 = ((w.alloc (.cells #[.int .i64 first, .slice ga ln gc, .slice oa lo oc] 36)).alloc (.cells #[.int .i64 f.time, .bool f.key, .slice pa pn pc] 39)).alloc (.cells #[.int .i64 0, .slice none 0 0, .slice none 0 0] 36) := ⟨_, rfl⟩
  have B1 : Hid (Below w.heap.size w w1) := by
    rw [hw1]; exact (((Below.refl _ _).alloc (Nat.le_refl _) _).alloc (by simp) _).alloc (by simp; omega) _
  have K1 : Hid (Blk w1 w.heap.size #[.int .i64 first, .slice ga ln gc, .slice oa lo oc] 36) := by rw [hw1]; exact ((Blk.new w _ _).alloc _).alloc _
  have F1 : Hid (Blk w1 (w.heap.size + 1) #[.int .i64 f.time, .bool f.key, .slice pa pn pc] 39) := by
    have := (Blk.new (w.alloc (.cells #[.int .i64 first, .slice ga ln gc, .slice oa lo oc] 36)) #[.int .i64 f.time, .bool f.key, .slice pa pn pc] 39).alloc (.cells #[.int .i64 0, .slice none 0 0, .slice none 0 0] 36)
    rw [hw1]; simpa [Hid] using this
  have R1 : Hid (Blk w1 (w.heap.size + 1 + 1) #[.int .i64 0, .slice none 0 0, .slice none 0 0] 36) := by
    have := Blk.new ((w.alloc (.cells #[.int .i64 first, .slice ga ln gc, .slice oa lo oc] 36)).alloc (.cells #[.int .i64 f.time, .bool f.key, .slice pa pn pc] 39)) #[.int .i64 0, .slice none 0 0, .slice none 0 0] 36
    rw [hw1]; simpa [Hid] using this
  rw [← hw1]
  clear hw1
  refine (HCK.out _ B1.out).mono ?_
  rintro e w2 ⟨rfl, hb⟩
  have B2 : Hid (Below w.heap.size w w2) := B1.out.trans (hb.mono B1.out.size)
  have K2 : Hid (Blk w2 w.heap.size #[.int .i64 first, .slice ga ln gc, .slice oa lo oc] 36) := K1.out.below hb K1.out.lt
  have F2 : Hid (Blk w2 (w.heap.size + 1) #[.int .i64 f.time, .bool f.key, .slice pa pn pc] 39) := F1.out.below hb F1.out.lt
  have R2 : Hid (Blk w2 (w.heap.size + 1 + 1) #[.int .i64 0, .slice none 0 0, .slice none 0 0] 36) := R1.out.below hb R1.out.lt
  clear hb B1 K1 F1 R1 HCK
  by_cases hK : K = 0
  case neg =>
    have HEK : Hid (E = K) := by show _ = _; rw [HE.out, if_neg hK]
    obtain ⟨r0, r1, r2⟩ := R2.out.three
    have fr := R2.out.free
    go_wp2
    obtain ⟨b1, b2, b3, b4⟩ := HBAD.out (by rw [HEK.out]; exact hK)
    rw [b1, b2, b3, b4, ← HEE.out, HEK.out]
    refine bodyPost_ret (v := .tuple #[.agg #[.int .i64 0, .slice none 0 0, .slice none 0 0], .bool false, .int .i64 K]) (by simp [results, Try.results19, go_sem, r0, r1, r2]) rfl ⟨_, _, rfl, GrsIn.nil _ _, FrsIn.nil _ _, ?_⟩
    first | exact B2.out | exact ((B2.out.setCell (by show _ ≤ w.heap.size + 1 + 1; omega) _).setCell (by show _ ≤ w.heap.size + 1 + 1; omega) _).setCell (by show _ ≤ w.heap.size + 1 + 1; omega) _
  obtain ⟨hf0, hf1⟩ := HTR.out hK
  obtain ⟨f0, f1, f2⟩ := F2.out.three
  go_wp2_with fail
  refine (HCF.out _ B2.out).mono ?_
  rintro e w3 ⟨rfl, hb⟩
  have B3 : Hid (Below w.heap.size w w3) := B2.out.trans (hb.mono B2.out.size)
  have K3 : Hid (Blk w3 w.heap.size #[.int .i64 first, .slice ga ln gc, .slice oa lo oc] 36) := K2.out.below hb K2.out.lt
  have F3 : Hid (Blk w3 (w.heap.size + 1) #[.int .i64 f.time, .bool f.key, .slice pa pn pc] 39) := F2.out.below hb F2.out.lt
  have R3 : Hid (Blk w3 (w.heap.size + 1 + 1) #[.int .i64 0, .slice none 0 0, .slice none 0 0] 36) := R2.out.below hb R2.out.lt
  clear hb B2 K2 F2 R2 HCF f0 f1 f2
  by_cases hZ : Z = 0
  case neg =>
    have HEK : Hid (E = Z) := by show _ = _; rw [HE.out, if_pos hK, if_neg hZ]
    obtain ⟨r0, r1, r2⟩ := R3.out.three
    have fr := R3.out.free
    subst hK
    go_wp2
    obtain ⟨b1, b2, b3, b4⟩ := HBAD.out (by rw [HEK.out]; exact hZ)
    rw [b1, b2, b3, b4, ← HEE.out, HEK.out]
    refine bodyPost_ret (v := .tuple #[.agg #[.int .i64 0, .slice none 0 0, .slice none 0 0], .bool false, .int .i64 Z]) (by simp [results, Try.results19, go_sem, r0, r1, r2]) rfl ⟨_, _, rfl, GrsIn.nil _ _, FrsIn.nil _ _, ?_⟩
    first | exact B3.out | exact ((B3.out.setCell (by show _ ≤ w.heap.size + 1 + 1; omega) _).setCell (by show _ ≤ w.heap.size + 1 + 1; omega) _).setCell (by show _ ≤ w.heap.size + 1 + 1; omega) _
  have HAD2 : Hid (∀ (M : Nat) (U : World), w.heap.size ≤ M → Blk U M #[.int .i64 first, .slice ga ln gc, .slice oa lo oc] 82 → Below w.heap.size w U → Calls Try.prog 45 #[.pointer (some ⟨M, 0, none⟩), .agg #[.int .i64 f.time, .bool f.key, .slice pa pn pc]] U fun e w' => e = .returned (.bool (decide (0 < C.length))) ∧ ∃ gv' ov', Blk w' M #[.int .i64 (first + trimD (L ++ C)), gv', ov'] 82 ∧ GrsIn (fun g => U.heap.size ≤ g) w' gv' ((L ++ C).drop (trimD (L ++ C))) ∧ FrsIn (fun g => U.heap.size ≤ g) w' ov' (growG O f) ∧ Kept [M] U w') := HADD.out hK hZ
  have HE2 : Hid (E = if 100000 < first + trimD (L ++ C) then 2 else 0) := by show _ = _; rw [HE.out, if_pos hK, if_pos hZ]
  obtain ⟨T, hT⟩ : ∃ T : Int, T = first + trimD (L ++ C) := ⟨_, rfl⟩
  obtain ⟨D, hD⟩ : ∃ D : Bool, D = decide (0 < C.length) := ⟨_, rfl⟩
  rw [← hT] at HAD2 HE2 HGOOD
  rw [← hD] at HAD2 HGOOD
  clear HADD HE HTR hT hD
  subst hK hZ
  obtain ⟨k0, k1, k2⟩ := K3.out.three
  obtain ⟨f0, f1, f2⟩ := F3.out.three
  have hFl : w.heap.size + 1 < w3.heap.size := F3.out.lt
  have hKl : w.heap.size < w3.heap.size := K3.out.lt
  go_wp2_with fail
  obtain ⟨U, hU⟩ : ∃ U, U = w3.alloc (.cells #[.int .i64 first, .slice ga ln gc, .slice oa lo oc] 82) := ⟨_, rfl⟩
  have BU : Hid (Below w.heap.size w U) := by rw [hU]; exact B3.out.alloc B3.out.size _
  have KU : Hid (Blk U w3.heap.size #[.int .i64 first, .slice ga ln gc, .slice oa lo oc] 82) := by rw [hU]; exact Blk.new _ _ _
  have RU : Hid (Blk U (w.heap.size + 1 + 1) #[.int .i64 0, .slice none 0 0, .slice none 0 0] 36) := by rw [hU]; exact R3.out.alloc _
  rw [← hU]
  have hMR : w.heap.size + 1 + 1 < w3.heap.size := R3.out.lt
  clear hU k0 k1 k2 f0 f1 f2 K3 F3 R3 B3
  refine (HAD2.out _ _ (by omega) KU.out BU.out).mono ?_
  rintro e w5 ⟨rfl, gv', ov', k5, v5, o5, p5⟩
  have B5 : Hid (Below w.heap.size w w5) := BU.out.trans (p5.toBelow BU.out.size (fun k hk => by simp at hk; omega))
  have R5 : Hid (Blk w5 (w.heap.size + 1 + 1) #[.int .i64 0, .slice none 0 0, .slice none 0 0] 36) := RU.out.kept p5 (by simp; omega)
  have hRU := RU.out.lt
  obtain ⟨va, vc, ev, _, _⟩ := v5.len
  obtain ⟨qa, qc, eq, _, _⟩ := o5.len
  obtain ⟨nv, hnv⟩ : ∃ n, n = ((L ++ C).drop (trimD (L ++ C))).length := ⟨_, rfl⟩
  obtain ⟨nq, hnq⟩ : ∃ n, n = (growG O f).length := ⟨_, rfl⟩
  rw [← hnv] at ev
  rw [← hnq] at eq
  clear hnv hnq
  subst ev eq
  have V5 : Hid (GrsIn (fun g => U.heap.size ≤ g) w5 (.slice va nv vc) ((L ++ C).drop (trimD (L ++ C)))) := v5
  have O5 : Hid (FrsIn (fun g => U.heap.size ≤ g) w5 (.slice qa nq qc) (growG O f)) := o5
  obtain ⟨k0, k1, k2⟩ := k5.three
  obtain ⟨r0, r1, r2⟩ := R5.out.three
  have fr := R5.out.free
  clear v5 o5 p5 HAD2 RU KU
  by_cases hT : 100000 < T
  · have HEK : Hid (E = 2) := by show _ = _; rw [HE2.out, if_pos hT]
    go_wp2
    obtain ⟨b1, b2, b3, b4⟩ := HBAD.out (by rw [HEK.out]; decide)
    rw [b1, b2, b3, b4, ← HEE.out, HEK.out]
    refine bodyPost_ret (v := .tuple #[.agg #[.int .i64 0, .slice none 0 0, .slice none 0 0], .bool false, .int .i64 2]) (by simp [results, Try.results19, go_sem, r0, r1, r2]) rfl ⟨_, _, rfl, GrsIn.nil _ _, FrsIn.nil _ _, ?_⟩
    first | exact B5.out | exact ((B5.out.setCell (by show _ ≤ w.heap.size + 1 + 1; omega) _).setCell (by show _ ≤ w.heap.size + 1 + 1; omega) _).setCell (by show _ ≤ w.heap.size + 1 + 1; omega) _
  · have HEK : Hid (E = 0) := by show _ = _; rw [HE2.out, if_neg hT]
    obtain ⟨V, hV⟩ : ∃ V, V = ((w5.setCell ⟨w.heap.size + 1 + 1, 0, none⟩ (.int .i64 T)).setCell ⟨w.heap.size + 1 + 1, 1, none⟩ (.slice va nv vc)).setCell ⟨w.heap.size + 1 + 1, 2, none⟩ (.slice qa nq qc) := ⟨_, rfl⟩
    have KV : Blk V (w.heap.size + 1 + 1) #[.int .i64 T, .slice va nv vc, .slice qa nq qc] 36 := by
      rw [hV]; exact ((R5.out.set 0 (.int .i64 T)).set 1 (.slice va nv vc)).set 2 (.slice qa nq qc)
    have hVo : ∀ g, g ≠ w.heap.size + 1 + 1 → V.heap[g]? = w5.heap[g]? := fun g hg => by
      rw [hV, Below.heap_setCell _ _ _ _ (by exact hg), Below.heap_setCell _ _ _ _ (by exact hg), Below.heap_setCell _ _ _ _ (by exact hg)]
    have hVs : V.heap.size = w5.heap.size := by rw [hV]; simp
    have GV : Hid (GrsIn (fun g => w.heap.size ≤ g) V (.slice va nv vc) ((L ++ C).drop (trimD (L ++ C)))) := V5.out.to ⟨by omega, fun g _ hg => hVo g (by omega)⟩ (fun _ _ _ => by omega)
    have OV : Hid (FrsIn (fun g => w.heap.size ≤ g) V (.slice qa nq qc) (growG O f)) := O5.out.to ⟨by omega, fun g _ hg => hVo g (by omega)⟩ (fun _ _ _ => by omega)
    have BV : Hid (Below w.heap.size w V) := by
      rw [hV]; exact ((B5.out.setCell (by show _ ≤ w.heap.size + 1 + 1; omega) _).setCell (by show _ ≤ w.heap.size + 1 + 1; omega) _).setCell (by show _ ≤ w.heap.size + 1 + 1; omega) _
    obtain ⟨c0, c1, c2⟩ := KV.three
    clear hVo hVs V5 O5 KV
    go_wp2_with fail
    rw [← hV]
    obtain ⟨b1, b2, b3, b4⟩ := HGOOD.out HEK.out
    rw [b1, b2, b3, b4, ← HEE.out, HEK.out]
    exact bodyPost_ret (v := .tuple #[.agg #[.int .i64 T, .slice va nv vc, .slice qa nq qc], .bool D, .int .i64 0]) (by simp [results, Try.results19, go_sem, c0, c1, c2]) rfl ⟨_, _, rfl, GV.out, OV.out, BV.out⟩

theorem storeAdd_any (first : Int) (gv ov pv : Value) (L : List (List Fr)) (O : List Fr) (f : Fr) (w : World) (hg : GrsIn (fun _ => True) w gv L) (ho : FrsIn (fun _ => True) w ov O) (hp : StrsIn (fun _ => True) w pv f.parts) :
    Calls Try.prog 19 #[.agg #[.int .i64 first, gv, ov], .agg #[.int .i64 f.time, .bool f.key, pv]] w fun e w' => ∃ gv' ov', e = .returned (.tuple #[.agg #[.int .i64 (addsF first L O f), gv', ov'], .bool (addsB first L O f), .int .i64 (addsE first L O f)]) ∧ GrsIn (fun _ => True) w' gv' (addsL first L O f) ∧ FrsIn (fun _ => True) w' ov' (addsO first L O f) ∧ Below w.heap.size w w' := by
  refine (storeAdd_new first gv ov pv L O f w hg ho hp).mono ?_
  rintro e w' ⟨gv', ov', he, h1, h2, h3⟩
  exact ⟨gv', ov', he, h1.mono (fun _ _ _ => trivial), h2.mono (fun _ _ _ => trivial), h3⟩

end Go.Proofs.Ytnpaejknoipicae

namespace Go.Proofs.Ytnpaejknoipicae
open Go.RowKit

/-- what Get says, and what it finds -/
def getE (first : Int) (L : List (List Fr)) (O : List Fr) (n : Int) : Int := if stchk first L O = 0 then (if n < first then 5 else if ((allG L O).length : Int) ≤ n - first then 5 else 0) else stchk first L O
def getG (first : Int) (L : List (List Fr)) (O : List Fr) (n : Int) : List Fr := if getE first L O n = 0 then grAt (allG L O) (n - first).toNat else []
theorem allG_len (L : List (List Fr)) (O : List Fr) (h : L.length ≤ 5) : (allG L O).length ≤ 6 := by
  unfold allG; split
  · simp; omega
  · omega
theorem allG_right {first : Int} {L : List (List Fr)} {O : List Fr} (h : stchk first L O = 0) : ∀ g ∈ allG L O, gchk g = 0 := by
  obtain ⟨_, _, _, h1, _, h2⟩ := stchk_zero.1 h
  intro g hg
  unfold allG at hg
  split at hg
  · rcases List.mem_append.1 hg with hg | hg
    · exact h1 g hg
    · simp at hg; subst hg
      rcases h2 with h2 | h2
      · rename_i h0; rw [h2] at h0; simp at h0
      · exact h2
  · exact h1 g hg

set_option maxHeartbeats 4000000 in
set_option maxRecDepth 100000 in
theorem storeGet_new (first : Int) (gv ov : Value) (L : List (List Fr)) (O : List Fr) (n : Int) (w : World) (hg : GrsIn (fun _ => True) w gv L) (ho : FrsIn (fun _ => True) w ov O) (hnb : n ≤ 9223372036854775807) :
    Calls Try.prog 27 #[.agg #[.int .i64 first, gv, ov], .int .i64 n] w fun e w' => ∃ a c, e = .returned (.tuple #[.agg #[.slice a (getG first L O n).length c], .int .i64 (getE first L O n)]) ∧ FrsIn (fun g => w.heap.size ≤ g) w' (.slice a (getG first L O n).length c) (getG first L O n) ∧ Below w.heap.size w w' := by
  obtain ⟨ga, gc, eg, _, _⟩ := hg.len
  obtain ⟨oa, oc, eo, _, _⟩ := ho.len
  obtain ⟨ln, hln⟩ : ∃ n, n = L.length := ⟨_, rfl⟩
  obtain ⟨lo, hlo⟩ : ∃ n, n = O.length := ⟨_, rfl⟩
  rw [← hln] at eg
  rw [← hlo] at eo
  have HG : Hid (GrsIn (fun _ => True) w gv L) := hg
  have HO : Hid (FrsIn (fun _ => True) w ov O) := ho
  obtain ⟨E, hE⟩ : ∃ E, E = getE first L O n := ⟨_, rfl⟩
  obtain ⟨G, hG⟩ : ∃ G, G = getG first L O n := ⟨_, rfl⟩
  obtain ⟨K, hK⟩ : ∃ K, K = stchk first L O := ⟨_, rfl⟩
  have HE : Hid (E = if K = 0 then (if n < first then 5 else if ((allG L O).length : Int) ≤ n - first then 5 else 0) else K) := by show _ = _; rw [hE, hK]; rfl
  have HGG : Hid (G = if E = 0 then grAt (allG L O) (n - first).toNat else []) := by show _ = _; rw [hG, hE]; rfl
  have HC : Hid (∀ U, Below w.heap.size w U → Calls Try.prog 40 #[.agg #[.int .i64 first, gv, ov]] U fun e w' => e = .returned (.int .i64 K) ∧ Below U.heap.size U w') := fun U hU => by
    rw [hK]; exact storeCheck_any _ first gv ov L O U (HG.out.below hU) (HO.out.below hU)
  have HK0 : Hid (K = 0 → 0 ≤ first ∧ first ≤ 100000 ∧ L.length ≤ 5 ∧ (∀ g ∈ allG L O, gchk g = 0)) := fun h => by
    have h' : stchk first L O = 0 := by rw [← hK]; exact h
    obtain ⟨h1, h2, h3, _⟩ := stchk_zero.1 h'
    exact ⟨h1, h2, h3, allG_right h'⟩
  rw [← hE, ← hG]
  clear hg ho hE hG hK hln hlo
  subst eg eo
  go_enter Try.func27, Try.ntmps27
  go_wp2_with fail
  have B1 : Hid (Below w.heap.size w ((w.alloc (.cells #[.int .i64 first, .slice ga ln gc, .slice oa lo oc] 36)).alloc (.cells #[.slice none 0 0] 34))) := ((Below.refl _ _).alloc (Nat.le_refl _) _).alloc (by simp) _
  have K1 : Hid (Blk ((w.alloc (.cells #[.int .i64 first, .slice ga ln gc, .slice oa lo oc] 36)).alloc (.cells #[.slice none 0 0] 34)) w.heap.size #[.int .i64 first, .slice ga ln gc, .slice oa lo oc] 36) := (Blk.new w _ _).alloc _
  have R1 : Hid (Blk ((w.alloc (.cells #[.int .i64 first, .slice ga ln gc, .slice oa lo oc] 36)).alloc (.cells #[.slice none 0 0] 34)) (w.heap.size + 1) #[.slice none 0 0] 34) := by
    have := Blk.new (w.alloc (.cells #[.int .i64 first, .slice ga ln gc, .slice oa lo oc] 36)) #[.slice none 0 0] 34
    simpa [Hid] using this
  refine (HC.out _ B1.out).mono ?_
  rintro e w2 ⟨rfl, hb2⟩
  have B2 : Hid (Below w.heap.size w w2) := B1.out.trans (hb2.mono B1.out.size)
  have K2 : Hid (Blk w2 w.heap.size #[.int .i64 first, .slice ga ln gc, .slice oa lo oc] 36) := K1.out.below hb2 K1.out.lt
  have R2 : Hid (Blk w2 (w.heap.size + 1) #[.slice none 0 0] 34) := R1.out.below hb2 R1.out.lt
  clear hb2 B1 K1 R1 HC
  obtain ⟨k0, k1, k2⟩ := K2.out.three
  have r0 := R2.out.one
  have r1 := R2.out.free 0
  by_cases hK : K = 0
  case neg =>
    have HEE : Hid (E = K ∧ G = []) := by
      have e1 : E = K := by rw [HE.out, if_neg hK]
      exact ⟨e1, by rw [HGG.out, if_neg (by rw [e1]; exact hK)]⟩
    go_wp2
    obtain ⟨e1, e2⟩ := HEE.out
    rw [e1, e2]
    exact bodyPost_ret (v := .tuple #[.agg #[.slice none 0 0], .int .i64 K]) (by simp [results, Try.results27, go_sem, r0]) rfl ⟨none, 0, rfl, FrsIn.nil _ _, by first | exact B2.out | exact B2.out.setCell (by simp) _⟩
  obtain ⟨hf0, hf1, hL5, hAR⟩ := HK0.out hK
  have HAR : Hid (∀ g ∈ allG L O, gchk g = 0) := hAR
  have HE2 : Hid (E = if n < first then 5 else if ((allG L O).length : Int) ≤ n - first then 5 else 0) := by show _ = _; rw [HE.out, if_pos hK]
  have HAL : Hid ((allG L O).length ≤ 6) := allG_len L O hL5
  have HL5 : Hid (L.length ≤ 100) := by show _ ≤ _; omega
  clear hAR HE HK0 hL5
  subst hK
  obtain ⟨A, hA⟩ : ∃ A, A = allG L O := ⟨_, rfl⟩
  rw [← hA] at HAR HE2 HAL HGG
  obtain ⟨q, hq⟩ : ∃ q, q = A.length := ⟨_, rfl⟩
  have HQ : Hid (q = A.length) := hq
  have hq6 : q ≤ 6 := by rw [hq]; exact HAL.out
  rw [← hq] at HE2
  have HALL : Hid (∀ (M : Nat) (U : World), Blk U M #[.int .i64 first, .slice ga ln gc, .slice oa lo oc] 82 → Below w.heap.size w U → Calls Try.prog 49 #[.pointer (some ⟨M, 0, none⟩)] U fun e w' => ∃ a c, e = .returned (.slice a q c) ∧ Hid (GrsIn (fun _ => True) w' (.slice a q c) A) ∧ Below U.heap.size U w') := fun M U h1 h2 => by
    refine (keeperAll_any M first _ _ L O U h1 (HG.out.below h2) (HO.out.below h2) HL5.out).mono ?_
    rintro e w' ⟨u, rfl, h3, h4⟩
    rw [← hA] at h3
    obtain ⟨a, c, e, _, _⟩ := h3.len
    rw [← hq] at e
    subst e
    exact ⟨a, c, rfl, h3, h4⟩
  clear hA hq
  go_wp2_with fail
  have B3 : Hid (Below w.heap.size w (w2.alloc (.cells #[.int .i64 first, .slice ga ln gc, .slice oa lo oc] 82))) := B2.out.alloc B2.out.size _
  have M3 : Hid (Blk (w2.alloc (.cells #[.int .i64 first, .slice ga ln gc, .slice oa lo oc] 82)) w2.heap.size #[.int .i64 first, .slice ga ln gc, .slice oa lo oc] 82) := Blk.new _ _ _
  refine (HALL.out _ _ M3.out B3.out).mono ?_
  rintro e w4 ⟨ua, uc, rfl, GU, hb4⟩
  have B4 : Hid (Below w.heap.size w w4) := B3.out.trans (hb4.mono B3.out.size)
  have M4 : Hid (Blk w4 w2.heap.size #[.int .i64 first, .slice ga ln gc, .slice oa lo oc] 82) := M3.out.below hb4 M3.out.lt
  have R4 : Hid (Blk w4 (w.heap.size + 1) #[.slice none 0 0] 34) := (R2.out.alloc _).below hb4 (by have := R2.out.lt; simp; omega)
  clear hb4 B3 M3 B2 K2 R2 k0 k1 k2 r0 r1 HALL
  obtain ⟨k0, k1, k2⟩ := M4.out.three
  have r0 := R4.out.one
  have r1 := R4.out.free 0
  by_cases hn1 : n < first
  · have HEE : Hid (E = 5 ∧ G = []) := by
      have e1 : E = 5 := by rw [HE2.out, if_pos hn1]
      exact ⟨e1, by rw [HGG.out, if_neg (by rw [e1]; decide)]⟩
    go_wp2
    obtain ⟨e1, e2⟩ := HEE.out
    rw [e1, e2]
    exact bodyPost_ret (v := .tuple #[.agg #[.slice none 0 0], .int .i64 5]) (by simp [results, Try.results27, go_sem, r0]) rfl ⟨none, 0, rfl, FrsIn.nil _ _, by first | exact B4.out | exact B4.out.setCell (by simp) _⟩
  by_cases hn2 : (q : Int) ≤ n - first
  · have HEE : Hid (E = 5 ∧ G = []) := by
      have e1 : E = 5 := by rw [HE2.out, if_neg hn1, if_pos hn2]
      exact ⟨e1, by rw [HGG.out, if_neg (by rw [e1]; decide)]⟩
    go_wp2
    obtain ⟨e1, e2⟩ := HEE.out
    rw [e1, e2]
    exact bodyPost_ret (v := .tuple #[.agg #[.slice none 0 0], .int .i64 5]) (by simp [results, Try.results27, go_sem, r0]) rfl ⟨none, 0, rfl, FrsIn.nil _ _, by first | exact B4.out | exact B4.out.setCell (by simp) _⟩
  obtain ⟨d, hd⟩ : ∃ d : Nat, (d : Int) = n - first := ⟨(n - first).toNat, by omega⟩
  have hdq : d < q := by omega
  have hnd : n = first + d := by omega
  have HEE : Hid (E = 0 ∧ G = grAt A d) := by
    have e1 : E = 0 := by rw [HE2.out, if_neg hn1, if_neg hn2]
    exact ⟨e1, by rw [HGG.out, if_pos e1, ← hd]; rfl⟩
  obtain ⟨ao, c', eu, _, _, hc⟩ := GU.out
  rw [← HQ.out] at eu
  injection eu with eu eu2 eu3
  clear eu2
  subst eu eu3
  obtain ⟨b, off, e1, hb, _, sv, c0, hsv⟩ := hc d (by rw [← HQ.out]; exact hdq)
  have hGd : grAt A d = G := HEE.out.2.symm
  rw [show A[d]?.getD [] = G from hGd] at hsv
  obtain ⟨sa, sc, es, _, _⟩ := hsv.len
  obtain ⟨gn, hgn⟩ : ∃ gn, gn = G.length := ⟨_, rfl⟩
  rw [← hgn] at es
  have HGN : Hid (gn = G.length) := hgn
  have hGR : gchk G = 0 := HAR.out G (by rw [← hGd]; unfold grAt; rw [List.getElem?_eq_getElem (by rw [← HQ.out]; exact hdq)]; exact List.getElem_mem _)
  have HCL : Hid (Calls Try.prog 50 #[.agg #[sv]] w4 fun e w' => ∃ a c, e = .returned (.agg #[.slice a gn c]) ∧ Hid (FrsIn (fun g => w4.heap.size ≤ g) w' (.slice a gn c) G) ∧ Below w4.heap.size w4 w') := by
    show Calls _ _ _ _ _
    rw [hgn]; exact cloneGroup_any _ sv G w4 hsv hGR
  have HE0 : Hid (E = 0) := HEE.out.1
  have hdw : IntKind.i64.wrap (d : Int) = (d : Int) := by rw [IntKind.wrap_i64]; omega
  have hdqi : (d : Int) < (q : Int) := by omega
  have hnf : first + (d : Int) - first = (d : Int) := by omega
  have hnl : ¬ first + (d : Int) < first := by omega
  have hqd : ¬ (q : Int) ≤ (d : Int) := by omega
  clear hc hsv hGd hGR hn1 hn2 hd HE2 HGG HEE hgn
  subst hnd es e1
  go_wp2_with fail
  refine HCL.out.mono ?_
  rintro e w5 ⟨a5, c5, rfl, HF5, hb5⟩
  have B5 : Hid (Below w.heap.size w w5) := B4.out.trans (hb5.mono B4.out.size)
  have K5 := R4.out.below hb5 R4.out.lt
  have q0 := K5.one
  have q1 := K5.free 0
  have c9 : (w5.setCell ⟨w.heap.size + 1, 0, none⟩ (.slice a5 gn c5)).cell? ⟨w.heap.size + 1, 0, none⟩ = some (.slice a5 gn c5) := (K5.set 0 _).cell rfl
  have hlt4 := R4.out.lt
  have F9 : Hid (FrsIn (fun g => w.heap.size ≤ g) (w5.setCell ⟨w.heap.size + 1, 0, none⟩ (.slice a5 gn c5)) (.slice a5 gn c5) G) := HF5.out.to (SameOn.setCell (fun g hg => by simp at hg ⊢; omega) _) (fun g _ h => by omega)
  clear hb5 K5 HF5 HCL c0 k0 k1 k2 r0 r1
  go_wp2
  rw [HE0.out, ← HGN.out]
  exact bodyPost_ret (v := .tuple #[.agg #[.slice a5 gn c5], .int .i64 0]) (by simp [results, Try.results27, go_sem, c9]) rfl ⟨a5, c5, rfl, F9.out, B5.out.setCell (by simp) _⟩

theorem storeGet_any (first : Int) (gv ov : Value) (L : List (List Fr)) (O : List Fr) (n : Int) (w : World) (hg : GrsIn (fun _ => True) w gv L) (ho : FrsIn (fun _ => True) w ov O) (hnb : n ≤ 9223372036854775807) :
    Calls Try.prog 27 #[.agg #[.int .i64 first, gv, ov], .int .i64 n] w fun e w' => ∃ a c, e = .returned (.tuple #[.agg #[.slice a (getG first L O n).length c], .int .i64 (getE first L O n)]) ∧ FrsIn (fun _ => True) w' (.slice a (getG first L O n).length c) (getG first L O n) ∧ Below w.heap.size w w' := by
  refine (storeGet_new first gv ov L O n w hg ho hnb).mono ?_
  rintro e w' ⟨a, c, rfl, h1, h2⟩
  exact ⟨a, c, rfl, h1.mono (fun _ _ _ => trivial), h2⟩

end Go.Proofs.Ytnpaejknoipicae

namespace Go.Proofs.Ytnpaejknoipicae
open Go.RowKit

/-- the last one behind the first that begins so early, or the first one -/
def seekI (A : List (List Fr)) (t : Int) : Nat → Nat
  | 0 => 0
  | i + 1 => if (frAt (grAt A (i + 1)) 0).time ≤ t then i + 1 else seekI A t i
theorem seekI_le (A : List (List Fr)) (t : Int) : ∀ i, seekI A t i ≤ i
  | 0 => Nat.le_refl _
  | i + 1 => by
    unfold seekI; split
    · exact Nat.le_refl _
    · exact Nat.le_succ_of_le (seekI_le A t i)
theorem seekI_hit {A : List (List Fr)} {t : Int} {i i1 : Nat} (h : i = i1 + 1) (hl : (frAt (grAt A i) 0).time ≤ t) : seekI A t i = i := by
  subst h; simp only [seekI]; rw [if_pos hl]
theorem seekI_miss {A : List (List Fr)} {t : Int} {i i1 : Nat} (h : i = i1 + 1) (hl : ¬ (frAt (grAt A i) 0).time ≤ t) : seekI A t i = seekI A t i1 := by
  subst h; simp only [seekI]; rw [if_neg hl]
def seekE (first : Int) (L : List (List Fr)) (O : List Fr) (t : Int) : Int := if stchk first L O = 0 then (if t < 0 then 3 else if 1000000 < t then 3 else if (allG L O).length = 0 then 5 else 0) else stchk first L O
def seekN (first : Int) (L : List (List Fr)) (O : List Fr) (t : Int) : Int := if seekE first L O t = 0 then first + seekI (allG L O) t ((allG L O).length - 1) else 0

set_option maxHeartbeats 4000000 in
set_option maxRecDepth 100000 in
theorem storeSeek_any (first : Int) (gv ov : Value) (L : List (List Fr)) (O : List Fr) (t : Int) (w : World) (hg : GrsIn (fun _ => True) w gv L) (ho : FrsIn (fun _ => True) w ov O) :
    Calls Try.prog 39 #[.agg #[.int .i64 first, gv, ov], .int .i64 t] w fun e w' => e = .returned (.tuple #[.int .i64 (seekN first L O t), .int .i64 (seekE first L O t)]) ∧ Below w.heap.size w w' := by
  obtain ⟨ga, gc, eg, _, _⟩ := hg.len
  obtain ⟨oa, oc, eo, _, _⟩ := ho.len
  obtain ⟨ln, hln⟩ : ∃ n, n = L.length := ⟨_, rfl⟩
  obtain ⟨lo, hlo⟩ : ∃ n, n = O.length := ⟨_, rfl⟩
  rw [← hln] at eg
  rw [← hlo] at eo
  have HG : Hid (GrsIn (fun _ => True) w gv L) := hg
  have HO : Hid (FrsIn (fun _ => True) w ov O) := ho
  obtain ⟨E, hE⟩ : ∃ E, E = seekE first L O t := ⟨_, rfl⟩
  obtain ⟨N, hN⟩ : ∃ N, N = seekN first L O t := ⟨_, rfl⟩
  obtain ⟨K, hK⟩ : ∃ K, K = stchk first L O := ⟨_, rfl⟩
  have HE : Hid (E = if K = 0 then (if t < 0 then 3 else if 1000000 < t then 3 else if (allG L O).length = 0 then 5 else 0) else K) := by show _ = _; rw [hE, hK]; rfl
  have HNN : Hid (N = if E = 0 then first + seekI (allG L O) t ((allG L O).length - 1) else 0) := by show _ = _; rw [hN, hE]; rfl
  have HC : Hid (∀ U, Below w.heap.size w U → Calls Try.prog 40 #[.agg #[.int .i64 first, gv, ov]] U fun e w' => e = .returned (.int .i64 K) ∧ Below U.heap.size U w') := fun U hU => by
    rw [hK]; exact storeCheck_any _ first gv ov L O U (HG.out.below hU) (HO.out.below hU)
  have HK0 : Hid (K = 0 → 0 ≤ first ∧ first ≤ 100000 ∧ L.length ≤ 5 ∧ (∀ g ∈ allG L O, gchk g = 0)) := fun h => by
    have h' : stchk first L O = 0 := by rw [← hK]; exact h
    obtain ⟨h1, h2, h3, _⟩ := stchk_zero.1 h'
    exact ⟨h1, h2, h3, allG_right h'⟩
  have HBAD : Hid (∀ e : Int, E = e → ¬ e = 0 → N = 0) := fun e h1 h2 => by rw [HNN.out, if_neg (by rw [h1]; exact h2)]
  rw [← hE, ← hN]
  clear hg ho hE hN hK hln hlo
  subst eg eo
  go_enter Try.func39, Try.ntmps39
  go_wp2_with fail
  have B1 : Hid (Below w.heap.size w (w.alloc (.cells #[.int .i64 first, .slice ga ln gc, .slice oa lo oc] 36))) := (Below.refl _ _).alloc (Nat.le_refl _) _
  have K1 : Hid (Blk (w.alloc (.cells #[.int .i64 first, .slice ga ln gc, .slice oa lo oc] 36)) w.heap.size #[.int .i64 first, .slice ga ln gc, .slice oa lo oc] 36) := Blk.new w _ _
  refine (HC.out _ B1.out).mono ?_
  rintro e w2 ⟨rfl, hb2⟩
  have B2 : Hid (Below w.heap.size w w2) := B1.out.trans (hb2.mono B1.out.size)
  have K2 : Hid (Blk w2 w.heap.size #[.int .i64 first, .slice ga ln gc, .slice oa lo oc] 36) := K1.out.below hb2 K1.out.lt
  clear hb2 B1 K1 HC
  obtain ⟨k0, k1, k2⟩ := K2.out.three
  by_cases hK : K = 0
  case neg =>
    have e1 : E = K := by rw [HE.out, if_neg hK]
    have HEE : Hid (E = K ∧ N = 0) := ⟨e1, HBAD.out K e1 hK⟩
    clear e1
    go_wp2
    obtain ⟨e1, e2⟩ := HEE.out
    rw [e1, e2]
    go_ret2
    exact ⟨rfl, B2.out⟩
  obtain ⟨hf0, hf1, hL5, hAR⟩ := HK0.out hK
  have HAR : Hid (∀ g ∈ allG L O, gchk g = 0) := hAR
  have HE2 : Hid (E = if t < 0 then 3 else if 1000000 < t then 3 else if (allG L O).length = 0 then 5 else 0) := by show _ = _; rw [HE.out, if_pos hK]
  have HAL : Hid ((allG L O).length ≤ 6) := allG_len L O hL5
  have HL5 : Hid (L.length ≤ 100) := by show _ ≤ _; omega
  clear hAR HE HK0 hL5
  subst hK
  by_cases ht1 : t < 0
  · have e1 : E = 3 := by rw [HE2.out, if_pos ht1]
    have HEE : Hid (E = 3 ∧ N = 0) := ⟨e1, HBAD.out 3 e1 (by decide)⟩
    clear e1
    go_wp2
    obtain ⟨e1, e2⟩ := HEE.out
    rw [e1, e2]
    go_ret2
    exact ⟨rfl, B2.out⟩
  by_cases ht2 : 1000000 < t
  · have e1 : E = 3 := by rw [HE2.out, if_neg ht1, if_pos ht2]
    have HEE : Hid (E = 3 ∧ N = 0) := ⟨e1, HBAD.out 3 e1 (by decide)⟩
    clear e1
    go_wp2
    obtain ⟨e1, e2⟩ := HEE.out
    rw [e1, e2]
    go_ret2
    exact ⟨rfl, B2.out⟩
  obtain ⟨A, hA⟩ : ∃ A, A = allG L O := ⟨_, rfl⟩
  rw [← hA] at HAR HE2 HAL HNN
  obtain ⟨q, hq⟩ : ∃ q, q = A.length := ⟨_, rfl⟩
  have HQ : Hid (q = A.length) := hq
  have hq6 : q ≤ 6 := by rw [hq]; exact HAL.out
  rw [← hq] at HE2 HNN
  have HALL : Hid (∀ (M : Nat) (U : World), Blk U M #[.int .i64 first, .slice ga ln gc, .slice oa lo oc] 82 → Below w.heap.size w U → Calls Try.prog 49 #[.pointer (some ⟨M, 0, none⟩)] U fun e w' => ∃ a c, e = .returned (.slice a q c) ∧ Hid (GrsIn (fun _ => True) w' (.slice a q c) A) ∧ Below U.heap.size U w') := fun M U h1 h2 => by
    refine (keeperAll_any M first _ _ L O U h1 (HG.out.below h2) (HO.out.below h2) HL5.out).mono ?_
    rintro e w' ⟨u, rfl, h3, h4⟩
    rw [← hA] at h3
    obtain ⟨a, c, e, _, _⟩ := h3.len
    rw [← hq] at e
    subst e
    exact ⟨a, c, rfl, h3, h4⟩
  clear hA hq
  go_wp2_with fail
  have B3 : Hid (Below w.heap.size w (w2.alloc (.cells #[.int .i64 first, .slice ga ln gc, .slice oa lo oc] 82))) := B2.out.alloc B2.out.size _
  have M3 : Hid (Blk (w2.alloc (.cells #[.int .i64 first, .slice ga ln gc, .slice oa lo oc] 82)) w2.heap.size #[.int .i64 first, .slice ga ln gc, .slice oa lo oc] 82) := Blk.new _ _ _
  refine (HALL.out _ _ M3.out B3.out).mono ?_
  rintro e w4 ⟨ua, uc, rfl, GU, hb4⟩
  have B4 : Hid (Below w.heap.size w w4) := B3.out.trans (hb4.mono B3.out.size)
  have M4 : Hid (Blk w4 w2.heap.size #[.int .i64 first, .slice ga ln gc, .slice oa lo oc] 82) := M3.out.below hb4 M3.out.lt
  clear hb4 B3 M3 B2 K2 k0 k1 k2 HALL
  obtain ⟨k0, k1, k2⟩ := M4.out.three
  by_cases hq0 : q = 0
  · have e1 : E = 5 := by rw [HE2.out, if_neg (by omega), if_neg (by omega), if_pos hq0]
    have HEE : Hid (E = 5 ∧ N = 0) := ⟨e1, HBAD.out 5 e1 (by decide)⟩
    clear e1
    subst hq0
    go_wp2
    obtain ⟨e1, e2⟩ := HEE.out
    rw [e1, e2]
    go_ret2
    exact ⟨rfl, B4.out⟩
  have e1 : E = 0 := by rw [HE2.out, if_neg (by omega), if_neg (by omega), if_neg hq0]
  have HEE : Hid (E = 0 ∧ N = first + seekI A t (q - 1)) := ⟨e1, by rw [HNN.out, if_pos e1]⟩
  obtain ⟨ao, c', eu, _, _, hc⟩ := GU.out
  rw [← HQ.out] at eu
  injection eu with eu eu2 eu3
  clear eu2
  subst eu eu3
  have HTM : Hid (∀ i, i < q → ∃ b off sa sn sc b2 off2, ua = some ⟨b, off, none⟩ ∧ b < w4.heap.size ∧ w4.cell? ⟨b, off + i, none⟩ = some (.slice (some ⟨b2, off2, none⟩) sn sc) ∧ 0 < sn ∧ sa = (frAt (grAt A i) 0).time ∧ w4.cell? ⟨b2, off2, none⟩ = some (.int .i64 sa)) := fun i hi => by
    obtain ⟨b, off, e1, hb, _, sv, c0, hsv⟩ := hc i (by rw [← HQ.out]; exact hi)
    have hgr : gchk (grAt A i) = 0 := HAR.out _ (by unfold grAt; rw [List.getElem?_eq_getElem (by rw [← HQ.out]; exact hi)]; exact List.getElem_mem _)
    obtain ⟨h0, _⟩ := gchk_zero.1 hgr
    obtain ⟨sa, sc, es, _, _, hf⟩ := hsv
    obtain ⟨b2, off2, e2, _, _, pv, d0, _⟩ := hf 0 h0
    subst e2
    exact ⟨b, off, _, _, sc, b2, off2, e1, hb, by rw [c0, es], h0, rfl, by simpa using d0⟩
  have hqi : ((q : Int) == 0) = false := by simp; omega
  obtain ⟨q1, hq1⟩ : ∃ q1, q1 = q - 1 := ⟨_, rfl⟩
  have hq1i : (q : Int) - 1 = (q1 : Int) := by omega
  rw [← hq1] at HEE
  have hq1l : q1 < q := by omega
  clear e1 hc HAR HE2 HNN HBAD hq1
  go_wp2_with fail
  go_loopw [9] (fun s wr => ∃ i : Nat, i ≤ q1 ∧ s = .int .i64 i ∧ Hid (seekI A t q1 = seekI A t i) ∧ wr = w4)
    (fun s _ => (intOf s).toNat)
  case atStart => exact ⟨q1, Nat.le_refl _, by go_num, (show _ = _ from rfl), rfl⟩
  case round =>
    obtain ⟨i, hi, rfl, HI, rfl⟩ := hrel
    by_cases hi0 : i = 0
    · subst hi0
      go_wp2
      obtain ⟨e1, e2⟩ := HEE.out
      rw [e1, e2, HI.out]
      go_ret2
      exact ⟨by simp [seekI], B4.out⟩
    · obtain ⟨b, off, sa, sn, sc, b2, off2, eu, hb, c0, hsn, hsa, d0⟩ := HTM.out i (by omega)
      have hi0i : (0 : Int) < (i : Int) := by omega
      have hiq : (i : Int) < (q : Int) := by omega
      have hsni : (0 : Int) < (sn : Int) := by omega
      have HSA : Hid (sa = (frAt (grAt A i) 0).time) := hsa
      obtain ⟨i1, hi1⟩ : ∃ i1, i = i1 + 1 := ⟨i - 1, by omega⟩
      have HI1 : Hid (i = i1 + 1) := hi1
      have hi1i : (i : Int) - 1 = (i1 : Int) := by omega
      clear hsa hi1
      subst eu
      by_cases hle : sa ≤ t
      · have HS : Hid (seekI A t i = i) := seekI_hit HI1.out (by rw [← HSA.out]; exact hle)
        go_wp2
        obtain ⟨e1, e2⟩ := HEE.out
        rw [e1, e2, HI.out, HS.out]
        go_ret2
        exact ⟨rfl, B4.out⟩
      · have HS : Hid (seekI A t q1 = seekI A t i1) := HI.out.trans (seekI_miss HI1.out (by rw [← HSA.out]; exact hle))
        go_wp2_with fail
        go_roundw
        case rel => exact ⟨i1, by have := HI1.out; omega, by go_num, HS, by first | rfl | trivial⟩
        case measure => simp [intOf]; omega

end Go.Proofs.Ytnpaejknoipicae

namespace Go.Proofs.Ytnpaejknoipicae

theorem trimD_le : ∀ L : List (List Fr), trimD L ≤ L.length - 1
  | [] => Nat.le_refl _
  | g :: r => by
    unfold trimD
    split
    · rename_i h
      have := fullB_len h
      have := trimD_le r
      simp at *
      omega
    · omega
theorem trimD_done : ∀ L : List (List Fr), fullB (L.drop (trimD L)) = false
  | [] => fullB_nil
  | g :: r => by
    unfold trimD
    split
    · rw [List.drop_succ_cons]; exact trimD_done r
    · rename_i h; simpa using h
theorem closedG_cases (O : List Fr) (f : Fr) : (closedG O f = [] ∧ ¬ (f.key = true ∧ 0 < O.length)) ∨ (closedG O f = [O] ∧ f.key = true ∧ 0 < O.length) := by
  unfold closedG
  by_cases h : (f.key && decide (0 < O.length)) = true
  · rw [if_pos h]
    simp only [Bool.and_eq_true, decide_eq_true_eq] at h
    exact .inr ⟨rfl, h⟩
  · rw [if_neg h]
    simp only [Bool.and_eq_true, decide_eq_true_eq] at h
    exact .inl ⟨rfl, h⟩
theorem addsE_zero {first : Int} {L : List (List Fr)} {O : List Fr} {f : Fr} (h : addsE first L O f = 0) : stchk first L O = 0 ∧ f.chk = 0 ∧ first + trimD (L ++ closedG O f) ≤ 100000 ∧ addsF first L O f = first + trimD (L ++ closedG O f) ∧ addsL first L O f = (L ++ closedG O f).drop (trimD (L ++ closedG O f)) ∧ addsO first L O f = growG O f ∧ addsB first L O f = decide (0 < (closedG O f).length) := by
  have h0 := h
  unfold addsE at h0
  by_cases h1 : stchk first L O = 0
  · rw [if_pos h1] at h0
    by_cases h2 : f.chk = 0
    · rw [if_pos h2] at h0
      by_cases h3 : 100000 < first + trimD (L ++ closedG O f)
      · rw [if_pos h3] at h0; cases h0
      · exact ⟨h1, h2, by omega, if_pos h, if_pos h, if_pos h, if_pos h⟩
    · rw [if_neg h2] at h0; exact absurd h0 h2
  · rw [if_neg h1] at h0; exact absurd h0 h1
theorem addsE_bad {first : Int} {L : List (List Fr)} {O : List Fr} {f : Fr} (h : ¬ addsE first L O f = 0) : addsF first L O f = 0 ∧ addsL first L O f = [] ∧ addsO first L O f = [] ∧ addsB first L O f = false := ⟨if_neg h, if_neg h, if_neg h, if_neg h⟩
theorem growG_right {O : List Fr} {f : Fr} (hO : O = [] ∨ gchk O = 0) (hf : f.chk = 0) : growG O f = [] ∨ gchk (growG O f) = 0 := by
  have := stepG_right (s := ([], O)) (f := f) ⟨fun g hg => absurd hg List.not_mem_nil, hO⟩ hf
  exact this.2
/-- what Add leaves is right -/
theorem adds_right {first : Int} {L : List (List Fr)} {O : List Fr} {f : Fr} (h : addsE first L O f = 0) : stchk (addsF first L O f) (addsL first L O f) (addsO first L O f) = 0 := by
  obtain ⟨h1, h2, h3, e1, e2, e3, _⟩ := addsE_zero h
  obtain ⟨a1, a2, a3, a4, a5, a6⟩ := stchk_zero.1 h1
  rw [e1, e2, e3]
  have hd := trimD_done (L ++ closedG O f)
  simp only [fullB, Bool.or_eq_false_iff, decide_eq_false_iff_not] at hd
  refine stchk_zero.2 ⟨by omega, h3, by omega, fun g hg => ?_, hd.2, growG_right a6 h2⟩
  have hm := List.mem_of_mem_drop hg
  rcases List.mem_append.1 hm with hm | hm
  · exact a4 g hm
  · rcases closedG_cases O f with ⟨e, _⟩ | ⟨e, _, h0⟩
    · rw [e] at hm; exact absurd hm List.not_mem_nil
    · rw [e] at hm
      simp at hm
      subst hm
      rcases a6 with a6 | a6
      · rw [a6] at h0; simp at h0
      · exact a6
theorem fullB_right {first : Int} {L : List (List Fr)} {O : List Fr} (h : stchk first L O = 0) : fullB L = false := by
  obtain ⟨_, _, a3, _, a5, _⟩ := stchk_zero.1 h
  simp only [fullB, Bool.or_eq_false_iff, decide_eq_false_iff_not]
  exact ⟨by omega, a5⟩
/-- a frame that closes none leaves the closed ones as they were -/
theorem adds_open {first : Int} {L : List (List Fr)} {O : List Fr} {f : Fr} (h : addsE first L O f = 0) (hb : addsB first L O f = false) : addsF first L O f = first ∧ addsL first L O f = L := by
  obtain ⟨h1, _, _, e1, e2, _, e4⟩ := addsE_zero h
  rw [e4, decide_eq_false_iff_not] at hb
  have hc : closedG O f = [] := List.eq_nil_of_length_eq_zero (by omega)
  rw [hc, List.append_nil] at e1 e2
  rw [trimD_no (fullB_right h1)] at e1 e2
  exact ⟨by rw [e1]; simp, by rw [e2]; simp⟩
theorem grAt_append (L M : List (List Fr)) (k : Nat) : grAt (L ++ M) k = if k < L.length then grAt L k else grAt M (k - L.length) := by
  unfold grAt
  split
  · rename_i h; rw [List.getElem?_append_left h]
  · rename_i h; rw [List.getElem?_append_right (by omega)]
theorem grAt_drop (L : List (List Fr)) (d k : Nat) : grAt (L.drop d) k = grAt L (d + k) := by
  unfold grAt; rw [List.getElem?_drop]
/-- what Get says of a store that is right -/
theorem getE_in {first : Int} {L : List (List Fr)} {O : List Fr} (h : stchk first L O = 0) {n : Int} {d : Nat} (hn : n = first + d) (hd : d < (allG L O).length) : getE first L O n = 0 ∧ getG first L O n = grAt (allG L O) d := by
  have e : getE first L O n = 0 := by
    unfold getE; rw [if_pos h, if_neg (by omega), if_neg (by omega)]
  refine ⟨e, ?_⟩
  unfold getG; rw [if_pos e]
  congr 1; omega
theorem getE_out {first : Int} {L : List (List Fr)} {O : List Fr} (h : stchk first L O = 0) {n : Int} (hn : n < first ∨ first + (allG L O).length ≤ n) : getE first L O n = 5 ∧ getG first L O n = [] := by
  have e : getE first L O n = 5 := by
    unfold getE; rw [if_pos h]
    by_cases h1 : n < first
    · rw [if_pos h1]
    · rw [if_neg h1, if_pos (by omega)]
  exact ⟨e, by unfold getG; rw [if_neg (by rw [e]; decide)]⟩
theorem allG_length (L : List (List Fr)) (O : List Fr) : (allG L O).length = L.length + (if 0 < O.length then 1 else 0) := by
  unfold allG; split <;> simp
/-- what was stored is there, by its number, or is gone -/
theorem adds_get {first : Int} {L : List (List Fr)} {O : List Fr} {f : Fr} (h : addsE first L O f = 0) {i : Nat} (hi : i < (L ++ closedG O f).length) :
    (first + i < addsF first L O f → getE (addsF first L O f) (addsL first L O f) (addsO first L O f) (first + i) = 5) ∧
    (¬ first + i < addsF first L O f → getE (addsF first L O f) (addsL first L O f) (addsO first L O f) (first + i) = 0 ∧ getG (addsF first L O f) (addsL first L O f) (addsO first L O f) (first + i) = grAt (L ++ closedG O f) i) := by
  have hr := adds_right h
  obtain ⟨_, _, _, e1, e2, _, _⟩ := addsE_zero h
  refine ⟨fun h1 => (getE_out hr (.inl h1)).1, fun h1 => ?_⟩
  rw [e1] at h1
  have hd : i - trimD (L ++ closedG O f) < (addsL first L O f).length := by rw [e2, List.length_drop]; omega
  obtain ⟨g1, g2⟩ := getE_in hr (n := first + i) (d := i - trimD (L ++ closedG O f)) (by rw [e1]; omega) (by rw [allG_length]; omega)
  refine ⟨g1, ?_⟩
  rw [g2]
  unfold allG
  have : grAt (addsL first L O f) (i - trimD (L ++ closedG O f)) = grAt (L ++ closedG O f) i := by
    rw [e2, grAt_drop]; congr 1; omega
  split
  · rw [grAt_append, if_pos hd, this]
  · exact this
/-- the newest one is there -/
theorem adds_last {first : Int} {L : List (List Fr)} {O : List Fr} {f : Fr} (h : addsE first L O f = 0) : addsF first L O f ≤ first + ((L ++ closedG O f).length - 1 : Nat) ∧ first ≤ addsF first L O f ∧ (0 < (L ++ closedG O f).length → 0 < (addsL first L O f).length) := by
  obtain ⟨_, _, _, e1, e2, _, _⟩ := addsE_zero h
  have := trimD_le (L ++ closedG O f)
  rw [e1, e2, List.length_drop]
  exact ⟨by omega, by omega, fun _ => by omega⟩
/-- what Seek finds -/
theorem seekI_spec (A : List (List Fr)) (t : Int) : ∀ i, (∀ j, seekI A t i < j → j ≤ i → t < (frAt (grAt A j) 0).time) ∧ (t < (frAt (grAt A (seekI A t i)) 0).time → seekI A t i = 0)
  | 0 => ⟨fun j h1 h2 => by simp [seekI] at h1; omega, fun _ => rfl⟩
  | i + 1 => by
    by_cases h : (frAt (grAt A (i + 1)) 0).time ≤ t
    · rw [seekI_hit rfl h]
      exact ⟨fun j h1 h2 => by omega, fun h2 => by omega⟩
    · rw [seekI_miss rfl h]
      have ih := seekI_spec A t i
      refine ⟨fun j h1 h2 => ?_, ih.2⟩
      by_cases hj : j = i + 1
      · subst hj; omega
      · exact ih.1 j h1 (by omega)
theorem seekE_zero {first : Int} {L : List (List Fr)} {O : List Fr} {t : Int} (h : seekE first L O t = 0) : stchk first L O = 0 ∧ 0 ≤ t ∧ t ≤ 1000000 ∧ 0 < (allG L O).length ∧ seekN first L O t = first + seekI (allG L O) t ((allG L O).length - 1) := by
  have h0 := h
  unfold seekE at h0
  by_cases h1 : stchk first L O = 0
  · rw [if_pos h1] at h0
    by_cases h2 : t < 0
    · rw [if_pos h2] at h0; cases h0
    rw [if_neg h2] at h0
    by_cases h3 : 1000000 < t
    · rw [if_pos h3] at h0; cases h0
    rw [if_neg h3] at h0
    by_cases h4 : (allG L O).length = 0
    · rw [if_pos h4] at h0; cases h0
    exact ⟨h1, by omega, by omega, by omega, if_pos h⟩
  · rw [if_neg h1] at h0; exact absurd h0 h1

end Go.Proofs.Ytnpaejknoipicae

namespace Go.Proofs.Ytnpaejknoipicae
open Go.RowKit

theorem gchk_first {l : List Fr} (h : gchk l = 0) : 0 < l.length ∧ l.length ≤ 6 ∧ (frAt l 0).key = true := by
  obtain ⟨h1, h2, h3⟩ := gchk_zero.1 h
  refine ⟨h1, h2, ?_⟩
  have := (h3 0 h1).2
  simpa [inPl] using this
theorem FrsIn.first {S : Nat → Prop} {w : World} {ao : Option Addr} {n c : Nat} {l : List Fr} (h : FrsIn S w (.slice ao n c) l) (h0 : 0 < l.length) : ∃ b off, ao = some ⟨b, off, none⟩ ∧ w.cell? ⟨b, off, none⟩ = some (.int .i64 (frAt l 0).time) ∧ w.cell? ⟨b, off + 1, none⟩ = some (.bool (frAt l 0).key) := by
  obtain ⟨ao', c', e, _, _, hc⟩ := h
  injection e with e1 _ _
  subst e1
  obtain ⟨b, off, e, _, _, pv, c0, c1, _⟩ := hc 0 h0
  exact ⟨b, off, e, by simpa using c0, by simpa using c1⟩
theorem grAt_mem {L : List (List Fr)} {k : Nat} (h : k < L.length) : grAt L k ∈ L := by
  unfold grAt; rw [List.getElem?_eq_getElem h]; exact List.getElem_mem _

end Go.Proofs.Ytnpaejknoipicae

namespace Go.Proofs.Ytnpaejknoipicae

def curE (m g f : Int) : Int := if m < 1 then 6 else if 3 < m then 6 else if g < 0 then 3 else if 100006 < g then 3 else if f < 0 then 3 else if 6 < f then 3 else 0
theorem curE_zero {m g f : Int} : curE m g f = 0 ↔ 1 ≤ m ∧ m ≤ 3 ∧ 0 ≤ g ∧ g ≤ 100006 ∧ 0 ≤ f ∧ f ≤ 6 := by
  unfold curE
  repeat' split
  all_goals first | omega | (constructor <;> intro h <;> omega)
/-- what Next looks at first -/
def nxE (first : Int) (L : List (List Fr)) (O : List Fr) (m g f upto : Int) : Int := if stchk first L O = 0 then (if curE m g f = 0 then (if upto < 0 then 3 else if 1000000 < upto then 3 else 0) else curE m g f) else stchk first L O
theorem nxE_zero {first : Int} {L : List (List Fr)} {O : List Fr} {m g f upto : Int} : nxE first L O m g f upto = 0 ↔ stchk first L O = 0 ∧ curE m g f = 0 ∧ 0 ≤ upto ∧ upto ≤ 1000000 := by
  unfold nxE
  by_cases h1 : stchk first L O = 0
  · rw [if_pos h1]
    by_cases h2 : curE m g f = 0
    · rw [if_pos h2]
      repeat' split
      all_goals (constructor <;> intro h <;> first | omega | (refine ⟨h1, h2, ?_, ?_⟩ <;> omega))
    · rw [if_neg h2]; exact ⟨fun h => absurd h h2, fun h => absurd h.2.1 h2⟩
  · rw [if_neg h1]; exact ⟨fun h => absurd h h1, fun h => absurd h.1 h1⟩

/-- the place of the frame that comes next, as the program finds it -/
def plT (first : Int) (L : List (List Fr)) (O : List Fr) (g f : Int) : Bool := decide (¬ getE first L O g = 0 ∨ ((getG first L O g).length : Int) < f)
def plS (first : Int) (L : List (List Fr)) (O : List Fr) (m : Int) : Int := if m = 3 then first else seekN first L O 1000000
def plG (first : Int) (L : List (List Fr)) (O : List Fr) (m g f : Int) : Int := if plT first L O g f then plS first L O m else if f = (getG first L O g).length then g + 1 else g
def plF (first : Int) (L : List (List Fr)) (O : List Fr) (g f : Int) : Int := if plT first L O g f then 0 else if f = (getG first L O g).length then 0 else f
def mayB (m t upto : Int) : Bool := decide (m = 1) || (decide (m = 3) && decide (t ≤ upto))
def okB (first : Int) (L : List (List Fr)) (O : List Fr) (m g f upto : Int) : Bool := decide (getE first L O g = 0) && mayB m (frAt (getG first L O g) f.toNat).time upto

/-- the same, as the document says it -/
def tryAt (m upto : Int) (A : List (List Fr)) (k j : Nat) (t : Bool) : Option (Nat × Nat × Bool) := if m = 3 ∧ upto < (frAt (grAt A k) j).time then none else some (k, j, t)
def nxt (m : Int) (A : List (List Fr)) (d f upto : Int) : Option (Nat × Nat × Bool) :=
  if m = 2 ∨ A.length = 0 then none else
    if d < 0 ∨ (A.length : Int) ≤ d ∨ ((grAt A d.toNat).length : Int) < f then tryAt m upto A (if m = 1 then A.length - 1 else 0) 0 true
    else if f = (grAt A d.toNat).length then (if d.toNat + 1 = A.length then none else tryAt m upto A (d.toNat + 1) 0 false)
    else tryAt m upto A d.toNat f.toNat false

theorem seek_last {first : Int} {L : List (List Fr)} {O : List Fr} (h : stchk first L O = 0) : seekN first L O 1000000 = if (allG L O).length = 0 then 0 else first + ((allG L O).length - 1 : Nat) := by
  by_cases h0 : (allG L O).length = 0
  · rw [if_pos h0]
    have he : seekE first L O 1000000 = 5 := by unfold seekE; rw [if_pos h, if_neg (by omega), if_neg (by omega), if_pos h0]
    unfold seekN
    rw [he, if_neg (by decide)]
  · rw [if_neg h0]
    have he : seekE first L O 1000000 = 0 := by unfold seekE; rw [if_pos h, if_neg (by omega), if_neg (by omega), if_neg h0]
    obtain ⟨_, _, _, _, e⟩ := seekE_zero he
    rw [e]
    obtain ⟨n, hn⟩ : ∃ n, (allG L O).length = n + 1 := ⟨(allG L O).length - 1, by omega⟩
    rw [hn, Nat.add_sub_cancel]
    cases n with
    | zero => rfl
    | succ n =>
      rw [seekI_hit rfl]
      have hr := allG_right h _ (grAt_mem (L := allG L O) (k := n + 1) (by omega))
      have := ((gchk_zero.1 hr).2.2 0 (gchk_zero.1 hr).1).1
      exact (chkF_zero this).2.1

/-- what the program does is what the document says -/
theorem next_spec {first : Int} {L : List (List Fr)} {O : List Fr} {m g f : Int} (upto : Int) (hs : stchk first L O = 0) (hc : curE m g f = 0) :
    (getE first L O (plG first L O m g f) = 0 → ∃ k j : Nat, plG first L O m g f = first + k ∧ k < (allG L O).length ∧ plF first L O g f = j ∧ j < (grAt (allG L O) k).length) ∧
    (okB first L O m (plG first L O m g f) (plF first L O g f) upto = true → ∃ k j : Nat, plG first L O m g f = first + k ∧ k < (allG L O).length ∧ plF first L O g f = j ∧ j < (grAt (allG L O) k).length ∧ nxt m (allG L O) (g - first) f upto = some (k, j, plT first L O g f)) ∧
    (okB first L O m (plG first L O m g f) (plF first L O g f) upto = false → nxt m (allG L O) (g - first) f upto = none) := by
  obtain ⟨c1, c2, c3, c4, c5, c6⟩ := curE_zero.1 hc
  obtain ⟨A, hA⟩ : ∃ A, A = allG L O := ⟨_, rfl⟩
  have hAR : ∀ k, k < A.length → 0 < (grAt A k).length := fun k hk => (gchk_first (by rw [hA]; exact allG_right hs _ (grAt_mem (by rw [← hA]; exact hk)))).1
  have hin : ∀ k : Nat, k < A.length → getE first L O (first + k) = 0 ∧ getG first L O (first + k) = grAt A k := fun k hk => by
    have := getE_in hs (n := first + k) (d := k) rfl (by rw [← hA]; exact hk)
    rw [← hA] at this; exact this
  have hout : ∀ n : Int, n < first ∨ first + A.length ≤ n → getE first L O n = 5 := fun n hn => (getE_out hs (by rw [← hA]; exact hn)).1
  have hlast := seek_last hs
  rw [← hA] at hlast ⊢
  -- by the place
  have key : ∀ (G F : Int) (T : Bool), plG first L O m g f = G → plF first L O g f = F → plT first L O g f = T →
      ((∃ k j : Nat, G = first + k ∧ k < A.length ∧ F = j ∧ j < (grAt A k).length ∧ (m = 2 ∨ nxt m A (g - first) f upto = tryAt m upto A k j T) ∧ (m = 2 → nxt m A (g - first) f upto = none)) ∨ (getE first L O G = 5 ∧ nxt m A (g - first) f upto = none)) →
      (getE first L O G = 0 → ∃ k j : Nat, G = first + k ∧ k < A.length ∧ F = j ∧ j < (grAt A k).length) ∧
      (okB first L O m G F upto = true → ∃ k j : Nat, G = first + k ∧ k < A.length ∧ F = j ∧ j < (grAt A k).length ∧ nxt m A (g - first) f upto = some (k, j, T)) ∧
      (okB first L O m G F upto = false → nxt m A (g - first) f upto = none) := by
    intro G F T _ _ _ h
    rcases h with ⟨k, j, h1, h2, h3, h4, h5, h6⟩ | ⟨h1, h2⟩
    · obtain ⟨e1, e2⟩ := hin k h2
      subst h1 h3
      have hok : okB first L O m (first + k) j upto = mayB m (frAt (grAt A k) j).time upto := by
        unfold okB; rw [e1, e2]; simp
      refine ⟨fun _ => ⟨k, j, rfl, h2, rfl, h4⟩, fun h => ⟨k, j, rfl, h2, rfl, h4, ?_⟩, fun h => ?_⟩
      · rw [hok] at h
        unfold mayB at h
        simp at h
        rcases h5 with h5 | h5
        · omega
        · rw [h5]; unfold tryAt; rw [if_neg (by omega)]
      · rw [hok] at h
        unfold mayB at h
        simp at h
        rcases h5 with h5 | h5
        · exact h6 h5
        · by_cases h2' : m = 2
          · exact h6 h2'
          · rw [h5]; unfold tryAt; rw [if_pos (by omega)]
    · refine ⟨fun h => (by rw [h1] at h; cases h), fun h => ?_, fun _ => h2⟩
      unfold okB at h; rw [h1] at h; simp at h
  by_cases hT : ¬ getE first L O g = 0 ∨ ((getG first L O g).length : Int) < f
  · have eT : plT first L O g f = true := decide_eq_true hT
    have eG : plG first L O m g f = plS first L O m := by unfold plG; rw [eT]; rfl
    have eF : plF first L O g f = 0 := by unfold plF; rw [eT]; rfl
    have hd : A.length = 0 ∨ (g - first < 0 ∨ (A.length : Int) ≤ g - first ∨ ((grAt A (g - first).toNat).length : Int) < f) := by
      by_cases h1 : g - first < 0 ∨ (A.length : Int) ≤ g - first
      · omega
      · obtain ⟨e1, e2⟩ := hin (g - first).toNat (by omega)
        rw [show first + ((g - first).toNat : Int) = g by omega] at e1 e2
        rw [e2] at hT
        rcases hT with hT | hT
        · exact absurd e1 hT
        · exact .inr (.inr (.inr hT))
    rw [eG, eF, eT]
    refine key _ _ _ eG eF eT ?_
    by_cases h0 : A.length = 0
    · refine .inr ⟨hout _ ?_, by unfold nxt; rw [if_pos (.inr h0)]⟩
      unfold plS; rw [hlast, if_pos h0, h0]
      obtain ⟨q1, _⟩ := stchk_zero.1 hs
      split <;> omega
    · left
      have hd2 := hd.resolve_left h0
      have hn : ¬ m = 2 → nxt m A (g - first) f upto = tryAt m upto A (if m = 1 then A.length - 1 else 0) 0 true := fun h => by
        unfold nxt; rw [if_neg (by omega), if_pos hd2]
      have hn2 : m = 2 → nxt m A (g - first) f upto = none := fun h => by unfold nxt; rw [if_pos (.inl h)]
      unfold plS
      by_cases h3 : m = 3
      · rw [if_pos h3]
        refine ⟨0, 0, by simp, by omega, rfl, hAR 0 (by omega), .inr ?_, hn2⟩
        rw [hn (by omega), if_neg (by omega)]
      · rw [if_neg h3, hlast, if_neg h0]
        refine ⟨A.length - 1, 0, rfl, by omega, rfl, hAR _ (by omega), ?_, hn2⟩
        by_cases h2 : m = 2
        · exact .inl h2
        · right; rw [hn h2, if_pos (by omega)]
  · have eT : plT first L O g f = false := decide_eq_false hT
    have h1 : getE first L O g = 0 := by by_cases h : getE first L O g = 0 <;> omega
    have hg1 : ¬ (g < first ∨ first + (A.length : Int) ≤ g) := fun h => by rw [hout g h] at h1; cases h1
    obtain ⟨d, hd⟩ : ∃ d : Nat, g = first + d := ⟨(g - first).toNat, by omega⟩
    have hdA : d < A.length := by omega
    obtain ⟨_, e2⟩ := hin d hdA
    rw [← hd] at e2
    have hgd : (g - first).toNat = d := by omega
    have hfl : f ≤ (grAt A d).length := by rw [e2] at hT; omega
    have hnd : ¬ (g - first < 0 ∨ (A.length : Int) ≤ g - first ∨ ((grAt A (g - first).toNat).length : Int) < f) := by rw [hgd]; omega
    have hn2 : m = 2 → nxt m A (g - first) f upto = none := fun h => by unfold nxt; rw [if_pos (.inl h)]
    by_cases hf : f = (grAt A d).length
    · have eG : plG first L O m g f = g + 1 := by unfold plG; rw [eT, e2, if_pos hf]; rfl
      have eF : plF first L O g f = 0 := by unfold plF; rw [eT, e2, if_pos hf]; rfl
      rw [eG, eF, eT]
      refine key _ _ _ eG eF eT ?_
      have hn : ¬ m = 2 → nxt m A (g - first) f upto = if d + 1 = A.length then none else tryAt m upto A (d + 1) 0 false := fun h => by
        unfold nxt; rw [if_neg (by omega), if_neg hnd, hgd, if_pos hf]
      by_cases hl : d + 1 = A.length
      · right
        refine ⟨hout _ (by omega), ?_⟩
        by_cases h2 : m = 2
        · exact hn2 h2
        · rw [hn h2, if_pos hl]
      · left
        refine ⟨d + 1, 0, by omega, by omega, rfl, hAR _ (by omega), ?_, hn2⟩
        by_cases h2 : m = 2
        · exact .inl h2
        · right; rw [hn h2, if_neg hl]
    · have eG : plG first L O m g f = g := by unfold plG; rw [eT, e2, if_neg hf]; rfl
      have eF : plF first L O g f = f := by unfold plF; rw [eT, e2, if_neg hf]; rfl
      rw [eG, eF, eT]
      refine key _ _ _ eG eF eT (.inl ⟨d, f.toNat, hd, hdA, by omega, by omega, ?_, hn2⟩)
      by_cases h2 : m = 2
      · exact .inl h2
      · right; unfold nxt; rw [if_neg (by omega), if_neg hnd, hgd, if_neg hf]

end Go.Proofs.Ytnpaejknoipicae

namespace Go.Proofs.Ytnpaejknoipicae
open Go.RowKit

def Stay (w : World) (P : World → Prop) : Prop := ∀ w', Below w.heap.size w w' → P w'
theorem Stay.now {w : World} {P : World → Prop} (h : Stay w P) : P w := h w (Below.refl _ _)
theorem Stay.step {w w' : World} {P : World → Prop} (h : Stay w P) (hb : Below w.heap.size w w') : Stay w' P := fun w'' h2 => h w'' (hb.trans (h2.mono hb.size))
theorem Stay.alloc {w : World} {P : World → Prop} (h : Stay w P) (o : Obj) : Stay (w.alloc o) P := h.step ((Below.refl _ w).alloc (Nat.le_refl _) _)
theorem Stay.and {w : World} {P Q : World → Prop} (h : Stay w P) (k : Stay w Q) : Stay w (fun U => P U ∧ Q U) := fun w' hb => ⟨h w' hb, k w' hb⟩
theorem Stay.imp {w : World} {P Q : World → Prop} (h : Stay w P) (k : ∀ U, P U → Q U) : Stay w Q := fun w' hb => k w' (h w' hb)
theorem Blk.stay {w : World} {b : Nat} {C : Array Value} {t : TypeId} (h : Blk w b C t) : Stay w (fun U => Blk U b C t) := fun _ hb => h.below hb h.lt
theorem FrsIn.stay {S : Nat → Prop} {w : World} {v : Value} {l : List Fr} (h : FrsIn S w v l) : Stay w (fun U => FrsIn S U v l) := fun _ hb => h.below hb
theorem StrsIn.stay {S : Nat → Prop} {w : World} {v : Value} {l : List ByteArray} (h : StrsIn S w v l) : Stay w (fun U => StrsIn S U v l) := fun _ hb => h.below hb
theorem GrsIn.stay {S : Nat → Prop} {w : World} {v : Value} {L : List (List Fr)} (h : GrsIn S w v L) : Stay w (fun U => GrsIn S U v L) := fun _ hb => h.below hb
theorem below_stay {B : Nat} {a w : World} (h : Below B a w) (hB : B ≤ w.heap.size) : Stay w (fun U => Below B a U) := fun _ hb => h.trans (hb.mono hB)
theorem below_stay0 (w : World) : Stay w (fun U => Below w.heap.size w U) := below_stay (Below.refl _ _) (Nat.le_refl _)

theorem Stay.hid {w : World} {P : World → Prop} (h : Stay w P) : Hid (Stay w P) := h
theorem Stay.go {w w' : World} {P : World → Prop} (h : Hid (Stay w P)) (hb : Below w.heap.size w w') : Hid (Stay w' P) := Stay.step h hb
theorem Stay.allocE {w W : World} {P : World → Prop} {o : Obj} (h : Stay w P) (e : W = w.alloc o) : Hid (Stay W P) := by subst e; exact h.alloc _
theorem Blk.newE {w W : World} {C : Array Value} {t : TypeId} (e : W = w.alloc (.cells C t)) : Blk W w.heap.size C t := by subst e; exact Blk.new _ _ _
theorem FrsIn.allocE {S : Nat → Prop} {w W : World} {v : Value} {l : List Fr} {o : Obj} (h : FrsIn S w v l) (e : W = w.alloc o) : FrsIn S W v l := by subst e; exact h.alloc _
theorem GrsIn.allocE {S : Nat → Prop} {w W : World} {v : Value} {L : List (List Fr)} {o : Obj} (h : GrsIn S w v L) (e : W = w.alloc o) : GrsIn S W v L := by subst e; exact h.alloc _
theorem StrsIn.allocE {S : Nat → Prop} {w W : World} {v : Value} {l : List ByteArray} {o : Obj} (h : StrsIn S w v l) (e : W = w.alloc o) : StrsIn S W v l := by subst e; exact h.alloc _

end Go.Proofs.Ytnpaejknoipicae

namespace Go.Proofs.Ytnpaejknoipicae
open Go.RowKit

set_option maxHeartbeats 2000000 in
set_option maxRecDepth 100000 in
theorem curCheck_any (m g f : Int) (w : World) :
    Calls Try.prog 26 #[.agg #[.int .i64 m, .int .i64 g, .int .i64 f]] w fun e w' => e = .returned (.int .i64 (curE m g f)) ∧ Below w.heap.size w w' := by
  obtain ⟨E, hE⟩ : ∃ E, E = curE m g f := ⟨_, rfl⟩
  have HE : Hid (E = if m < 1 then 6 else if 3 < m then 6 else if g < 0 then 3 else if 100006 < g then 3 else if f < 0 then 3 else if 6 < f then 3 else 0) := hE
  have HB : Hid (Below w.heap.size w (w.alloc (.cells #[.int .i64 m, .int .i64 g, .int .i64 f] 41))) := (Below.refl _ _).alloc (Nat.le_refl _) _
  rw [← hE]
  clear hE
  by_cases h1 : m < 1
  · have e : E = 6 := by rw [HE.out, if_pos h1]
    subst e
    go_enter Try.func26, Try.ntmps26
    go_wp2
    go_ret
    exact ⟨rfl, HB.out⟩
  by_cases h2 : 3 < m
  · have e : E = 6 := by rw [HE.out, if_neg h1, if_pos h2]
    subst e
    go_enter Try.func26, Try.ntmps26
    go_wp2
    go_ret
    exact ⟨rfl, HB.out⟩
  by_cases h3 : g < 0
  · have e : E = 3 := by rw [HE.out, if_neg h1, if_neg h2, if_pos h3]
    subst e
    go_enter Try.func26, Try.ntmps26
    go_wp2
    go_ret
    exact ⟨rfl, HB.out⟩
  by_cases h4 : 100006 < g
  · have e : E = 3 := by rw [HE.out, if_neg h1, if_neg h2, if_neg h3, if_pos h4]
    subst e
    go_enter Try.func26, Try.ntmps26
    go_wp2
    go_ret
    exact ⟨rfl, HB.out⟩
  by_cases h5 : f < 0
  · have e : E = 3 := by rw [HE.out, if_neg h1, if_neg h2, if_neg h3, if_neg h4, if_pos h5]
    subst e
    go_enter Try.func26, Try.ntmps26
    go_wp2
    go_ret
    exact ⟨rfl, HB.out⟩
  by_cases h6 : 6 < f
  · have e : E = 3 := by rw [HE.out, if_neg h1, if_neg h2, if_neg h3, if_neg h4, if_neg h5, if_pos h6]
    subst e
    go_enter Try.func26, Try.ntmps26
    go_wp2
    go_ret
    exact ⟨rfl, HB.out⟩
  · have e : E = 0 := by rw [HE.out, if_neg h1, if_neg h2, if_neg h3, if_neg h4, if_neg h5, if_neg h6]
    subst e
    go_enter Try.func26, Try.ntmps26
    go_wp2
    go_ret
    exact ⟨rfl, HB.out⟩

/-- what a beginning answers -/
def begM (first : Int) (L : List (List Fr)) (O : List Fr) (mode t : Int) : Int := if seekE first L O t = 0 then mode else 0

set_option maxHeartbeats 2000000 in
set_option maxRecDepth 100000 in
theorem begin_any (mode first : Int) (gv ov : Value) (L : List (List Fr)) (O : List Fr) (t : Int) (w : World) (hg : GrsIn (fun _ => True) w gv L) (ho : FrsIn (fun _ => True) w ov O) :
    Calls Try.prog 36 #[.int .i64 mode, .agg #[.int .i64 first, gv, ov], .int .i64 t] w fun e w' => e = .returned (.tuple #[.agg #[.int .i64 (begM first L O mode t), .int .i64 (seekN first L O t), .int .i64 0], .int .i64 (seekE first L O t)]) ∧ Below w.heap.size w w' := by
  obtain ⟨ga, gc, eg, _, _⟩ := hg.len
  obtain ⟨oa, oc, eo, _, _⟩ := ho.len
  obtain ⟨ln, hln⟩ : ∃ n, n = L.length := ⟨_, rfl⟩
  obtain ⟨lo, hlo⟩ : ∃ n, n = O.length := ⟨_, rfl⟩
  rw [← hln] at eg
  rw [← hlo] at eo
  obtain ⟨E, hE⟩ : ∃ E, E = seekE first L O t := ⟨_, rfl⟩
  obtain ⟨N, hN⟩ : ∃ E, E = seekN first L O t := ⟨_, rfl⟩
  obtain ⟨M, hM⟩ : ∃ E, E = begM first L O mode t := ⟨_, rfl⟩
  have HSK : Hid (∀ U : World, Below w.heap.size w U → Calls Try.prog 39 #[.agg #[.int .i64 first, gv, ov], .int .i64 t] U fun e w' => e = .returned (.tuple #[.int .i64 N, .int .i64 E]) ∧ Below U.heap.size U w') := fun U hU => by
    rw [hN, hE]; exact storeSeek_any first gv ov L O t U (hg.below hU) (ho.below hU)
  have HMM : Hid ((E = 0 → M = mode) ∧ (¬ E = 0 → M = 0 ∧ N = 0)) := by
    rw [hM, hE, hN]; unfold begM seekN
    exact ⟨fun h => if_pos h, fun h => ⟨if_neg h, if_neg h⟩⟩
  rw [← hE, ← hN, ← hM]
  clear hE hN hM hg ho hln hlo
  subst eg eo
  obtain ⟨W0, hW0⟩ : ∃ W0, W0 = (w.alloc (.cells #[.int .i64 first, .slice ga ln gc, .slice oa lo oc] 36)).alloc (.cells #[.int .i64 0, .int .i64 0, .int .i64 0] 41) := ⟨_, rfl⟩
  have HS0 : Hid (Stay W0 (fun U => Blk U (w.heap.size + 1) #[.int .i64 0, .int .i64 0, .int .i64 0] 41 ∧ Below w.heap.size w U)) := by
    have k2 := Blk.newE hW0
    simp only [World.size_alloc] at k2
    have hb : Below w.heap.size w W0 := by rw [hW0]; exact ((Below.refl _ _).alloc (Nat.le_refl _) _).alloc (by simp) _
    exact k2.stay.and (below_stay hb hb.size)
  go_enter Try.func36, Try.ntmps36
  go_wp2_with fail
  rw [← hW0]
  clear hW0
  refine (HSK.out _ HS0.out.now.2).mono ?_
  rintro e w1 ⟨rfl, b1⟩
  have HS1 := Stay.go HS0 b1
  clear b1 HS0 HSK
  have K := HS1.out.now.1
  obtain ⟨k0, k1, k2⟩ := K.three
  have fr := K.free
  have hl := K.lt
  obtain ⟨A, B, hA⟩ : ∃ A B : Int, (E = 0 → A = mode ∧ B = N) ∧ (¬ E = 0 → A = 0 ∧ B = 0) := by
    by_cases h : E = 0
    · exact ⟨mode, N, fun _ => ⟨rfl, rfl⟩, fun h' => absurd h h'⟩
    · exact ⟨0, 0, fun h' => absurd h' h, fun _ => ⟨rfl, rfl⟩⟩
  obtain ⟨W2, hW2⟩ : ∃ W2, W2 = ((w1.setCell ⟨w.heap.size + 1, 0, none⟩ (.int .i64 M)).setCell ⟨w.heap.size + 1, 1, none⟩ (.int .i64 N)).setCell ⟨w.heap.size + 1, 2, none⟩ (.int .i64 0) := ⟨_, rfl⟩
  have K2 : Hid (Blk W2 (w.heap.size + 1) #[.int .i64 M, .int .i64 N, .int .i64 0] 41) := by
    rw [hW2]; exact ((K.set 0 (.int .i64 M)).set 1 (.int .i64 N)).set 2 (.int .i64 0)
  have B2 : Hid (Below w.heap.size w W2) := by rw [hW2]; exact ((HS1.out.now.2.setCell (by simp) _).setCell (by simp) _).setCell (by simp) _
  clear hA K HS1
  by_cases h0 : E = 0
  · have hM := HMM.out.1 h0
    subst h0 hM
    go_wp2_with fail
    rw [← hW2]
    obtain ⟨u0, u1, u2⟩ := K2.out.three
    exact bodyPost_ret (v := .tuple #[.agg #[.int .i64 M, .int .i64 N, .int .i64 0], .int .i64 0]) (by simp [results, Try.results36, go_sem, u0, u1, u2]) rfl ⟨rfl, B2.out⟩
  · obtain ⟨hM, hN⟩ := HMM.out.2 h0
    subst hM hN
    go_wp2_with fail
    rw [← hW2]
    obtain ⟨u0, u1, u2⟩ := K2.out.three
    exact bodyPost_ret (v := .tuple #[.agg #[.int .i64 0, .int .i64 0, .int .i64 0], .int .i64 E]) (by simp [results, Try.results36, go_sem, u0, u1, u2]) rfl ⟨rfl, B2.out⟩

end Go.Proofs.Ytnpaejknoipicae

namespace Go.Proofs.Ytnpaejknoipicae
open Go.RowKit

set_option maxHeartbeats 2000000 in
set_option maxRecDepth 100000 in
theorem live_any (first : Int) (gv ov : Value) (L : List (List Fr)) (O : List Fr) (w : World) (hg : GrsIn (fun _ => True) w gv L) (ho : FrsIn (fun _ => True) w ov O) :
    Calls Try.prog 13 #[.agg #[.int .i64 first, gv, ov]] w fun e w' => e = .returned (.tuple #[.agg #[.int .i64 (begM first L O 1 1000000), .int .i64 (seekN first L O 1000000), .int .i64 0], .int .i64 (seekE first L O 1000000)]) ∧ Below w.heap.size w w' := by
  obtain ⟨ga, gc, eg, _, _⟩ := hg.len
  obtain ⟨oa, oc, eo, _, _⟩ := ho.len
  obtain ⟨ln, hln⟩ : ∃ n, n = L.length := ⟨_, rfl⟩
  obtain ⟨lo, hlo⟩ : ∃ n, n = O.length := ⟨_, rfl⟩
  rw [← hln] at eg
  rw [← hlo] at eo
  obtain ⟨E, hE⟩ : ∃ E, E = seekE first L O 1000000 := ⟨_, rfl⟩
  obtain ⟨N, hN⟩ : ∃ E, E = seekN first L O 1000000 := ⟨_, rfl⟩
  obtain ⟨M, hM⟩ : ∃ E, E = begM first L O 1 1000000 := ⟨_, rfl⟩
  have HSK : Hid (∀ U : World, Below w.heap.size w U → Calls Try.prog 36 #[.int .i64 1, .agg #[.int .i64 first, gv, ov], .int .i64 1000000] U fun e w' => e = .returned (.tuple #[.agg #[.int .i64 M, .int .i64 N, .int .i64 0], .int .i64 E]) ∧ Below U.heap.size U w') := fun U hU => by
    rw [hN, hE, hM]; exact begin_any 1 first gv ov L O 1000000 U (hg.below hU) (ho.below hU)
  rw [← hE, ← hN, ← hM]
  clear hE hN hM hg ho hln hlo
  subst eg eo
  obtain ⟨W0, hW0⟩ : ∃ W0, W0 = (w.alloc (.cells #[.int .i64 first, .slice ga ln gc, .slice oa lo oc] 36)).alloc (.cells #[.int .i64 0, .int .i64 0, .int .i64 0] 41) := ⟨_, rfl⟩
  have HS0 : Hid (Stay W0 (fun U => Blk U (w.heap.size + 1) #[.int .i64 0, .int .i64 0, .int .i64 0] 41 ∧ Below w.heap.size w U)) := by
    have k2 := Blk.newE hW0
    simp only [World.size_alloc] at k2
    have hb : Below w.heap.size w W0 := by rw [hW0]; exact ((Below.refl _ _).alloc (Nat.le_refl _) _).alloc (by simp) _
    exact k2.stay.and (below_stay hb hb.size)
  go_enter Try.func13, Try.ntmps13
  go_wp2_with fail
  rw [← hW0]
  clear hW0
  refine (HSK.out _ HS0.out.now.2).mono ?_
  rintro e w1 ⟨rfl, b1⟩
  have HS1 := Stay.go HS0 b1
  clear b1 HS0 HSK
  have K := HS1.out.now.1
  obtain ⟨k0, k1, k2⟩ := K.three
  have fr := K.free
  have hl := K.lt
  obtain ⟨W2, hW2⟩ : ∃ W2, W2 = ((w1.setCell ⟨w.heap.size + 1, 0, none⟩ (.int .i64 M)).setCell ⟨w.heap.size + 1, 1, none⟩ (.int .i64 N)).setCell ⟨w.heap.size + 1, 2, none⟩ (.int .i64 0) := ⟨_, rfl⟩
  have K2 : Hid (Blk W2 (w.heap.size + 1) #[.int .i64 M, .int .i64 N, .int .i64 0] 41) := by
    rw [hW2]; exact ((K.set 0 (.int .i64 M)).set 1 (.int .i64 N)).set 2 (.int .i64 0)
  have B2 : Hid (Below w.heap.size w W2) := by rw [hW2]; exact ((HS1.out.now.2.setCell (by simp) _).setCell (by simp) _).setCell (by simp) _
  clear K HS1
  go_wp2_with fail
  rw [← hW2]
  obtain ⟨u0, u1, u2⟩ := K2.out.three
  exact bodyPost_ret (v := .tuple #[.agg #[.int .i64 M, .int .i64 N, .int .i64 0], .int .i64 E]) (by simp [results, Try.results13, go_sem, u0, u1, u2]) rfl ⟨rfl, B2.out⟩

set_option maxHeartbeats 2000000 in
set_option maxRecDepth 100000 in
theorem curSeek_any (first : Int) (gv ov : Value) (L : List (List Fr)) (O : List Fr) (t : Int) (w : World) (hg : GrsIn (fun _ => True) w gv L) (ho : FrsIn (fun _ => True) w ov O) :
    Calls Try.prog 20 #[.agg #[.int .i64 first, gv, ov], .int .i64 t] w fun e w' => e = .returned (.tuple #[.agg #[.int .i64 (begM first L O 3 t), .int .i64 (seekN first L O t), .int .i64 0], .int .i64 (seekE first L O t)]) ∧ Below w.heap.size w w' := by
  obtain ⟨ga, gc, eg, _, _⟩ := hg.len
  obtain ⟨oa, oc, eo, _, _⟩ := ho.len
  obtain ⟨ln, hln⟩ : ∃ n, n = L.length := ⟨_, rfl⟩
  obtain ⟨lo, hlo⟩ : ∃ n, n = O.length := ⟨_, rfl⟩
  rw [← hln] at eg
  rw [← hlo] at eo
  obtain ⟨E, hE⟩ : ∃ E, E = seekE first L O t := ⟨_, rfl⟩
  obtain ⟨N, hN⟩ : ∃ E, E = seekN first L O t := ⟨_, rfl⟩
  obtain ⟨M, hM⟩ : ∃ E, E = begM first L O 3 t := ⟨_, rfl⟩
  have HSK : Hid (∀ U : World, Below w.heap.size w U → Calls Try.prog 36 #[.int .i64 3, .agg #[.int .i64 first, gv, ov], .int .i64 t] U fun e w' => e = .returned (.tuple #[.agg #[.int .i64 M, .int .i64 N, .int .i64 0], .int .i64 E]) ∧ Below U.heap.size U w') := fun U hU => by
    rw [hN, hE, hM]; exact begin_any 3 first gv ov L O t U (hg.below hU) (ho.below hU)
  rw [← hE, ← hN, ← hM]
  clear hE hN hM hg ho hln hlo
  subst eg eo
  obtain ⟨W0, hW0⟩ : ∃ W0, W0 = (w.alloc (.cells #[.int .i64 first, .slice ga ln gc, .slice oa lo oc] 36)).alloc (.cells #[.int .i64 0, .int .i64 0, .int .i64 0] 41) := ⟨_, rfl⟩
  have HS0 : Hid (Stay W0 (fun U => Blk U (w.heap.size + 1) #[.int .i64 0, .int .i64 0, .int .i64 0] 41 ∧ Below w.heap.size w U)) := by
    have k2 := Blk.newE hW0
    simp only [World.size_alloc] at k2
    have hb : Below w.heap.size w W0 := by rw [hW0]; exact ((Below.refl _ _).alloc (Nat.le_refl _) _).alloc (by simp) _
    exact k2.stay.and (below_stay hb hb.size)
  go_enter Try.func20, Try.ntmps20
  go_wp2_with fail
  rw [← hW0]
  clear hW0
  refine (HSK.out _ HS0.out.now.2).mono ?_
  rintro e w1 ⟨rfl, b1⟩
  have HS1 := Stay.go HS0 b1
  clear b1 HS0 HSK
  have K := HS1.out.now.1
  obtain ⟨k0, k1, k2⟩ := K.three
  have fr := K.free
  have hl := K.lt
  obtain ⟨W2, hW2⟩ : ∃ W2, W2 = ((w1.setCell ⟨w.heap.size + 1, 0, none⟩ (.int .i64 M)).setCell ⟨w.heap.size + 1, 1, none⟩ (.int .i64 N)).setCell ⟨w.heap.size + 1, 2, none⟩ (.int .i64 0) := ⟨_, rfl⟩
  have K2 : Hid (Blk W2 (w.heap.size + 1) #[.int .i64 M, .int .i64 N, .int .i64 0] 41) := by
    rw [hW2]; exact ((K.set 0 (.int .i64 M)).set 1 (.int .i64 N)).set 2 (.int .i64 0)
  have B2 : Hid (Below w.heap.size w W2) := by rw [hW2]; exact ((HS1.out.now.2.setCell (by simp) _).setCell (by simp) _).setCell (by simp) _
  clear K HS1
  go_wp2_with fail
  rw [← hW2]
  obtain ⟨u0, u1, u2⟩ := K2.out.three
  exact bodyPost_ret (v := .tuple #[.agg #[.int .i64 M, .int .i64 N, .int .i64 0], .int .i64 E]) (by simp [results, Try.results20, go_sem, u0, u1, u2]) rfl ⟨rfl, B2.out⟩

def pauN (m g f x : Int) : Int := if curE m g f = 0 then x else 0

set_option maxHeartbeats 2000000 in
set_option maxRecDepth 100000 in
theorem pause_any (m g f : Int) (w : World) :
    Calls Try.prog 21 #[.agg #[.int .i64 m, .int .i64 g, .int .i64 f]] w fun e w' => e = .returned (.tuple #[.agg #[.int .i64 (pauN m g f 2), .int .i64 (pauN m g f g), .int .i64 (pauN m g f f)], .int .i64 (curE m g f)]) ∧ Below w.heap.size w w' := by
  obtain ⟨E, hE⟩ : ∃ E, E = curE m g f := ⟨_, rfl⟩
  have HP : Hid (∀ x, pauN m g f x = if E = 0 then x else 0) := fun x => by rw [hE]; rfl
  have HC : Hid (∀ U : World, Calls Try.prog 26 #[.agg #[.int .i64 m, .int .i64 g, .int .i64 f]] U fun e w' => e = .returned (.int .i64 E) ∧ Below U.heap.size U w') := fun U => by rw [hE]; exact curCheck_any m g f U
  rw [← hE]
  clear hE
  obtain ⟨W0, hW0⟩ : ∃ W0, W0 = (w.alloc (.cells #[.int .i64 m, .int .i64 g, .int .i64 f] 41)).alloc (.cells #[.int .i64 0, .int .i64 0, .int .i64 0] 41) := ⟨_, rfl⟩
  have HS0 : Hid (Stay W0 (fun U => Blk U w.heap.size #[.int .i64 m, .int .i64 g, .int .i64 f] 41 ∧ Blk U (w.heap.size + 1) #[.int .i64 0, .int .i64 0, .int .i64 0] 41 ∧ Below w.heap.size w U)) := by
    have k2 := Blk.newE hW0
    simp only [World.size_alloc] at k2
    have hb : Below w.heap.size w W0 := by rw [hW0]; exact ((Below.refl _ _).alloc (Nat.le_refl _) _).alloc (by simp) _
    exact (show Blk W0 w.heap.size _ _ by rw [hW0]; exact (Blk.new _ _ _).alloc _).stay.and (k2.stay.and (below_stay hb hb.size))
  go_enter Try.func21, Try.ntmps21
  go_wp2_with fail
  rw [← hW0]
  clear hW0
  refine (HC.out _).mono ?_
  rintro e w1 ⟨rfl, b1⟩
  have HS1 := Stay.go HS0 b1
  clear b1 HS0 HC
  have K := HS1.out.now.1
  have J := HS1.out.now.2.1
  obtain ⟨k0, k1, k2⟩ := K.three
  obtain ⟨j0, j1, j2⟩ := J.three
  have fk := K.free
  have fj := J.free
  have hl := K.lt
  have hj := J.lt
  by_cases h0 : E = 0
  · obtain ⟨W2, hW2⟩ : ∃ W2, W2 = (((w1.setCell ⟨w.heap.size, 0, none⟩ (.int .i64 2)).setCell ⟨w.heap.size + 1, 0, none⟩ (.int .i64 2)).setCell ⟨w.heap.size + 1, 1, none⟩ (.int .i64 g)).setCell ⟨w.heap.size + 1, 2, none⟩ (.int .i64 f) := ⟨_, rfl⟩
    have K2 : Hid (Blk W2 (w.heap.size + 1) #[.int .i64 2, .int .i64 g, .int .i64 f] 41) := by
      rw [hW2]; exact (((J.other (a := ⟨w.heap.size, 0, none⟩) (by simp) (.int .i64 2)).set 0 (.int .i64 2)).set 1 (.int .i64 g)).set 2 (.int .i64 f)
    have B2 : Hid (Below w.heap.size w W2) := by rw [hW2]; exact (((HS1.out.now.2.2.setCell (by simp) _).setCell (by simp) _).setCell (by simp) _).setCell (by simp) _
    have HP2 : Hid (∀ x, pauN m g f x = x) := fun x => by rw [HP.out, if_pos h0]
    clear K J HS1 HP
    subst h0
    go_wp2_with fail
    rw [← hW2]
    obtain ⟨u0, u1, u2⟩ := K2.out.three
    rw [HP2.out, HP2.out, HP2.out]
    exact bodyPost_ret (v := .tuple #[.agg #[.int .i64 2, .int .i64 g, .int .i64 f], .int .i64 0]) (by simp [results, Try.results21, go_sem, u0, u1, u2]) rfl ⟨rfl, B2.out⟩
  · obtain ⟨W2, hW2⟩ : ∃ W2, W2 = ((w1.setCell ⟨w.heap.size + 1, 0, none⟩ (.int .i64 0)).setCell ⟨w.heap.size + 1, 1, none⟩ (.int .i64 0)).setCell ⟨w.heap.size + 1, 2, none⟩ (.int .i64 0) := ⟨_, rfl⟩
    have K2 : Hid (Blk W2 (w.heap.size + 1) #[.int .i64 0, .int .i64 0, .int .i64 0] 41) := by
      rw [hW2]; exact ((J.set 0 (.int .i64 0)).set 1 (.int .i64 0)).set 2 (.int .i64 0)
    have B2 : Hid (Below w.heap.size w W2) := by rw [hW2]; exact ((HS1.out.now.2.2.setCell (by simp) _).setCell (by simp) _).setCell (by simp) _
    have HP2 : Hid (∀ x, pauN m g f x = 0) := fun x => by rw [HP.out, if_neg h0]
    clear K J HS1 HP
    go_wp2_with fail
    rw [← hW2]
    obtain ⟨u0, u1, u2⟩ := K2.out.three
    rw [HP2.out, HP2.out, HP2.out]
    exact bodyPost_ret (v := .tuple #[.agg #[.int .i64 0, .int .i64 0, .int .i64 0], .int .i64 E]) (by simp [results, Try.results21, go_sem, u0, u1, u2]) rfl ⟨rfl, B2.out⟩

set_option maxHeartbeats 2000000 in
set_option maxRecDepth 100000 in
theorem checkNext_any (first : Int) (gv ov : Value) (L : List (List Fr)) (O : List Fr) (m g f upto : Int) (w : World) (hg : GrsIn (fun _ => True) w gv L) (ho : FrsIn (fun _ => True) w ov O) :
    Calls Try.prog 41 #[.agg #[.int .i64 first, gv, ov], .agg #[.int .i64 m, .int .i64 g, .int .i64 f], .int .i64 upto] w fun e w' => e = .returned (.int .i64 (nxE first L O m g f upto)) ∧ Below w.heap.size w w' := by
  obtain ⟨ga, gc, eg, _, _⟩ := hg.len
  obtain ⟨oa, oc, eo, _, _⟩ := ho.len
  obtain ⟨ln, hln⟩ : ∃ n, n = L.length := ⟨_, rfl⟩
  obtain ⟨lo, hlo⟩ : ∃ n, n = O.length := ⟨_, rfl⟩
  rw [← hln] at eg
  rw [← hlo] at eo
  obtain ⟨U, hU⟩ : ∃ E, E = stchk first L O := ⟨_, rfl⟩
  obtain ⟨E, hE⟩ : ∃ E, E = curE m g f := ⟨_, rfl⟩
  obtain ⟨R, hR⟩ : ∃ E, E = nxE first L O m g f upto := ⟨_, rfl⟩
  have HR : Hid (R = if U = 0 then (if E = 0 then (if upto < 0 then 3 else if 1000000 < upto then 3 else 0) else E) else U) := by show _ = _; rw [hR, hU, hE]; rfl
  have HC : Hid (∀ U : World, Calls Try.prog 26 #[.agg #[.int .i64 m, .int .i64 g, .int .i64 f]] U fun e w' => e = .returned (.int .i64 E) ∧ Below U.heap.size U w') := fun U => by rw [hE]; exact curCheck_any m g f U
  have HS : Hid (∀ W : World, Below w.heap.size w W → Calls Try.prog 40 #[.agg #[.int .i64 first, gv, ov]] W fun e w' => e = .returned (.int .i64 U) ∧ Below W.heap.size W w') := fun W hW => by
    rw [hU]; exact storeCheck_any _ first gv ov L O W (hg.below hW) (ho.below hW)
  rw [← hR]
  clear hU hE hR hg ho hln hlo
  subst eg eo
  obtain ⟨W0, hW0⟩ : ∃ W0, W0 = (w.alloc (.cells #[.int .i64 first, .slice ga ln gc, .slice oa lo oc] 36)).alloc (.cells #[.int .i64 m, .int .i64 g, .int .i64 f] 41) := ⟨_, rfl⟩
  have HS0 : Hid (Stay W0 (fun U => Blk U (w.heap.size + 1) #[.int .i64 m, .int .i64 g, .int .i64 f] 41 ∧ Below w.heap.size w U)) := by
    have k2 := Blk.newE hW0
    simp only [World.size_alloc] at k2
    have hb : Below w.heap.size w W0 := by rw [hW0]; exact ((Below.refl _ _).alloc (Nat.le_refl _) _).alloc (by simp) _
    exact k2.stay.and (below_stay hb hb.size)
  go_enter Try.func41, Try.ntmps41
  go_wp2_with fail
  rw [← hW0]
  clear hW0
  refine (HS.out _ HS0.out.now.2).mono ?_
  rintro e w1 ⟨rfl, b1⟩
  have HS1 := Stay.go HS0 b1
  clear b1 HS0 HS
  obtain ⟨k0, k1, k2⟩ := HS1.out.now.1.three
  by_cases h0 : U = 0
  case neg =>
    have hr : R = U := by rw [HR.out, if_neg h0]
    subst hr
    go_wp2_with fail
    go_ret
    exact ⟨rfl, HS1.out.now.2⟩
  have HR2 : Hid (R = if E = 0 then (if upto < 0 then 3 else if 1000000 < upto then 3 else 0) else E) := by show _ = _; rw [HR.out, if_pos h0]
  clear HR
  subst h0
  go_wp2_with fail
  refine (HC.out _).mono ?_
  rintro e w2 ⟨rfl, b2⟩
  have HS2 := Stay.go HS1 b2
  clear b2 HS1 HC k0 k1 k2
  by_cases h1 : E = 0
  case neg =>
    have hr : R = E := by rw [HR2.out, if_neg h1]
    subst hr
    go_wp2_with fail
    go_ret
    exact ⟨rfl, HS2.out.now.2⟩
  have HR3 : Hid (R = if upto < 0 then 3 else if 1000000 < upto then 3 else 0) := by show _ = _; rw [HR2.out, if_pos h1]
  clear HR2
  subst h1
  by_cases h2 : upto < 0
  · have hr : R = 3 := by rw [HR3.out, if_pos h2]
    subst hr
    go_wp2_with fail
    go_ret
    exact ⟨rfl, HS2.out.now.2⟩
  by_cases h3 : 1000000 < upto
  · have hr : R = 3 := by rw [HR3.out, if_neg h2, if_pos h3]
    subst hr
    go_wp2_with fail
    go_ret
    exact ⟨rfl, HS2.out.now.2⟩
  · have hr : R = 0 := by rw [HR3.out, if_neg h2, if_neg h3]
    subst hr
    go_wp2_with fail
    go_ret
    exact ⟨rfl, HS2.out.now.2⟩

end Go.Proofs.Ytnpaejknoipicae

namespace Go.Proofs.Ytnpaejknoipicae
open Go.RowKit

theorem Blk.sixw {w : World} {b : Nat} {x0 x1 x2 x3 x4 x5 : Value} {t : TypeId} (h : Blk w b #[x0, x1, x2, x3, x4, x5] t) :
    w.cell? ⟨b, 0, none⟩ = some x0 ∧ w.cell? ⟨b, 1, none⟩ = some x1 ∧ w.cell? ⟨b, 2, none⟩ = some x2 ∧ w.cell? ⟨b, 3, none⟩ = some x3 ∧ w.cell? ⟨b, 4, none⟩ = some x4 ∧ w.cell? ⟨b, 5, none⟩ = some x5 :=
  ⟨h.cell rfl, h.cell rfl, h.cell rfl, h.cell rfl, h.cell rfl, h.cell rfl⟩

set_option maxHeartbeats 2000000 in
set_option maxRecDepth 100000 in
theorem start_any (M : Nat) (m g f first : Int) (gv ov : Value) (L : List (List Fr)) (O : List Fr) (w : World) (hM : Blk w M #[.int .i64 m, .int .i64 g, .int .i64 f, .int .i64 first, gv, ov] 77) (hg : GrsIn (fun _ => True) w gv L) (ho : FrsIn (fun _ => True) w ov O) :
    Calls Try.prog 54 #[.pointer (some ⟨M, 0, none⟩)] w fun e w' => e = .returned (.int .i64 (plS first L O m)) ∧ Below w.heap.size w w' := by
  obtain ⟨ga, gc, eg, _, _⟩ := hg.len
  obtain ⟨oa, oc, eo, _, _⟩ := ho.len
  obtain ⟨ln, hln⟩ : ∃ n, n = L.length := ⟨_, rfl⟩
  obtain ⟨lo, hlo⟩ : ∃ n, n = O.length := ⟨_, rfl⟩
  rw [← hln] at eg
  rw [← hlo] at eo
  obtain ⟨R, hR⟩ : ∃ R, R = plS first L O m := ⟨_, rfl⟩
  obtain ⟨N, hN⟩ : ∃ N, N = seekN first L O 1000000 := ⟨_, rfl⟩
  obtain ⟨E, hE⟩ : ∃ N, N = seekE first L O 1000000 := ⟨_, rfl⟩
  obtain ⟨B, hB⟩ : ∃ N, N = begM first L O 1 1000000 := ⟨_, rfl⟩
  have HR : Hid ((m = 3 → R = first) ∧ (¬ m = 3 → R = N)) := by rw [hR, hN]; exact ⟨fun h => if_pos h, fun h => if_neg h⟩
  have HL : Hid (∀ U : World, Below w.heap.size w U → Calls Try.prog 13 #[.agg #[.int .i64 first, gv, ov]] U fun e w' => e = .returned (.tuple #[.agg #[.int .i64 B, .int .i64 N, .int .i64 0], .int .i64 E]) ∧ Below U.heap.size U w') := fun U hU => by
    rw [hN, hE, hB]; exact live_any first gv ov L O U (hg.below hU) (ho.below hU)
  rw [← hR]
  clear hR hN hE hB hg ho hln hlo
  subst eg eo
  obtain ⟨k0, k1, k2, k3, k4, k5⟩ := hM.sixw
  by_cases h3 : m = 3
  · have hr := HR.out.1 h3
    subst h3 hr
    go_enter Try.func54, Try.ntmps54
    go_wp2_with fail
    go_ret
    exact ⟨rfl, Below.refl _ _⟩
  · have hr := HR.out.2 h3
    subst hr
    go_enter Try.func54, Try.ntmps54
    go_wp2_with fail
    refine (HL.out _ (Below.refl _ _)).mono ?_
    rintro e w1 ⟨rfl, b1⟩
    have HB : Hid (Below w.heap.size w (w1.alloc (.cells #[.int .i64 B, .int .i64 R, .int .i64 0] 41))) := b1.alloc b1.size _
    clear b1
    go_wp2_with fail
    go_ret
    exact ⟨rfl, HB.out⟩

set_option maxHeartbeats 2000000 in
set_option maxRecDepth 100000 in
theorem mayHave_any (M : Nat) (m g f first : Int) (gv ov : Value) (t : Int) (k : Bool) (pv : Value) (upto : Int) (w : World) (hp : ∃ a n c, pv = .slice a n c) (hM : Blk w M #[.int .i64 m, .int .i64 g, .int .i64 f, .int .i64 first, gv, ov] 77) :
    Calls Try.prog 55 #[.pointer (some ⟨M, 0, none⟩), .agg #[.int .i64 t, .bool k, pv], .int .i64 upto] w fun e w' => e = .returned (.bool (mayB m t upto)) ∧ Below w.heap.size w w' := by
  obtain ⟨a, n, c, rfl⟩ := hp
  obtain ⟨k0, k1, k2, k3, k4, k5⟩ := hM.sixw
  have hl := hM.lt
  have HB : Hid (Below w.heap.size w (w.alloc (.cells #[.int .i64 t, .bool k, .slice a n c] 39))) := (Below.refl _ _).alloc (Nat.le_refl _) _
  obtain ⟨R, hR⟩ : ∃ R, R = mayB m t upto := ⟨_, rfl⟩
  have HR : Hid (R = (decide (m = 1) || (decide (m = 3) && decide (t ≤ upto)))) := hR
  rw [← hR]
  clear hR
  by_cases h1 : m = 1
  · have hr : R = true := by rw [HR.out]; simp [h1]
    subst hr h1
    go_enter Try.func55, Try.ntmps55
    go_wp2_with fail
    go_ret
    exact ⟨rfl, HB.out⟩
  by_cases h3 : m = 3
  · by_cases ht : t ≤ upto
    · have hr : R = true := by rw [HR.out]; simp [h3, ht]
      subst hr h3
      go_enter Try.func55, Try.ntmps55
      go_wp2_with fail
      go_ret
      exact ⟨by simp, HB.out⟩
    · have hr : R = false := by rw [HR.out]; simp [h3]; omega
      subst hr h3
      go_enter Try.func55, Try.ntmps55
      go_wp2_with fail
      go_ret
      exact ⟨by simp, HB.out⟩
  · have hr : R = false := by rw [HR.out]; simp [h1, h3]
    have e1 : (m == 1) = false := by simpa using h1
    have e3 : (m == 3) = false := by simpa using h3
    subst hr
    clear h1 h3 HR
    go_enter Try.func55, Try.ntmps55
    go_wp2_with fail
    go_ret
    exact ⟨rfl, HB.out⟩

end Go.Proofs.Ytnpaejknoipicae

namespace Go.Proofs.Ytnpaejknoipicae
open Go.RowKit

set_option maxHeartbeats 8000000 in
set_option maxRecDepth 100000 in
theorem findPlace_any (M : Nat) (m g f first : Int) (gv ov : Value) (L : List (List Fr)) (O : List Fr) (w : World) (hM : Blk w M #[.int .i64 m, .int .i64 g, .int .i64 f, .int .i64 first, gv, ov] 77) (hg : GrsIn (fun _ => True) w gv L) (ho : FrsIn (fun _ => True) w ov O) (hgb : g ≤ 1000000) (hgl : -1000000 ≤ g) :
    Calls Try.prog 42 #[.pointer (some ⟨M, 0, none⟩)] w fun e w' => e = .returned (.bool (plT first L O g f)) ∧ Blk w' M #[.int .i64 m, .int .i64 (plG first L O m g f), .int .i64 (plF first L O g f), .int .i64 first, gv, ov] 77 ∧ Kept [M] w w' := by
  obtain ⟨ga, gc, eg, _, _⟩ := hg.len
  obtain ⟨oa, oc, eo, _, _⟩ := ho.len
  obtain ⟨ln, hln⟩ : ∃ n, n = L.length := ⟨_, rfl⟩
  obtain ⟨lo, hlo⟩ : ∃ n, n = O.length := ⟨_, rfl⟩
  rw [← hln] at eg
  rw [← hlo] at eo
  obtain ⟨E, hE⟩ : ∃ E, E = getE first L O g := ⟨_, rfl⟩
  obtain ⟨X, hX⟩ : ∃ X, X = getG first L O g := ⟨_, rfl⟩
  obtain ⟨nX, hnX⟩ : ∃ n, n = X.length := ⟨_, rfl⟩
  obtain ⟨PS, hPS⟩ : ∃ n, n = plS first L O m := ⟨_, rfl⟩
  obtain ⟨PG, hPG⟩ : ∃ n, n = plG first L O m g f := ⟨_, rfl⟩
  obtain ⟨PF, hPF⟩ : ∃ n, n = plF first L O g f := ⟨_, rfl⟩
  obtain ⟨PT, hPT⟩ : ∃ n, n = plT first L O g f := ⟨_, rfl⟩
  have HGET : Hid (∀ U : World, Below w.heap.size w U → Calls Try.prog 27 #[.agg #[.int .i64 first, gv, ov], .int .i64 g] U fun e w' => ∃ a c, e = .returned (.tuple #[.agg #[.slice a nX c], .int .i64 E]) ∧ Hid (FrsIn (fun g => U.heap.size ≤ g) w' (.slice a nX c) X) ∧ Below U.heap.size U w') := fun U hU => by
    rw [hnX, hX, hE]; exact storeGet_new first gv ov L O g U (hg.below hU) (ho.below hU) (by omega)
  have HST : Hid (∀ U : World, Below w.heap.size w U → Blk U M #[.int .i64 m, .int .i64 g, .int .i64 f, .int .i64 first, gv, ov] 77 → Calls Try.prog 54 #[.pointer (some ⟨M, 0, none⟩)] U fun e w' => e = .returned (.int .i64 PS) ∧ Below U.heap.size U w') := fun U hU hk => by
    rw [hPS]; exact start_any M m g f first gv ov L O U hk (hg.below hU) (ho.below hU)
  have HYES : Hid ((¬ E = 0 ∨ (nX : Int) < f) → PT = true ∧ PG = PS ∧ PF = 0) := fun h => by
    have e : plT first L O g f = true := decide_eq_true (by rw [← hE, ← hX, ← hnX]; exact h)
    rw [hPT, hPG, hPF, hPS]; unfold plG plF; rw [e]; exact ⟨rfl, rfl, rfl⟩
  have HNO : Hid (E = 0 → f ≤ (nX : Int) → PT = false ∧ (f = nX → PG = g + 1 ∧ PF = 0) ∧ (¬ f = nX → PG = g ∧ PF = f)) := fun h1 h2 => by
    have e : plT first L O g f = false := decide_eq_false (by rw [← hE, ← hX, ← hnX]; omega)
    rw [hPT, hPG, hPF]; unfold plG plF; rw [e, ← hX, ← hnX]
    exact ⟨rfl, fun h => ⟨by rw [if_neg (by decide), if_pos h], by rw [if_neg (by decide), if_pos h]⟩, fun h => ⟨by rw [if_neg (by decide), if_neg h], by rw [if_neg (by decide), if_neg h]⟩⟩
  have HM : Hid (Blk w M #[.int .i64 m, .int .i64 g, .int .i64 f, .int .i64 first, gv, ov] 77) := hM
  rw [← hPT, ← hPG, ← hPF]
  clear hE hX hnX hPS hPG hPF hPT hg ho hln hlo hM
  subst eg eo
  have hMw := HM.out.lt
  go_enter Try.func42, Try.ntmps42
  go_wp2_with fail
  refine region_main (by kernel_rfl) (by kernel_rfl) [.quiet (.pointer (some ⟨M, 0, none⟩)), .quiet (.pointer (some ⟨M, 0, none⟩)), .quiet (.pointer (some ⟨M, 3, none⟩)), .quiet (.agg #[.int .i64 first, .slice ga ln gc, .slice oa lo oc]), .quiet (.pointer (some ⟨M, 0, none⟩)), .quiet (.pointer (some ⟨M, 0, none⟩)), .quiet (.pointer (some ⟨M, 0, none⟩)), .quiet (.pointer (some ⟨M, 1, none⟩)), .quiet (.int .i64 g), .main, .fin (fun r => r), .fin (exT 0), .fin (exT 1), .box 34 #[.slice none 0 0], .put 13 (fun r => aggC (exT 0 r)), .fin (exT 1)] 9 (by kernel_rfl)
    (fun S r w' => ∃ a1 c1, r = .tuple #[.agg #[.slice a1 nX c1], .int .i64 E] ∧ FrsIn S w' (.slice a1 nX c1) X) ?loc ?step ?fin
  case loc =>
    rintro S r w1 w3 ⟨a1, c1, rfl, h1⟩ hs hsame
    exact ⟨a1, c1, rfl, h1.to ⟨hs, fun g hg hS => hsame g hS hg⟩ (fun _ _ h => h)⟩
  case step =>
    intro i o ho a' w' r hb hfree hvals
    have f0 : a'.eval (.tmp 0) = .pointer (some ⟨M, 0, none⟩) := (hfree 0 (by kernel_rfl)).trans rfl
    obtain ⟨y0, y1, y2, y3, y4, y5⟩ := (HM.out.below hb HM.out.lt).sixw
    match i, ho with
    | 0, ho =>
      simp at ho; subst ho
      show (execOp a'.eval _).run _ w' = .ok (.value _) w'
      generalize a'.eval = ρ at *
      simp [execOp, go_sem, f0]
    | 1, ho =>
      simp at ho; subst ho
      have e6 : a'.eval (.tmp 6) = .pointer (some ⟨M, 0, none⟩) := hvals 0 _ (by kernel_rfl) rfl
      show (execOp a'.eval _).run _ w' = .ok (.value _) w'
      generalize a'.eval = ρ at *
      simp [execOp, go_sem, e6]
    | 2, ho =>
      simp at ho; subst ho
      have e7 : a'.eval (.tmp 7) = .pointer (some ⟨M, 0, none⟩) := hvals 1 _ (by kernel_rfl) rfl
      show (execOp a'.eval _).run _ w' = .ok (.value _) w'
      generalize a'.eval = ρ at *
      simp [execOp, go_sem, e7]
    | 3, ho =>
      simp at ho; subst ho
      have e8 : a'.eval (.tmp 8) = .pointer (some ⟨M, 3, none⟩) := hvals 2 _ (by kernel_rfl) rfl
      show (execOp a'.eval _).run _ w' = .ok (.value _) w'
      generalize a'.eval = ρ at *
      simp [execOp, go_sem, e8, y3, y4, y5]
    | 4, ho =>
      simp at ho; subst ho
      show (execOp a'.eval _).run _ w' = .ok (.value _) w'
      generalize a'.eval = ρ at *
      simp [execOp, go_sem, f0]
    | 5, ho =>
      simp at ho; subst ho
      have e10 : a'.eval (.tmp 10) = .pointer (some ⟨M, 0, none⟩) := hvals 4 _ (by kernel_rfl) rfl
      show (execOp a'.eval _).run _ w' = .ok (.value _) w'
      generalize a'.eval = ρ at *
      simp [execOp, go_sem, e10]
    | 6, ho =>
      simp at ho; subst ho
      have e11 : a'.eval (.tmp 11) = .pointer (some ⟨M, 0, none⟩) := hvals 5 _ (by kernel_rfl) rfl
      show (execOp a'.eval _).run _ w' = .ok (.value _) w'
      generalize a'.eval = ρ at *
      simp [execOp, go_sem, e11]
    | 7, ho =>
      simp at ho; subst ho
      have e12 : a'.eval (.tmp 12) = .pointer (some ⟨M, 0, none⟩) := hvals 6 _ (by kernel_rfl) rfl
      show (execOp a'.eval _).run _ w' = .ok (.value _) w'
      generalize a'.eval = ρ at *
      simp [execOp, go_sem, e12]
    | 8, ho =>
      simp at ho; subst ho
      have e13 : a'.eval (.tmp 13) = .pointer (some ⟨M, 1, none⟩) := hvals 7 _ (by kernel_rfl) rfl
      show (execOp a'.eval _).run _ w' = .ok (.value _) w'
      generalize a'.eval = ρ at *
      simp [execOp, go_sem, e13, y1]
    | 9, ho =>
      simp at ho; subst ho
      have e9 : a'.eval (.tmp 9) = .agg #[.int .i64 first, .slice ga ln gc, .slice oa lo oc] := hvals 3 _ (by kernel_rfl) rfl
      have e14 : a'.eval (.tmp 14) = .int .i64 g := hvals 8 _ (by kernel_rfl) rfl
      have ef : a'.eval (.func 27) = .func (.func 27) #[] #[] := rfl
      show ∃ f args, (execOp a'.eval _).run _ w' = .ok (.enter f args) w' ∧ _
      generalize a'.eval = ρ at *
      refine ⟨27, #[.agg #[.int .i64 first, .slice ga ln gc, .slice oa lo oc], .int .i64 g], by simp [execOp, go_sem, e9, e14, ef], ?_⟩
      refine (HGET.out w' hb).mono ?_
      rintro e w'' ⟨a1, c1, rfl, h1, hb4⟩
      exact ⟨_, rfl, ⟨a1, c1, rfl, h1.out.mono (fun g hl hg => ⟨hl, .inr hg⟩)⟩, hb4⟩
    | 10, ho =>
      simp at ho; subst ho
      have e15 : a'.eval (.tmp 15) = r := hvals 9 _ (by kernel_rfl) rfl
      show ∀ S, _ → (execOp a'.eval _).run _ w' = .ok (.value _) w'
      rintro S ⟨a1, c1, rfl, _⟩
      try simp only [exT] at e15
      generalize a'.eval = ρ at *
      simp [execOp, go_sem, e15]
    | 11, ho =>
      simp at ho; subst ho
      have e5 : a'.eval (.tmp 5) = r := hvals 10 _ (by kernel_rfl) rfl
      show ∀ S, _ → (execOp a'.eval _).run _ w' = .ok (.value _) w'
      rintro S ⟨a1, c1, rfl, _⟩
      try simp only [exT] at e5
      generalize a'.eval = ρ at *
      simp [execOp, go_sem, e5, exT]
    | 12, ho =>
      simp at ho; subst ho
      have e5 : a'.eval (.tmp 5) = r := hvals 10 _ (by kernel_rfl) rfl
      show ∀ S, _ → (execOp a'.eval _).run _ w' = .ok (.value _) w'
      rintro S ⟨a1, c1, rfl, _⟩
      try simp only [exT] at e5
      generalize a'.eval = ρ at *
      simp [execOp, go_sem, e5, exT]
    | 13, ho =>
      simp at ho; subst ho
      show (execOp a'.eval _).run _ w' = .ok (.value _) _
      generalize a'.eval = ρ at *
      simp [execOp, go_sem]
    | 14, ho =>
      simp at ho; subst ho
      have e16 : a'.eval (.tmp 16) = (exT 0) r := hvals 11 _ (by kernel_rfl) rfl
      show ∀ S, _ → ∀ t z g C, _ → _ → _ → _ → ∃ w'', (execOp a'.eval _).run _ w' = .ok .skip w'' ∧ _
      rintro S ⟨a1, c1, rfl, _⟩ t z g C hz hC hs (eb : a'.eval (.tmp 3) = _)
      cases hz
      obtain ⟨u0, q0⟩ := cells1 hC hs
      have p0 := hC.free 0
      obtain ⟨m1, m2, m3⟩ := set1 hC hs (.slice a1 nX c1)
      simp only [exT] at e16
      generalize a'.eval = ρ at *
      exact ⟨_, by simp [execOp, go_sem, e16, eb, q0, p0], m1, m2, rfl, m3, rfl, rfl, rfl⟩
    | 15, ho =>
      simp at ho; subst ho
      have e17 : a'.eval (.tmp 17) = (exT 1) r := hvals 12 _ (by kernel_rfl) rfl
      show ∀ S, _ → (execOp a'.eval _).run _ w' = .ok (.value _) w'
      rintro S ⟨a1, c1, rfl, _⟩
      try simp only [exT] at e17
      generalize a'.eval = ρ at *
      simp [execOp, go_sem, e17, exT]
    | i + 16, ho => simp at ho
  case fin =>
    rintro r gs S W hb ⟨a1, c1, rfl, h1⟩ hS hbox hap
    obtain ⟨p1, p2, C, p3, p4⟩ := hbox 13 _ _ (by decide) rfl
    have p5 := p4 14 _ (by decide) rfl
    subst p5
    have KP : Hid (Blk W (gs 13) #[.slice a1 nX c1] 34) := p3
    simp only [putK, Kd.out, exT, Act.put, List.setIfInBounds_toArray, List.set_cons_succ, List.set_cons_zero, List.getElem?_toArray, List.getElem?_cons_zero, List.getElem?_cons_succ, Option.getD_some]
    obtain ⟨p, hp⟩ : ∃ p, p = gs 13 := ⟨_, rfl⟩
    rw [← hp] at KP p1
    rw [← hp]
    have HBW : Hid (Below w.heap.size w W) := hb
    clear hp h1 hS hbox hap p2 p3 p4 hb
    have KM : Hid (Blk W M #[.int .i64 m, .int .i64 g, .int .i64 f, .int .i64 first, .slice ga ln gc, .slice oa lo oc] 77) := HM.out.below HBW.out hMw
    obtain ⟨y0, y1, y2, y3, y4, y5⟩ := KM.out.sixw
    have x0 := KP.out.one
    have KPW : Hid (Kept [M] w W) := ⟨HBW.out.os, HBW.out.tape, HBW.out.output, HBW.out.size, fun j hj _ => HBW.out.block j hj⟩
    have finish : ∀ (G F : Int) (w3 V : World), Below W.heap.size W w3 → V = (w3.setCell ⟨M, 1, none⟩ (.int .i64 G)).setCell ⟨M, 2, none⟩ (.int .i64 F) → Blk V M #[.int .i64 m, .int .i64 G, .int .i64 F, .int .i64 first, .slice ga ln gc, .slice oa lo oc] 77 ∧ Kept [M] w V := fun G F w3 V h3 hV => by
      have k := (KM.out.below h3 (by have := KM.out.lt; omega)).set 1 (.int .i64 G)
      have k' := k.set 2 (.int .i64 F)
      refine ⟨by rw [hV]; simpa using k', ?_⟩
      rw [hV]
      exact ((KPW.out.below h3).setCell (by simp) _).setCell (by simp) _
    have HFIN : Hid (∀ (G F : Int) (w3 V : World), Below W.heap.size W w3 → V = (w3.setCell ⟨M, 1, none⟩ (.int .i64 G)).setCell ⟨M, 2, none⟩ (.int .i64 F) → Blk V M #[.int .i64 m, .int .i64 G, .int .i64 F, .int .i64 first, .slice ga ln gc, .slice oa lo oc] 77 ∧ Kept [M] w V) := finish
    have hMW : M < W.heap.size := KM.out.lt
    clear finish
    have HD : Hid (∀ k, Below W.heap.size W (W.drewN k)) := fun k => below_drewN (Below.refl _ _) k
    have fd : ∀ k j, (W.drewN k).frozen? ⟨M, j, none⟩ = false := fun k j => (KM.out.drewN k).free j
    by_cases hE : E = 0
    · by_cases hf : (nX : Int) < f
      · obtain ⟨e1, e2, e3⟩ := HYES.out (.inr hf)
        have HPP : Hid (PT = true ∧ PG = PS ∧ PF = 0) := ⟨e1, e2, e3⟩
        clear e1 e2 e3 HYES HNO
        subst hE
        go_wp2_with fail
        go_quiet (fail)
        go_wp2_with fail
        have bd := HD.out nq
        refine (HST.out _ (HBW.out.trans (bd.mono HBW.out.size)) (KM.out.drewN nq)).mono ?_
        rintro e w3 ⟨rfl, b3⟩
        have b3' : Below W.heap.size W w3 := bd.trans (b3.mono bd.size)
        have k3 := KM.out.below b3' hMW
        obtain ⟨z0, z1, z2, z3, z4, z5⟩ := k3.sixw
        have f3 := k3.free
        have l3 := k3.lt
        obtain ⟨V, hV⟩ : ∃ V, V = (w3.setCell ⟨M, 1, none⟩ (.int .i64 PS)).setCell ⟨M, 2, none⟩ (.int .i64 0) := ⟨_, rfl⟩
        have HV : Hid (Blk V M #[.int .i64 m, .int .i64 PS, .int .i64 0, .int .i64 first, .slice ga ln gc, .slice oa lo oc] 77 ∧ Kept [M] w V) := HFIN.out _ _ _ _ b3' hV
        clear b3 b3' k3 bd
        go_wp2_with fail
        rw [← hV]
        obtain ⟨e1, e2, e3⟩ := HPP.out
        rw [e1, e2, e3]
        exact bodyPost_ret (v := .bool true) (by simp [results, Try.results42, go_sem]) rfl ⟨rfl, HV.out⟩
      · obtain ⟨e1, e2, e3⟩ := HNO.out hE (by omega)
        have HPT : Hid (PT = false) := e1
        by_cases hfe : f = nX
        · obtain ⟨e4, e5⟩ := e2 hfe
          have HPP : Hid (PG = g + 1 ∧ PF = 0) := ⟨e4, e5⟩
          clear e1 e2 e3 e4 e5 HYES HNO
          subst hE hfe
          go_wp2_with fail
          go_quiet (fail)
          go_wp2_with fail
          go_quiet (fail)
          go_wp2_with fail
          rw [HPT.out, HPP.out.1, HPP.out.2]
          exact bodyPost_ret (v := .bool false) (by simp [results, Try.results42, go_sem]) rfl ⟨rfl, HFIN.out _ _ _ _ (HD.out _) rfl⟩
        · obtain ⟨e4, e5⟩ := e3 hfe
          have HPP : Hid (PG = g ∧ PF = f) := ⟨e4, e5⟩
          have hfb : (f == (nX : Int)) = false := by simpa using hfe
          clear e1 e2 e3 e4 e5 HYES HNO
          subst hE
          go_wp2_with fail
          go_quiet (fail)
          go_wp2_with fail
          go_quiet (fail)
          go_wp2_with fail
          rw [HPT.out, HPP.out.1, HPP.out.2]
          exact bodyPost_ret (v := .bool false) (by simp [results, Try.results42, go_sem]) rfl ⟨rfl, (KM.out.drewN _).drewN _, KPW.out.below (below_drewN (HD.out _) _)⟩
    · obtain ⟨e1, e2, e3⟩ := HYES.out (.inl hE)
      have HPP : Hid (PT = true ∧ PG = PS ∧ PF = 0) := ⟨e1, e2, e3⟩
      have hEb : (E != 0) = true := by simpa using hE
      clear e1 e2 e3 HYES HNO
      go_wp2_with fail
      go_quiet (fail)
      go_wp2_with fail
      have bd := HD.out nq
      refine (HST.out _ (HBW.out.trans (bd.mono HBW.out.size)) (KM.out.drewN nq)).mono ?_
      rintro e w3 ⟨rfl, b3⟩
      have b3' : Below W.heap.size W w3 := bd.trans (b3.mono bd.size)
      have k3 := KM.out.below b3' hMW
      obtain ⟨z0, z1, z2, z3, z4, z5⟩ := k3.sixw
      have f3 := k3.free
      have l3 := k3.lt
      obtain ⟨V, hV⟩ : ∃ V, V = (w3.setCell ⟨M, 1, none⟩ (.int .i64 PS)).setCell ⟨M, 2, none⟩ (.int .i64 0) := ⟨_, rfl⟩
      have HV : Hid (Blk V M #[.int .i64 m, .int .i64 PS, .int .i64 0, .int .i64 first, .slice ga ln gc, .slice oa lo oc] 77 ∧ Kept [M] w V) := HFIN.out _ _ _ _ b3' hV
      clear b3 b3' k3 bd
      go_wp2_with fail
      rw [← hV]
      obtain ⟨e1, e2, e3⟩ := HPP.out
      rw [e1, e2, e3]
      exact bodyPost_ret (v := .bool true) (by simp [results, Try.results42, go_sem]) rfl ⟨rfl, HV.out⟩

end Go.Proofs.Ytnpaejknoipicae

namespace Go.Proofs.Ytnpaejknoipicae
open Go.RowKit Go.Sort

theorem heldC {W X Y : World} {a b c d e : Addr} {u v x y z : Value} (h : X.cell? a = some u ∧ X.cell? b = some v ∧ X.cell? c = some x ∧ X.cell? d = some y ∧ X.cell? e = some z ∧ Below W.heap.size W X) (k : Below X.heap.size X Y) : Y.cell? a = some u ∧ Y.cell? b = some v ∧ Y.cell? c = some x ∧ Y.cell? d = some y ∧ Y.cell? e = some z ∧ Below W.heap.size W Y :=
  ⟨(k.cell (block_lt_of_cell h.1)).trans h.1, (k.cell (block_lt_of_cell h.2.1)).trans h.2.1, (k.cell (block_lt_of_cell h.2.2.1)).trans h.2.2.1, (k.cell (block_lt_of_cell h.2.2.2.1)).trans h.2.2.2.1, (k.cell (block_lt_of_cell h.2.2.2.2.1)).trans h.2.2.2.2.1, h.2.2.2.2.2.trans (k.mono h.2.2.2.2.2.size)⟩

theorem getG_len {first : Int} {L : List (List Fr)} {O : List Fr} {n : Int} (h : getE first L O n = 0) : (getG first L O n).length ≤ 6 := by
  have hg : getG first L O n = grAt (allG L O) (n - first).toNat := if_pos h
  unfold getE at h
  by_cases h1 : stchk first L O = 0
  · rw [if_pos h1] at h
    by_cases h2 : n < first
    · rw [if_pos h2] at h; cases h
    · rw [if_neg h2] at h
      by_cases h3 : ((allG L O).length : Int) ≤ n - first
      · rw [if_pos h3] at h; cases h
      · rw [hg]
        exact (gchk_first (allG_right h1 _ (grAt_mem (by omega)))).2.1
  · rw [if_neg h1] at h; exact absurd h h1

set_option maxHeartbeats 8000000 in
set_option maxRecDepth 100000 in
theorem step_any (M : Nat) (m g f first : Int) (gv ov : Value) (L : List (List Fr)) (O : List Fr) (upto : Int) (w : World) (hM : Blk w M #[.int .i64 m, .int .i64 g, .int .i64 f, .int .i64 first, gv, ov] 77) (hg : GrsIn (fun _ => True) w gv L) (ho : FrsIn (fun _ => True) w ov O) (hgb : g ≤ 1000000) (hgl : -1000000 ≤ g)
    (hin : getE first L O g = 0 → ∃ j : Nat, f = j ∧ j < (getG first L O g).length) :
    Calls Try.prog 43 #[.pointer (some ⟨M, 0, none⟩), .int .i64 upto] w fun e w' => ∃ (x : Fr) (pv : Value), e = .returned (.tuple #[.agg #[.int .i64 x.time, .bool x.key, pv], .bool (okB first L O m g f upto)]) ∧ x = (if okB first L O m g f upto then frAt (getG first L O g) f.toNat else Fr.zero) ∧ StrsIn (fun b => w.heap.size ≤ b) w' pv x.parts ∧ Blk w' M #[.int .i64 m, .int .i64 g, .int .i64 (if okB first L O m g f upto then f + 1 else f), .int .i64 first, gv, ov] 77 ∧ Kept [M] w w' := by
  obtain ⟨ga, gc, eg, _, _⟩ := hg.len
  obtain ⟨oa, oc, eo, _, _⟩ := ho.len
  obtain ⟨ln, hln⟩ : ∃ n, n = L.length := ⟨_, rfl⟩
  obtain ⟨lo, hlo⟩ : ∃ n, n = O.length := ⟨_, rfl⟩
  rw [← hln] at eg
  rw [← hlo] at eo
  obtain ⟨E, hE⟩ : ∃ E, E = getE first L O g := ⟨_, rfl⟩
  obtain ⟨X, hX⟩ : ∃ X, X = getG first L O g := ⟨_, rfl⟩
  obtain ⟨nX, hnX⟩ : ∃ n, n = X.length := ⟨_, rfl⟩
  obtain ⟨K, hK⟩ : ∃ n, n = okB first L O m g f upto := ⟨_, rfl⟩
  have HGET : Hid (∀ U : World, Below w.heap.size w U → Calls Try.prog 27 #[.agg #[.int .i64 first, gv, ov], .int .i64 g] U fun e w' => ∃ a c, e = .returned (.tuple #[.agg #[.slice a nX c], .int .i64 E]) ∧ Hid (FrsIn (fun g => U.heap.size ≤ g) w' (.slice a nX c) X) ∧ Below U.heap.size U w') := fun U hU => by
    rw [hnX, hX, hE]; exact storeGet_new first gv ov L O g U (hg.below hU) (ho.below hU) (by omega)
  have HIN : Hid (E = 0 → ∃ j : Nat, f = j ∧ j < nX ∧ K = mayB m (frAt X j).time upto) := fun h => by
    obtain ⟨j, h1, h2⟩ := hin (by rw [← hE]; exact h)
    refine ⟨j, h1, by rw [hnX, hX]; exact h2, ?_⟩
    rw [hK, hX]; unfold okB; rw [← hE, h, h1]; simp
  have HX6 : Hid (E = 0 → nX ≤ 6) := fun h => by
    rw [hE] at h
    rw [hnX, hX]; exact getG_len h
  have HBAD : Hid (¬ E = 0 → K = false) := fun h => by rw [hK]; unfold okB; rw [← hE]; simp [h]
  have HM : Hid (Blk w M #[.int .i64 m, .int .i64 g, .int .i64 f, .int .i64 first, gv, ov] 77) := hM
  have HNX : Hid (nX = X.length) := hnX
  rw [← hK, ← hX]
  clear hE hX hnX hK hg ho hln hlo hM hin
  subst eg eo
  have hMw := HM.out.lt
  go_enter Try.func43, Try.ntmps43
  go_wp2_with fail
  obtain ⟨w0, hw0⟩ : ∃ w0, w0 = w.alloc (.cells #[.int .i64 0, .bool false, .slice none 0 0] 39) := ⟨_, rfl⟩
  have B0 : Below w.heap.size w w0 := by rw [hw0]; exact (Below.refl _ _).alloc (Nat.le_refl _) _
  have HM0 : Hid (Blk w0 M #[.int .i64 m, .int .i64 g, .int .i64 f, .int .i64 first, .slice ga ln gc, .slice oa lo oc] 77) := HM.out.below B0 hMw
  have HR0 : Hid (Blk w0 w.heap.size #[.int .i64 0, .bool false, .slice none 0 0] 39) := Blk.newE hw0
  have z0 : w0.heap.size = w.heap.size + 1 := by rw [hw0]; simp
  have HGET0 : Hid (∀ U : World, Below w0.heap.size w0 U → Calls Try.prog 27 #[.agg #[.int .i64 first, .slice ga ln gc, .slice oa lo oc], .int .i64 g] U fun e w' => ∃ a c, e = .returned (.tuple #[.agg #[.slice a nX c], .int .i64 E]) ∧ Hid (FrsIn (fun g => U.heap.size ≤ g) w' (.slice a nX c) X) ∧ Below U.heap.size U w') := fun U hU => HGET.out U (B0.trans (hU.mono B0.size))
  have HB0 : Hid (Below w.heap.size w w0) := B0
  rw [← hw0]
  clear hw0 B0 HGET
  refine region_main (by kernel_rfl) (by kernel_rfl) [.quiet (.pointer (some ⟨M, 0, none⟩)), .quiet (.pointer (some ⟨M, 0, none⟩)), .quiet (.pointer (some ⟨M, 3, none⟩)), .quiet (.agg #[.int .i64 first, .slice ga ln gc, .slice oa lo oc]), .quiet (.pointer (some ⟨M, 0, none⟩)), .quiet (.pointer (some ⟨M, 0, none⟩)), .quiet (.pointer (some ⟨M, 0, none⟩)), .quiet (.pointer (some ⟨M, 1, none⟩)), .quiet (.int .i64 g), .main, .fin (fun r => r), .fin (exT 0), .fin (exT 1), .box 34 #[.slice none 0 0], .put 13 (fun r => aggC (exT 0 r)), .fin (exT 1)] 9 (by kernel_rfl)
    (fun S r w' => ∃ a1 c1, r = .tuple #[.agg #[.slice a1 nX c1], .int .i64 E] ∧ FrsIn (fun g => S g ∧ w0.heap.size ≤ g) w' (.slice a1 nX c1) X) ?loc ?step ?fin
  case loc =>
    rintro S r w1 w3 ⟨a1, c1, rfl, h1⟩ hs hsame
    exact ⟨a1, c1, rfl, h1.to ⟨hs, fun g hg hS => hsame g hS.1 hg⟩ (fun _ _ h => h)⟩
  case step =>
    intro i o ho a' w' r hb hfree hvals
    have f0 : a'.eval (.tmp 0) = .pointer (some ⟨M, 0, none⟩) := (hfree 0 (by kernel_rfl)).trans rfl
    obtain ⟨y0, y1, y2, y3, y4, y5⟩ := (HM0.out.below hb HM0.out.lt).sixw
    match i, ho with
    | 0, ho =>
      simp at ho; subst ho
      show (execOp a'.eval _).run _ w' = .ok (.value _) w'
      generalize a'.eval = ρ at *
      simp [execOp, go_sem, f0]
    | 1, ho =>
      simp at ho; subst ho
      have e10 : a'.eval (.tmp 10) = .pointer (some ⟨M, 0, none⟩) := hvals 0 _ (by kernel_rfl) rfl
      show (execOp a'.eval _).run _ w' = .ok (.value _) w'
      generalize a'.eval = ρ at *
      simp [execOp, go_sem, e10]
    | 2, ho =>
      simp at ho; subst ho
      have e11 : a'.eval (.tmp 11) = .pointer (some ⟨M, 0, none⟩) := hvals 1 _ (by kernel_rfl) rfl
      show (execOp a'.eval _).run _ w' = .ok (.value _) w'
      generalize a'.eval = ρ at *
      simp [execOp, go_sem, e11]
    | 3, ho =>
      simp at ho; subst ho
      have e12 : a'.eval (.tmp 12) = .pointer (some ⟨M, 3, none⟩) := hvals 2 _ (by kernel_rfl) rfl
      show (execOp a'.eval _).run _ w' = .ok (.value _) w'
      generalize a'.eval = ρ at *
      simp [execOp, go_sem, e12, y3, y4, y5]
    | 4, ho =>
      simp at ho; subst ho
      show (execOp a'.eval _).run _ w' = .ok (.value _) w'
      generalize a'.eval = ρ at *
      simp [execOp, go_sem, f0]
    | 5, ho =>
      simp at ho; subst ho
      have e14 : a'.eval (.tmp 14) = .pointer (some ⟨M, 0, none⟩) := hvals 4 _ (by kernel_rfl) rfl
      show (execOp a'.eval _).run _ w' = .ok (.value _) w'
      generalize a'.eval = ρ at *
      simp [execOp, go_sem, e14]
    | 6, ho =>
      simp at ho; subst ho
      have e15 : a'.eval (.tmp 15) = .pointer (some ⟨M, 0, none⟩) := hvals 5 _ (by kernel_rfl) rfl
      show (execOp a'.eval _).run _ w' = .ok (.value _) w'
      generalize a'.eval = ρ at *
      simp [execOp, go_sem, e15]
    | 7, ho =>
      simp at ho; subst ho
      have e16 : a'.eval (.tmp 16) = .pointer (some ⟨M, 0, none⟩) := hvals 6 _ (by kernel_rfl) rfl
      show (execOp a'.eval _).run _ w' = .ok (.value _) w'
      generalize a'.eval = ρ at *
      simp [execOp, go_sem, e16]
    | 8, ho =>
      simp at ho; subst ho
      have e17 : a'.eval (.tmp 17) = .pointer (some ⟨M, 1, none⟩) := hvals 7 _ (by kernel_rfl) rfl
      show (execOp a'.eval _).run _ w' = .ok (.value _) w'
      generalize a'.eval = ρ at *
      simp [execOp, go_sem, e17, y1]
    | 9, ho =>
      simp at ho; subst ho
      have e13 : a'.eval (.tmp 13) = .agg #[.int .i64 first, .slice ga ln gc, .slice oa lo oc] := hvals 3 _ (by kernel_rfl) rfl
      have e18 : a'.eval (.tmp 18) = .int .i64 g := hvals 8 _ (by kernel_rfl) rfl
      have ef : a'.eval (.func 27) = .func (.func 27) #[] #[] := rfl
      show ∃ f args, (execOp a'.eval _).run _ w' = .ok (.enter f args) w' ∧ _
      generalize a'.eval = ρ at *
      refine ⟨27, #[.agg #[.int .i64 first, .slice ga ln gc, .slice oa lo oc], .int .i64 g], by simp [execOp, go_sem, e13, e18, ef], ?_⟩
      refine (HGET0.out w' hb).mono ?_
      rintro e w'' ⟨a1, c1, rfl, h1, hb4⟩
      exact ⟨_, rfl, ⟨a1, c1, rfl, h1.out.mono (fun g hl hg => ⟨⟨hl, .inr hg⟩, (by have := hb.size; omega)⟩)⟩, hb4⟩
    | 10, ho =>
      simp at ho; subst ho
      have e19 : a'.eval (.tmp 19) = r := hvals 9 _ (by kernel_rfl) rfl
      show ∀ S, _ → (execOp a'.eval _).run _ w' = .ok (.value _) w'
      rintro S ⟨a1, c1, rfl, _⟩
      try simp only [exT] at e19
      generalize a'.eval = ρ at *
      simp [execOp, go_sem, e19]
    | 11, ho =>
      simp at ho; subst ho
      have e9 : a'.eval (.tmp 9) = r := hvals 10 _ (by kernel_rfl) rfl
      show ∀ S, _ → (execOp a'.eval _).run _ w' = .ok (.value _) w'
      rintro S ⟨a1, c1, rfl, _⟩
      try simp only [exT] at e9
      generalize a'.eval = ρ at *
      simp [execOp, go_sem, e9, exT]
    | 12, ho =>
      simp at ho; subst ho
      have e9 : a'.eval (.tmp 9) = r := hvals 10 _ (by kernel_rfl) rfl
      show ∀ S, _ → (execOp a'.eval _).run _ w' = .ok (.value _) w'
      rintro S ⟨a1, c1, rfl, _⟩
      try simp only [exT] at e9
      generalize a'.eval = ρ at *
      simp [execOp, go_sem, e9, exT]
    | 13, ho =>
      simp at ho; subst ho
      show (execOp a'.eval _).run _ w' = .ok (.value _) _
      generalize a'.eval = ρ at *
      simp [execOp, go_sem]
    | 14, ho =>
      simp at ho; subst ho
      have e20 : a'.eval (.tmp 20) = (exT 0) r := hvals 11 _ (by kernel_rfl) rfl
      show ∀ S, _ → ∀ t z g C, _ → _ → _ → _ → ∃ w'', (execOp a'.eval _).run _ w' = .ok .skip w'' ∧ _
      rintro S ⟨a1, c1, rfl, _⟩ t z g C hz hC hs (eb : a'.eval (.tmp 6) = _)
      cases hz
      obtain ⟨u0, q0⟩ := cells1 hC hs
      have p0 := hC.free 0
      obtain ⟨m1, m2, m3⟩ := set1 hC hs (.slice a1 nX c1)
      simp only [exT] at e20
      generalize a'.eval = ρ at *
      exact ⟨_, by simp [execOp, go_sem, e20, eb, q0, p0], m1, m2, rfl, m3, rfl, rfl, rfl⟩
    | 15, ho =>
      simp at ho; subst ho
      have e21 : a'.eval (.tmp 21) = (exT 1) r := hvals 12 _ (by kernel_rfl) rfl
      show ∀ S, _ → (execOp a'.eval _).run _ w' = .ok (.value _) w'
      rintro S ⟨a1, c1, rfl, _⟩
      try simp only [exT] at e21
      generalize a'.eval = ρ at *
      simp [execOp, go_sem, e21, exT]
    | i + 16, ho => simp at ho
  case fin =>
    rintro r gs S W hb ⟨a1, c1, rfl, h1⟩ hS hbox hap
    obtain ⟨p1, p2, C, p3, p4⟩ := hbox 13 _ _ (by decide) rfl
    have p5 := p4 14 _ (by decide) rfl
    subst p5
    have KP : Hid (Blk W (gs 13) #[.slice a1 nX c1] 34) := p3
    simp only [putK, Kd.out, exT, Act.put, List.setIfInBounds_toArray, List.set_cons_succ, List.set_cons_zero, List.getElem?_toArray, List.getElem?_cons_zero, List.getElem?_cons_succ, Option.getD_some]
    obtain ⟨p, hp⟩ : ∃ p, p = gs 13 := ⟨_, rfl⟩
    rw [← hp] at KP p1
    rw [← hp]
    have HBW : Hid (Below w0.heap.size w0 W) := hb
    have H1 : Hid (FrsIn (fun b => S b ∧ w0.heap.size ≤ b) W (.slice a1 nX c1) X) := h1
    have HPS : Hid (¬ S p) := (by rw [hp]; exact p2)
    have HSW : Hid (∀ g, S g → g < W.heap.size) := hS
    clear hp h1 hS hbox hap p2 p3 p4 hb
    have KM : Hid (Blk W M #[.int .i64 m, .int .i64 g, .int .i64 f, .int .i64 first, .slice ga ln gc, .slice oa lo oc] 77) := HM0.out.below HBW.out HM0.out.lt
    have KR : Hid (Blk W w.heap.size #[.int .i64 0, .bool false, .slice none 0 0] 39) := HR0.out.below HBW.out HR0.out.lt
    have HBB : Hid (Below w.heap.size w W) := HB0.out.trans (HBW.out.mono HB0.out.size)
    have HKP : Hid (Kept [M] w W) := ⟨HBB.out.os, HBB.out.tape, HBB.out.output, HBB.out.size, fun j hj _ => HBB.out.block j hj⟩
    have hpw : w.heap.size + 1 ≤ p := by omega
    obtain ⟨y0, y1, y2, y3, y4, y5⟩ := KM.out.sixw
    obtain ⟨r0, r1, r2⟩ := KR.out.three
    have x0 := KP.out.one
    have fd : ∀ k j, (W.drewN k).frozen? ⟨w.heap.size, j, none⟩ = false := fun k j => (KR.out.drewN k).free j
    have HD : Hid (∀ k, Below W.heap.size W (W.drewN k)) := fun k => below_drewN (Below.refl _ _) k
    clear HGET0
    have HFIN : Hid (∀ (F : Int) (t : Int) (k : Bool) (pv : Value) (Y V : World), Kept [M] w Y → Blk Y M #[.int .i64 m, .int .i64 g, .int .i64 F, .int .i64 first, .slice ga ln gc, .slice oa lo oc] 77 → Blk Y w.heap.size #[.int .i64 0, .bool false, .slice none 0 0] 39 → V = ((Y.setCell ⟨w.heap.size, 0, none⟩ (.int .i64 t)).setCell ⟨w.heap.size, 1, none⟩ (.bool k)).setCell ⟨w.heap.size, 2, none⟩ pv → Blk V M #[.int .i64 m, .int .i64 g, .int .i64 F, .int .i64 first, .slice ga ln gc, .slice oa lo oc] 77 ∧ Blk V w.heap.size #[.int .i64 t, .bool k, pv] 39 ∧ Kept [M] w V ∧ V.heap.size = Y.heap.size ∧ ∀ b, b ≠ w.heap.size → V.heap[b]? = Y.heap[b]?) := fun F t k pv Y V h1 h2 h3 hV => by
      have ho : ∀ b, b ≠ w.heap.size → V.heap[b]? = Y.heap[b]? := fun b hb => by
        rw [hV, Below.heap_setCell _ _ _ _ (by exact hb), Below.heap_setCell _ _ _ _ (by exact hb), Below.heap_setCell _ _ _ _ (by exact hb)]
      refine ⟨(ho M (by omega)).trans h2, by rw [hV]; exact ((h3.set 0 (.int .i64 t)).set 1 (.bool k)).set 2 pv, ?_, by rw [hV]; simp, ho⟩
      rw [hV]; exact ((h1.setNew (Nat.le_refl _) _).setNew (Nat.le_refl _) _).setNew (Nat.le_refl _) _
    by_cases hE : E = 0
    · obtain ⟨j, hj, hjn, hKK⟩ := HIN.out hE
      obtain ⟨ao', c', eu, _, _, hc⟩ := H1.out
      rw [← HNX.out] at eu
      injection eu with eu eu2 eu3
      clear eu2
      subst eu eu3
      obtain ⟨b, off, e1, hb, hSb, pv, c0, c1', c2, hps⟩ := hc j (by rw [← HNX.out]; exact hjn)
      obtain ⟨x, hx⟩ : ∃ x, x = frAt X j := ⟨_, rfl⟩
      rw [show X[j]?.getD Fr.zero = x from hx.symm] at c0 c1' hps
      rw [← hx] at hKK
      obtain ⟨pa, pc, ep⟩ := hps.1.len
      obtain ⟨pn, hpn⟩ : ∃ n, n = x.parts.length := ⟨_, rfl⟩
      rw [← hpn] at ep
      have HXE : Hid (x = frAt X j) := hx
      have HPS2 : Hid (StrsIn (fun b => S b ∧ w0.heap.size ≤ b) W pv x.parts) := hps
      have HC0 : Hid (∀ U, Below W.heap.size W U → U.cell? ⟨b, off + j * 3, none⟩ = some (.int .i64 x.time) ∧ U.cell? ⟨b, off + j * 3 + 1, none⟩ = some (.bool x.key) ∧ U.cell? ⟨b, off + j * 3 + 2, none⟩ = some pv) := fun U h => ⟨(h.cell (p := ⟨b, off + j * 3, none⟩) hb).trans c0, (h.cell (p := ⟨b, off + j * 3 + 1, none⟩) hb).trans c1', (h.cell (p := ⟨b, off + j * 3 + 2, none⟩) hb).trans c2⟩
      have cF : ∀ d os, Calls Try.prog 55 #[.pointer (some ⟨M, 0, none⟩), .agg #[.int .i64 x.time, .bool x.key, pv], .int .i64 upto] (grow (redrawn W d) os) fun e w'' => e = .returned (.bool K) ∧ ∃ p : Regrown, w'' = grow (redrawn W p.d) p.os := fun d os =>
        Calls.regrown_of (by
          rw [hKK]
          exact mayHave_any M m g f first _ _ x.time x.key pv upto _ ⟨_, _, _, ep⟩ (KM.out.below (below_regrown W d os) KM.out.lt))
      have z0' := cell_regrown x0
      have z1' := cell_regrown y2
      have z2' := cell_regrown c0
      have z3' := cell_regrown c1'
      have z4' := cell_regrown c2
      have HSB : Hid (∀ b, (S b ∧ w0.heap.size ≤ b) → w.heap.size + 1 ≤ b ∧ b ≠ M) := fun b h => ⟨by omega, by omega⟩
      have hjb : j ≤ 6 := by have := HX6.out hE; omega
      have hji : (j : Int) < (nX : Int) := by omega
      clear hc hps hx hpn hKK HIN HBAD
      subst e1 ep hE hj
      clear c0 c1' c2 x0 y2
      go_wp2_with fail
      refine wp_region_quiet_below (by kernel_rfl) (by kernel_rfl) ?_
      repeat (quiet_step (exact cF _ _))
      refine wpQuiet_nil ?_
      intro _ hw'
      obtain ⟨⟨dq, osq⟩, hw''⟩ := hw'
      subst hw''
      have bR := below_regrown W dq osq
      obtain ⟨V, hV⟩ : ∃ V, V = grow (redrawn W dq) osq := ⟨_, rfl⟩
      rw [← hV] at bR
      rw [← hV]
      clear hV cF z0' z1' z2' z3' z4' y0 y1 y3 y4 y5 r0 r1 r2 fd
      have KMV := KM.out.below bR KM.out.lt
      have KRV := KR.out.below bR KR.out.lt
      have KPV := KP.out.below bR KP.out.lt
      have HPV : Hid (StrsIn (fun b => S b ∧ w0.heap.size ≤ b) V (.slice pa pn pc) x.parts) := HPS2.out.below bR
      have HKV : Hid (Kept [M] w V) := HKP.out.below bR
      have hpl := KP.out.lt
      have hML := KMV.lt
      have hRL := KRV.lt
      have hVW := bR.size
      have hpV : p < V.heap.size := by omega
      have hbV : b < V.heap.size := by omega
      obtain ⟨o0, o1, o2, o3, o4, o5⟩ := KMV.sixw
      obtain ⟨r0, r1, r2⟩ := KRV.three
      have x0 := KPV.one
      obtain ⟨c0, c1', c2⟩ := HC0.out V bR
      have fM := KMV.free
      have fR := KRV.free
      cases K
      · have HKM : Hid (Blk V M #[.int .i64 m, .int .i64 g, .int .i64 j, .int .i64 first, .slice ga ln gc, .slice oa lo oc] 77) := KMV
        have HKR : Hid (Blk V w.heap.size #[.int .i64 0, .bool false, .slice none 0 0] 39) := KRV
        clear KMV KRV KPV bR
        go_wp2_with fail
        obtain ⟨n1, n2, n3, _, _⟩ := HFIN.out j 0 false (.slice none 0 0) V _ HKV.out HKM.out HKR.out rfl
        obtain ⟨u0, u1, u2⟩ := n2.three
        exact bodyPost_ret (v := .tuple #[.agg #[.int .i64 0, .bool false, .slice none 0 0], .bool false]) (by simp [results, Try.results43, go_sem, u0, u1, u2]) rfl ⟨Fr.zero, .slice none 0 0, rfl, rfl, StrsIn.nil _ _, n1, n3⟩
      · have HKM : Hid (Blk V M #[.int .i64 m, .int .i64 g, .int .i64 j, .int .i64 first, .slice ga ln gc, .slice oa lo oc] 77) := KMV
        have HKR : Hid (Blk V w.heap.size #[.int .i64 0, .bool false, .slice none 0 0] 39) := KRV
        clear KMV KRV KPV
        go_wp2_with fail
        go_region
        obtain ⟨Y0, hY0⟩ : ∃ Y0, Y0 = (V.alloc (.cells #[.int .i64 x.time, .bool x.key, .slice pa pn pc] 39)).drew := ⟨_, rfl⟩
        have bY : Below V.heap.size V Y0 := by rw [hY0]; exact Below.drew ((Below.refl _ _).alloc (Nat.le_refl _) _)
        have KY : Blk Y0 V.heap.size #[.int .i64 x.time, .bool x.key, .slice pa pn pc] 39 := by rw [hY0]; exact (Blk.new _ _ _).drew
        rw [← hY0]
        clear hY0 o0 o1 o2 o3 o4 o5 r0 r1 r2 x0 c0 c1' c2 fM fR
        have M0 := HKM.out.below bY HKM.out.lt
        have R0 := HKR.out.below bY HKR.out.lt
        have P0 : Hid (StrsIn (fun b => S b ∧ w0.heap.size ≤ b) Y0 (.slice pa pn pc) x.parts) := HPV.out.below bY
        have Q0 : Hid (Kept [M] w Y0) := HKV.out.below bY
        obtain ⟨o0, o1, o2, o3, o4, o5⟩ := M0.sixw
        obtain ⟨r0, r1, r2⟩ := R0.three
        obtain ⟨q0, q1, q2⟩ := KY.three
        have fM := M0.free
        have fR := R0.free
        have lM := M0.lt
        have lR := R0.lt
        have lY := KY.lt
        have hne1 : ¬ M = V.heap.size := by omega
        have hne2 : ¬ V.heap.size = M := by omega
        have hne3 : ¬ w.heap.size = M := by omega
        have hne4 : ¬ M = w.heap.size := by omega
        have hne5 : ¬ V.heap.size = w.heap.size := by omega
        have hne6 : ¬ w.heap.size = V.heap.size := by omega
        obtain ⟨Y1, hY1⟩ : ∃ Y1, Y1 = Y0.setCell ⟨M, 2, none⟩ (.int .i64 (j + 1)) := ⟨_, rfl⟩
        have M1 : Blk Y1 M #[.int .i64 m, .int .i64 g, .int .i64 (j + 1), .int .i64 first, .slice ga ln gc, .slice oa lo oc] 77 := by
          have := M0.set 2 (.int .i64 (j + 1))
          rw [hY1]; simpa using this
        have R1 : Blk Y1 w.heap.size #[.int .i64 0, .bool false, .slice none 0 0] 39 := by rw [hY1]; exact R0.other (by simp; omega) _
        have Q1 : Kept [M] w Y1 := by rw [hY1]; exact Q0.out.setCell (by simp) _
        have hY1o : ∀ b, b ≠ M → Y1.heap[b]? = Y0.heap[b]? := fun b hb => by rw [hY1]; exact Below.heap_setCell _ _ _ _ hb
        have hY1s : Y1.heap.size = Y0.heap.size := by rw [hY1]; simp
        obtain ⟨Z, hZ⟩ : ∃ Z, Z = ((Y1.setCell ⟨w.heap.size, 0, none⟩ (.int .i64 x.time)).setCell ⟨w.heap.size, 1, none⟩ (.bool x.key)).setCell ⟨w.heap.size, 2, none⟩ (.slice pa pn pc) := ⟨_, rfl⟩
        obtain ⟨n1, n2, n3, n4, n5⟩ := HFIN.out (j + 1) x.time x.key (.slice pa pn pc) Y1 Z Q1 M1 R1 hZ
        have PZ : Hid (StrsIn (fun b => w.heap.size ≤ b) Z (.slice pa pn pc) x.parts) := P0.out.to ⟨by omega, fun b hb hS => by
          have hh := HSB.out b hS
          rw [n5 b (by omega), hY1o b (by omega)]⟩ (fun b _ hS => by have := HSB.out b hS; omega)
        have HN : Hid (Blk Z M #[.int .i64 m, .int .i64 g, .int .i64 (j + 1), .int .i64 first, .slice ga ln gc, .slice oa lo oc] 77 ∧ Blk Z w.heap.size #[.int .i64 x.time, .bool x.key, .slice pa pn pc] 39 ∧ Kept [M] w Z) := ⟨n1, n2, n3⟩
        rw [hY1] at hZ
        clear n1 n2 n3 n4 n5 M1 R1 Q1 hY1o hY1s M0 R0 KY bY hY1
        go_wp2_with fail
        rw [← hZ]
        obtain ⟨u0, u1, u2⟩ := HN.out.2.1.three
        exact bodyPost_ret (v := .tuple #[.agg #[.int .i64 x.time, .bool x.key, .slice pa pn pc], .bool true]) (by simp [results, Try.results43, go_sem, u0, u1, u2]) rfl ⟨x, .slice pa pn pc, rfl, HXE.out, PZ.out, HN.out.1, HN.out.2.2⟩
    · have hK := HBAD.out hE
      have hEb : (E != 0) = true := by simpa using hE
      subst hK
      go_wp2_with fail
      go_quiet (fail)
      go_wp2_with fail
      obtain ⟨n1, n2, n3, _, _⟩ := HFIN.out f 0 false (.slice none 0 0) (W.drewN nq) _ (HKP.out.below (HD.out nq)) (KM.out.drewN nq) (KR.out.drewN nq) rfl
      obtain ⟨u0, u1, u2⟩ := n2.three
      exact bodyPost_ret (v := .tuple #[.agg #[.int .i64 0, .bool false, .slice none 0 0], .bool false]) (by simp [results, Try.results43, go_sem, u0, u1, u2]) rfl ⟨Fr.zero, .slice none 0 0, rfl, rfl, StrsIn.nil _ _, n1, n3⟩

end Go.Proofs.Ytnpaejknoipicae

namespace Go.Proofs.Ytnpaejknoipicae
open Go.RowKit Go.Sort

def nxK (first : Int) (L : List (List Fr)) (O : List Fr) (m g f upto : Int) : Bool := decide (nxE first L O m g f upto = 0) && okB first L O m (plG first L O m g f) (plF first L O g f) upto
def nxM (first : Int) (L : List (List Fr)) (O : List Fr) (m g f upto : Int) : Int := if nxE first L O m g f upto = 0 then m else 0
def nxG (first : Int) (L : List (List Fr)) (O : List Fr) (m g f upto : Int) : Int := if nxE first L O m g f upto = 0 then (if nxK first L O m g f upto then plG first L O m g f else g) else 0
def nxF (first : Int) (L : List (List Fr)) (O : List Fr) (m g f upto : Int) : Int := if nxE first L O m g f upto = 0 then (if nxK first L O m g f upto then plF first L O g f + 1 else f) else 0
def nxX (first : Int) (L : List (List Fr)) (O : List Fr) (m g f upto : Int) : Fr := if nxK first L O m g f upto then frAt (getG first L O (plG first L O m g f)) (plF first L O g f).toNat else Fr.zero
def nxT (first : Int) (L : List (List Fr)) (O : List Fr) (m g f upto : Int) : Bool := nxK first L O m g f upto && plT first L O g f

theorem plG_bound {first : Int} {L : List (List Fr)} {O : List Fr} {m g f : Int} (hs : stchk first L O = 0) (hc : curE m g f = 0) : -1 ≤ plG first L O m g f ∧ plG first L O m g f ≤ 200000 := by
  obtain ⟨c1, c2, c3, c4, c5, c6⟩ := curE_zero.1 hc
  obtain ⟨q1, q2, q3, _⟩ := stchk_zero.1 hs
  have hl := allG_len L O q3
  have := seek_last hs
  unfold plG plS
  rw [this]
  repeat' split
  all_goals omega

set_option maxHeartbeats 8000000 in
set_option maxRecDepth 100000 in
theorem next_any (first : Int) (gv ov : Value) (L : List (List Fr)) (O : List Fr) (m g f upto : Int) (w : World) (hg : GrsIn (fun _ => True) w gv L) (ho : FrsIn (fun _ => True) w ov O) :
    Calls Try.prog 17 #[.agg #[.int .i64 first, gv, ov], .agg #[.int .i64 m, .int .i64 g, .int .i64 f], .int .i64 upto] w fun e w' => ∃ pv, e = .returned (.tuple #[.agg #[.int .i64 (nxM first L O m g f upto), .int .i64 (nxG first L O m g f upto), .int .i64 (nxF first L O m g f upto)], .agg #[.int .i64 (nxX first L O m g f upto).time, .bool (nxX first L O m g f upto).key, pv], .bool (nxK first L O m g f upto), .bool (nxT first L O m g f upto), .int .i64 (nxE first L O m g f upto)]) ∧ StrsIn (fun b => w.heap.size ≤ b) w' pv (nxX first L O m g f upto).parts ∧ Below w.heap.size w w' := by
  obtain ⟨ga, gc, eg, _, _⟩ := hg.len
  obtain ⟨oa, oc, eo, _, _⟩ := ho.len
  obtain ⟨ln, hln⟩ : ∃ n, n = L.length := ⟨_, rfl⟩
  obtain ⟨lo, hlo⟩ : ∃ n, n = O.length := ⟨_, rfl⟩
  rw [← hln] at eg
  rw [← hlo] at eo
  obtain ⟨E, hE⟩ : ∃ E, E = nxE first L O m g f upto := ⟨_, rfl⟩
  obtain ⟨PG, hPG⟩ : ∃ n, n = plG first L O m g f := ⟨_, rfl⟩
  obtain ⟨PF, hPF⟩ : ∃ n, n = plF first L O g f := ⟨_, rfl⟩
  obtain ⟨PT, hPT⟩ : ∃ n, n = plT first L O g f := ⟨_, rfl⟩
  obtain ⟨K, hK⟩ : ∃ n, n = okB first L O m PG PF upto := ⟨_, rfl⟩
  obtain ⟨rM, hrM⟩ : ∃ n, n = nxM first L O m g f upto := ⟨_, rfl⟩
  obtain ⟨rG, hrG⟩ : ∃ n, n = nxG first L O m g f upto := ⟨_, rfl⟩
  obtain ⟨rF, hrF⟩ : ∃ n, n = nxF first L O m g f upto := ⟨_, rfl⟩
  obtain ⟨rX, hrX⟩ : ∃ n, n = nxX first L O m g f upto := ⟨_, rfl⟩
  obtain ⟨rK, hrK⟩ : ∃ n, n = nxK first L O m g f upto := ⟨_, rfl⟩
  obtain ⟨rT, hrT⟩ : ∃ n, n = nxT first L O m g f upto := ⟨_, rfl⟩
  have hKK : rK = (decide (E = 0) && K) := by rw [hrK, hE, hK, hPG, hPF]; rfl
  have HBAD : Hid (¬ E = 0 → rM = 0 ∧ rG = 0 ∧ rF = 0 ∧ rX = Fr.zero ∧ rK = false ∧ rT = false) := fun h => by
    have k : nxK first L O m g f upto = false := by rw [← hrK, hKK, decide_eq_false h]; rfl
    rw [hE] at h
    refine ⟨by rw [hrM]; exact if_neg h, by rw [hrG]; exact if_neg h, by rw [hrF]; exact if_neg h, by rw [hrX]; unfold nxX; rw [k]; rfl, by rw [hrK, k], by rw [hrT]; unfold nxT; rw [k]; rfl⟩
  have HGOOD : Hid (E = 0 → rM = m ∧ (K = true → rG = PG ∧ rF = PF + 1 ∧ rX = frAt (getG first L O PG) PF.toNat ∧ rK = true ∧ rT = PT) ∧ (K = false → rG = g ∧ rF = f ∧ rX = Fr.zero ∧ rK = false ∧ rT = false)) := fun h => by
    have k : nxK first L O m g f upto = K := by rw [← hrK, hKK, decide_eq_true h]; rfl
    rw [hE] at h
    rw [hrM, hrG, hrF, hrX, hrK, hrT]
    unfold nxM nxG nxF nxX nxT
    rw [k, if_pos h, if_pos h, if_pos h, ← hPG, ← hPF, ← hPT]
    exact ⟨rfl, fun h => by rw [h]; exact ⟨rfl, rfl, rfl, rfl, rfl⟩, fun h => by rw [h]; exact ⟨rfl, rfl, rfl, rfl, rfl⟩⟩
  have HCK : Hid (∀ U : World, Below w.heap.size w U → Calls Try.prog 41 #[.agg #[.int .i64 first, gv, ov], .agg #[.int .i64 m, .int .i64 g, .int .i64 f], .int .i64 upto] U fun e w' => e = .returned (.int .i64 E) ∧ Below U.heap.size U w') := fun U hU => by
    rw [hE]; exact checkNext_any first gv ov L O m g f upto U (hg.below hU) (ho.below hU)
  have HFP : Hid (E = 0 → ∀ (M : Nat) (U : World), Below w.heap.size w U → Blk U M #[.int .i64 m, .int .i64 g, .int .i64 f, .int .i64 first, gv, ov] 77 → Calls Try.prog 42 #[.pointer (some ⟨M, 0, none⟩)] U fun e w' => e = .returned (.bool PT) ∧ Blk w' M #[.int .i64 m, .int .i64 PG, .int .i64 PF, .int .i64 first, gv, ov] 77 ∧ Kept [M] U w') := fun h M U hU hM => by
    obtain ⟨h1, h2, _⟩ := nxE_zero.1 (by rw [← hE]; exact h)
    obtain ⟨c1, c2, c3, c4, c5, c6⟩ := curE_zero.1 h2
    rw [hPT, hPG, hPF]; exact findPlace_any M m g f first gv ov L O U hM (hg.below hU) (ho.below hU) (by omega) (by omega)
  have HST : Hid (E = 0 → ∀ (M : Nat) (U : World), w.heap.size ≤ M → Below w.heap.size w U → Blk U M #[.int .i64 m, .int .i64 PG, .int .i64 PF, .int .i64 first, gv, ov] 77 → Calls Try.prog 43 #[.pointer (some ⟨M, 0, none⟩), .int .i64 upto] U fun e w' => ∃ (x : Fr) (pv : Value), e = .returned (.tuple #[.agg #[.int .i64 x.time, .bool x.key, pv], .bool K]) ∧ x = (if K then frAt (getG first L O PG) PF.toNat else Fr.zero) ∧ StrsIn (fun b => U.heap.size ≤ b) w' pv x.parts ∧ Blk w' M #[.int .i64 m, .int .i64 PG, .int .i64 (if K then PF + 1 else PF), .int .i64 first, gv, ov] 77 ∧ Kept [M] U w') := fun h M U _ hU hM => by
    obtain ⟨h1, h2, _⟩ := nxE_zero.1 (by rw [← hE]; exact h)
    obtain ⟨b1, b2⟩ := plG_bound h1 h2
    have hin := (next_spec upto h1 h2).1
    rw [← hPG] at b1 b2 hin
    rw [hK]
    refine step_any M m PG PF first gv ov L O upto U hM (hg.below hU) (ho.below hU) (by omega) (by omega) (fun he => ?_)
    obtain ⟨k, j, e1, e2, e3, e4⟩ := hin he
    rw [← hPF] at e3
    obtain ⟨_, u2⟩ := getE_in h1 e1 e2
    exact ⟨j, e3, by rw [u2]; exact e4⟩
  rw [← hE, ← hrM, ← hrG, ← hrF, ← hrX, ← hrK, ← hrT]
  have HGR : Hid (Stay w (fun U => GrsIn (fun _ => True) U gv L ∧ FrsIn (fun _ => True) U ov O)) := hg.stay.and ho.stay
  clear hE hPG hPF hPT hK hrM hrG hrF hrX hrK hrT hKK hg ho hln hlo
  subst eg eo
  go_enter Try.func17, Try.ntmps17
  go_wp2_with fail
  obtain ⟨W0, hW0⟩ : ∃ W0, W0 = (((w.alloc (.cells #[.int .i64 first, .slice ga ln gc, .slice oa lo oc] 36)).alloc (.cells #[.int .i64 m, .int .i64 g, .int .i64 f] 41)).alloc (.cells #[.int .i64 0, .int .i64 0, .int .i64 0] 41)).alloc (.cells #[.int .i64 0, .bool false, .slice none 0 0] 39) := ⟨_, rfl⟩
  have HS0 : Hid (Stay W0 (fun U => (Blk U w.heap.size #[.int .i64 first, .slice ga ln gc, .slice oa lo oc] 36 ∧ Blk U (w.heap.size + 1) #[.int .i64 m, .int .i64 g, .int .i64 f] 41) ∧ (Blk U (w.heap.size + 1 + 1) #[.int .i64 0, .int .i64 0, .int .i64 0] 41 ∧ Blk U (w.heap.size + 1 + 1 + 1) #[.int .i64 0, .bool false, .slice none 0 0] 39) ∧ Below w.heap.size w U)) := by
    have hb : Below w.heap.size w W0 := by rw [hW0]; exact ((((Below.refl _ _).alloc (Nat.le_refl _) _).alloc (by simp) _).alloc (by simp; omega) _).alloc (by simp; omega) _
    have k0 : Blk W0 w.heap.size #[.int .i64 first, .slice ga ln gc, .slice oa lo oc] 36 := by rw [hW0]; exact (((Blk.new _ _ _).alloc _).alloc _).alloc _
    have k1 : Blk W0 (w.heap.size + 1) #[.int .i64 m, .int .i64 g, .int .i64 f] 41 := by
      have := Blk.new (w.alloc (.cells #[.int .i64 first, .slice ga ln gc, .slice oa lo oc] 36)) #[.int .i64 m, .int .i64 g, .int .i64 f] 41
      simp only [World.size_alloc] at this
      rw [hW0]; exact (this.alloc _).alloc _
    have k2 : Blk W0 (w.heap.size + 1 + 1) #[.int .i64 0, .int .i64 0, .int .i64 0] 41 := by
      have := Blk.new ((w.alloc (.cells #[.int .i64 first, .slice ga ln gc, .slice oa lo oc] 36)).alloc (.cells #[.int .i64 m, .int .i64 g, .int .i64 f] 41)) #[.int .i64 0, .int .i64 0, .int .i64 0] 41
      simp only [World.size_alloc] at this
      rw [hW0]; exact this.alloc _
    have k3 : Blk W0 (w.heap.size + 1 + 1 + 1) #[.int .i64 0, .bool false, .slice none 0 0] 39 := by
      have := Blk.newE hW0
      simp only [World.size_alloc] at this
      exact this
    exact (k0.stay.and k1.stay).and ((k2.stay.and k3.stay).and (below_stay hb hb.size))
  rw [← hW0]
  clear hW0
  refine (HCK.out _ HS0.out.now.2.2).mono ?_
  rintro e w1 ⟨rfl, b1⟩
  have HS1 := Stay.go HS0 b1
  clear b1 HS0 HCK
  have hend : ∀ (Y V : World) (c0 c1 c2 : Int) (t : Int) (k : Bool) (pv : Value), Below w.heap.size w Y → Blk Y (w.heap.size + 1 + 1) #[.int .i64 0, .int .i64 0, .int .i64 0] 41 → Blk Y (w.heap.size + 1 + 1 + 1) #[.int .i64 0, .bool false, .slice none 0 0] 39 → V = (((((Y.setCell ⟨w.heap.size + 1 + 1, 0, none⟩ (.int .i64 c0)).setCell ⟨w.heap.size + 1 + 1, 1, none⟩ (.int .i64 c1)).setCell ⟨w.heap.size + 1 + 1, 2, none⟩ (.int .i64 c2)).setCell ⟨w.heap.size + 1 + 1 + 1, 0, none⟩ (.int .i64 t)).setCell ⟨w.heap.size + 1 + 1 + 1, 1, none⟩ (.bool k)).setCell ⟨w.heap.size + 1 + 1 + 1, 2, none⟩ pv → Blk V (w.heap.size + 1 + 1) #[.int .i64 c0, .int .i64 c1, .int .i64 c2] 41 ∧ Blk V (w.heap.size + 1 + 1 + 1) #[.int .i64 t, .bool k, pv] 39 ∧ Below w.heap.size w V ∧ V.heap.size = Y.heap.size ∧ ∀ b, b ≠ w.heap.size + 1 + 1 → b ≠ w.heap.size + 1 + 1 + 1 → V.heap[b]? = Y.heap[b]? := fun Y V c0 c1 c2 t k pv h1 h2 h3 hV => by
    refine ⟨?_, ?_, ?_, by rw [hV]; simp, fun b hb1 hb2 => ?_⟩
    · rw [hV]
      exact (((((h2.set 0 (.int .i64 c0)).set 1 (.int .i64 c1)).set 2 (.int .i64 c2)).other (by simp) _).other (by simp) _).other (by simp) _
    · rw [hV]
      exact (((((h3.other (by simp) _).other (by simp) _).other (by simp) _).set 0 (.int .i64 t)).set 1 (.bool k)).set 2 pv
    · rw [hV]
      exact (((((h1.setCell (by simp; omega) _).setCell (by simp; omega) _).setCell (by simp; omega) _).setCell (by simp; omega) _).setCell (by simp; omega) _).setCell (by simp; omega) _
    · rw [hV, Below.heap_setCell _ _ _ _ (by exact hb2), Below.heap_setCell _ _ _ _ (by exact hb2), Below.heap_setCell _ _ _ _ (by exact hb2), Below.heap_setCell _ _ _ _ (by exact hb1), Below.heap_setCell _ _ _ _ (by exact hb1), Below.heap_setCell _ _ _ _ (by exact hb1)]
  have HEND : Hid (∀ (Y V : World) (c0 c1 c2 : Int) (t : Int) (k : Bool) (pv : Value), Below w.heap.size w Y → Blk Y (w.heap.size + 1 + 1) #[.int .i64 0, .int .i64 0, .int .i64 0] 41 → Blk Y (w.heap.size + 1 + 1 + 1) #[.int .i64 0, .bool false, .slice none 0 0] 39 → V = (((((Y.setCell ⟨w.heap.size + 1 + 1, 0, none⟩ (.int .i64 c0)).setCell ⟨w.heap.size + 1 + 1, 1, none⟩ (.int .i64 c1)).setCell ⟨w.heap.size + 1 + 1, 2, none⟩ (.int .i64 c2)).setCell ⟨w.heap.size + 1 + 1 + 1, 0, none⟩ (.int .i64 t)).setCell ⟨w.heap.size + 1 + 1 + 1, 1, none⟩ (.bool k)).setCell ⟨w.heap.size + 1 + 1 + 1, 2, none⟩ pv → Blk V (w.heap.size + 1 + 1) #[.int .i64 c0, .int .i64 c1, .int .i64 c2] 41 ∧ Blk V (w.heap.size + 1 + 1 + 1) #[.int .i64 t, .bool k, pv] 39 ∧ Below w.heap.size w V ∧ V.heap.size = Y.heap.size ∧ ∀ b, b ≠ w.heap.size + 1 + 1 → b ≠ w.heap.size + 1 + 1 + 1 → V.heap[b]? = Y.heap[b]?) := hend
  clear hend
  by_cases hE : E = 0
  case neg =>
    have HZ : Hid (rM = 0 ∧ rG = 0 ∧ rF = 0 ∧ rX = Fr.zero ∧ rK = false ∧ rT = false) := HBAD.out hE
    have hEb : (E != 0) = true := by simpa using hE
    obtain ⟨j0, j1, j2⟩ := HS1.out.now.2.1.1.three
    obtain ⟨i0, i1, i2⟩ := HS1.out.now.2.1.2.three
    have fj := HS1.out.now.2.1.1.free
    have fi := HS1.out.now.2.1.2.free
    have lj := HS1.out.now.2.1.1.lt
    have li := HS1.out.now.2.1.2.lt
    obtain ⟨V, hV⟩ : ∃ V, V = (((((w1.setCell ⟨w.heap.size + 1 + 1, 0, none⟩ (.int .i64 0)).setCell ⟨w.heap.size + 1 + 1, 1, none⟩ (.int .i64 0)).setCell ⟨w.heap.size + 1 + 1, 2, none⟩ (.int .i64 0)).setCell ⟨w.heap.size + 1 + 1 + 1, 0, none⟩ (.int .i64 0)).setCell ⟨w.heap.size + 1 + 1 + 1, 1, none⟩ (.bool false)).setCell ⟨w.heap.size + 1 + 1 + 1, 2, none⟩ (.slice none 0 0) := ⟨_, rfl⟩
    have HV : Hid _ := HEND.out w1 V 0 0 0 0 false (.slice none 0 0) HS1.out.now.2.2 HS1.out.now.2.1.1 HS1.out.now.2.1.2 hV
    clear HFP HST HGOOD HBAD HEND
    go_wp2_with fail
    rw [← hV]
    obtain ⟨n1, n2, n3, _, _⟩ := HV.out
    obtain ⟨e1, e2, e3, e4, e5, e6⟩ := HZ.out
    rw [e1, e2, e3, e4, e5, e6]
    obtain ⟨u0, u1, u2⟩ := n1.three
    obtain ⟨v0, v1, v2⟩ := n2.three
    exact bodyPost_ret (v := .tuple #[.agg #[.int .i64 0, .int .i64 0, .int .i64 0], .agg #[.int .i64 0, .bool false, .slice none 0 0], .bool false, .bool false, .int .i64 E]) (by simp [results, Try.results17, go_sem, u0, u1, u2, v0, v1, v2]) rfl ⟨.slice none 0 0, rfl, StrsIn.nil _ _, n3⟩
  obtain ⟨gM, gY, gN⟩ := HGOOD.out hE
  have HFP2 := HFP.out hE
  have HST2 := HST.out hE
  have HFPH : Hid _ := HFP2
  have HSTH : Hid _ := HST2
  have HGM : Hid (rM = m) := gM
  have HGY : Hid (K = true → rG = PG ∧ rF = PF + 1 ∧ rX = frAt (getG first L O PG) PF.toNat ∧ rK = true ∧ rT = PT) := gY
  have HGN : Hid (K = false → rG = g ∧ rF = f ∧ rX = Fr.zero ∧ rK = false ∧ rT = false) := gN
  clear gM gY gN HFP2 HST2 HFP HST HGOOD HBAD
  obtain ⟨k0, k1, k2⟩ := HS1.out.now.1.1.three
  obtain ⟨j0, j1, j2⟩ := HS1.out.now.1.2.three
  subst hE
  obtain ⟨W1, hW1⟩ : ∃ W1, W1 = w1.alloc (.cells #[.int .i64 m, .int .i64 g, .int .i64 f, .int .i64 first, .slice ga ln gc, .slice oa lo oc] 77) := ⟨_, rfl⟩
  have HS2 := HS1.out.allocE hW1
  have KM1 : Hid (Blk W1 w1.heap.size #[.int .i64 m, .int .i64 g, .int .i64 f, .int .i64 first, .slice ga ln gc, .slice oa lo oc] 77) := Blk.newE hW1
  have lw1 : w.heap.size + 1 + 1 + 1 < w1.heap.size := HS1.out.now.2.1.2.lt
  clear HS1
  go_wp2_with fail
  rw [← hW1]
  clear hW1 k0 k1 k2 j0 j1 j2
  refine (HFPH.out _ _ HS2.out.now.2.2 KM1.out).mono ?_
  rintro e w2 ⟨rfl, km2, kp2⟩
  have lW1 : w1.heap.size < W1.heap.size := KM1.out.lt
  have b2 : Below w.heap.size w w2 := HS2.out.now.2.2.trans (kp2.toBelow (by omega) (fun k hk => by simp at hk; omega))
  have c2 := HS2.out.now.1.2.kept kp2 (by simp; omega)
  have p2 := HS2.out.now.2.1.1.kept kp2 (by simp; omega)
  have q2 := HS2.out.now.2.1.2.kept kp2 (by simp; omega)
  have KM2 : Hid (Blk w2 w1.heap.size #[.int .i64 m, .int .i64 PG, .int .i64 PF, .int .i64 first, .slice ga ln gc, .slice oa lo oc] 77) := km2
  have HB2 : Hid (Below w.heap.size w w2 ∧ Blk w2 (w.heap.size + 1) #[.int .i64 m, .int .i64 g, .int .i64 f] 41 ∧ Blk w2 (w.heap.size + 1 + 1) #[.int .i64 0, .int .i64 0, .int .i64 0] 41 ∧ Blk w2 (w.heap.size + 1 + 1 + 1) #[.int .i64 0, .bool false, .slice none 0 0] 39) := ⟨b2, c2, p2, q2⟩
  have lw2 : w1.heap.size < w2.heap.size := km2.lt
  clear b2 c2 p2 q2 km2 kp2 HS2 KM1 HFPH
  go_wp2_with fail
  refine (HSTH.out _ _ (by omega) HB2.out.1 KM2.out).mono ?_
  rintro e w3 ⟨x, pv, rfl, hx, hpv, km3, kp3⟩
  obtain ⟨pa, pc, ep⟩ := hpv.1.len
  obtain ⟨pn, hpn⟩ : ∃ n, n = x.parts.length := ⟨_, rfl⟩
  rw [← hpn] at ep
  clear hpn
  subst ep
  have sw3 := kp3.size
  have b3 : Below w.heap.size w w3 := HB2.out.1.trans (kp3.toBelow (by omega) (fun k hk => by simp at hk; omega))
  have c3 := HB2.out.2.1.kept kp3 (by simp; omega)
  have p3 := HB2.out.2.2.1.kept kp3 (by simp; omega)
  have q3 := HB2.out.2.2.2.kept kp3 (by simp; omega)
  obtain ⟨W3, hW3⟩ : ∃ W3, W3 = w3.alloc (.cells #[.int .i64 x.time, .bool x.key, .slice pa pn pc] 39) := ⟨_, rfl⟩
  have HS3 := ((below_stay b3 b3.size).and (c3.stay.and (p3.stay.and (q3.stay.and km3.stay)))).allocE hW3
  have HX3 := (((Blk.newE hW3).stay).and (hpv.allocE hW3).stay).hid
  have HX : Hid (x = if K then frAt (getG first L O PG) PF.toNat else Fr.zero) := hx
  have lw3 : w2.heap.size ≤ w3.heap.size := sw3
  clear b3 c3 p3 q3 km3 kp3 hpv hx HB2 KM2 HSTH
  cases K
  · obtain ⟨e1, e2, e3, e4, e5⟩ := HGN.out rfl
    have HZ : Hid (rM = m ∧ rG = g ∧ rF = f ∧ rX = Fr.zero ∧ rK = false ∧ rT = false) := ⟨HGM.out, e1, e2, e3, e4, e5⟩
    obtain ⟨k0, k1, k2⟩ := HS3.out.now.2.1.three
    obtain ⟨j0, j1, j2⟩ := HS3.out.now.2.2.1.three
    obtain ⟨i0, i1, i2⟩ := HS3.out.now.2.2.2.1.three
    have fj := HS3.out.now.2.2.1.free
    have fi := HS3.out.now.2.2.2.1.free
    have lj := HS3.out.now.2.2.1.lt
    have li := HS3.out.now.2.2.2.1.lt
    have lk := HS3.out.now.2.1.lt
    obtain ⟨V, hV⟩ : ∃ V, V = (((((W3.setCell ⟨w.heap.size + 1 + 1, 0, none⟩ (.int .i64 m)).setCell ⟨w.heap.size + 1 + 1, 1, none⟩ (.int .i64 g)).setCell ⟨w.heap.size + 1 + 1, 2, none⟩ (.int .i64 f)).setCell ⟨w.heap.size + 1 + 1 + 1, 0, none⟩ (.int .i64 0)).setCell ⟨w.heap.size + 1 + 1 + 1, 1, none⟩ (.bool false)).setCell ⟨w.heap.size + 1 + 1 + 1, 2, none⟩ (.slice none 0 0) := ⟨_, rfl⟩
    have HV : Hid _ := HEND.out W3 V m g f 0 false (.slice none 0 0) HS3.out.now.1 HS3.out.now.2.2.1 HS3.out.now.2.2.2.1 hV
    clear HGN HGY HGM e1 e2 e3 e4 e5 HEND
    subst hW3
    go_wp2_with fail
    rw [← hV]
    obtain ⟨n1, n2, n3, _, _⟩ := HV.out
    obtain ⟨e1, e2, e3, e4, e5, e6⟩ := HZ.out
    rw [e1, e2, e3, e4, e5, e6]
    obtain ⟨u0, u1, u2⟩ := n1.three
    obtain ⟨v0, v1, v2⟩ := n2.three
    exact bodyPost_ret (v := .tuple #[.agg #[.int .i64 m, .int .i64 g, .int .i64 f], .agg #[.int .i64 0, .bool false, .slice none 0 0], .bool false, .bool false, .int .i64 0]) (by simp [results, Try.results17, go_sem, u0, u1, u2, v0, v1, v2]) rfl ⟨.slice none 0 0, rfl, StrsIn.nil _ _, n3⟩
  · obtain ⟨e1, e2, e3, e4, e5⟩ := HGY.out rfl
    have hxx : x = frAt (getG first L O PG) PF.toNat := by rw [HX.out]; rfl
    have HZ : Hid (rM = m ∧ rG = PG ∧ rF = PF + 1 ∧ rX = x ∧ rK = true ∧ rT = PT) := ⟨HGM.out, e1, e2, by rw [e3, hxx], e4, e5⟩
    obtain ⟨k0, k1, k2, k3, k4, k5⟩ := HS3.out.now.2.2.2.2.sixw
    obtain ⟨j0, j1, j2⟩ := HS3.out.now.2.2.1.three
    obtain ⟨i0, i1, i2⟩ := HS3.out.now.2.2.2.1.three
    obtain ⟨x0, x1, x2⟩ := HX3.out.now.1.three
    have fj := HS3.out.now.2.2.1.free
    have fi := HS3.out.now.2.2.2.1.free
    have lj := HS3.out.now.2.2.1.lt
    have li := HS3.out.now.2.2.2.1.lt
    have lk := HS3.out.now.2.2.2.2.lt
    have lx := HX3.out.now.1.lt
    have hn1 : ¬ w1.heap.size = w.heap.size + 1 + 1 := by omega
    have hn2 : ¬ w1.heap.size = w.heap.size + 1 + 1 + 1 := by omega
    have hn3 : ¬ w3.heap.size = w.heap.size + 1 + 1 := by omega
    have hn4 : ¬ w3.heap.size = w.heap.size + 1 + 1 + 1 := by omega
    clear HGN HGY HGM e1 e2 e3 e4 e5 hxx HX
    obtain ⟨V, hV⟩ : ∃ V, V = (((((W3.setCell ⟨w.heap.size + 1 + 1, 0, none⟩ (.int .i64 m)).setCell ⟨w.heap.size + 1 + 1, 1, none⟩ (.int .i64 PG)).setCell ⟨w.heap.size + 1 + 1, 2, none⟩ (.int .i64 (PF + 1))).setCell ⟨w.heap.size + 1 + 1 + 1, 0, none⟩ (.int .i64 x.time)).setCell ⟨w.heap.size + 1 + 1 + 1, 1, none⟩ (.bool x.key)).setCell ⟨w.heap.size + 1 + 1 + 1, 2, none⟩ (.slice pa pn pc) := ⟨_, rfl⟩
    have HV : Hid _ := HEND.out W3 V m PG (PF + 1) x.time x.key (.slice pa pn pc) HS3.out.now.1 HS3.out.now.2.2.1 HS3.out.now.2.2.2.1 hV
    have HPZ : Hid (StrsIn (fun b => w.heap.size ≤ b) V (.slice pa pn pc) x.parts) := HX3.out.now.2.to ⟨by rw [HV.out.2.2.2.1]; exact Nat.le_refl _, fun b hb hS => HV.out.2.2.2.2 b (by omega) (by omega)⟩ (fun b _ hS => by omega)
    clear HEND
    subst hW3
    go_wp2_with fail
    go_region
    rw [← hV]
    clear hV x0 x1 x2 k0 k1 k2 k3 k4 k5 j0 j1 j2 i0 i1 i2
    go_wp2_with fail
    obtain ⟨n1, n2, n3, _, _⟩ := HV.out
    obtain ⟨e1, e2, e3, e4, e5, e6⟩ := HZ.out
    rw [e1, e2, e3, e4, e5, e6]
    obtain ⟨u0, u1, u2⟩ := n1.drew.three
    obtain ⟨v0, v1, v2⟩ := n2.drew.three
    exact bodyPost_ret (v := .tuple #[.agg #[.int .i64 m, .int .i64 PG, .int .i64 (PF + 1)], .agg #[.int .i64 x.time, .bool x.key, .slice pa pn pc], .bool true, .bool PT, .int .i64 0]) (by simp [results, Try.results17, go_sem, u0, u1, u2, v0, v1, v2]) rfl ⟨.slice pa pn pc, rfl, HPZ.out.below (Below.drew (Below.refl _ _)), Below.drew n3⟩

end Go.Proofs.Ytnpaejknoipicae

namespace Go.Proofs.Ytnpaejknoipicae

section
variable {first : Int} {L : List (List Fr)} {O : List Fr} {m g f upto : Int}

theorem nx_some (h : nxE first L O m g f upto = 0) {k j : Nat} {t : Bool} (hn : nxt m (allG L O) (g - first) f upto = some (k, j, t)) :
    nxM first L O m g f upto = m ∧ nxG first L O m g f upto = first + k ∧ nxF first L O m g f upto = j + 1 ∧ nxX first L O m g f upto = frAt (grAt (allG L O) k) j ∧ nxK first L O m g f upto = true ∧ nxT first L O m g f upto = t ∧ k < (allG L O).length ∧ j < (grAt (allG L O) k).length := by
  obtain ⟨h1, h2, h3, h4⟩ := nxE_zero.1 h
  obtain ⟨s0, s1, s2⟩ := next_spec upto h1 h2
  cases hk : okB first L O m (plG first L O m g f) (plF first L O g f) upto
  · rw [s2 hk] at hn; cases hn
  · obtain ⟨k', j', e1, e2, e3, e4, e5⟩ := s1 hk
    rw [e5] at hn
    injection hn with hn
    injection hn with a b
    injection b with b c
    subst a b
    have hK : nxK first L O m g f upto = true := by unfold nxK; rw [decide_eq_true h, hk]; rfl
    obtain ⟨g1, g2⟩ := getE_in h1 e1 e2
    refine ⟨if_pos h, by unfold nxG; rw [if_pos h, hK, if_pos rfl, e1], by unfold nxF; rw [if_pos h, hK, if_pos rfl, e3], ?_, hK, by unfold nxT; rw [hK, ← c]; rfl, e2, e4⟩
    unfold nxX; rw [hK, if_pos rfl, g2, e3]; rfl
theorem nx_bad (h : ¬ nxE first L O m g f upto = 0) : nxM first L O m g f upto = 0 ∧ nxG first L O m g f upto = 0 ∧ nxF first L O m g f upto = 0 ∧ nxX first L O m g f upto = Fr.zero ∧ nxK first L O m g f upto = false ∧ nxT first L O m g f upto = false := by
  have hK : nxK first L O m g f upto = false := by unfold nxK; rw [decide_eq_false h]; rfl
  refine ⟨if_neg h, if_neg h, if_neg h, by unfold nxX; rw [hK]; rfl, hK, by unfold nxT; rw [hK]; rfl⟩
theorem nx_none (h : nxE first L O m g f upto = 0) (hn : nxt m (allG L O) (g - first) f upto = none) : nxM first L O m g f upto = m ∧ nxG first L O m g f upto = g ∧ nxF first L O m g f upto = f ∧ nxX first L O m g f upto = Fr.zero ∧ nxK first L O m g f upto = false ∧ nxT first L O m g f upto = false := by
  obtain ⟨h1, h2, h3, h4⟩ := nxE_zero.1 h
  obtain ⟨s0, s1, s2⟩ := next_spec upto h1 h2
  have hk : okB first L O m (plG first L O m g f) (plF first L O g f) upto = false := by
    cases hk : okB first L O m (plG first L O m g f) (plF first L O g f) upto
    · rfl
    · obtain ⟨k', j', e1, e2, e3, e4, e5⟩ := s1 hk
      rw [e5] at hn; cases hn
  have hK : nxK first L O m g f upto = false := by unfold nxK; rw [hk]; simp
  refine ⟨if_pos h, by unfold nxG; rw [if_pos h, hK]; rfl, by unfold nxF; rw [if_pos h, hK]; rfl, by unfold nxX; rw [hK]; rfl, hK, by unfold nxT; rw [hK]; rfl⟩
end

theorem nxt_in {m : Int} {A : List (List Fr)} {n i : Nat} {upto : Int} (hm : m = 1 ∨ m = 3) (hu : m = 3 → (frAt (grAt A n) i).time ≤ upto) (hn : n < A.length) (hi : i < (grAt A n).length) : nxt m A n i upto = some (n, i, false) := by
  unfold nxt
  rw [if_neg (by omega), if_neg (by rw [Int.toNat_natCast]; omega), Int.toNat_natCast, if_neg (by omega), Int.toNat_natCast]
  unfold tryAt
  rw [if_neg (fun h => by have := hu h.1; omega)]
theorem nxt_behind {m : Int} {A : List (List Fr)} {n : Nat} {upto : Int} (hm : m = 1 ∨ m = 3) (hu : m = 3 → (frAt (grAt A (n + 1)) 0).time ≤ upto) (hn : n + 1 < A.length) : nxt m A n (grAt A n).length upto = some (n + 1, 0, false) := by
  unfold nxt
  rw [if_neg (by omega), if_neg (by rw [Int.toNat_natCast]; omega), Int.toNat_natCast, if_pos rfl, if_neg (by omega)]
  unfold tryAt
  rw [if_neg (fun h => by have := hu h.1; omega)]
theorem nxt_end {m : Int} {A : List (List Fr)} {n : Nat} {upto : Int} (hn : n + 1 = A.length) : nxt m A n (grAt A n).length upto = none := by
  unfold nxt
  by_cases h : m = 2 ∨ A.length = 0
  · rw [if_pos h]
  · rw [if_neg h, if_neg (by rw [Int.toNat_natCast]; omega), Int.toNat_natCast, if_pos rfl, if_pos hn]
theorem nxt_some {m : Int} {A : List (List Fr)} {d f upto : Int} {k j : Nat} {t : Bool} (h : nxt m A d f upto = some (k, j, t)) : ¬ m = 2 ∧ (t = true → j = 0) ∧ (m = 3 → (frAt (grAt A k) j).time ≤ upto) := by
  have ht : ∀ k' j' t', tryAt m upto A k' j' t' = some (k, j, t) → k = k' ∧ j = j' ∧ t = t' ∧ (m = 3 → (frAt (grAt A k) j).time ≤ upto) := fun k' j' t' h => by
    unfold tryAt at h
    by_cases h1 : m = 3 ∧ upto < (frAt (grAt A k') j').time
    · rw [if_pos h1] at h; cases h
    · rw [if_neg h1] at h
      injection h with h
      injection h with a b
      injection b with b c
      subst a b c
      exact ⟨rfl, rfl, rfl, fun h => by omega⟩
  unfold nxt at h
  by_cases h1 : m = 2 ∨ A.length = 0
  · rw [if_pos h1] at h; cases h
  rw [if_neg h1] at h
  refine ⟨by omega, ?_⟩
  split at h
  · obtain ⟨a, b, c, d⟩ := ht _ _ _ h
    exact ⟨fun _ => b, d⟩
  · split at h
    · split at h
      · cases h
      · obtain ⟨a, b, c, d⟩ := ht _ _ _ h
        exact ⟨fun _ => b, d⟩
    · obtain ⟨a, b, c, d⟩ := ht _ _ _ h
      exact ⟨fun h => (by rw [c] at h; cases h), d⟩
theorem nxt_live_none {A : List (List Fr)} {d f upto : Int} (h : nxt 1 A d f upto = none) (hA : ¬ A.length = 0) : ∃ n : Nat, d = n ∧ n + 1 = A.length ∧ f = (grAt A n).length := by
  have ht : ∀ k' j' t', ¬ tryAt 1 upto A k' j' t' = none := fun k' j' t' h => by
    unfold tryAt at h
    rw [if_neg (by omega)] at h
    cases h
  unfold nxt at h
  rw [if_neg (by omega)] at h
  split at h
  · exact absurd h (ht _ _ _)
  · rename_i h1
    split at h
    · rename_i h2
      split at h
      · rename_i h3
        exact ⟨d.toNat, by omega, h3, h2⟩
      · exact absurd h (ht _ _ _)
    · exact absurd h (ht _ _ _)
theorem gchk_key {l : List Fr} (h : gchk l = 0) {j : Nat} (hj : j < l.length) : (frAt l j).key = decide (j = 0) := by
  have := ((gchk_zero.1 h).2.2 j hj).2
  unfold inPl at this
  by_cases h0 : j = 0
  · rw [if_pos h0] at this
    rw [this, decide_eq_true h0]
  · rw [if_neg h0] at this
    simp at this
    rw [this.1, decide_eq_false h0]
theorem gchk_time {l : List Fr} (h : gchk l = 0) {j : Nat} (hj : j < l.length) : 0 ≤ (frAt l j).time ∧ (frAt l j).time ≤ 1000000 := by
  have := chkF_zero ((gchk_zero.1 h).2.2 j hj).1
  exact ⟨this.1, this.2.1⟩

/-- what comes of a frame more, for a live one that stands behind the last frame -/
theorem adds_live {first : Int} {L : List (List Fr)} {O : List Fr} {f : Fr} (h : addsE first L O f = 0) {n : Nat} (hn : n + 1 = (allG L O).length) (upto : Int) :
    ((f.key = true ∨ ¬ (addsO first L O f).length = O.length) ∧ ∃ k j : Nat, nxt 1 (allG (addsL first L O f) (addsO first L O f)) (first + n - addsF first L O f) (grAt (allG L O) n).length upto = some (k, j, false) ∧ frAt (grAt (allG (addsL first L O f) (addsO first L O f)) k) j = f) ∨
    (f.key = false ∧ addsO first L O f = O ∧ nxt 1 (allG (addsL first L O f) (addsO first L O f)) (first + n - addsF first L O f) (grAt (allG L O) n).length upto = none) := by
  obtain ⟨h1, h2, h3, e1, e2, e3, e4⟩ := addsE_zero h
  rcases closedG_cases O f with ⟨e, hk⟩ | ⟨e, hk, h0⟩
  · obtain ⟨u1, u2⟩ := adds_open h (by rw [e4, e]; rfl)
    rw [u1, u2, e3, show first + (n : Int) - first = n by omega]
    by_cases hO : 0 < O.length
    · have hkf : f.key = false := by cases hf : f.key
                                     · rfl
                                     · exact absurd ⟨hf, hO⟩ hk
      have eA : allG L O = L ++ [O] := if_pos hO
      rw [eA] at hn ⊢
      have hnL : n = L.length := by simp at hn; omega
      subst hnL
      have eg : grAt (L ++ [O]) L.length = O := by rw [grAt_append, if_neg (by omega), Nat.sub_self]; rfl
      rw [eg]
      unfold growG
      rw [hkf, if_neg (by decide)]
      split
      · right
        rw [eA]
        refine ⟨rfl, rfl, ?_⟩
        have := nxt_end (m := 1) (A := L ++ [O]) (n := L.length) (upto := upto) (by simp)
        rw [eg] at this; exact this
      · left
        have eA' : allG L (O ++ [f]) = L ++ [O ++ [f]] := if_pos (by simp)
        have eg' : grAt (L ++ [O ++ [f]]) L.length = O ++ [f] := by rw [grAt_append, if_neg (by omega), Nat.sub_self]; rfl
        rw [eA']
        refine ⟨.inr (by simp), L.length, O.length, ?_, ?_⟩
        · exact nxt_in (.inl rfl) (by omega) (by simp) (by rw [eg']; simp)
        · rw [eg']; simp [frAt]
    · have hO0 : O = [] := List.eq_nil_of_length_eq_zero (by omega)
      subst hO0
      have eA : allG L [] = L := if_neg (by simp)
      rw [eA] at hn ⊢
      cases hf : f.key
      · right
        have : growG [] f = [] := by unfold growG; rw [hf]; rfl
        rw [this, eA]
        exact ⟨rfl, rfl, nxt_end hn⟩
      · left
        have : growG [] f = [f] := by unfold growG; rw [hf]; rfl
        rw [this]
        have eA' : allG L [f] = L ++ [[f]] := if_pos (by simp)
        rw [eA']
        refine ⟨.inl rfl, n + 1, 0, ?_, ?_⟩
        · have := nxt_behind (m := 1) (A := L ++ [[f]]) (n := n) (upto := upto) (.inl rfl) (by omega) (by simp; omega)
          rw [grAt_append, if_pos (by omega)] at this
          exact this
        · rw [grAt_append, if_neg (by omega), hn, Nat.sub_self]; rfl
  · left
    have eA : allG L O = L ++ [O] := if_pos h0
    rw [eA] at hn ⊢
    have hnL : n = L.length := by simp at hn; omega
    subst hnL
    have eg : grAt (L ++ [O]) L.length = O := by rw [grAt_append, if_neg (by omega), Nat.sub_self]; rfl
    have eo : growG O f = [f] := by unfold growG; rw [hk]; rfl
    rw [e1, e2, e3, e, eo, eg]
    obtain ⟨T, hT⟩ : ∃ T, T = trimD (L ++ [O]) := ⟨_, rfl⟩
    have hTl := trimD_le (L ++ [O])
    rw [← hT] at hTl ⊢
    have hTl : T ≤ L.length := by simp at hTl; omega
    have eA' : allG ((L ++ [O]).drop T) [f] = (L ++ [O]).drop T ++ [[f]] := if_pos (by simp)
    rw [eA']
    have hl : ((L ++ [O]).drop T).length = L.length - T + 1 := by rw [List.length_drop]; simp; omega
    refine ⟨.inl hk, L.length - T + 1, 0, ?_, ?_⟩
    · have := nxt_behind (m := 1) (A := (L ++ [O]).drop T ++ [[f]]) (n := L.length - T) (upto := upto) (.inl rfl) (by omega) (by rw [List.length_append, hl]; simp)
      rw [grAt_append, if_pos (by omega), grAt_drop, show T + (L.length - T) = L.length by omega, eg] at this
      rw [show first + (L.length : Int) - (first + T) = ((L.length - T : Nat) : Int) by omega]
      exact this
    · rw [grAt_append, if_neg (by omega), hl, Nat.sub_self]; rfl

/-- the frames from a place on -/
def restF (A : List (List Fr)) (k j : Nat) : List Fr := (grAt A k).drop j ++ (A.drop (k + 1)).flatten
theorem restF_in {A : List (List Fr)} {k j : Nat} (hj : j < (grAt A k).length) : restF A k j = frAt (grAt A k) j :: restF A k (j + 1) := by
  unfold restF
  rw [List.drop_eq_getElem_cons hj, List.cons_append]
  congr 1
  simp [frAt, List.getElem?_eq_getElem hj]
theorem restF_behind {A : List (List Fr)} {k : Nat} (hk : k + 1 < A.length) (h0 : 0 < (grAt A (k + 1)).length) : restF A k (grAt A k).length = frAt (grAt A (k + 1)) 0 :: restF A (k + 1) 1 := by
  have : restF A k (grAt A k).length = restF A (k + 1) 0 := by
    unfold restF
    rw [List.drop_length, List.nil_append, List.drop_eq_getElem_cons hk, List.flatten_cons, List.drop_zero]
    congr 1
    simp [grAt, List.getElem?_eq_getElem hk]
  rw [this, restF_in h0]
theorem restF_end {A : List (List Fr)} {k : Nat} (hk : k + 1 = A.length) : restF A k (grAt A k).length = [] := by
  unfold restF
  rw [List.drop_length, List.nil_append, List.drop_of_length_le (by omega)]; rfl
theorem restF_all {A : List (List Fr)} {k : Nat} (hk : k < A.length) : restF A k 0 = (A.drop k).flatten := by
  unfold restF
  rw [List.drop_zero, List.drop_eq_getElem_cons hk, List.flatten_cons]
  congr 1
  simp [grAt, List.getElem?_eq_getElem hk]
theorem flatten_len {A : List (List Fr)} (h : ∀ g ∈ A, g.length ≤ 6) : A.flatten.length ≤ A.length * 6 := by
  induction A with
  | nil => simp
  | cons g r ih =>
    have := ih fun x hx => h x (List.mem_cons_of_mem _ hx)
    have := h g List.mem_cons_self
    simp only [List.flatten_cons, List.length_append, List.length_cons]
    omega
/-- the groups from a number on, one by one -/
theorem wantF_step {A : List (List Fr)} {k q : Nat} (hk : k ≤ q) (hq : q < A.length) : ((A.drop k).take (q + 1 - k)).flatten = ((A.drop k).take (q - k)).flatten ++ grAt A q := by
  rw [show q + 1 - k = (q - k) + 1 by omega]
  have hl : q - k < (A.drop k).length := by rw [List.length_drop]; omega
  rw [take_one hl [], List.flatten_append, List.getElem?_drop, show k + (q - k) = q by omega]
  simp [grAt]
theorem wantF_end {A : List (List Fr)} {k q : Nat} (hq : A.length ≤ q) : ((A.drop k).take (q - k)).flatten = (A.drop k).flatten := by
  rw [List.take_of_length_le (by rw [List.length_drop]; omega)]

end Go.Proofs.Ytnpaejknoipicae

namespace Go.Proofs.Ytnpaejknoipicae
open Go.RowKit

def StayK (S : List Nat) (w : World) (P : World → Prop) : Prop := ∀ w', Kept S w w' → P w'
theorem StayK.now {S : List Nat} {w : World} {P : World → Prop} (h : StayK S w P) : P w := h w (Kept.refl _ _)
theorem StayK.step {S : List Nat} {w w' : World} {P : World → Prop} (h : StayK S w P) (hk : Kept S w w') : StayK S w' P := fun w'' h2 => h w'' (hk.trans h2)
theorem StayK.go {S : List Nat} {w w' : World} {P : World → Prop} (h : Hid (StayK S w P)) (hk : Below w.heap.size w w') : Hid (StayK S w' P) := StayK.step h ((Kept.refl _ _).below hk)
theorem StayK.goK {S : List Nat} {w w' : World} {P : World → Prop} (h : Hid (StayK S w P)) (hk : Kept S w w') : Hid (StayK S w' P) := StayK.step h hk
theorem StayK.allocE {S : List Nat} {w W : World} {P : World → Prop} {o : Obj} (h : Hid (StayK S w P)) (e : W = w.alloc o) : Hid (StayK S W P) := by subst e; exact StayK.step h ((Kept.refl _ _).alloc _)
theorem StayK.and {S : List Nat} {w : World} {P Q : World → Prop} (h : StayK S w P) (k : StayK S w Q) : StayK S w (fun U => P U ∧ Q U) := fun w' hb => ⟨h w' hb, k w' hb⟩
theorem Stay.toK {w W : World} {P : World → Prop} {o : Obj} (h : Stay w P) (e : W = w.alloc o) : StayK [w.heap.size] W P := by
  subst e
  intro w' hk
  refine h w' (((Below.refl _ w).alloc (Nat.le_refl _) o).trans ?_)
  exact hk.toBelow (by simp) (fun k hk => by simp at hk; omega)
theorem Kept.sameOn {S : List Nat} {X : Nat → Prop} {w w' : World} (h : Kept S w w') (hx : ∀ g, X g → g ∉ S) : SameOn X w w' := ⟨h.size, fun g hg hX => h.block g hg (hx g hX)⟩
theorem Blk.stayK {S : List Nat} {w : World} {b : Nat} {C : Array Value} {t : TypeId} (h : Blk w b C t) (hS : b ∉ S) : StayK S w (fun U => Blk U b C t) := fun _ hk => h.kept hk hS
theorem FrsIn.stayK {S : List Nat} {X : Nat → Prop} {w : World} {v : Value} {l : List Fr} (h : FrsIn X w v l) (hx : ∀ g, X g → g ∉ S) : StayK S w (fun U => FrsIn X U v l) := fun _ hk => h.to (hk.sameOn hx) fun _ _ h => h
theorem StrsIn.stayK {S : List Nat} {X : Nat → Prop} {w : World} {v : Value} {l : List ByteArray} (h : StrsIn X w v l) (hx : ∀ g, X g → g ∉ S) : StayK S w (fun U => StrsIn X U v l) := fun _ hk => h.to (hk.sameOn hx) fun _ _ h => h
theorem GrsIn.stayK {S : List Nat} {X : Nat → Prop} {w : World} {v : Value} {l : List (List Fr)} (h : GrsIn X w v l) (hx : ∀ g, X g → g ∉ S) : StayK S w (fun U => GrsIn X U v l) := fun _ hk => h.to (hk.sameOn hx) fun _ _ h => h
theorem below_stayK {S : List Nat} {B : Nat} {a w : World} (h : Below B a w) (hB : B ≤ w.heap.size) (hS : ∀ k ∈ S, B ≤ k) : StayK S w (fun U => Below B a U) := fun _ hk => h.trans (hk.toBelow hB hS)

/-- three cells are put in three others' place -/
theorem Blk.put3 {w : World} {b : Nat} {x0 x1 x2 : Value} {t : TypeId} (h : Blk w b #[x0, x1, x2] t) (y0 y1 y2 : Value) : Blk (((w.setCell ⟨b, 0, none⟩ y0).setCell ⟨b, 1, none⟩ y1).setCell ⟨b, 2, none⟩ y2) b #[y0, y1, y2] t := ((h.set 0 y0).set 1 y1).set 2 y2
theorem Kept.put3 {S : List Nat} {a w : World} {b : Nat} (h : Kept S a w) (hb : b ∈ S) (y0 y1 y2 : Value) : Kept S a (((w.setCell ⟨b, 0, none⟩ y0).setCell ⟨b, 1, none⟩ y1).setCell ⟨b, 2, none⟩ y2) := ((h.setCell (p := ⟨b, 0, none⟩) hb y0).setCell (p := ⟨b, 1, none⟩) hb y1).setCell (p := ⟨b, 2, none⟩) hb y2

end Go.Proofs.Ytnpaejknoipicae

namespace Go.Proofs.Ytnpaejknoipicae
open Go.RowKit

theorem eql_cur (a b c a' b' c' : Int) (w : World) : (binOp .eql 41 (.agg #[.int .i64 a, .int .i64 b, .int .i64 c]) (.agg #[.int .i64 a', .int .i64 b', .int .i64 c'])).run Try.prog w = .ok (.bool ((a == a') && ((b == b') && (c == c')))) w := by
  rw [run_eql_struct, run_equalIn_agg w 9999 41 _ _ (by kernel_rfl) (by kernel_rfl)]
  rw [show (Try.prog.fieldsOf 41) = _ by unfold Program.fieldsOf; rw [Try.underlying41]]
  cases h0 : (a == a')
  · simp [go_sem, h0]
  cases h1 : (b == b')
  · simp [go_sem, h0, h1]
  cases h2 : (c == c')
  · simp [go_sem, h0, h1, h2]
  · simp [go_sem, h0, h1, h2]

theorem neql_cur (a b c a' b' c' : Int) (w : World) : (binOp .neq 41 (.agg #[.int .i64 a, .int .i64 b, .int .i64 c]) (.agg #[.int .i64 a', .int .i64 b', .int .i64 c'])).run Try.prog w = .ok (.bool (!((a == a') && ((b == b') && (c == c'))))) w := by
  rw [run_neq_struct, run_equalIn_agg w 9999 41 _ _ (by kernel_rfl) (by kernel_rfl)]
  rw [show (Try.prog.fieldsOf 41) = _ by unfold Program.fieldsOf; rw [Try.underlying41]]
  cases h0 : (a == a')
  · simp [go_sem, h0]
  cases h1 : (b == b')
  · simp [go_sem, h0, h1]
  cases h2 : (c == c')
  · simp [go_sem, h0, h1, h2]
  · simp [go_sem, h0, h1, h2]

/-- what a row's frame shows -/
theorem FrsIn.at {S : Nat → Prop} {w : World} {ao : Option Addr} {n c k : Nat} {l : List Fr} (h : FrsIn S w (.slice ao n c) l) (hk : k < l.length) : ∃ b off pa pc, ao = some ⟨b, off, none⟩ ∧ b < w.heap.size ∧ S b ∧ w.cell? ⟨b, off + k * 3, none⟩ = some (.int .i64 (frAt l k).time) ∧ w.cell? ⟨b, off + k * 3 + 1, none⟩ = some (.bool (frAt l k).key) ∧ w.cell? ⟨b, off + k * 3 + 2, none⟩ = some (.slice pa (frAt l k).parts.length pc) ∧ StrsIn S w (.slice pa (frAt l k).parts.length pc) (frAt l k).parts := by
  obtain ⟨ao', c', e, _, _, hc⟩ := h
  injection e with e1 e2 e3
  subst e1 e2 e3
  obtain ⟨b, off, e1, hb, hS, pv, c0, c1, c2, hp⟩ := hc k hk
  obtain ⟨pa, pc, ep⟩ := hp.1.len
  have hp' : StrsIn S w pv (frAt l k).parts := hp
  subst ep
  exact ⟨b, off, pa, pc, e1, hb, hS, c0, c1, c2, hp'⟩
/-- what a row's group shows -/
theorem GrsIn.at {S : Nat → Prop} {w : World} {ao : Option Addr} {n c k : Nat} {L : List (List Fr)} (h : GrsIn S w (.slice ao n c) L) (hk : k < L.length) : ∃ b off sa sc, ao = some ⟨b, off, none⟩ ∧ b < w.heap.size ∧ S b ∧ w.cell? ⟨b, off + k, none⟩ = some (.slice sa (grAt L k).length sc) ∧ FrsIn S w (.slice sa (grAt L k).length sc) (grAt L k) := by
  obtain ⟨ao', c', e, _, _, hc⟩ := h
  injection e with e1 e2 e3
  subst e1 e2 e3
  obtain ⟨b, off, e1, hb, hS, sv, c0, hs⟩ := hc k hk
  have hs' : FrsIn S w sv (grAt L k) := hs
  obtain ⟨sa, sc, es, _, _⟩ := hs'.len
  subst es
  exact ⟨b, off, sa, sc, e1, hb, hS, c0, hs'⟩
theorem StrsIn.slice {S : Nat → Prop} {w : World} {v : Value} {l : List ByteArray} (h : StrsIn S w v l) : ∃ a c, v = .slice a l.length c := h.1.len
theorem sameFB_refl (t : Int) (k : Bool) (l : List ByteArray) : sameFB t t k k l l = true := (sameFB_iff ⟨t, k, l⟩ ⟨t, k, l⟩).2 rfl

/-- the boxes of what Next answers -/
theorem two_boxes {w : World} {P : World → Prop} (h : Hid (Stay w P)) {C D : Array Value} {t u : TypeId} {W : World} (e : W = (w.alloc (.cells C t)).alloc (.cells D u)) :
    Hid (Stay W P) ∧ Hid (Stay W (fun U => Blk U w.heap.size C t ∧ Blk U (w.heap.size + 1) D u)) ∧ Below w.heap.size w W := by
  subst e
  have h2 := Blk.new (w.alloc (.cells C t)) D u
  rw [World.size_alloc] at h2
  exact ⟨(h.out.alloc _).alloc _, ((Blk.new _ _ _).alloc _).stay.and h2.stay, by go_grown⟩

end Go.Proofs.Ytnpaejknoipicae

namespace Go.Proofs.Ytnpaejknoipicae
open Go.RowKit

/-- the law's own frame -/
def pf (t : Int) (k : Bool) : Fr := ⟨t, k, [⟨#[97, 98, 99]⟩]⟩

set_option maxHeartbeats 400000 in
theorem pic_any (t : Int) (k : Bool) (w : World) :
    Calls Try.prog 38 #[.int .i64 t, .bool k] w fun e w' => e = .returned (.agg #[.int .i64 t, .bool k, .slice (some ⟨w.heap.size + 1, 0, none⟩) 1 1]) ∧ StrsIn (fun g => w.heap.size ≤ g) w' (.slice (some ⟨w.heap.size + 1, 0, none⟩) 1 1) [⟨#[97, 98, 99]⟩] ∧ Below w.heap.size w w' := by
  go_enter Try.func38, Try.ntmps38
  go_wp2
  refine bodyPost_ret (v := .agg #[.int .i64 t, .bool k, .slice (some ⟨w.heap.size + 1, 0, none⟩) 1 1]) (by simp [results, Try.results38, go_sem]) rfl ⟨rfl, ?_, ?_⟩
  · have hk := Blk.new (w.alloc (.cells #[.int .i64 t, .bool k, .slice (some ⟨w.heap.size + 1, 0, none⟩) 1 1] 39)) #[.string ⟨#[97, 98, 99]⟩] 9
    simp only [World.size_alloc] at hk
    refine ⟨⟨rfl, .inr ⟨w.heap.size + 1, 0, 1, rfl, hk.lt, fun j u hj => ?_⟩⟩, by simp, fun g hg _ => ?_⟩
    · rw [Nat.zero_add]
      exact hk.cell (by simpa using hj)
    · simp [Value.ownBlock] at hg
      subst hg
      exact ⟨by omega, hk.lt⟩
  · exact ((Below.refl _ w).alloc (Nat.le_refl _) _).alloc (by simp) _

end Go.Proofs.Ytnpaejknoipicae

namespace Go.Proofs.Ytnpaejknoipicae
open Go.RowKit

theorem gb_all : groupsE [pf 1 false, pf 2 true, pf 3 false, pf 4 true] = 0 ∧ groupsR [pf 1 false, pf 2 true, pf 3 false, pf 4 true] = ([[pf 2 true, pf 3 false]], [pf 4 true]) := ⟨by decide, by decide⟩
theorem gb_chk : gchk [pf 4 true] = 0 ∧ gsize [pf 4 true] = 3 := ⟨by decide, by decide⟩

end Go.Proofs.Ytnpaejknoipicae

namespace Go.Proofs.Ytnpaejknoipicae
open Go.RowKit

theorem FrsIn.pair {S : Nat → Prop} {w : World} {b : Nat} {f g : Fr} {pv qv : Value} (hb : Blk w b #[.int .i64 f.time, .bool f.key, pv, .int .i64 g.time, .bool g.key, qv] 39) (hS : S b) (hp : StrsIn S w pv f.parts) (hq : StrsIn S w qv g.parts) : FrsIn S w (.slice (some ⟨b, 0, none⟩) 2 2) [f, g] := by
  refine ⟨some ⟨b, 0, none⟩, 2, rfl, Nat.le_refl _, by omega, fun k hk => ⟨b, 0, rfl, hb.lt, hS, ?_⟩⟩
  have : k = 0 ∨ k = 1 := by simp at hk; omega
  rcases this with rfl | rfl
  · exact ⟨pv, hb.cell rfl, hb.cell rfl, hb.cell rfl, hp⟩
  · exact ⟨qv, hb.cell rfl, hb.cell rfl, hb.cell rfl, hq⟩
theorem GrsIn.pair {S : Nat → Prop} {w : World} {b : Nat} {f g : List Fr} {pv qv : Value} (hb : Blk w b #[pv, qv] 34) (hS : S b) (hp : FrsIn S w pv f) (hq : FrsIn S w qv g) : GrsIn S w (.slice (some ⟨b, 0, none⟩) 2 2) [f, g] := by
  refine ⟨some ⟨b, 0, none⟩, 2, rfl, Nat.le_refl _, by omega, fun k hk => ⟨b, 0, rfl, hb.lt, hS, ?_⟩⟩
  have : k = 0 ∨ k = 1 := by simp at hk; omega
  rcases this with rfl | rfl
  · exact ⟨pv, hb.cell rfl, hp⟩
  · exact ⟨qv, hb.cell rfl, hq⟩

def picF (t : Int) (k : Bool) : Fr := ⟨t, k, [⟨#[97, 98, 99]⟩]⟩
def shelfL : List (List Fr) := [[picF 10 true, picF 12 false], [picF 20 true]]
def shelfO : List Fr := [picF 30 true]

set_option maxHeartbeats 4000000 in
set_option maxRecDepth 100000 in
theorem shelf_any (w : World) :
    Calls Try.prog 37 #[] w fun e w' => ∃ gb ob, e = .returned (.agg #[.int .i64 3, .slice (some ⟨gb, 0, none⟩) 2 2, .slice (some ⟨ob, 0, none⟩) 1 1]) ∧ GrsIn (fun _ => True) w' (.slice (some ⟨gb, 0, none⟩) 2 2) shelfL ∧ FrsIn (fun _ => True) w' (.slice (some ⟨ob, 0, none⟩) 1 1) shelfO ∧ Below w.heap.size w w' := by
  have HPIC : Hid (∀ (t : Int) (k : Bool) (U : World), Calls Try.prog 38 #[.int .i64 t, .bool k] U fun e w' => ∃ p, e = .returned (.agg #[.int .i64 t, .bool k, .slice (some ⟨p, 0, none⟩) 1 1]) ∧ Hid (StrsIn (fun g => U.heap.size ≤ g) w' (.slice (some ⟨p, 0, none⟩) 1 1) [⟨#[97, 98, 99]⟩]) ∧ Below U.heap.size U w') := fun t k U => by
    refine (pic_any t k U).mono ?_
    rintro e w' ⟨rfl, h1, h2⟩
    exact ⟨_, rfl, h1, h2⟩
  go_enter Try.func37, Try.ntmps37
  go_wp2_with fail
  obtain ⟨w0, hw0⟩ : ∃ w0, w0 = w.alloc (.cells #[.int .i64 0, .slice none 0 0, .slice none 0 0] 36) := ⟨_, rfl⟩
  have B0 : Below w.heap.size w w0 := by rw [hw0]; exact (Below.refl _ _).alloc (Nat.le_refl _) _
  have R0 : Blk w0 w.heap.size #[.int .i64 0, .slice none 0 0, .slice none 0 0] 36 := by rw [hw0]; exact Blk.new _ _ _
  rw [← hw0]
  clear hw0
  refine (HPIC.out _ _ _).mono ?_
  rintro e w1 ⟨p1, rfl, S1, b1⟩
  go_wp2_with fail
  refine (HPIC.out _ _ _).mono ?_
  rintro e w2 ⟨p2, rfl, S2, b2⟩
  go_wp2_with fail
  have z0 := R0.lt
  have s1 := b1.size
  have s2 := b2.size
  have PA : StrsIn (fun g => w.heap.size < g) w2 (.slice (some ⟨p1, 0, none⟩) 1 1) [⟨#[97, 98, 99]⟩] := (S1.out.mono fun g _ h => by omega).below b2
  have PB : StrsIn (fun g => w.heap.size < g) w2 (.slice (some ⟨p2, 0, none⟩) 1 1) [⟨#[97, 98, 99]⟩] := S2.out.mono fun g _ h => by omega
  have R2 : Blk w2 w.heap.size #[.int .i64 0, .slice none 0 0, .slice none 0 0] 36 := (R0.below b1 R0.lt).below b2 (by omega)
  have B2 : Below w.heap.size w w2 := (B0.trans (b1.mono B0.size)).trans (b2.mono (by omega))
  obtain ⟨V2, hV2⟩ : ∃ V2, V2 = w2.alloc (.cells #[.int .i64 10, .bool true, .slice (some ⟨p1, 0, none⟩) 1 1, .int .i64 12, .bool false, .slice (some ⟨p2, 0, none⟩) 1 1] 39) := ⟨_, rfl⟩
  have FA : Hid (FrsIn (fun g => w.heap.size < g) V2 (.slice (some ⟨w2.heap.size, 0, none⟩) 2 2) [picF 10 true, picF 12 false]) := by
    rw [hV2]; exact FrsIn.pair (f := picF 10 true) (g := picF 12 false) (Blk.new w2 _ _) (by omega) (PA.alloc _) (PB.alloc _)
  have RV2 : Hid (Blk V2 w.heap.size #[.int .i64 0, .slice none 0 0, .slice none 0 0] 36) := by rw [hV2]; exact R2.alloc _
  have BV2 : Hid (Below w.heap.size w V2) := by rw [hV2]; exact B2.alloc B2.size _
  rw [← hV2]
  have sV2 : w2.heap.size < V2.heap.size := by rw [hV2]; simp
  clear hV2 PA PB R2 B2 S1 S2 b1 b2 R0 B0
  refine (HPIC.out _ _ _).mono ?_
  rintro e w3 ⟨p3, rfl, S3, b3⟩
  go_wp2_with fail
  have s3 := b3.size
  obtain ⟨V3, hV3⟩ : ∃ V3, V3 = (w3.alloc (.cells #[.int .i64 20, .bool true, .slice (some ⟨p3, 0, none⟩) 1 1] 39)).alloc (.cells #[.slice (some ⟨w2.heap.size, 0, none⟩) 2 2, .slice (some ⟨w3.heap.size, 0, none⟩) 1 1] 34) := ⟨_, rfl⟩
  have GV : Hid (GrsIn (fun g => w.heap.size < g) V3 (.slice (some ⟨w3.heap.size + 1, 0, none⟩) 2 2) shelfL) := by
    have hone : FrsIn (fun g => w.heap.size < g) (w3.alloc (.cells #[.int .i64 20, .bool true, .slice (some ⟨p3, 0, none⟩) 1 1] 39)) (.slice (some ⟨w3.heap.size, 0, none⟩) 1 1) [picF 20 true] := FrsIn.one (f := picF 20 true) (Blk.new w3 _ _) (by omega) ((S3.out.mono fun g _ h => (by omega)).alloc _)
    have hb : Blk V3 (w3.heap.size + 1) #[.slice (some ⟨w2.heap.size, 0, none⟩) 2 2, .slice (some ⟨w3.heap.size, 0, none⟩) 1 1] 34 := by
      have := Blk.new (w3.alloc (.cells #[.int .i64 20, .bool true, .slice (some ⟨p3, 0, none⟩) 1 1] 39)) #[.slice (some ⟨w2.heap.size, 0, none⟩) 2 2, .slice (some ⟨w3.heap.size, 0, none⟩) 1 1] 34
      rw [hV3]; simpa using this
    exact GrsIn.pair hb (by omega) (by rw [hV3]; exact ((FA.out.below b3).alloc _).alloc _) (by rw [hV3]; exact hone.alloc _)
  have RV3 : Hid (Blk V3 w.heap.size #[.int .i64 0, .slice none 0 0, .slice none 0 0] 36) := by rw [hV3]; exact ((RV2.out.below b3 RV2.out.lt).alloc _).alloc _
  have BV3 : Hid (Below w.heap.size w V3) := by
    have h := BV2.out.trans (b3.mono BV2.out.size)
    rw [hV3]; exact (h.alloc h.size _).alloc (by have := h.size; simp; omega) _
  rw [← hV3]
  clear hV3 S3 b3 FA RV2 BV2
  refine (HPIC.out _ _ _).mono ?_
  rintro e w4 ⟨p4, rfl, S4, b4⟩
  have s4 := b4.size
  have r4 := RV3.out.lt
  have RW4 := RV3.out.below b4 RV3.out.lt
  obtain ⟨r0, r1, r2⟩ := RW4.three
  have fr := RW4.free
  have hlw : w.heap.size < w4.heap.size := RW4.lt
  have B4 : Below w.heap.size w w4 := BV3.out.trans (b4.mono BV3.out.size)
  obtain ⟨X, hX⟩ : ∃ X, X = ((w4.setCell ⟨w.heap.size, 0, none⟩ (.int .i64 3)).setCell ⟨w.heap.size, 1, none⟩ (.slice (some ⟨w3.heap.size + 1, 0, none⟩) 2 2)).setCell ⟨w.heap.size, 2, none⟩ (.slice (some ⟨w4.heap.size, 0, none⟩) 1 1) := ⟨_, rfl⟩
  have KX : Blk X w.heap.size #[.int .i64 3, .slice (some ⟨w3.heap.size + 1, 0, none⟩) 2 2, .slice (some ⟨w4.heap.size, 0, none⟩) 1 1] 36 := by
    rw [hX]; exact ((RW4.set 0 (.int .i64 3)).set 1 (.slice (some ⟨w3.heap.size + 1, 0, none⟩) 2 2)).set 2 (.slice (some ⟨w4.heap.size, 0, none⟩) 1 1)
  have hXo : ∀ g, g ≠ w.heap.size → X.heap[g]? = w4.heap[g]? := fun g hg => by
    rw [hX, Below.heap_setCell _ _ _ _ (by exact hg), Below.heap_setCell _ _ _ _ (by exact hg), Below.heap_setCell _ _ _ _ (by exact hg)]
  have hXs : X.heap.size = w4.heap.size := by rw [hX]; simp
  have BX : Below w.heap.size w X := by
    rw [hX]; exact ((B4.setCell (Nat.le_refl _) _).setCell (Nat.le_refl _) _).setCell (Nat.le_refl _) _
  obtain ⟨V5, hV5⟩ : ∃ V5, V5 = X.alloc (.cells #[.int .i64 30, .bool true, .slice (some ⟨p4, 0, none⟩) 1 1] 39) := ⟨_, rfl⟩
  have KV : Blk V5 w.heap.size #[.int .i64 3, .slice (some ⟨w3.heap.size + 1, 0, none⟩) 2 2, .slice (some ⟨w4.heap.size, 0, none⟩) 1 1] 36 := by rw [hV5]; exact KX.alloc _
  have G5 : Hid (GrsIn (fun _ => True) V5 (.slice (some ⟨w3.heap.size + 1, 0, none⟩) 2 2) shelfL) := by
    rw [hV5]
    exact GrsIn.alloc ((GV.out.below b4).to (S' := fun _ => True) ⟨by omega, fun g _ hg => hXo g (by omega)⟩ (fun _ _ _ => trivial)) _
  have O5 : Hid (FrsIn (fun _ => True) V5 (.slice (some ⟨w4.heap.size, 0, none⟩) 1 1) shelfO) := by
    have hn : Blk V5 w4.heap.size #[.int .i64 30, .bool true, .slice (some ⟨p4, 0, none⟩) 1 1] 39 := by
      rw [hV5, ← hXs]; exact Blk.new _ _ _
    have hs : StrsIn (fun _ => True) V5 (.slice (some ⟨p4, 0, none⟩) 1 1) [⟨#[97, 98, 99]⟩] := by
      rw [hV5]
      exact StrsIn.alloc (S4.out.to (S' := fun _ => True) ⟨by omega, fun g _ hg => hXo g (by omega)⟩ (fun _ _ _ => trivial)) _
    exact FrsIn.one (f := picF 30 true) hn trivial hs
  have B5 : Hid (Below w.heap.size w V5) := by rw [hV5]; exact BX.alloc BX.size _
  obtain ⟨c0, c1, c2⟩ := KV.three
  rw [hX] at hV5
  clear hX hXo hXs KV KX BX B4 RW4 b4 S4 GV RV3 BV3
  go_wp2_with fail
  rw [← hV5]
  exact bodyPost_ret (v := .agg #[.int .i64 3, .slice (some ⟨w3.heap.size + 1, 0, none⟩) 2 2, .slice (some ⟨w4.heap.size, 0, none⟩) 1 1]) (by simp [results, Try.results37, go_sem, c0, c1, c2]) rfl ⟨_, _, rfl, G5.out, O5.out, B5.out⟩

end Go.Proofs.Ytnpaejknoipicae

namespace Go.Proofs.Ytnpaejknoipicae

theorem shelf_chk : stchk 3 shelfL shelfO = 0 := by kernel_rfl
theorem shelf_addE : addsE 3 shelfL shelfO (picF 40 true) = 0 := by kernel_rfl
theorem shelf_addB : addsB 3 shelfL shelfO (picF 40 true) = true := by kernel_rfl
theorem shelf_addL : (addsL 3 shelfL shelfO (picF 40 true)).length = 3 := by kernel_rfl
theorem shelf_seekE : seekE 3 shelfL shelfO 25 = 0 := by kernel_rfl
theorem shelf_seekN : seekN 3 shelfL shelfO 25 = 4 := by kernel_rfl
theorem shelf_get5E : getE 3 shelfL shelfO 5 = 0 := by kernel_rfl
theorem shelf_get5G : getG 3 shelfL shelfO 5 = shelfO := by kernel_rfl
theorem shelf_get6E : getE 3 shelfL shelfO 6 = 5 := by kernel_rfl
theorem shelf_get6G : getG 3 shelfL shelfO 6 = [] := by kernel_rfl

end Go.Proofs.Ytnpaejknoipicae

namespace Go.Proofs.Ytnpaejknoipicae
open Go.RowKit

/-- an operation of such a region -/
inductive Cm where
  | quiet (v : Value) (lim : Nat)
  | step (s : Nat)
  | fin (t : Nat) (f : Value → Value)
  | box
def cmAt (ks : List Cm) (i : Nat) : Cm := (ks[i]?).getD (.quiet undef 0)
def Cm.out (r : Nat → Value) (b : Nat → Option Nat) (i : Nat) : Cm → Value
  | .quiet v _ => v
  | .step s => r s
  | .fin t f => f (r t)
  | .box => match b i with
    | some g => .pointer (some ⟨g, 0, none⟩)
    | none => undef
def Cm.isBox : Cm → Bool
  | .box => true
  | _ => false
def putM (r : Nat → Value) (b : Nat → Option Nat) : Nat → List Cm → List Oper → Act → Act
  | k, d :: ks, o :: l, a => putM r b (k + 1) ks l (a.put o.dst (d.out r b k))
  | _, _, _, a => a
def updO (b : Nat → Option Nat) (i : Nat) (g : Nat) : Nat → Option Nat := fun j => if j = i then some g else b j
/-- the steps' places; what waits for what -/
def boxesOk (ks : List Cm) (l : List Oper) (st : List Nat) (n : Nat) : Bool :=
  decide (ks.length = l.length) && (l.all fun o => match o.dst with | some k => decide (k < n) | none => true) &&
  ((List.range st.length).all fun s => match st[s]? with
    | some i => decide (i < l.length) && (match cmAt ks i with | .step t => t == s | _ => false) && (s == 0 || (match st[s - 1]? with | some j => waits l i j | none => false))
    | none => false) &&
  ((List.range l.length).all fun i => match cmAt ks i with
    | .quiet _ lim => decide (st.length ≤ lim) || (match st[lim]? with | some j => waits l j i | none => false)
    | .step t => st[t]? == some i
    | .fin t _ => (List.range l.length).any fun j => waits l i j && (match cmAt ks j with | .step t' => t' == t | .fin t' _ => t' == t | _ => false)
    | .box => true)

section
variable {P : Program} {Q : Exit → Act → World → Prop}

structure RBx (ks : List Cm) (l : List Oper) (n m : Nat) (I : Nat → (Nat → Value) → (Nat → Option Nat) → World → Prop) (ls : Nat → Bool) (vs : Nat → Value) (s : Nat) (r : Nat → Value) (b : Nat → Option Nat) (w' : World) : Prop where
  lt : ∀ i, ls i = true → i < n
  steps : ∀ i t, i < n → cmAt ks i = .step t → (ls i = true ↔ t < s)
  fins : ∀ i t f, ls i = true → cmAt ks i = .fin t f → t < s
  box : ∀ i, i < n → cmAt ks i = .box → (ls i = true ↔ (b i).isSome = true)
  vals : ∀ i, ls i = true → vs i = (cmAt ks i).out r b i
  inv : I s r b w'
  le : s ≤ m
  closed : ∀ i j, ls j = true → waits l j i = true → ls i = true

theorem putM_all (L : Array Bool) (vs : Nat → Value) (r : Nat → Value) (b : Nat → Option Nat) : ∀ (l : List Oper) (k : Nat) (ks : List Cm) (a : Act), ks.length = l.length → (∀ i, i < l.length → L.getD (k + i) false = true) → (∀ i, i < l.length → vs (k + i) = (cmAt ks i).out r b (k + i)) → putL L vs k l a = putM r b k ks l a
  | [], _, [], _, _, _, _ => rfl
  | o :: l, k, d :: ks, a, hl, hL, hv => by
    simp only [putL, putM]
    rw [if_pos (by simpa using hL 0 (by simp)), show vs k = d.out r b k by simpa [cmAt] using hv 0 (by simp)]
    refine putM_all L vs r b l (k + 1) ks _ (by simpa using hl) (fun i hi => ?_) (fun i hi => ?_)
    · have := hL (i + 1) (by simpa using hi)
      rw [show k + (i + 1) = k + 1 + i by omega] at this; exact this
    · have := hv (i + 1) (by simpa using hi)
      rw [show k + (i + 1) = k + 1 + i by omega] at this
      simpa [cmAt] using this

theorem region_boxes {id : Nat} {a : Act} {w : World} {l : List Oper} (hm : P.follows .mixedOrders = true) (hB : regOk l = true) (ks : List Cm) (st : List Nat) (hK : boxesOk ks l st a.tmps.size = true)
    (I : Nat → (Nat → Value) → (Nat → Option Nat) → World → Prop) (h0 : I 0 (fun _ => undef) (fun _ => none) { w with drawn := w.drawn + 1 })
    (hstep : ∀ i o, l[i]? = some o → ∀ (a' : Act) (w' : World) (s : Nat) (r : Nat → Value) (b : Nat → Option Nat), I s r b w' → (∀ s, (l.all fun o => o.dst != some s) = true → a'.eval (.tmp s) = a.eval (.tmp s)) → (∀ j oj k, waits l i j = true → l[j]? = some oj → oj.dst = some k → a'.eval (.tmp k) = (cmAt ks j).out r b j) → (∀ j, waits l i j = true → cmAt ks j = .box → (b j).isSome = true) →
      match cmAt ks i with
      | .quiet v lim => s ≤ lim → (execOp a'.eval o).run P w' = .ok (.value v) w'
      | .step t => s = t → o.wp P a' w' (fun a'' w'' => ∃ v, a'' = a'.put o.dst v ∧ I (t + 1) (updR r t v) b w'') Q
      | .fin t f => t < s → (execOp a'.eval o).run P w' = .ok (.value (f (r t))) w'
      | .box => b i = none → ∃ ob, (execOp a'.eval o).run P w' = .ok (.value (.pointer (some ⟨w'.heap.size, 0, none⟩))) (w'.alloc ob) ∧ I s r (updO b i w'.heap.size) (w'.alloc ob))
    (hend : ∀ (r : Nat → Value) (b : Nat → Option Nat) (w' : World), I st.length r b w' → (∀ i, i < l.length → cmAt ks i = .box → ∃ g, b i = some g) → Q .normal (putM r b 0 ks l a) w') :
    (Code.region id l.toArray true).wp P Q a w := by
  simp only [boxesOk, Bool.and_eq_true, decide_eq_true_eq] at hK
  obtain ⟨⟨⟨hlen, hdst⟩, hst⟩, hall⟩ := hK
  have hap : dstsApart l = true := by simp only [regOk, Bool.and_eq_true] at hB; exact hB.1.1
  have hal : ∀ i, i < l.length → _ := fun i hi => List.all_eq_true.1 hall i (List.mem_range.2 hi)
  have hsl : ∀ s, s < st.length → _ := fun s hs => List.all_eq_true.1 hst s (List.mem_range.2 hs)
  have hstp : ∀ s, s < st.length → ∃ i, st[s]? = some i ∧ i < l.length ∧ cmAt ks i = .step s ∧ (0 < s → ∃ j, st[s - 1]? = some j ∧ waits l i j = true) := fun s hs => by
    have h := hsl s hs
    have e : st[s]? = some st[s] := List.getElem?_eq_getElem hs
    rw [e] at h
    simp only [Bool.and_eq_true, decide_eq_true_eq, Bool.or_eq_true, beq_iff_eq] at h
    refine ⟨st[s], e, h.1.1, ?_, fun h0 => ?_⟩
    · have h2 := h.1.2
      cases hk : cmAt ks st[s] with
      | quiet v lim => rw [hk] at h2; cases h2
      | fin t f => rw [hk] at h2; cases h2
      | box => rw [hk] at h2; cases h2
      | step t => rw [hk] at h2; simp at h2; rw [h2]
    · have h3 := h.2
      rcases h3 with h3 | h3
      · omega
      · have e2 : st[s - 1]? = some st[s - 1] := List.getElem?_eq_getElem (by omega)
        rw [e2] at h3
        exact ⟨_, e2, h3⟩
  have hst2 : ∀ i t, i < l.length → cmAt ks i = .step t → st[t]? = some i := fun i t hi hk => by
    have h := hal i hi
    rw [hk] at h
    simpa using h
  refine wp_region_inv hm hB (fun L vs w' => ∃ s r b, RBx ks l l.length st.length I (fun j => L.getD j false) vs s r b w') ?_ ?_ ?_
  · have hno : ∀ j, ¬ (Array.replicate l.length false).getD j false = true := fun j => by
      simp [Array.getD_eq_getD_getElem?, Array.getElem?_replicate]; split <;> simp
    exact ⟨0, fun _ => undef, fun _ => none, fun i h => absurd h (hno i), fun i t _ _ => ⟨fun h => absurd h (hno i), fun h => absurd h (Nat.not_lt_zero _)⟩, fun i _ _ h => absurd h (hno i), fun i _ _ => ⟨fun h => absurd h (hno i), fun h => by cases h⟩, fun i h => absurd h (hno i), h0, Nat.zero_le _, fun _ j h => absurd h (hno j)⟩
  · rintro L vs w' ⟨s, r, b, F⟩ i o ho hL hr
    have hi : i < l.length := (List.getElem?_eq_some_iff.1 ho).1
    have ni : L.getD i false = false := by simpa using listed_no hL
    have hset := setfun hL
    have hwt : ∀ j, waits l i j = true → L.getD j false = true := fun j hw => waits_spec hw ho hr
    have hfree : ∀ s, (l.all fun o => o.dst != some s) = true → (putL L vs 0 l a).eval (.tmp s) = a.eval (.tmp s) := fun s hs => putL_other l 0 a (fun p hp t ht e => by
      injection e with e
      subst e
      have := List.all_eq_true.1 hs p hp
      rw [ht] at this
      simp at this)
    have hvals : ∀ j oj k, waits l i j = true → l[j]? = some oj → oj.dst = some k → (putL L vs 0 l a).eval (.tmp k) = (cmAt ks j).out r b j := fun j oj k hw hoj hk => by
      have h1 := hwt j hw
      have hk2 := List.all_eq_true.1 hdst oj (List.mem_of_getElem? hoj)
      rw [hk] at hk2
      rw [putL_at h1 l 0 a oj hap (Nat.zero_le _) (by simpa using hoj) hk (by simpa using hk2)]
      exact F.vals j h1
    have hs := hstep i o ho (putL L vs 0 l a) w' s r b F.inv hfree hvals (fun j hw hj => (F.box j (F.lt j (hwt j hw)) hj).1 (hwt j hw))
    rw [hset]
    obtain ⟨ls, hls⟩ : ∃ ls : Nat → Bool, ls = fun j => L.getD j false := ⟨_, rfl⟩
    have hlsj : ∀ j, L.getD j false = ls j := fun j => by rw [hls]
    simp only [hlsj] at F ni hwt ⊢
    have hlt' : ∀ j, (decide (j = i) || ls j) = true → j < l.length := fun j hj => by
      simp only [Bool.or_eq_true, decide_eq_true_eq] at hj
      rcases hj with rfl | hj
      · exact hi
      · exact F.lt j hj
    have hcl : ∀ p j, (decide (j = i) || ls j) = true → waits l j p = true → (decide (p = i) || ls p) = true := fun p j hj hw => by
      simp only [Bool.or_eq_true, decide_eq_true_eq] at hj ⊢
      rcases hj with rfl | hj
      · exact .inr (hwt p hw)
      · exact .inr (F.closed p j hj hw)
    have hbxs : ∀ k, cmAt ks i = k → k.isBox = false → ∀ j, j < l.length → cmAt ks j = .box → ((decide (j = i) || ls j) = true ↔ (b j).isSome = true) := fun k h1 h2 j hj hjk => by
      have e : j ≠ i := fun e => by subst e; rw [h1] at hjk; subst hjk; cases h2
      simpa [e] using F.box j hj hjk
    have plain : ∀ (k : Cm) (v : Value), cmAt ks i = k → k.isBox = false → (∀ t, k ≠ .step t) → (∀ t f, k = .fin t f → t < s) → k.out r b i = v → ∃ s r b, RBx ks l l.length st.length I (fun j => decide (j = i) || ls j) (upd vs i v) s r b w' := fun k v hk h1 h2 h3 h4 => by
      refine ⟨s, r, b, hlt', ?_, ?_, hbxs k hk h1, ?_, F.inv, F.le, hcl⟩
      · intro j t hj hjk
        have e : j ≠ i := fun e => by subst e; rw [hk] at hjk; exact h2 t hjk
        simpa [e] using F.steps j t hj hjk
      · intro j t f hj hjk
        by_cases e : j = i
        · subst e; rw [hk] at hjk; exact h3 t f hjk
        · exact F.fins j t f (by simpa [e] using hj) hjk
      · intro j hj
        by_cases e : j = i
        · subst e; rw [upd_at, hk, h4]
        · rw [upd_ne e]; exact F.vals j (by simpa [e] using hj)
    cases hk : cmAt ks i with
    | fin t f =>
      rw [hk] at hs
      have hts : t < s := by
        have h := hal i hi
        rw [hk] at h
        obtain ⟨j, hjm, hj⟩ := List.any_eq_true.1 h
        simp only [Bool.and_eq_true] at hj
        have hjl := hwt j hj.1
        have h2 := hj.2
        cases hkj : cmAt ks j with
        | quiet v lim => rw [hkj] at h2; cases h2
        | box => rw [hkj] at h2; cases h2
        | step t' => rw [hkj] at h2; simp at h2; subst h2; exact (F.steps j t' (F.lt j hjl) hkj).1 hjl
        | fin t' f' => rw [hkj] at h2; simp at h2; subst h2; exact F.fins j t' f' hjl hkj
      exact oper_wp_ok (hs hts) ⟨_, rfl, plain (.fin t f) _ hk rfl (fun _ e => by cases e) (fun t' f' e => by injection e with e1; omega) rfl⟩
    | box =>
      rw [hk] at hs
      have hb0 : b i = none := by
        cases hbi : b i with
        | none => rfl
        | some g => have := (F.box i hi hk).2 (by rw [hbi]; rfl); rw [this] at ni; cases ni
      obtain ⟨ob, h1, h2⟩ := hs hb0
      refine oper_wp_ok h1 ⟨_, rfl, s, r, updO b i w'.heap.size, hlt', ?_, ?_, ?_, ?_, h2, F.le, hcl⟩
      · intro j t hj hjk
        have e : j ≠ i := fun e => by subst e; rw [hk] at hjk; cases hjk
        simpa [e] using F.steps j t hj hjk
      · intro j t f hj hjk
        have e : j ≠ i := fun e => by subst e; rw [hk] at hjk; cases hjk
        exact F.fins j t f (by simpa [e] using hj) hjk
      · intro j hj hjk
        by_cases e : j = i
        · subst e; simp [updO]
        · simpa [e, updO] using F.box j hj hjk
      · intro j hj
        by_cases e : j = i
        · subst e; rw [upd_at, hk]; simp [Cm.out, updO]
        · have hlj : ls j = true := by simpa [e] using hj
          rw [upd_ne e, F.vals j hlj]
          cases hkj : cmAt ks j with
          | quiet v' lim' => rfl
          | step t' => rfl
          | fin t' f' => rfl
          | box => simp [Cm.out, updO, e]
    | quiet v lim =>
      rw [hk] at hs
      have hle : s ≤ lim := by
        have h := hal i hi
        rw [hk] at h
        simp only [Bool.or_eq_true, decide_eq_true_eq] at h
        rcases h with h | h
        · exact Nat.le_trans F.le h
        · by_cases hlt : s ≤ lim
          · exact hlt
          · exfalso
            have hll : lim < st.length := by have := F.le; omega
            obtain ⟨j, e1, e2, e3, _⟩ := hstp lim hll
            rw [e1] at h
            have hlj := (F.steps j lim e2 e3).2 (by omega)
            rw [F.closed i j hlj h] at ni
            cases ni
      exact oper_wp_ok (hs hle) ⟨v, rfl, plain (.quiet v lim) v hk rfl (fun _ e => by cases e) (fun _ _ e => by cases e) rfl⟩
    | step t =>
      rw [hk] at hs
      have hti := hst2 i t hi hk
      have htl : t < st.length := (List.getElem?_eq_some_iff.1 hti).1
      have hst' : s = t := by
        have h1 : ¬ t < s := fun h => by rw [(F.steps i t hi hk).2 h] at ni; cases ni
        by_cases h0 : t = 0
        · omega
        · obtain ⟨i', e1, e2, e3, e4⟩ := hstp t htl
          rw [hti] at e1
          injection e1 with e1
          subst e1
          obtain ⟨j, q1, q2⟩ := e4 (by omega)
          obtain ⟨j', r1, r2, r3, _⟩ := hstp (t - 1) (by omega)
          rw [q1] at r1
          injection r1 with r1
          subst r1
          have := (F.steps j (t - 1) r2 r3).1 (hwt j q2)
          omega
      subst hst'
      refine Oper.wp_mono ?_ (hs rfl)
      rintro a'' w'' ⟨v, h1, h2⟩
      refine ⟨v, h1, s + 1, updR r s v, b, hlt', ?_, ?_, hbxs _ hk rfl, ?_, h2, htl, hcl⟩
      · intro j t' hj hjk
        by_cases e : j = i
        · subst e
          rw [hk] at hjk
          injection hjk with hjk
          subst hjk
          simp
        · have h3 := F.steps j t' hj hjk
          have hne : t' ≠ s := fun e' => by
            subst e'
            have := hst2 j t' hj hjk
            rw [hti] at this
            injection this with this
            exact e this.symm
          simp only [e, decide_false, Bool.false_or]
          rw [h3]; omega
      · intro j t' f hj hjk
        have e : j ≠ i := fun e => by subst e; rw [hk] at hjk; cases hjk
        have := F.fins j t' f (by simpa [e] using hj) hjk
        omega
      · intro j hj
        by_cases e : j = i
        · subst e; rw [upd_at, hk]; exact (updR_at r s v).symm
        · have hlj : ls j = true := by simpa [e] using hj
          rw [upd_ne e, F.vals j hlj]
          cases hkj : cmAt ks j with
          | quiet v' lim' => rfl
          | box => rfl
          | fin t' f' =>
            have := F.fins j t' f' hlj hkj
            exact congrArg f' (updR_ne (by omega)).symm
          | step t' =>
            have := (F.steps j t' (F.lt j hlj) hkj).1 hlj
            exact (updR_ne (by omega)).symm
  · rintro L vs w' ⟨s, r, b, F⟩ hlst
    have hs : s = st.length := by
      by_cases h : s < st.length
      · obtain ⟨i, e1, e2, e3, _⟩ := hstp s h
        have := (F.steps i s e2 e3).1 (hlst i e2)
        omega
      · have := F.le; omega
    subst hs
    rw [putM_all L vs r b l 0 ks a hlen (fun i hi => by rw [Nat.zero_add]; exact hlst i hi) (fun i hi => by rw [Nat.zero_add]; exact F.vals i (hlst i hi))]
    exact hend r b w' F.inv (fun i hi hk => Option.isSome_iff_exists.1 ((F.box i hi hk).1 (hlst i hi)))
end
end Go.Proofs.Ytnpaejknoipicae

namespace Go.Proofs.Ytnpaejknoipicae
open Go.RowKit

def NxV (m g f t : Int) (k ok turn : Bool) (s : Nat) (v : Value) (w : World) : Prop := match s with
  | 0 => ∃ gb ob, v = .agg #[.int .i64 3, .slice (some ⟨gb, 0, none⟩) 2 2, .slice (some ⟨ob, 0, none⟩) 1 1] ∧ GrsIn (fun _ => True) w (.slice (some ⟨gb, 0, none⟩) 2 2) shelfL ∧ FrsIn (fun _ => True) w (.slice (some ⟨ob, 0, none⟩) 1 1) shelfO
  | _ => ∃ pa pn pc, v = .tuple #[.agg #[.int .i64 m, .int .i64 g, .int .i64 f], .agg #[.int .i64 t, .bool k, .slice pa pn pc], .bool ok, .bool turn, .int .i64 0]

structure NxI (w1 : World) (m g f t : Int) (k ok turn : Bool) (s : Nat) (r : Nat → Value) (b : Nat → Option Nat) (w' : World) : Prop where
  bel : Below w1.heap.size w1 w'
  nine : ∀ p, b 9 = some p → w1.heap.size ≤ p ∧ b 10 ≠ some p ∧ (s ≤ 2 → Blk w' p #[.int .i64 0, .int .i64 0, .int .i64 0] 41) ∧ (3 ≤ s → Blk w' p #[.int .i64 m, .int .i64 g, .int .i64 f] 41)
  ten : ∀ p, b 10 = some p → w1.heap.size ≤ p ∧ (s ≤ 3 → Blk w' p #[.int .i64 0, .bool false, .slice none 0 0] 39) ∧ (4 ≤ s → ∃ pv, Blk w' p #[.int .i64 t, .bool k, pv] 39)
  has9 : 3 ≤ s → ¬ b 9 = none
  has10 : 4 ≤ s → ¬ b 10 = none
  one : s = 1 → NxV m g f t k ok turn 0 (r 0) w'
  two : 2 ≤ s → NxV m g f t k ok turn 1 (r 1) w'

theorem NxI.call {w1 : World} {m g f t : Int} {k ok turn : Bool} {s : Nat} {r : Nat → Value} {b : Nat → Option Nat} {w' w'' : World} (h : NxI w1 m g f t k ok turn s r b w') (hs : s ≤ 1) (hb : Below w'.heap.size w' w'') (v : Value) (hv : NxV m g f t k ok turn s v w'') : NxI w1 m g f t k ok turn (s + 1) (updR r s v) b w'' := by
  refine ⟨h.bel.trans (hb.mono h.bel.size), fun p hp => ?_, fun p hp => ?_, fun h => by omega, fun h => by omega, fun h0 => ?_, fun h0 => ?_⟩
  · obtain ⟨e1, e2, e3, e4⟩ := h.nine p hp
    have := e3 (by omega)
    exact ⟨e1, e2, fun _ => this.below hb this.lt, fun h => by omega⟩
  · obtain ⟨e1, e3, e4⟩ := h.ten p hp
    have := e3 (by omega)
    exact ⟨e1, fun _ => this.below hb this.lt, fun h => by omega⟩
  · have : s = 0 := by omega
    subst this
    rw [updR_at]; exact hv
  · have : s = 1 := by omega
    subst this
    rw [updR_at]; exact hv
theorem NxV.alloc {m g f t : Int} {k ok turn : Bool} {s : Nat} {v : Value} {w : World} (h : NxV m g f t k ok turn s v w) (o : Obj) : NxV m g f t k ok turn s v (w.alloc o) := by
  match s, h with
  | 0, ⟨gb, ob, e, q1, q2⟩ => exact ⟨gb, ob, e, q1.alloc _, q2.alloc _⟩
  | _ + 1, h => exact h
theorem NxI.box9 {w1 : World} {m g f t : Int} {k ok turn : Bool} {s : Nat} {r : Nat → Value} {b : Nat → Option Nat} {w' : World} (h : NxI w1 m g f t k ok turn s r b w') (hb : b 9 = none) : NxI w1 m g f t k ok turn s r (updO b 9 w'.heap.size) (w'.alloc (.cells #[.int .i64 0, .int .i64 0, .int .i64 0] 41)) := by
  have hs : s ≤ 2 := by
    by_cases h3 : 3 ≤ s
    · exact absurd hb (h.has9 h3)
    · omega
  refine ⟨h.bel.alloc h.bel.size _, fun p hp => ?_, fun p hp => ?_, fun h => by omega, fun h => by omega, fun h0 => (h.one h0).alloc _, fun h0 => (h.two h0).alloc _⟩
  · simp [updO] at hp
    subst hp
    refine ⟨h.bel.size, fun e => ?_, fun _ => Blk.new _ _ _, fun h => by omega⟩
    simp [updO] at e
    have := (h.ten _ e).2.1 (by omega)
    exact absurd this.lt (Nat.lt_irrefl _)
  · simp [updO] at hp
    obtain ⟨e1, e3, e4⟩ := h.ten p hp
    exact ⟨e1, fun h => (e3 h).alloc _, fun h => by omega⟩
theorem NxI.box10 {w1 : World} {m g f t : Int} {k ok turn : Bool} {s : Nat} {r : Nat → Value} {b : Nat → Option Nat} {w' : World} (h : NxI w1 m g f t k ok turn s r b w') (hb : b 10 = none) : NxI w1 m g f t k ok turn s r (updO b 10 w'.heap.size) (w'.alloc (.cells #[.int .i64 0, .bool false, .slice none 0 0] 39)) := by
  have hs : s ≤ 3 := by
    by_cases h3 : 4 ≤ s
    · exact absurd hb (h.has10 h3)
    · omega
  refine ⟨h.bel.alloc h.bel.size _, fun p hp => ?_, fun p hp => ?_, fun h0 => (by simpa [updO] using h.has9 h0), fun h => by omega, fun h0 => (h.one h0).alloc _, fun h0 => (h.two h0).alloc _⟩
  · simp [updO] at hp
    obtain ⟨e1, e2, e3, e4⟩ := h.nine p hp
    refine ⟨e1, fun e => ?_, fun h => (e3 h).alloc _, fun h => (e4 h).alloc _⟩
    simp [updO] at e
    subst e
    by_cases h : s ≤ 2
    · exact absurd (e3 h).lt (Nat.lt_irrefl _)
    · exact absurd (e4 (by omega)).lt (Nat.lt_irrefl _)
  · simp [updO] at hp
    subst hp
    exact ⟨h.bel.size, fun _ => Blk.new _ _ _, fun h => by omega⟩
theorem NxI.put9 {w1 : World} {m g f t : Int} {k ok turn : Bool} {r : Nat → Value} {b : Nat → Option Nat} {w' : World} (h : NxI w1 m g f t k ok turn 2 r b w') {p : Nat} (hp : b 9 = some p) (v : Value) : NxI w1 m g f t k ok turn 3 (updR r 2 v) b (((w'.setCell ⟨p, 0, none⟩ (.int .i64 m)).setCell ⟨p, 1, none⟩ (.int .i64 g)).setCell ⟨p, 2, none⟩ (.int .i64 f)) := by
  obtain ⟨e1, e2, e3, _⟩ := h.nine p hp
  have kg := e3 (Nat.le_refl _)
  refine ⟨((h.bel.setCell e1 _).setCell e1 _).setCell e1 _, fun q hq => ?_, fun q hq => ?_, fun _ => by rw [hp]; simp, fun h => by omega, fun h => by omega, fun _ => ?_⟩
  · rw [hp] at hq
    injection hq with hq
    subst hq
    exact ⟨e1, e2, fun h => by omega, fun _ => ((kg.set 0 (.int .i64 m)).set 1 (.int .i64 g)).set 2 (.int .i64 f)⟩
  · obtain ⟨q1, q2, _⟩ := h.ten q hq
    have hne : q ≠ p := fun e => e2 (by rw [← e]; exact hq)
    exact ⟨q1, fun _ => (((q2 (by omega)).other (a := ⟨p, 0, none⟩) hne _).other (a := ⟨p, 1, none⟩) hne _).other (a := ⟨p, 2, none⟩) hne _, fun h => by omega⟩
  · rw [updR_ne (by omega)]
    exact h.two (Nat.le_refl _)
theorem NxI.put10 {w1 : World} {m g f t : Int} {k ok turn : Bool} {r : Nat → Value} {b : Nat → Option Nat} {w' : World} (h : NxI w1 m g f t k ok turn 3 r b w') {p : Nat} (hp : b 10 = some p) (pv v : Value) : NxI w1 m g f t k ok turn 4 (updR r 3 v) b (((w'.setCell ⟨p, 0, none⟩ (.int .i64 t)).setCell ⟨p, 1, none⟩ (.bool k)).setCell ⟨p, 2, none⟩ pv) := by
  obtain ⟨e1, e3, _⟩ := h.ten p hp
  have kg := e3 (Nat.le_refl _)
  refine ⟨((h.bel.setCell e1 _).setCell e1 _).setCell e1 _, fun q hq => ?_, fun q hq => ?_, fun _ => h.has9 (by omega), fun _ => by rw [hp]; simp, fun h => by omega, fun _ => ?_⟩
  · obtain ⟨q1, q2, _, q4⟩ := h.nine q hq
    have hne : q ≠ p := fun e => q2 (by rw [e]; exact hp)
    exact ⟨q1, q2, fun h => by omega, fun _ => (((q4 (by omega)).other (a := ⟨p, 0, none⟩) hne _).other (a := ⟨p, 1, none⟩) hne _).other (a := ⟨p, 2, none⟩) hne _⟩
  · rw [hp] at hq
    injection hq with hq
    subst hq
    exact ⟨e1, fun h => by omega, fun _ => ⟨pv, ((kg.set 0 (.int .i64 t)).set 1 (.bool k)).set 2 pv⟩⟩
  · rw [updR_ne (by omega)]
    exact h.two (by omega)

theorem shelf_next1 : nxE 3 shelfL shelfO 3 3 0 100 = 0 ∧ nxM 3 shelfL shelfO 3 3 0 100 = 3 ∧ nxG 3 shelfL shelfO 3 3 0 100 = 3 ∧ nxF 3 shelfL shelfO 3 3 0 100 = 1 ∧ (nxX 3 shelfL shelfO 3 3 0 100).time = 10 ∧ (nxX 3 shelfL shelfO 3 3 0 100).key = true ∧ nxK 3 shelfL shelfO 3 3 0 100 = true ∧ nxT 3 shelfL shelfO 3 3 0 100 = false := by
  refine ⟨?_, ?_, ?_, ?_, ?_, ?_, ?_, ?_⟩ <;> kernel_rfl
theorem shelf_next2 : nxE 3 shelfL shelfO 2 3 1 100 = 0 ∧ nxM 3 shelfL shelfO 2 3 1 100 = 2 ∧ nxG 3 shelfL shelfO 2 3 1 100 = 3 ∧ nxF 3 shelfL shelfO 2 3 1 100 = 1 ∧ (nxX 3 shelfL shelfO 2 3 1 100).time = 0 ∧ (nxX 3 shelfL shelfO 2 3 1 100).key = false ∧ nxK 3 shelfL shelfO 2 3 1 100 = false ∧ nxT 3 shelfL shelfO 2 3 1 100 = false := by
  refine ⟨?_, ?_, ?_, ?_, ?_, ?_, ?_, ?_⟩ <;> kernel_rfl
theorem shelf_seek1 : seekE 3 shelfL shelfO 12 = 0 ∧ seekN 3 shelfL shelfO 12 = 3 ∧ begM 3 shelfL shelfO 3 12 = 3 := by
  refine ⟨?_, ?_, ?_⟩ <;> kernel_rfl
theorem shelf_live : seekE 3 shelfL shelfO 1000000 = 0 ∧ seekN 3 shelfL shelfO 1000000 = 5 ∧ begM 3 shelfL shelfO 1 1000000 = 1 := by
  refine ⟨?_, ?_, ?_⟩ <;> kernel_rfl

end Go.Proofs.Ytnpaejknoipicae
