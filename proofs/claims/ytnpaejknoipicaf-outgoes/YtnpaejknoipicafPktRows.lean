/-
  Rows of packets; the packets of a frame.
-/
import Derived.Test.YtnpaejknoipicafWireCheck
import Derived.Test.YtnpaejknoipicafAppAny
import Derived.Test.YtnpaejknoipicafBlocks
import Derived.Test.YtnpaejknoipicafFrameRows
namespace Go.Proofs.Ytnpaejknoipicaf
open Go.RowKit

def pkCells (l : List Pk) : List Value := l.flatMap fun p => p.cells.toList
theorem pkCells_append (l m : List Pk) : pkCells (l ++ m) = pkCells l ++ pkCells m := by simp [pkCells]
theorem pkCells_one (p : Pk) : pkCells [p] = p.cells.toList := by simp [pkCells]
theorem pkCells_len (l : List Pk) : (pkCells l).length = l.length * 6 := by
  induction l with
  | nil => rfl
  | cons p r ih => rw [show p :: r = [p] ++ r from rfl, pkCells_append, pkCells_one, List.length_append, ih]; simp [Pk.cells]; omega
/-- what a row of packets shows -/
def Pks (w : World) (v : Value) (l : List Pk) : Prop := Sl w v l.length 6 (pkCells l)
theorem Pks.below {w w' : World} {v : Value} {l : List Pk} (h : Pks w v l) (hb : Below w.heap.size w w') : Pks w' v l := Sl.below h hb
theorem Try.infoPkt : (Try.prog.info? 38).map (fun i => (i.zero, i.size, i.bytes)) = some (some Pk.zero.val, 6, 40) := by kernel_rfl
theorem Pk.one2 (p : Pk) : ∀ u ∈ p.cells.toList, u.oneCell' = true := fun u hu => by
  simp [Pk.cells] at hu
  rcases hu with rfl | rfl | rfl | rfl | rfl | rfl <;> rfl
/-- one more packet behind a row of the call's own -/
theorem pk_snoc {base : Nat} {w : World} {v : Value} {n : Nat} {l : List Pk} (p : Pk) (h : w.ownsRow base 38 6 v n (pkCells l)) (hl : n ≤ 999) (hb : base ≤ w.heap.size) :
    ∃ v' w', (Builtin.append_ #[27, 27] 27 #[v, .slice (some ⟨w.heap.size, 0, none⟩) 1 1]).run Try.prog (w.alloc (.cells p.cells 38)) = .ok v' w' ∧ w'.ownsRow base 38 6 v' (n + 1) (pkCells (l ++ [p])) ∧ (w.alloc (.cells p.cells 38)).grownBy w' v.ownBlock := by
  obtain ⟨i0, hi, hz0, hz1, hz2⟩ := info_parts Try.infoPkt
  obtain ⟨v', w', r, o, g, _⟩ := run_append_any (P := Try.prog) (w.alloc (.cells p.cells 38)) base 27 27 38 i0 _ 6 40 Try.underlying27 hi hz0 hz1 hz2 rfl (by decide) v n (pkCells l) (h.alloc _) 1 p.cells.toList (.slice (some ⟨w.heap.size, 0, none⟩) 1 1) (Sl.new w p.cells 38 1 6 1 rfl) p.one2 (by unfold maxLen; omega) (by omega) (by simp; omega)
  exact ⟨v', w', r, by rw [pkCells_append, pkCells_one]; exact o, g⟩
theorem grown_cell {w w' : World} {row : Option Nat} {a : Addr} (hg : w.grownBy w' row) (ha : a.block < w.heap.size) (hn : some a.block ≠ row) : w'.cell? a = w.cell? a := by
  unfold World.cell?; rw [hg.block _ ha hn]
/-- a row's packet -/
theorem Pks.at {w : World} {ao : Option Addr} {n c k : Nat} {l : List Pk} (h : Pks w (.slice ao n c) l) (hk : k < l.length) : ∃ b off, ao = some ⟨b, off, none⟩ ∧ b < w.heap.size ∧ ∀ j u, (l[k]).cells[j]? = some u → w.cell? ⟨b, off + k * 6 + j, none⟩ = some u := by
  obtain ⟨_, ⟨h0, _⟩ | ⟨b, off, c', e, hb, hc⟩⟩ := h
  · omega
  · injection e with e1 _ _
    refine ⟨b, off, e1, hb, fun j u hj => ?_⟩
    rw [Nat.add_assoc]
    refine hc _ _ ?_
    have hj6 : j < 6 := by
      have := (Array.getElem?_eq_some_iff.1 hj).1
      simpa [Pk.cells] using this
    have : l = l.take k ++ [l[k]] ++ l.drop (k + 1) := by
      rw [List.append_assoc, List.singleton_append, List.getElem_cons_drop, List.take_append_drop]
    rw [this, pkCells_append, pkCells_append, pkCells_one]
    have hl1 : (pkCells (l.take k)).length = k * 6 := by rw [pkCells_len, List.length_take, Nat.min_eq_left (by omega)]
    rw [List.getElem?_append_left (by rw [List.length_append, hl1]; simp [Pk.cells]; omega), List.getElem?_append_right (by omega), hl1, Nat.add_sub_cancel_left]
    simpa using hj

/-- the packets of a frame, behind number last, at a time -/
def pkAt (last t : Int) (key : Bool) (ps : List ByteArray) (i : Nat) : Pk := ⟨(last + 1 + i) % 65536, t, i == 0, i == ps.length - 1, i == 0 && key, ps[i]?.getD ByteArray.empty⟩
def pksK (last t : Int) (key : Bool) (ps : List ByteArray) (k : Nat) : List Pk := (List.range k).map (pkAt last t key ps)
def pksOf (last t : Int) (key : Bool) (ps : List ByteArray) : List Pk := pksK last t key ps ps.length
theorem pksK_succ (last t : Int) (key : Bool) (ps : List ByteArray) (k : Nat) : pksK last t key ps (k + 1) = pksK last t key ps k ++ [pkAt last t key ps k] := by simp [pksK, List.range_succ]
theorem pksK_len (last t : Int) (key : Bool) (ps : List ByteArray) (k : Nat) : (pksK last t key ps k).length = k := by simp [pksK]

end Go.Proofs.Ytnpaejknoipicaf
