/-
  Contract: the maker's add.
-/
import Derived.Test.YtnpaejknoipicadMaker1
namespace Go.Proofs.Ytnpaejknoipicad
open Go.RowKit

/-- did a frame come to its end? -/
def addW (l : List Sk) (x : Sk) : Bool := decide (0 < (takeF l x).length) && x.p.e
/-- what is open then -/
def addO (l : List Sk) (x : Sk) : List Sk := if addW l x then [] else if (takeF l x).length = 4 then [] else takeF l x
/-- the frame's time, Key, Parts -/
def addT (l : List Sk) (x : Sk) : Int := if addW l x then ((takeF l x)[0]?.getD Sk.zero).p.time else 0
def addK (l : List Sk) (x : Sk) : Bool := addW l x && ((takeF l x)[0]?.getD Sk.zero).p.k
def addP (l : List Sk) (x : Sk) : List ByteArray := if addW l x then texts (takeF l x) else []

theorem Sl.same {w w' : World} {v : Value} {n size : Nat} {xs : List Value} (h : Sl w v n size xs) (hs : w.heap.size ≤ w'.heap.size) (hb : ∀ g, v.ownBlock = some g → w'.heap[g]? = w.heap[g]?) : Sl w' v n size xs := by
  obtain ⟨hl, h | ⟨b, off, c, rfl, hlt, hc⟩⟩ := h
  · exact ⟨hl, .inl h⟩
  · exact ⟨hl, .inr ⟨b, off, c, rfl, by omega, fun j u hj => (World.cell?_of_block (hb b rfl)).trans (hc j u hj)⟩⟩

theorem takeF_len (l : List Sk) (x : Sk) : (takeF l x).length ≤ l.length + 1 := by
  unfold takeF
  split
  · simp
  · split <;> simp

end Go.Proofs.Ytnpaejknoipicad
