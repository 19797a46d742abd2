/-
  Contract: frame.All.
-/
import Derived.Test.YtnpaejknoipicadFrameAdd
import Derived.Test.YtnpaejknoipicadFrameRows
namespace Go.Proofs.Ytnpaejknoipicad
open Go.RowKit

/-- one slot more: what is open, which frames came -/
def stepA (s : List Sk × List Fr) (x : Sk) : List Sk × List Fr := (addO s.1 x, if addW s.1 x then s.2 ++ [⟨addT s.1 x, addK s.1 x, addP s.1 x⟩] else s.2)
def upA (l : List Sk) (k : Nat) : List Sk × List Fr := (l.take k).foldl stepA ([], [])
/-- the frames of slots -/
def framesS (l : List Sk) : List Fr := (upA l l.length).2
theorem upA_succ (l : List Sk) (k : Nat) (hk : k < l.length) : upA l (k + 1) = stepA (upA l k) (l[k]?.getD Sk.zero) := by
  unfold upA
  rw [take_one hk Sk.zero, List.foldl_append]
  rfl
theorem addO_len (l : List Sk) (x : Sk) (h : l.length ≤ 3) : (addO l x).length ≤ 3 := by
  have := takeF_len l x
  unfold addO
  split
  · simp
  · split
    · simp
    · omega
theorem takeF_mem {l : List Sk} {x y : Sk} (h : y ∈ takeF l x) : y ∈ l ∨ y = x := by
  unfold takeF at h
  split at h
  · right; simpa using h
  · split at h
    · simpa using h
    · simp at h
theorem addO_mem {l : List Sk} {x y : Sk} (h : y ∈ addO l x) : y ∈ l ∨ y = x := by
  unfold addO at h
  split at h
  · simp at h
  · split at h
    · simp at h
    · exact takeF_mem h
theorem addP_len (l : List Sk) (x : Sk) (h : l.length ≤ 3) : (addP l x).length ≤ 4 := by
  have := takeF_len l x
  unfold addP
  split
  · simp [texts]; omega
  · simp

def frCells (ps : List (Fr × Value)) : List Value := ps.flatMap fun p => [.int .i64 p.1.time, .bool p.1.key, p.2]
theorem frCells_len (ps : List (Fr × Value)) : (frCells ps).length = ps.length * 3 := by
  induction ps with
  | nil => rfl
  | cons p r ih => simp only [frCells, List.flatMap_cons, List.length_append] at ih ⊢; rw [ih]; simp; omega
theorem frCells_append (l m : List (Fr × Value)) : frCells (l ++ m) = frCells l ++ frCells m := by simp [frCells]
theorem frCells_at (ps : List (Fr × Value)) : ∀ (k i : Nat) (p : Fr × Value), i < 3 → ps[k]? = some p → (frCells ps)[k * 3 + i]? = [Value.int .i64 p.1.time, .bool p.1.key, p.2][i]? := by
  induction ps with
  | nil => intro k i p _ h; simp at h
  | cons x r ih =>
    intro k i p hi hk
    simp only [frCells, List.flatMap_cons] at ih ⊢
    cases k with
    | zero =>
      simp at hk
      subst hk
      rw [List.getElem?_append_left (by simp; omega)]
      simp
    | succ k =>
      rw [List.getElem?_append_right (by simp; omega)]
      simp only [List.length_cons, List.length_nil]
      rw [show (k + 1) * 3 + i - (0 + 1 + 1 + 1) = k * 3 + i by omega]
      exact ih k i p hi (by simpa using hk)

/-- a frame's value shows its texts, in a block of strings -/
def Good (w : World) (p : Fr × Value) : Prop := Strs w p.2 p.1.parts ∧ p.1.parts.length ≤ 4 ∧ ∀ g, p.2.ownBlock = some g → ∃ cur, Blk w g cur 9
def Outs (base : Nat) (w : World) (v : Value) (l : List Fr) : Prop := ∃ ps : List (Fr × Value), ps.map Prod.fst = l ∧ w.ownsRow base 36 3 v ps.length (frCells ps) ∧ ∀ p ∈ ps, Good w p
theorem Good.same {w w' : World} {p : Fr × Value} (h : Good w p) (hs : w.heap.size ≤ w'.heap.size) (h1 : ∀ g cur, Blk w g cur 9 → w'.heap[g]? = w.heap[g]?) : Good w' p :=
  ⟨Sl.same h.1 hs (fun g hg => by obtain ⟨cur, hc⟩ := h.2.2 g hg; exact h1 g cur hc), h.2.1, fun g hg => by obtain ⟨cur, hc⟩ := h.2.2 g hg; exact ⟨cur, (h1 g cur hc).trans hc⟩⟩
theorem Outs.same {base : Nat} {w w' : World} {v : Value} {l : List Fr} (h : Outs base w v l) (hs : w.heap.size ≤ w'.heap.size) (h1 : ∀ g cur, Blk w g cur 9 → w'.heap[g]? = w.heap[g]?) (h2 : ∀ g cur, Blk w g cur 36 → w'.heap[g]? = w.heap[g]?) : Outs base w' v l := by
  obtain ⟨ps, hp, ho, hg⟩ := h
  exact ⟨ps, hp, owns_same ho (fun g hgg => by obtain ⟨_, cur, hc⟩ := owns_blk ho hgg; exact h2 g cur hc), fun p hpp => (hg p hpp).same hs h1⟩
theorem Outs.below {base : Nat} {w w' : World} {v : Value} {l : List Fr} (h : Outs base w v l) (hb : Below w.heap.size w w') : Outs base w' v l :=
  h.same hb.size (fun g _ hc => hb.block g hc.lt) (fun g _ hc => hb.block g hc.lt)
theorem Outs.len {base : Nat} {w : World} {v : Value} {l : List Fr} (h : Outs base w v l) : ∃ a c, v = .slice a l.length c := by
  obtain ⟨ps, hp, ho, _⟩ := h
  have := Sl.len (Sl.of_owns ho)
  rw [← hp, List.length_map]
  exact this
theorem Outs.frs {base : Nat} {w : World} {v : Value} {l : List Fr} (h : Outs base w v l) : Frs w v l := by
  obtain ⟨ps, hp, ho, hg⟩ := h
  have hll : l.length = ps.length := by rw [← hp, List.length_map]
  obtain ⟨_, ⟨h0, a, c, rfl⟩ | ⟨b, off, c, rfl, hb, hc⟩⟩ := Sl.of_owns ho
  · exact ⟨a, c, by rw [hll, h0], fun k hk => by omega⟩
  · refine ⟨_, c, by rw [hll], fun k hk => ⟨b, off, rfl, hb, ?_⟩⟩
    have hk' : k < ps.length := by omega
    have hpk : ps[k]? = some ps[k] := List.getElem?_eq_getElem hk'
    have hlk : l[k]?.getD Fr.zero = ps[k].1 := by
      rw [← hp, List.getElem?_map, hpk]; rfl
    have g : ∀ i u, i < 3 → [Value.int .i64 ps[k].1.time, .bool ps[k].1.key, ps[k].2][i]? = some u → w.cell? ⟨b, off + k * 3 + i, none⟩ = some u := fun i u hi hu => by
      rw [Nat.add_assoc]
      exact hc (k * 3 + i) u (by rw [frCells_at ps k i _ hi hpk]; exact hu)
    have hgd := hg ps[k] (List.getElem_mem hk')
    rw [hlk]
    exact ⟨ps[k].2, g 0 _ (by omega) rfl, g 1 _ (by omega) rfl, g 2 _ (by omega) rfl, hgd.1, by have := hgd.2.1; omega⟩

theorem Try.infoFrm : (Try.prog.info? 36).map (fun i => (i.zero, i.size, i.bytes)) = some (some (.agg #[.int .i64 0, .bool false, .slice none 0 0]), 3, 40) := by kernel_rfl

end Go.Proofs.Ytnpaejknoipicad
