/-
  Things in one another: what slices of texts, frames and groups show, and in which blocks they lie ('S').
-/
import Derived.Test.YtnpaejknoipicadFrameAll
namespace Go.Proofs.Ytnpaejknoipicad
open Go.RowKit

/-- blocks of S that were there are as they were -/
def SameOn (S : Nat → Prop) (w w' : World) : Prop := w.heap.size ≤ w'.heap.size ∧ ∀ g, g < w.heap.size → S g → w'.heap[g]? = w.heap[g]?
theorem SameOn.of_below {S : Nat → Prop} {w w' : World} (h : Below w.heap.size w w') : SameOn S w w' := ⟨h.size, fun g hg _ => h.block g hg⟩
theorem SameOn.trans {S : Nat → Prop} {a b c : World} (h : SameOn S a b) (k : SameOn S b c) : SameOn S a c := ⟨Nat.le_trans h.1 k.1, fun g hg hs => (k.2 g (Nat.lt_of_lt_of_le hg h.1) hs).trans (h.2 g hg hs)⟩
theorem SameOn.grown {S : Nat → Prop} {w w' : World} {row : Option Nat} (h : w.grownBy w' row) (hr : ∀ g, S g → some g ≠ row) : SameOn S w w' := ⟨h.size, fun g hg hs => h.block g hg (hr g hs)⟩
theorem SameOn.setCell {S : Nat → Prop} {w : World} {a : Addr} (h : ∀ g, S g → g ≠ a.block) (v : Value) : SameOn S w (w.setCell a v) := ⟨by simp, fun g _ hs => Below.heap_setCell _ _ _ _ (h g hs)⟩
theorem SameOn.alloc {S : Nat → Prop} {w : World} (o : Obj) : SameOn S w (w.alloc o) := SameOn.of_below ((Below.refl _ w).alloc (Nat.le_refl _) _)
theorem SameOn.mono {S S' : Nat → Prop} {w w' : World} (h : SameOn S w w') (hs : ∀ g, S' g → S g) : SameOn S' w w' := ⟨h.1, fun g hg h2 => h.2 g hg (hs g h2)⟩
theorem SameOn.mono' {S S' : Nat → Prop} {w w' : World} (h : SameOn S w w') (hs : ∀ g, g < w.heap.size → S' g → S g) : SameOn S' w w' := ⟨h.1, fun g hg h2 => h.2 g hg (hs g hg h2)⟩
theorem SameOn.refl (S : Nat → Prop) (w : World) : SameOn S w w := ⟨Nat.le_refl _, fun _ _ _ => rfl⟩

def StrsIn (S : Nat → Prop) (w : World) (v : Value) (l : List ByteArray) : Prop := Strs w v l ∧ l.length ≤ 9223372036854775807 ∧ ∀ g, v.ownBlock = some g → 0 < l.length → S g ∧ g < w.heap.size
def At3In (S : Nat → Prop) (w : World) (b off : Nat) (f : Fr) : Prop := ∃ pv, w.cell? ⟨b, off, none⟩ = some (.int .i64 f.time) ∧ w.cell? ⟨b, off + 1, none⟩ = some (.bool f.key) ∧ w.cell? ⟨b, off + 2, none⟩ = some pv ∧ StrsIn S w pv f.parts
def FrsIn (S : Nat → Prop) (w : World) (v : Value) (l : List Fr) : Prop := ∃ ao c, v = .slice ao l.length c ∧ l.length ≤ c ∧ c ≤ 9223372036854775807 ∧ ∀ k, k < l.length → ∃ b off, ao = some ⟨b, off, none⟩ ∧ b < w.heap.size ∧ S b ∧ At3In S w b (off + k * 3) (l[k]?.getD Fr.zero)
def GrsIn (S : Nat → Prop) (w : World) (v : Value) (L : List (List Fr)) : Prop := ∃ ao c, v = .slice ao L.length c ∧ L.length ≤ c ∧ c ≤ 9223372036854775807 ∧ ∀ k, k < L.length → ∃ b off, ao = some ⟨b, off, none⟩ ∧ b < w.heap.size ∧ S b ∧ ∃ sv, w.cell? ⟨b, off + k, none⟩ = some sv ∧ FrsIn S w sv (L[k]?.getD [])

theorem StrsIn.to {S S' : Nat → Prop} {w w' : World} {v : Value} {l : List ByteArray} (h : StrsIn S w v l) (hs : SameOn S w w') (hm : ∀ g, g < w.heap.size → S g → S' g) : StrsIn S' w' v l := by
  obtain ⟨⟨h1, h2⟩, h3, h4⟩ := h
  refine ⟨⟨h1, ?_⟩, h3, fun g hg h0 => ⟨hm g (h4 g hg h0).2 (h4 g hg h0).1, Nat.lt_of_lt_of_le (h4 g hg h0).2 hs.1⟩⟩
  rcases h2 with h2 | ⟨b, off, c, rfl, hlt, hc⟩
  · exact .inl h2
  · by_cases h0 : 0 < l.length
    · exact .inr ⟨b, off, c, rfl, Nat.lt_of_lt_of_le hlt hs.1, fun j u hj => (World.cell?_of_block (hs.2 b hlt (h4 b rfl h0).1)).trans (hc j u hj)⟩
    · refine .inl ⟨by omega, some ⟨b, off, none⟩, c, by congr 1; omega⟩
theorem At3In.to {S S' : Nat → Prop} {w w' : World} {b off : Nat} {f : Fr} (h : At3In S w b off f) (hs : SameOn S w w') (hm : ∀ g, g < w.heap.size → S g → S' g) (hb : b < w.heap.size) (hS : S b) : At3In S' w' b off f := by
  obtain ⟨pv, h1, h2, h3, h4⟩ := h
  have g : ∀ j, w'.cell? ⟨b, j, none⟩ = w.cell? ⟨b, j, none⟩ := fun j => World.cell?_of_block (hs.2 b hb hS)
  exact ⟨pv, (g _).trans h1, (g _).trans h2, (g _).trans h3, h4.to hs hm⟩
theorem FrsIn.to {S S' : Nat → Prop} {w w' : World} {v : Value} {l : List Fr} (h : FrsIn S w v l) (hs : SameOn S w w') (hm : ∀ g, g < w.heap.size → S g → S' g) : FrsIn S' w' v l := by
  obtain ⟨ao, c, hv, h1, h2, hc⟩ := h
  refine ⟨ao, c, hv, h1, h2, fun k hk => ?_⟩
  obtain ⟨b, off, e1, e2, e3, e4⟩ := hc k hk
  exact ⟨b, off, e1, Nat.lt_of_lt_of_le e2 hs.1, hm b e2 e3, e4.to hs hm e2 e3⟩
theorem GrsIn.to {S S' : Nat → Prop} {w w' : World} {v : Value} {L : List (List Fr)} (h : GrsIn S w v L) (hs : SameOn S w w') (hm : ∀ g, g < w.heap.size → S g → S' g) : GrsIn S' w' v L := by
  obtain ⟨ao, c, hv, h1, h2, hc⟩ := h
  refine ⟨ao, c, hv, h1, h2, fun k hk => ?_⟩
  obtain ⟨b, off, e1, e2, e3, sv, e4, e5⟩ := hc k hk
  exact ⟨b, off, e1, Nat.lt_of_lt_of_le e2 hs.1, hm b e2 e3, sv, (World.cell?_of_block (hs.2 b e2 e3)).trans e4, e5.to hs hm⟩
theorem StrsIn.below {S : Nat → Prop} {w w' : World} {v : Value} {l : List ByteArray} (h : StrsIn S w v l) (hb : Below w.heap.size w w') : StrsIn S w' v l := h.to (SameOn.of_below hb) fun _ _ h => h
theorem FrsIn.below {S : Nat → Prop} {w w' : World} {v : Value} {l : List Fr} (h : FrsIn S w v l) (hb : Below w.heap.size w w') : FrsIn S w' v l := h.to (SameOn.of_below hb) fun _ _ h => h
theorem GrsIn.below {S : Nat → Prop} {w w' : World} {v : Value} {L : List (List Fr)} (h : GrsIn S w v L) (hb : Below w.heap.size w w') : GrsIn S w' v L := h.to (SameOn.of_below hb) fun _ _ h => h
theorem FrsIn.mono {S S' : Nat → Prop} {w : World} {v : Value} {l : List Fr} (h : FrsIn S w v l) (hm : ∀ g, g < w.heap.size → S g → S' g) : FrsIn S' w v l := h.to (SameOn.refl _ _) hm
theorem StrsIn.mono {S S' : Nat → Prop} {w : World} {v : Value} {l : List ByteArray} (h : StrsIn S w v l) (hm : ∀ g, g < w.heap.size → S g → S' g) : StrsIn S' w v l := h.to (SameOn.refl _ _) hm
theorem GrsIn.mono {S S' : Nat → Prop} {w : World} {v : Value} {L : List (List Fr)} (h : GrsIn S w v L) (hm : ∀ g, g < w.heap.size → S g → S' g) : GrsIn S' w v L := h.to (SameOn.refl _ _) hm
theorem FrsIn.alloc {S : Nat → Prop} {w : World} {v : Value} {l : List Fr} (h : FrsIn S w v l) (o : Obj) : FrsIn S (w.alloc o) v l := h.below ((Below.refl _ w).alloc (Nat.le_refl _) _)
theorem StrsIn.alloc {S : Nat → Prop} {w : World} {v : Value} {l : List ByteArray} (h : StrsIn S w v l) (o : Obj) : StrsIn S (w.alloc o) v l := h.below ((Below.refl _ w).alloc (Nat.le_refl _) _)
theorem GrsIn.alloc {S : Nat → Prop} {w : World} {v : Value} {L : List (List Fr)} (h : GrsIn S w v L) (o : Obj) : GrsIn S (w.alloc o) v L := h.below ((Below.refl _ w).alloc (Nat.le_refl _) _)
theorem StrsIn.nil (S : Nat → Prop) (w : World) : StrsIn S w (.slice none 0 0) [] := ⟨Strs.nil w, Nat.zero_le _, fun g hg => by simp [Value.ownBlock] at hg⟩
theorem FrsIn.nil (S : Nat → Prop) (w : World) : FrsIn S w (.slice none 0 0) [] := ⟨none, 0, rfl, Nat.le_refl _, Nat.zero_le _, fun _ hk => absurd hk (Nat.not_lt_zero _)⟩
theorem GrsIn.nil (S : Nat → Prop) (w : World) : GrsIn S w (.slice none 0 0) [] := ⟨none, 0, rfl, Nat.le_refl _, Nat.zero_le _, fun _ hk => absurd hk (Nat.not_lt_zero _)⟩
theorem FrsIn.len {S : Nat → Prop} {w : World} {v : Value} {l : List Fr} (h : FrsIn S w v l) : ∃ a c, v = .slice a l.length c ∧ l.length ≤ c ∧ l.length ≤ 9223372036854775807 := by
  obtain ⟨ao, c, hv, h1, h2, _⟩ := h
  exact ⟨ao, c, hv, h1, by omega⟩
theorem GrsIn.len {S : Nat → Prop} {w : World} {v : Value} {L : List (List Fr)} (h : GrsIn S w v L) : ∃ a c, v = .slice a L.length c ∧ L.length ≤ c ∧ L.length ≤ 9223372036854775807 := by
  obtain ⟨ao, c, hv, h1, h2, _⟩ := h
  exact ⟨ao, c, hv, h1, by omega⟩
theorem FrsIn.frs {S : Nat → Prop} {w : World} {v : Value} {l : List Fr} (h : FrsIn S w v l) : Frs w v l := by
  obtain ⟨ao, c, hv, _, _, hc⟩ := h
  refine ⟨ao, c, hv, fun k hk => ?_⟩
  obtain ⟨b, off, e1, e2, _, pv, h1, h2, h3, h4, h5, _⟩ := hc k hk
  exact ⟨b, off, e1, e2, pv, h1, h2, h3, h4, h5⟩

/-- rows of the call's own, that may grow: what is in them lies in blocks of S -/
def OwnFrs (base : Nat) (S : Nat → Prop) (w : World) (v : Value) (l : List Fr) : Prop := ∃ ps : List (Fr × Value), ps.map Prod.fst = l ∧ w.ownsRow base 36 3 v ps.length (frCells ps) ∧ ∀ p ∈ ps, StrsIn S w p.2 p.1.parts
def OwnGrs (base : Nat) (S : Nat → Prop) (w : World) (v : Value) (L : List (List Fr)) : Prop := ∃ ps : List (List Fr × Value), ps.map Prod.fst = L ∧ w.ownsRow base 25 1 v ps.length (ps.map Prod.snd) ∧ ∀ p ∈ ps, FrsIn S w p.2 p.1
theorem OwnFrs.to {base : Nat} {S S' : Nat → Prop} {w w' : World} {v : Value} {l : List Fr} (h : OwnFrs base S w v l) (hs : SameOn S w w') (hm : ∀ g, g < w.heap.size → S g → S' g) (ho : ∀ g, v.ownBlock = some g → w'.heap[g]? = w.heap[g]?) : OwnFrs base S' w' v l := by
  obtain ⟨ps, h1, h2, h3⟩ := h
  exact ⟨ps, h1, owns_same h2 ho, fun p hp => (h3 p hp).to hs hm⟩
theorem OwnGrs.to {base : Nat} {S S' : Nat → Prop} {w w' : World} {v : Value} {L : List (List Fr)} (h : OwnGrs base S w v L) (hs : SameOn S w w') (hm : ∀ g, g < w.heap.size → S g → S' g) (ho : ∀ g, v.ownBlock = some g → w'.heap[g]? = w.heap[g]?) : OwnGrs base S' w' v L := by
  obtain ⟨ps, h1, h2, h3⟩ := h
  exact ⟨ps, h1, owns_same h2 ho, fun p hp => (h3 p hp).to hs hm⟩
theorem OwnFrs.below {base : Nat} {S : Nat → Prop} {w w' : World} {v : Value} {l : List Fr} (h : OwnFrs base S w v l) (hb : Below w.heap.size w w') : OwnFrs base S w' v l :=
  h.to (SameOn.of_below hb) (fun _ _ h => h) (fun g hg => by obtain ⟨ps, _, h2, _⟩ := h; exact hb.block g (h2.lt g hg).2)
theorem OwnGrs.below {base : Nat} {S : Nat → Prop} {w w' : World} {v : Value} {L : List (List Fr)} (h : OwnGrs base S w v L) (hb : Below w.heap.size w w') : OwnGrs base S w' v L :=
  h.to (SameOn.of_below hb) (fun _ _ h => h) (fun g hg => by obtain ⟨ps, _, h2, _⟩ := h; exact hb.block g (h2.lt g hg).2)
theorem OwnFrs.nil (base : Nat) (S : Nat → Prop) (w : World) : OwnFrs base S w (.slice none 0 0) [] := ⟨[], rfl, World.ownsRow_nil _ _ _ _, fun _ hp => absurd hp List.not_mem_nil⟩
theorem OwnGrs.nil (base : Nat) (S : Nat → Prop) (w : World) : OwnGrs base S w (.slice none 0 0) [] := ⟨[], rfl, World.ownsRow_nil _ _ _ _, fun _ hp => absurd hp List.not_mem_nil⟩
theorem OwnFrs.lt {base : Nat} {S : Nat → Prop} {w : World} {v : Value} {l : List Fr} (h : OwnFrs base S w v l) : ∀ g, v.ownBlock = some g → base ≤ g ∧ g < w.heap.size := fun g hg => by obtain ⟨ps, _, h2, _⟩ := h; exact h2.lt g hg
theorem OwnGrs.lt {base : Nat} {S : Nat → Prop} {w : World} {v : Value} {L : List (List Fr)} (h : OwnGrs base S w v L) : ∀ g, v.ownBlock = some g → base ≤ g ∧ g < w.heap.size := fun g hg => by obtain ⟨ps, _, h2, _⟩ := h; exact h2.lt g hg
theorem OwnFrs.blk {base : Nat} {S : Nat → Prop} {w : World} {v : Value} {l : List Fr} (h : OwnFrs base S w v l) : ∀ g, v.ownBlock = some g → ∃ cur, Blk w g cur 36 := fun g hg => by obtain ⟨ps, _, h2, _⟩ := h; exact (owns_blk h2 hg).2
theorem OwnGrs.blk {base : Nat} {S : Nat → Prop} {w : World} {v : Value} {L : List (List Fr)} (h : OwnGrs base S w v L) : ∀ g, v.ownBlock = some g → ∃ cur, Blk w g cur 25 := fun g hg => by obtain ⟨ps, _, h2, _⟩ := h; exact (owns_blk h2 hg).2
theorem owns_cap {w : World} {base : Nat} {e : TypeId} {size n : Nat} {v : Value} {xs : List Value} (h : w.ownsRow base e size v n xs) : ∃ a c, v = .slice a n c ∧ n ≤ c ∧ c ≤ 9223372036854775807 := by
  obtain ⟨_, ⟨rfl, rfl⟩ | ⟨g, cap, cur, rfl, _, _, h1, h2, _⟩⟩ := h
  · exact ⟨none, 0, rfl, Nat.le_refl _, Nat.zero_le _⟩
  · exact ⟨_, cap, rfl, h1, by unfold maxLen at h2; omega⟩
theorem OwnFrs.frsIn {base : Nat} {S S' : Nat → Prop} {w : World} {v : Value} {l : List Fr} (h : OwnFrs base S w v l) (hm : ∀ g, g < w.heap.size → S g → S' g) (hv : ∀ g, v.ownBlock = some g → S' g) : FrsIn S' w v l := by
  obtain ⟨ps, hp, ho, hg⟩ := h
  have hll : l.length = ps.length := by rw [← hp, List.length_map]
  obtain ⟨a, c, e, h1, h2⟩ := owns_cap ho
  obtain ⟨_, ⟨h0, a', c', e'⟩ | ⟨b, off, c', e', hb, hc⟩⟩ := Sl.of_owns ho
  · exact ⟨a, c, by rw [hll]; exact e, by omega, h2, fun k hk => by omega⟩
  · rw [e] at e'
    injection e' with q1 q2 q3
    subst q1
    refine ⟨_, c, by rw [hll]; exact e, by omega, h2, fun k hk => ⟨b, off, rfl, hb, hv b (by rw [e]; rfl), ?_⟩⟩
    have hk' : k < ps.length := by omega
    have hpk : ps[k]? = some ps[k] := List.getElem?_eq_getElem hk'
    have hlk : l[k]?.getD Fr.zero = ps[k].1 := by rw [← hp, List.getElem?_map, hpk]; rfl
    have g : ∀ i u, i < 3 → [Value.int .i64 ps[k].1.time, .bool ps[k].1.key, ps[k].2][i]? = some u → w.cell? ⟨b, off + k * 3 + i, none⟩ = some u := fun i u hi hu => by
      rw [Nat.add_assoc]
      exact hc (k * 3 + i) u (by rw [frCells_at ps k i _ hi hpk]; exact hu)
    rw [hlk]
    exact ⟨ps[k].2, g 0 _ (by omega) rfl, g 1 _ (by omega) rfl, g 2 _ (by omega) rfl, (hg ps[k] (List.getElem_mem hk')).mono hm⟩
theorem OwnGrs.grsIn {base : Nat} {S S' : Nat → Prop} {w : World} {v : Value} {L : List (List Fr)} (h : OwnGrs base S w v L) (hm : ∀ g, g < w.heap.size → S g → S' g) (hv : ∀ g, v.ownBlock = some g → S' g) : GrsIn S' w v L := by
  obtain ⟨ps, hp, ho, hg⟩ := h
  have hll : L.length = ps.length := by rw [← hp, List.length_map]
  obtain ⟨a, c, e, h1, h2⟩ := owns_cap ho
  obtain ⟨_, ⟨h0, a', c', e'⟩ | ⟨b, off, c', e', hb, hc⟩⟩ := Sl.of_owns ho
  · exact ⟨a, c, by rw [hll]; exact e, by omega, h2, fun k hk => by omega⟩
  · rw [e] at e'
    injection e' with q1 q2 q3
    subst q1
    refine ⟨_, c, by rw [hll]; exact e, by omega, h2, fun k hk => ⟨b, off, rfl, hb, hv b (by rw [e]; rfl), ?_⟩⟩
    have hk' : k < ps.length := by omega
    have hpk : ps[k]? = some ps[k] := List.getElem?_eq_getElem hk'
    have hlk : L[k]?.getD [] = ps[k].1 := by rw [← hp, List.getElem?_map, hpk]; rfl
    rw [hlk]
    exact ⟨ps[k].2, hc k _ (by rw [List.getElem?_map, hpk]; rfl), (hg ps[k] (List.getElem_mem hk')).mono hm⟩
/-- one more, behind append -/
theorem OwnFrs.snoc {base : Nat} {S : Nat → Prop} {w w' : World} {v v' : Value} {l : List Fr} {f : Fr} {pv : Value} {ps : List (Fr × Value)} (h1 : ps.map Prod.fst = l) (h3 : ∀ p ∈ ps, StrsIn S w p.2 p.1.parts) (hp : StrsIn S w pv f.parts) (ho : w'.ownsRow base 36 3 v' (ps.length + 1) (frCells ps ++ [.int .i64 f.time, .bool f.key, pv])) (hg : w.grownBy w' v.ownBlock) (hv : ∀ g, S g → some g ≠ v.ownBlock) : OwnFrs base S w' v' (l ++ [f]) := by
  have hs : SameOn S w w' := SameOn.grown hg hv
  refine ⟨ps ++ [(f, pv)], by rw [List.map_append, h1]; rfl, by rw [List.length_append, frCells_append]; exact ho, fun p hpp => ?_⟩
  rcases List.mem_append.1 hpp with hpp | hpp
  · exact (h3 p hpp).to hs fun _ _ h => h
  · simp at hpp
    subst hpp
    exact hp.to hs fun _ _ h => h
theorem OwnGrs.snoc {base : Nat} {S : Nat → Prop} {w w' : World} {v v' : Value} {L : List (List Fr)} {l : List Fr} {sv : Value} {ps : List (List Fr × Value)} (h1 : ps.map Prod.fst = L) (h3 : ∀ p ∈ ps, FrsIn S w p.2 p.1) (hp : FrsIn S w sv l) (ho : w'.ownsRow base 25 1 v' (ps.length + 1) (ps.map Prod.snd ++ [sv])) (hg : w.grownBy w' v.ownBlock) (hv : ∀ g, S g → some g ≠ v.ownBlock) : OwnGrs base S w' v' (L ++ [l]) := by
  have hs : SameOn S w w' := SameOn.grown hg hv
  refine ⟨ps ++ [(l, sv)], by rw [List.map_append, h1]; rfl, by rw [List.length_append, List.map_append]; exact ho, fun p hpp => ?_⟩
  rcases List.mem_append.1 hpp with hpp | hpp
  · exact (h3 p hpp).to hs fun _ _ h => h
  · simp at hpp
    subst hpp
    exact hp.to hs fun _ _ h => h
theorem Try.infoGrp : (Try.prog.info? 25).map (fun i => (i.zero, i.size, i.bytes)) = some (some (.agg #[.slice none 0 0]), 1, 24) := by kernel_rfl

/-- the first error of things, one by one -/
def goN (e : Nat → Int) : Nat → Nat → Int
  | 0, _ => 0
  | n + 1, k => if e k = 0 then goN e n (k + 1) else e k
theorem goN_all {e : Nat → Int} : ∀ (n k : Nat), (∀ j, k ≤ j → j < k + n → e j = 0) → goN e n k = 0
  | 0, _, _ => rfl
  | n + 1, k, h => by
    unfold goN
    rw [if_pos (h k (Nat.le_refl _) (by omega))]
    exact goN_all n (k + 1) (fun j h1 h2 => h j (by omega) (by omega))
theorem goN_hit {e : Nat → Int} : ∀ (n k i : Nat), k ≤ i → i < k + n → (∀ j, k ≤ j → j < i → e j = 0) → ¬ e i = 0 → goN e n k = e i
  | 0, _, _, h1, h2, _, _ => by omega
  | n + 1, k, i, h1, h2, h, hi => by
    unfold goN
    by_cases hk : k = i
    · subst hk; rw [if_neg hi]
    · rw [if_pos (h k (Nat.le_refl _) (by omega))]
      exact goN_hit n (k + 1) i (by omega) (by omega) (fun j h1 h2 => h j (by omega) h2) hi
theorem goN_zero {e : Nat → Int} : ∀ (n k : Nat), goN e n k = 0 → ∀ j, k ≤ j → j < k + n → e j = 0
  | 0, _, _, _, h1, h2 => by omega
  | n + 1, k, h, j, h1, h2 => by
    unfold goN at h
    by_cases hk : e k = 0
    · rw [if_pos hk] at h
      by_cases hj : j = k
      · subst hj; exact hk
      · exact goN_zero n (k + 1) h j (by omega) (by omega)
    · rw [if_neg hk] at h; exact absurd h hk

end Go.Proofs.Ytnpaejknoipicad
