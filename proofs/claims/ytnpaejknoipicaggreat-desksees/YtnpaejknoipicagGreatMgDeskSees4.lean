/-
  A region that draws its order, with one call that matters, reads and quiet calls beside it, and what the call answers put into new boxes: whatever order it draws.
-/
import Derived.Test.YtnpaejknoipicagGreatMgDeskSees3
import Derived.BigQuiet
import Derived.Test.YtnpaejknoipicagGreatMgDeskSees1

namespace Go.Proofs.YtnpaejknoipicagGreat
open Go.RowKit

/-- blocks of S that were there are as they were -/
def SameOn (S : Nat → Prop) (w w' : World) : Prop := w.heap.size ≤ w'.heap.size ∧ ∀ g, g < w.heap.size → S g → w'.heap[g]? = w.heap[g]?
theorem SameOn.of_below {S : Nat → Prop} {w w' : World} (h : Below w.heap.size w w') : SameOn S w w' := ⟨h.size, fun g hg _ => h.block g hg⟩
theorem SameOn.trans {S : Nat → Prop} {a b c : World} (h : SameOn S a b) (k : SameOn S b c) : SameOn S a c := ⟨Nat.le_trans h.1 k.1, fun g hg hs => (k.2 g (Nat.lt_of_lt_of_le hg h.1) hs).trans (h.2 g hg hs)⟩
theorem SameOn.grown {S : Nat → Prop} {w w' : World} {row : Option Nat} (h : w.grownBy w' row) (hr : ∀ g, S g → some g ≠ row) : SameOn S w w' := ⟨h.size, fun g hg hs => h.block g hg (hr g hs)⟩
theorem SameOn.setCell {S : Nat → Prop} {w : World} {a : Addr} (h : ∀ g, S g → g ≠ a.block) (v : Value) : SameOn S w (w.setCell a v) := ⟨by simp, fun g _ hs => Below.heap_setCell _ _ _ _ (h g hs)⟩
theorem SameOn.alloc {S : Nat → Prop} {w : World} (o : Obj) : SameOn S w (w.alloc o) := SameOn.of_below ((Below.refl _ w).alloc (Nat.le_refl _) _)
theorem SameOn.mono {S S' : Nat → Prop} {w w' : World} (h : SameOn S w w') (hs : ∀ g, S' g → S g) : SameOn S' w w' := ⟨h.1, fun g hg h2 => h.2 g hg (hs g h2)⟩
theorem SameOn.mono' {S S' : Nat → Prop} {w w' : World} (h : SameOn S w w') (hs : ∀ g, g < w.heap.size → S' g → S g) : SameOn S' w w' := ⟨h.1, fun g hg h2 => h.2 g hg (hs g hg h2)⟩
theorem SameOn.refl (S : Nat → Prop) (w : World) : SameOn S w w := ⟨Nat.le_refl _, fun _ _ _ => rfl⟩

def StrsIn (S : Nat → Prop) (w : World) (v : Value) (l : List ByteArray) : Prop := Strs w v l ∧ l.length ≤ 9223372036854775807 ∧ ∀ g, v.ownBlock = some g → 0 < l.length → S g ∧ g < w.heap.size
def At3In (S : Nat → Prop) (w : World) (b off : Nat) (f : Fr) : Prop := ∃ pv, w.cell? ⟨b, off, none⟩ = some (.int .i64 f.time) ∧ w.cell? ⟨b, off + 1, none⟩ = some (.bool f.key) ∧ w.cell? ⟨b, off + 2, none⟩ = some pv ∧ StrsIn S w pv f.parts
def FrsIn (S : Nat → Prop) (w : World) (v : Value) (l : List Fr) : Prop := ∃ ao c, v = .slice ao l.length c ∧ l.length ≤ c ∧ c ≤ 9223372036854775807 ∧ ∀ k, k < l.length → ∃ b off, ao = some ⟨b, off, none⟩ ∧ b < w.heap.size ∧ S b ∧ At3In S w b (off + k * 3) (l[k]?.getD Fr.zero)
def GrsIn (S : Nat → Prop) (w : World) (v : Value) (L : List (List Fr)) : Prop := ∃ ao c, v = .slice ao L.length c ∧ L.length ≤ c ∧ c ≤ 9223372036854775807 ∧ ∀ k, k < L.length → ∃ b off, ao = some ⟨b, off, none⟩ ∧ b < w.heap.size ∧ S b ∧ ∃ sv, w.cell? ⟨b, off + k, none⟩ = some sv ∧ FrsIn S w sv (L[k]?.getD [])

theorem StrsIn.to {S S' : Nat → Prop} {w w' : World} {v : Value} {l : List ByteArray} (h : StrsIn S w v l) (hs : SameOn S w w') (hm : ∀ g, g < w.heap.size → S g → S' g) : StrsIn S' w' v l := by
  obtain ⟨⟨h1, h2⟩, h3, h4⟩ := h
  refine ⟨⟨h1, ?_⟩, h3, fun g hg h0 => ⟨hm g (h4 g hg h0).2 (h4 g hg h0).1, Nat.lt_of_lt_of_le (h4 g hg h0).2 hs.1⟩⟩
  rcases h2 with h2 | ⟨b, off, c, rfl, hlt, hc⟩
  · exact .inl h2
  · by_cases h0 : 0 < l.length
    · exact .inr ⟨b, off, c, rfl, Nat.lt_of_lt_of_le hlt hs.1, fun j u hj => (World.cell?_of_block (hs.2 b hlt (h4 b rfl h0).1)).trans (hc j u hj)⟩
    · refine .inl ⟨by omega, some ⟨b, off, none⟩, c, by congr 1; omega⟩
theorem At3In.to {S S' : Nat → Prop} {w w' : World} {b off : Nat} {f : Fr} (h : At3In S w b off f) (hs : SameOn S w w') (hm : ∀ g, g < w.heap.size → S g → S' g) (hb : b < w.heap.size) (hS : S b) : At3In S' w' b off f := by
  obtain ⟨pv, h1, h2, h3, h4⟩ := h
  have g : ∀ j, w'.cell? ⟨b, j, none⟩ = w.cell? ⟨b, j, none⟩ := fun j => World.cell?_of_block (hs.2 b hb hS)
  exact ⟨pv, (g _).trans h1, (g _).trans h2, (g _).trans h3, h4.to hs hm⟩
theorem FrsIn.to {S S' : Nat → Prop} {w w' : World} {v : Value} {l : List Fr} (h : FrsIn S w v l) (hs : SameOn S w w') (hm : ∀ g, g < w.heap.size → S g → S' g) : FrsIn S' w' v l := by
  obtain ⟨ao, c, hv, h1, h2, hc⟩ := h
  refine ⟨ao, c, hv, h1, h2, fun k hk => ?_⟩
  obtain ⟨b, off, e1, e2, e3, e4⟩ := hc k hk
  exact ⟨b, off, e1, Nat.lt_of_lt_of_le e2 hs.1, hm b e2 e3, e4.to hs hm e2 e3⟩
theorem GrsIn.to {S S' : Nat → Prop} {w w' : World} {v : Value} {L : List (List Fr)} (h : GrsIn S w v L) (hs : SameOn S w w') (hm : ∀ g, g < w.heap.size → S g → S' g) : GrsIn S' w' v L := by
  obtain ⟨ao, c, hv, h1, h2, hc⟩ := h
  refine ⟨ao, c, hv, h1, h2, fun k hk => ?_⟩
  obtain ⟨b, off, e1, e2, e3, sv, e4, e5⟩ := hc k hk
  exact ⟨b, off, e1, Nat.lt_of_lt_of_le e2 hs.1, hm b e2 e3, sv, (World.cell?_of_block (hs.2 b e2 e3)).trans e4, e5.to hs hm⟩
theorem StrsIn.below {S : Nat → Prop} {w w' : World} {v : Value} {l : List ByteArray} (h : StrsIn S w v l) (hb : Below w.heap.size w w') : StrsIn S w' v l := h.to (SameOn.of_below hb) fun _ _ h => h
theorem FrsIn.below {S : Nat → Prop} {w w' : World} {v : Value} {l : List Fr} (h : FrsIn S w v l) (hb : Below w.heap.size w w') : FrsIn S w' v l := h.to (SameOn.of_below hb) fun _ _ h => h
theorem GrsIn.below {S : Nat → Prop} {w w' : World} {v : Value} {L : List (List Fr)} (h : GrsIn S w v L) (hb : Below w.heap.size w w') : GrsIn S w' v L := h.to (SameOn.of_below hb) fun _ _ h => h
theorem FrsIn.mono {S S' : Nat → Prop} {w : World} {v : Value} {l : List Fr} (h : FrsIn S w v l) (hm : ∀ g, g < w.heap.size → S g → S' g) : FrsIn S' w v l := h.to (SameOn.refl _ _) hm
theorem StrsIn.mono {S S' : Nat → Prop} {w : World} {v : Value} {l : List ByteArray} (h : StrsIn S w v l) (hm : ∀ g, g < w.heap.size → S g → S' g) : StrsIn S' w v l := h.to (SameOn.refl _ _) hm
theorem GrsIn.mono {S S' : Nat → Prop} {w : World} {v : Value} {L : List (List Fr)} (h : GrsIn S w v L) (hm : ∀ g, g < w.heap.size → S g → S' g) : GrsIn S' w v L := h.to (SameOn.refl _ _) hm
theorem FrsIn.alloc {S : Nat → Prop} {w : World} {v : Value} {l : List Fr} (h : FrsIn S w v l) (o : Obj) : FrsIn S (w.alloc o) v l := h.below ((Below.refl _ w).alloc (Nat.le_refl _) _)
theorem StrsIn.alloc {S : Nat → Prop} {w : World} {v : Value} {l : List ByteArray} (h : StrsIn S w v l) (o : Obj) : StrsIn S (w.alloc o) v l := h.below ((Below.refl _ w).alloc (Nat.le_refl _) _)
theorem GrsIn.alloc {S : Nat → Prop} {w : World} {v : Value} {L : List (List Fr)} (h : GrsIn S w v L) (o : Obj) : GrsIn S (w.alloc o) v L := h.below ((Below.refl _ w).alloc (Nat.le_refl _) _)
theorem StrsIn.nil (S : Nat → Prop) (w : World) : StrsIn S w (.slice none 0 0) [] := ⟨Strs.nil w, Nat.zero_le _, fun g hg => by simp [Value.ownBlock] at hg⟩
theorem FrsIn.nil (S : Nat → Prop) (w : World) : FrsIn S w (.slice none 0 0) [] := ⟨none, 0, rfl, Nat.le_refl _, Nat.zero_le _, fun _ hk => absurd hk (Nat.not_lt_zero _)⟩
theorem GrsIn.nil (S : Nat → Prop) (w : World) : GrsIn S w (.slice none 0 0) [] := ⟨none, 0, rfl, Nat.le_refl _, Nat.zero_le _, fun _ hk => absurd hk (Nat.not_lt_zero _)⟩
theorem FrsIn.len {S : Nat → Prop} {w : World} {v : Value} {l : List Fr} (h : FrsIn S w v l) : ∃ a c, v = .slice a l.length c ∧ l.length ≤ c ∧ l.length ≤ 9223372036854775807 := by
  obtain ⟨ao, c, hv, h1, h2, _⟩ := h
  exact ⟨ao, c, hv, h1, by omega⟩
theorem GrsIn.len {S : Nat → Prop} {w : World} {v : Value} {L : List (List Fr)} (h : GrsIn S w v L) : ∃ a c, v = .slice a L.length c ∧ L.length ≤ c ∧ L.length ≤ 9223372036854775807 := by
  obtain ⟨ao, c, hv, h1, h2, _⟩ := h
  exact ⟨ao, c, hv, h1, by omega⟩
/-- rows of the call's own, that may grow: what is in them lies in blocks of S -/
def OwnFrs (base : Nat) (S : Nat → Prop) (w : World) (v : Value) (l : List Fr) : Prop := ∃ ps : List (Fr × Value), ps.map Prod.fst = l ∧ w.ownsRow base 98 3 v ps.length (frCells ps) ∧ ∀ p ∈ ps, StrsIn S w p.2 p.1.parts
def OwnGrs (base : Nat) (S : Nat → Prop) (w : World) (v : Value) (L : List (List Fr)) : Prop := ∃ ps : List (List Fr × Value), ps.map Prod.fst = L ∧ w.ownsRow base 30 1 v ps.length (ps.map Prod.snd) ∧ ∀ p ∈ ps, FrsIn S w p.2 p.1
theorem OwnFrs.to {base : Nat} {S S' : Nat → Prop} {w w' : World} {v : Value} {l : List Fr} (h : OwnFrs base S w v l) (hs : SameOn S w w') (hm : ∀ g, g < w.heap.size → S g → S' g) (ho : ∀ g, v.ownBlock = some g → w'.heap[g]? = w.heap[g]?) : OwnFrs base S' w' v l := by
  obtain ⟨ps, h1, h2, h3⟩ := h
  exact ⟨ps, h1, owns_same h2 ho, fun p hp => (h3 p hp).to hs hm⟩
theorem OwnGrs.to {base : Nat} {S S' : Nat → Prop} {w w' : World} {v : Value} {L : List (List Fr)} (h : OwnGrs base S w v L) (hs : SameOn S w w') (hm : ∀ g, g < w.heap.size → S g → S' g) (ho : ∀ g, v.ownBlock = some g → w'.heap[g]? = w.heap[g]?) : OwnGrs base S' w' v L := by
  obtain ⟨ps, h1, h2, h3⟩ := h
  exact ⟨ps, h1, owns_same h2 ho, fun p hp => (h3 p hp).to hs hm⟩
theorem OwnFrs.below {base : Nat} {S : Nat → Prop} {w w' : World} {v : Value} {l : List Fr} (h : OwnFrs base S w v l) (hb : Below w.heap.size w w') : OwnFrs base S w' v l :=
  h.to (SameOn.of_below hb) (fun _ _ h => h) (fun g hg => by obtain ⟨ps, _, h2, _⟩ := h; exact hb.block g (h2.lt g hg).2)
theorem OwnGrs.below {base : Nat} {S : Nat → Prop} {w w' : World} {v : Value} {L : List (List Fr)} (h : OwnGrs base S w v L) (hb : Below w.heap.size w w') : OwnGrs base S w' v L :=
  h.to (SameOn.of_below hb) (fun _ _ h => h) (fun g hg => by obtain ⟨ps, _, h2, _⟩ := h; exact hb.block g (h2.lt g hg).2)
theorem OwnFrs.nil (base : Nat) (S : Nat → Prop) (w : World) : OwnFrs base S w (.slice none 0 0) [] := ⟨[], rfl, World.ownsRow_nil _ _ _ _, fun _ hp => absurd hp List.not_mem_nil⟩
theorem OwnGrs.nil (base : Nat) (S : Nat → Prop) (w : World) : OwnGrs base S w (.slice none 0 0) [] := ⟨[], rfl, World.ownsRow_nil _ _ _ _, fun _ hp => absurd hp List.not_mem_nil⟩
theorem OwnFrs.lt {base : Nat} {S : Nat → Prop} {w : World} {v : Value} {l : List Fr} (h : OwnFrs base S w v l) : ∀ g, v.ownBlock = some g → base ≤ g ∧ g < w.heap.size := fun g hg => by obtain ⟨ps, _, h2, _⟩ := h; exact h2.lt g hg
theorem OwnGrs.lt {base : Nat} {S : Nat → Prop} {w : World} {v : Value} {L : List (List Fr)} (h : OwnGrs base S w v L) : ∀ g, v.ownBlock = some g → base ≤ g ∧ g < w.heap.size := fun g hg => by obtain ⟨ps, _, h2, _⟩ := h; exact h2.lt g hg
theorem OwnFrs.blk {base : Nat} {S : Nat → Prop} {w : World} {v : Value} {l : List Fr} (h : OwnFrs base S w v l) : ∀ g, v.ownBlock = some g → ∃ cur, Blk w g cur 98 := fun g hg => by obtain ⟨ps, _, h2, _⟩ := h; exact (owns_blk h2 hg).2
theorem OwnGrs.blk {base : Nat} {S : Nat → Prop} {w : World} {v : Value} {L : List (List Fr)} (h : OwnGrs base S w v L) : ∀ g, v.ownBlock = some g → ∃ cur, Blk w g cur 30 := fun g hg => by obtain ⟨ps, _, h2, _⟩ := h; exact (owns_blk h2 hg).2
theorem owns_cap {w : World} {base : Nat} {e : TypeId} {size n : Nat} {v : Value} {xs : List Value} (h : w.ownsRow base e size v n xs) : ∃ a c, v = .slice a n c ∧ n ≤ c ∧ c ≤ 9223372036854775807 := by
  obtain ⟨_, ⟨rfl, rfl⟩ | ⟨g, cap, cur, rfl, _, _, h1, h2, _⟩⟩ := h
  · exact ⟨none, 0, rfl, Nat.le_refl _, Nat.zero_le _⟩
  · exact ⟨_, cap, rfl, h1, by unfold maxLen at h2; omega⟩
theorem OwnFrs.frsIn {base : Nat} {S S' : Nat → Prop} {w : World} {v : Value} {l : List Fr} (h : OwnFrs base S w v l) (hm : ∀ g, g < w.heap.size → S g → S' g) (hv : ∀ g, v.ownBlock = some g → S' g) : FrsIn S' w v l := by
  obtain ⟨ps, hp, ho, hg⟩ := h
  have hll : l.length = ps.length := by rw [← hp, List.length_map]
  obtain ⟨a, c, e, h1, h2⟩ := owns_cap ho
  obtain ⟨_, ⟨h0, a', c', e'⟩ | ⟨b, off, c', e', hb, hc⟩⟩ := Sl.of_owns ho
  · exact ⟨a, c, by rw [hll]; exact e, by omega, h2, fun k hk => by omega⟩
  · rw [e] at e'
    injection e' with q1 q2 q3
    subst q1
    refine ⟨_, c, by rw [hll]; exact e, by omega, h2, fun k hk => ⟨b, off, rfl, hb, hv b (by rw [e]; rfl), ?_⟩⟩
    have hk' : k < ps.length := by omega
    have hpk : ps[k]? = some ps[k] := List.getElem?_eq_getElem hk'
    have hlk : l[k]?.getD Fr.zero = ps[k].1 := by rw [← hp, List.getElem?_map, hpk]; rfl
    have g : ∀ i u, i < 3 → [Value.int .i64 ps[k].1.time, .bool ps[k].1.key, ps[k].2][i]? = some u → w.cell? ⟨b, off + k * 3 + i, none⟩ = some u := fun i u hi hu => by
      rw [Nat.add_assoc]
      exact hc (k * 3 + i) u (by rw [frCells_at ps k i _ hi hpk]; exact hu)
    rw [hlk]
    exact ⟨ps[k].2, g 0 _ (by omega) rfl, g 1 _ (by omega) rfl, g 2 _ (by omega) rfl, (hg ps[k] (List.getElem_mem hk')).mono hm⟩
theorem OwnGrs.grsIn {base : Nat} {S S' : Nat → Prop} {w : World} {v : Value} {L : List (List Fr)} (h : OwnGrs base S w v L) (hm : ∀ g, g < w.heap.size → S g → S' g) (hv : ∀ g, v.ownBlock = some g → S' g) : GrsIn S' w v L := by
  obtain ⟨ps, hp, ho, hg⟩ := h
  have hll : L.length = ps.length := by rw [← hp, List.length_map]
  obtain ⟨a, c, e, h1, h2⟩ := owns_cap ho
  obtain ⟨_, ⟨h0, a', c', e'⟩ | ⟨b, off, c', e', hb, hc⟩⟩ := Sl.of_owns ho
  · exact ⟨a, c, by rw [hll]; exact e, by omega, h2, fun k hk => by omega⟩
  · rw [e] at e'
    injection e' with q1 q2 q3
    subst q1
    refine ⟨_, c, by rw [hll]; exact e, by omega, h2, fun k hk => ⟨b, off, rfl, hb, hv b (by rw [e]; rfl), ?_⟩⟩
    have hk' : k < ps.length := by omega
    have hpk : ps[k]? = some ps[k] := List.getElem?_eq_getElem hk'
    have hlk : L[k]?.getD [] = ps[k].1 := by rw [← hp, List.getElem?_map, hpk]; rfl
    rw [hlk]
    exact ⟨ps[k].2, hc k _ (by rw [List.getElem?_map, hpk]; rfl), (hg ps[k] (List.getElem_mem hk')).mono hm⟩
/-- one more, behind append -/
theorem OwnFrs.snoc {base : Nat} {S : Nat → Prop} {w w' : World} {v v' : Value} {l : List Fr} {f : Fr} {pv : Value} {ps : List (Fr × Value)} (h1 : ps.map Prod.fst = l) (h3 : ∀ p ∈ ps, StrsIn S w p.2 p.1.parts) (hp : StrsIn S w pv f.parts) (ho : w'.ownsRow base 98 3 v' (ps.length + 1) (frCells ps ++ [.int .i64 f.time, .bool f.key, pv])) (hg : w.grownBy w' v.ownBlock) (hv : ∀ g, S g → some g ≠ v.ownBlock) : OwnFrs base S w' v' (l ++ [f]) := by
  have hs : SameOn S w w' := SameOn.grown hg hv
  refine ⟨ps ++ [(f, pv)], by rw [List.map_append, h1]; rfl, by rw [List.length_append, frCells_append]; exact ho, fun p hpp => ?_⟩
  rcases List.mem_append.1 hpp with hpp | hpp
  · exact (h3 p hpp).to hs fun _ _ h => h
  · simp at hpp
    subst hpp
    exact hp.to hs fun _ _ h => h
theorem OwnGrs.snoc {base : Nat} {S : Nat → Prop} {w w' : World} {v v' : Value} {L : List (List Fr)} {l : List Fr} {sv : Value} {ps : List (List Fr × Value)} (h1 : ps.map Prod.fst = L) (h3 : ∀ p ∈ ps, FrsIn S w p.2 p.1) (hp : FrsIn S w sv l) (ho : w'.ownsRow base 30 1 v' (ps.length + 1) (ps.map Prod.snd ++ [sv])) (hg : w.grownBy w' v.ownBlock) (hv : ∀ g, S g → some g ≠ v.ownBlock) : OwnGrs base S w' v' (L ++ [l]) := by
  have hs : SameOn S w w' := SameOn.grown hg hv
  refine ⟨ps ++ [(l, sv)], by rw [List.map_append, h1]; rfl, by rw [List.length_append, List.map_append]; exact ho, fun p hpp => ?_⟩
  rcases List.mem_append.1 hpp with hpp | hpp
  · exact (h3 p hpp).to hs fun _ _ h => h
  · simp at hpp
    subst hpp
    exact hp.to hs fun _ _ h => h
theorem Tryz.infoGrp : (Tryz.prog.info? 30).map (fun i => (i.zero, i.size, i.bytes)) = some (some (.agg #[.slice none 0 0]), 1, 24) := by kernel_rfl

/-- the first error of things, one by one -/
def goN (e : Nat → Int) : Nat → Nat → Int
  | 0, _ => 0
  | n + 1, k => if e k = 0 then goN e n (k + 1) else e k
theorem goN_all {e : Nat → Int} : ∀ (n k : Nat), (∀ j, k ≤ j → j < k + n → e j = 0) → goN e n k = 0
  | 0, _, _ => rfl
  | n + 1, k, h => by
    unfold goN
    rw [if_pos (h k (Nat.le_refl _) (by omega))]
    exact goN_all n (k + 1) (fun j h1 h2 => h j (by omega) (by omega))
theorem goN_hit {e : Nat → Int} : ∀ (n k i : Nat), k ≤ i → i < k + n → (∀ j, k ≤ j → j < i → e j = 0) → ¬ e i = 0 → goN e n k = e i
  | 0, _, _, h1, h2, _, _ => by omega
  | n + 1, k, i, h1, h2, h, hi => by
    unfold goN
    by_cases hk : k = i
    · subst hk; rw [if_neg hi]
    · rw [if_pos (h k (Nat.le_refl _) (by omega))]
      exact goN_hit n (k + 1) i (by omega) (by omega) (fun j h1 h2 => h j (by omega) h2) hi
theorem goN_zero {e : Nat → Int} : ∀ (n k : Nat), goN e n k = 0 → ∀ j, k ≤ j → j < k + n → e j = 0
  | 0, _, _, _, h1, h2 => by omega
  | n + 1, k, h, j, h1, h2 => by
    unfold goN at h
    by_cases hk : e k = 0
    · rw [if_pos hk] at h
      by_cases hj : j = k
      · subst hj; exact hk
      · exact goN_zero n (k + 1) h j (by omega) (by omega)
    · rw [if_neg hk] at h; exact absurd h hk

end Go.Proofs.YtnpaejknoipicagGreat

namespace Go.Proofs.YtnpaejknoipicagGreat

abbrev frAt (l : List Fr) (k : Nat) : Fr := l[k]?.getD Fr.zero
def Fr.chk (f : Fr) : Int := chkF f.time f.parts
/-- does the frame at a place begin, or go on with, a group? -/
def inPl (l : List Fr) (k : Nat) : Bool := if k = 0 then (frAt l k).key else !(frAt l k).key && decide ((frAt l (k - 1)).time ≤ (frAt l k).time)
def gerr (l : List Fr) (k : Nat) : Int := if (frAt l k).chk = 0 then (if inPl l k then 0 else 4) else (frAt l k).chk
/-- what Check says of a group -/
def gchk (l : List Fr) : Int := if l.length = 0 then 5 else if 6 < l.length then 2 else goN (gerr l) l.length 0
/-- bytes of texts, of a group -/
def szP (l : List ByteArray) : Nat := (l.map ByteArray.size).sum
def szG (l : List Fr) : Nat := (l.map fun f => szP f.parts).sum
def gsize (l : List Fr) : Nat := if gchk l = 0 then szG l else 0

theorem gerr_zero {l : List Fr} {k : Nat} : gerr l k = 0 ↔ (frAt l k).chk = 0 ∧ inPl l k = true := by
  unfold gerr
  by_cases h : (frAt l k).chk = 0
  · rw [if_pos h]
    cases inPl l k <;> simp [h]
  · rw [if_neg h]; simp [h]
theorem gchk_zero {l : List Fr} : gchk l = 0 ↔ 0 < l.length ∧ l.length ≤ 6 ∧ ∀ k, k < l.length → (frAt l k).chk = 0 ∧ inPl l k = true := by
  unfold gchk
  by_cases h0 : l.length = 0
  · rw [if_pos h0]; constructor
    · intro h; cases h
    · intro h; omega
  · rw [if_neg h0]
    by_cases h6 : 6 < l.length
    · rw [if_pos h6]; constructor
      · intro h; cases h
      · intro h; omega
    · rw [if_neg h6]
      constructor
      · intro h
        exact ⟨by omega, by omega, fun k hk => gerr_zero.1 (goN_zero _ _ h k (Nat.zero_le _) (by omega))⟩
      · rintro ⟨_, _, h⟩
        exact goN_all _ _ (fun j _ hj => gerr_zero.2 (h j (by omega)))
theorem chkF_zero {t : Int} {l : List ByteArray} (h : chkF t l = 0) : 0 ≤ t ∧ t ≤ 1000000 ∧ 0 < l.length ∧ l.length ≤ 4 ∧ ∀ s ∈ l, s.size ≤ 8 := by
  unfold chkF at h
  by_cases h1 : t < 0 ∨ 1000000 < t
  · rw [if_pos h1] at h; cases h
  rw [if_neg h1] at h
  by_cases h2 : l.length = 0
  · rw [if_pos h2] at h; cases h
  rw [if_neg h2] at h
  by_cases h3 : 4 < l.length
  · rw [if_pos h3] at h; cases h
  rw [if_neg h3] at h
  cases h4 : l.any longB
  · refine ⟨by omega, by omega, by omega, by omega, fun s hs => ?_⟩
    have := List.any_eq_false.1 h4 s hs
    simp [longB] at this; omega
  · rw [h4] at h; simp at h
theorem szP_le {l : List ByteArray} (h : ∀ s ∈ l, s.size ≤ 8) : szP l ≤ l.length * 8 := by
  induction l with
  | nil => simp [szP]
  | cons s r ih =>
    have h1 := h s List.mem_cons_self
    have h2 := ih (fun t ht => h t (List.mem_cons_of_mem _ ht))
    simp [szP] at h2 ⊢; omega
theorem szP_take (l : List ByteArray) (k : Nat) (hk : k < l.length) : szP (l.take (k + 1)) = szP (l.take k) + (l[k]?.getD ByteArray.empty).size := by
  unfold szP
  rw [take_one hk ByteArray.empty, List.map_append, List.sum_append]; simp
theorem szG_take (l : List Fr) (k : Nat) (hk : k < l.length) : szG (l.take (k + 1)) = szG (l.take k) + szP (frAt l k).parts := by
  unfold szG
  rw [take_one hk Fr.zero, List.map_append, List.sum_append]; simp
theorem szG_le {l : List Fr} (h : ∀ k, k < l.length → szP (frAt l k).parts ≤ 32) : ∀ n, n ≤ l.length → szG (l.take n) ≤ n * 32
  | 0, _ => by simp [szG]
  | n + 1, hn => by
    rw [szG_take l n (by omega)]
    have := szG_le h n (by omega)
    have := h n (by omega)
    omega
theorem fr_szP {f : Fr} (h : f.chk = 0) : szP f.parts ≤ 32 := by
  obtain ⟨_, _, _, h4, h5⟩ := chkF_zero h
  have := szP_le h5
  omega

/-- the open group behind a frame -/
def growG (g : List Fr) (f : Fr) : List Fr := if f.key then [f] else if g.length = 0 ∨ 6 ≤ g.length ∨ f.time < (frAt g (g.length - 1)).time then g else g ++ [f]
def stepG (s : List (List Fr) × List Fr) (f : Fr) : List (List Fr) × List Fr := (if f.key && decide (0 < s.2.length) then s.1 ++ [s.2] else s.1, growG s.2 f)
def upG (l : List Fr) (k : Nat) : List (List Fr) × List Fr := (l.take k).foldl stepG ([], [])
def groupsE (l : List Fr) : Int := if 100 < l.length then 2 else goN (fun k => (frAt l k).chk) l.length 0
def groupsR (l : List Fr) : List (List Fr) × List Fr := if groupsE l = 0 then upG l l.length else ([], [])
theorem upG_succ (l : List Fr) (k : Nat) (hk : k < l.length) : upG l (k + 1) = stepG (upG l k) (frAt l k) := by
  unfold upG
  rw [take_one hk Fr.zero, List.foldl_append]
  rfl
theorem growG_len (g : List Fr) (f : Fr) (h : g.length ≤ 6) : (growG g f).length ≤ 6 := by
  unfold growG
  split
  · simp
  · split
    · exact h
    · simp; omega
theorem upG_len (l : List Fr) : ∀ k, k ≤ l.length → (upG l k).2.length ≤ 6 ∧ (upG l k).1.length ≤ k
  | 0, _ => by simp [upG]
  | k + 1, hk => by
    obtain ⟨h1, h2⟩ := upG_len l k (by omega)
    rw [upG_succ l k (by omega)]
    refine ⟨growG_len _ _ h1, ?_⟩
    simp only [stepG]
    split
    · simp; omega
    · omega
end Go.Proofs.YtnpaejknoipicagGreat

namespace Go.Proofs.YtnpaejknoipicagGreat

theorem frAt_append (l m : List Fr) (k : Nat) : frAt (l ++ m) k = if k < l.length then frAt l k else frAt m (k - l.length) := by
  unfold frAt
  split
  · rename_i h; rw [List.getElem?_append_left h]
  · rename_i h; rw [List.getElem?_append_right (by omega)]
end Go.Proofs.YtnpaejknoipicagGreat

namespace Go.Proofs.YtnpaejknoipicagGreat

theorem gchk_one {f : Fr} (h : f.chk = 0) (hk : f.key = true) : gchk [f] = 0 := by
  refine gchk_zero.2 ⟨by simp, by simp, fun k hk' => ?_⟩
  have : k = 0 := by simpa using hk'
  subst this
  exact ⟨h, by unfold inPl; rw [if_pos rfl]; exact hk⟩
theorem gchk_snoc {o : List Fr} {f : Fr} (ho : gchk o = 0) (h6 : o.length < 6) (h : f.chk = 0) (hk : f.key = false) (ht : (frAt o (o.length - 1)).time ≤ f.time) : gchk (o ++ [f]) = 0 := by
  obtain ⟨h1, _, h3⟩ := gchk_zero.1 ho
  refine gchk_zero.2 ⟨by simp, by simp; omega, fun k hk' => ?_⟩
  simp at hk'
  by_cases hl : k < o.length
  · have e : frAt (o ++ [f]) k = frAt o k := by rw [frAt_append, if_pos hl]
    have := h3 k hl
    rw [e]
    refine ⟨this.1, ?_⟩
    have h2 := this.2
    unfold inPl at h2 ⊢
    rw [e]
    by_cases h0 : k = 0
    · rw [if_pos h0] at h2 ⊢; exact h2
    · rw [if_neg h0] at h2 ⊢
      rw [frAt_append, if_pos (by omega)]; exact h2
  · have e0 : k = o.length := by omega
    subst e0
    have e : frAt (o ++ [f]) o.length = f := by rw [frAt_append, if_neg (by omega)]; simp [frAt]
    rw [e]
    refine ⟨h, ?_⟩
    unfold inPl
    rw [if_neg (by omega), e, hk, frAt_append, if_pos (by omega)]
    simp [ht]
def RightG (s : List (List Fr) × List Fr) : Prop := (∀ g ∈ s.1, gchk g = 0) ∧ (s.2 = [] ∨ gchk s.2 = 0)
theorem stepG_right {s : List (List Fr) × List Fr} {f : Fr} (h : RightG s) (hf : f.chk = 0) : RightG (stepG s f) := by
  obtain ⟨A, o⟩ := s
  obtain ⟨h1, h2⟩ := h
  simp only at h1 h2
  constructor
  · simp only [stepG]
    split
    · rename_i hc
      simp only [Bool.and_eq_true, decide_eq_true_eq] at hc
      intro g hg
      rcases List.mem_append.1 hg with hg | hg
      · exact h1 g hg
      · simp at hg; subst hg
        rcases h2 with h2 | h2
        · rw [h2] at hc; simp at hc
        · exact h2
    · exact h1
  · simp only [stepG]
    unfold growG
    split
    · rename_i hk; right; exact gchk_one hf hk
    · split
      · exact h2
      · rename_i hk hc
        right
        rcases h2 with h2 | h2
        · rw [h2] at hc; simp at hc
        · exact gchk_snoc h2 (by omega) hf (by simpa using hk) (by omega)
/-- some of what came, in order; each whole one is there -/
inductive SubF : List Fr → List Fr → Prop
  | nil {l : List Fr} : (∀ f ∈ l, f.key = false) → SubF [] l
  | take {f : Fr} {X l : List Fr} : SubF X l → SubF (f :: X) (f :: l)
  | skip {f : Fr} {X l : List Fr} : f.key = false → SubF X l → SubF X (f :: l)
theorem SubF.drop {f : Fr} (hf : f.key = false) : ∀ {l X : List Fr}, SubF (f :: X) l → SubF X l
  | [], _, h => by cases h
  | g :: l, X, h => by
    cases h with
    | take h => exact .skip hf h
    | skip h1 h2 => exact .skip h1 (SubF.drop hf h2)
theorem SubF.none {l : List Fr} (h : SubF [] l) : ∀ f ∈ l, f.key = false := by
  induction l with
  | nil => intro f hf; cases hf
  | cons g r ih =>
    cases h with
    | nil h => exact h
    | skip h1 h2 =>
      intro f hf
      rcases List.mem_cons.1 hf with rfl | hf
      · exact h1
      · exact ih h2 f hf
end Go.Proofs.YtnpaejknoipicagGreat

namespace Go.Proofs.YtnpaejknoipicagGreat

abbrev grAt (L : List (List Fr)) (k : Nat) : List Fr := L[k]?.getD []
/-- bytes of groups -/
def sumG (L : List (List Fr)) : Nat := (L.map gsize).sum
/-- too many bytes? -/
def tooB (L : List (List Fr)) : Bool := decide (1 < L.length) && decide (100 < sumG L)
/-- too many, or too much -/
def fullB (L : List (List Fr)) : Bool := decide (5 < L.length) || tooB L
/-- what Check says of a store -/
def stchk (first : Int) (L : List (List Fr)) (O : List Fr) : Int :=
  if first < 0 then 3 else if 100000 < first then 3 else if 5 < L.length then 2 else
    if goN (fun k => gchk (grAt L k)) L.length 0 = 0 then (if tooB L then 2 else if 0 < O.length then gchk O else 0) else goN (fun k => gchk (grAt L k)) L.length 0

theorem gsize_le (g : List Fr) : gsize g ≤ 192 := by
  unfold gsize
  by_cases h : gchk g = 0
  · rw [if_pos h]
    obtain ⟨_, h2, h3⟩ := gchk_zero.1 h
    have := szG_le (l := g) (fun k hk => fr_szP (h3 k hk).1) g.length (Nat.le_refl _)
    rw [List.take_length] at this
    omega
  · rw [if_neg h]; omega
theorem sumG_take (L : List (List Fr)) (k : Nat) (hk : k < L.length) : sumG (L.take (k + 1)) = sumG (L.take k) + gsize (grAt L k) := by
  unfold sumG
  rw [take_one hk [], List.map_append, List.sum_append]; simp
theorem stchk_zero {first : Int} {L : List (List Fr)} {O : List Fr} : stchk first L O = 0 ↔ 0 ≤ first ∧ first ≤ 100000 ∧ L.length ≤ 5 ∧ (∀ g ∈ L, gchk g = 0) ∧ tooB L = false ∧ (O = [] ∨ gchk O = 0) := by
  unfold stchk
  by_cases h1 : first < 0
  · rw [if_pos h1]; constructor
    · intro h; cases h
    · intro h; omega
  rw [if_neg h1]
  by_cases h2 : 100000 < first
  · rw [if_pos h2]; constructor
    · intro h; cases h
    · intro h; omega
  rw [if_neg h2]
  by_cases h3 : 5 < L.length
  · rw [if_pos h3]; constructor
    · intro h; cases h
    · intro h; omega
  rw [if_neg h3]
  have hall : goN (fun k => gchk (grAt L k)) L.length 0 = 0 ↔ ∀ g ∈ L, gchk g = 0 := by
    constructor
    · intro h g hg
      obtain ⟨k, hk, e⟩ := List.mem_iff_getElem.1 hg
      have := goN_zero _ _ h k (Nat.zero_le _) (by omega)
      rw [show grAt L k = g by simp [grAt, List.getElem?_eq_getElem hk, e]] at this
      exact this
    · intro h
      refine goN_all _ _ (fun j _ hj => h _ ?_)
      have hj' : j < L.length := by omega
      rw [show grAt L j = L[j] by simp [grAt, List.getElem?_eq_getElem hj']]
      exact List.getElem_mem _
  by_cases h4 : goN (fun k => gchk (grAt L k)) L.length 0 = 0
  · rw [if_pos h4]
    have h5 := hall.1 h4
    cases h6 : tooB L
    · simp only [Bool.false_eq_true, if_false]
      by_cases h7 : 0 < O.length
      · rw [if_pos h7]
        have hne : ¬ O = [] := fun e => by rw [e] at h7; simp at h7
        constructor
        · intro h; exact ⟨by omega, by omega, by omega, h5, trivial, .inr h⟩
        · rintro ⟨_, _, _, _, _, h | h⟩
          · exact absurd h hne
          · exact h
      · rw [if_neg h7]
        have he : O = [] := List.eq_nil_of_length_eq_zero (by omega)
        exact ⟨fun _ => ⟨by omega, by omega, by omega, h5, trivial, .inl he⟩, fun _ => rfl⟩
    · simp only [if_true]
      constructor
      · intro h; cases h
      · rintro ⟨_, _, _, _, h, _⟩; cases h
  · rw [if_neg h4]
    constructor
    · intro h; exact absurd h h4
    · rintro ⟨_, _, _, h, _⟩; exact absurd (hall.2 h) h4

end Go.Proofs.YtnpaejknoipicagGreat

namespace Go.Proofs.YtnpaejknoipicagGreat
open Go.RowKit

set_option maxHeartbeats 1600000 in
theorem isInPlace_any (S : Nat → Prop) (v : Value) (l : List Fr) (k : Nat) (w : World) (hv : FrsIn S w v l) (hk : k < l.length) :
    Calls Tryz.prog 157 #[v, .int .i64 k] w fun e w' => e = .returned (.bool (inPl l k)) ∧ Below w.heap.size w w' := by
  obtain ⟨ao, c, hva, h1, h2, hc⟩ := hv
  obtain ⟨b, off, rfl, hb, _, pv, c0, c1, _⟩ := hc k hk
  obtain ⟨n, hn⟩ : ∃ n, n = l.length := ⟨_, rfl⟩
  rw [← hn] at hva hk h1
  have hki : (k : Int) < (n : Int) := by omega
  unfold inPl
  by_cases h0 : k = 0
  · rw [if_pos h0]
    subst h0
    simp only [Nat.zero_mul, Nat.add_zero] at c0 c1
    obtain ⟨q, hq⟩ : ∃ q, q = (frAt l 0).key := ⟨_, rfl⟩
    rw [← hq] at c1 ⊢
    subst hva
    clear hn hc hq
    cases q
    all_goals
      go_enter Tryz.func157, Tryz.ntmps157
      go_wp2_with fail
      go_quiet (fail)
      go_wp2
      go_ret
      exact ⟨rfl, below_drewN (Below.refl _ _) _⟩
  · rw [if_neg h0]
    obtain ⟨b', off', e1, _, _, pv', d0, _⟩ := hc (k - 1) (by omega)
    injection e1 with e1
    injection e1 with e1 e2
    subst e1 e2
    obtain ⟨k1, hk1⟩ : ∃ k1, k1 = k - 1 := ⟨_, rfl⟩
    rw [← hk1] at d0 ⊢
    have hk1i : (k : Int) - 1 = (k1 : Int) := by omega
    have hk1l : (k1 : Int) < (n : Int) := by omega
    have hk1w : IntKind.i64.wrap (k1 : Int) = (k1 : Int) := by rw [IntKind.wrap_i64]; omega
    have hk0i : ((k : Int) == 0) = false := by simpa using h0
    obtain ⟨q, hq⟩ : ∃ q, q = (frAt l k).key := ⟨_, rfl⟩
    obtain ⟨t, ht⟩ : ∃ t, t = (frAt l k).time := ⟨_, rfl⟩
    obtain ⟨t', ht'⟩ : ∃ t', t' = (frAt l k1).time := ⟨_, rfl⟩
    rw [← hq, ← ht, ← ht']
    rw [← hq] at c1
    rw [← ht] at c0
    rw [← ht'] at d0
    subst hva
    clear hn hc hq ht ht' hk1 h0
    cases q
    all_goals
      go_enter Tryz.func157, Tryz.ntmps157
      go_wp2_with fail
      go_quiet (fail)
      go_wp2
      go_ret
      exact ⟨by simp, below_drewN (Below.refl _ _) _⟩

set_option maxHeartbeats 2000000 in
theorem groupCheck_any (S : Nat → Prop) (v : Value) (l : List Fr) (w : World) (hv : FrsIn S w v l) :
    Calls Tryz.prog 134 #[.agg #[v]] w fun e w' => e = .returned (.int .i64 (gchk l)) ∧ Below w.heap.size w w' := by
  have HV : Hid (FrsIn S w v l) := hv
  obtain ⟨ao, c, hva, h1, h2, hc⟩ := hv
  have HC : Hid (∀ k, k < l.length → ∃ b off, ao = some ⟨b, off, none⟩ ∧ b < w.heap.size ∧ S b ∧ At3In S w b (off + k * 3) (l[k]?.getD Fr.zero)) := hc
  obtain ⟨n, hn⟩ : ∃ n, n = l.length := ⟨_, rfl⟩
  have HN : Hid (n = l.length) := hn
  obtain ⟨G, hG⟩ : ∃ G, G = gchk l := ⟨_, rfl⟩
  have HG : Hid (G = if n = 0 then 5 else if 6 < n then 2 else goN (gerr l) n 0) := by show _ = _; rw [hG, hn]; rfl
  rw [← hn] at hva h1
  rw [← hG]
  clear hc hn hG
  subst hva
  by_cases h0 : n = 0
  · have hg : G = 5 := by rw [HG.out, if_pos h0]
    rw [hg]
    subst h0
    go_enter Tryz.func134, Tryz.ntmps134
    go_wp2
    go_ret
    exact ⟨rfl, by go_grown⟩
  have h0i : ((n : Int) == 0) = false := by simpa using h0
  by_cases h6 : 6 < n
  · have hg : G = 2 := by rw [HG.out, if_neg h0, if_pos h6]
    rw [hg]
    go_enter Tryz.func134, Tryz.ntmps134
    go_wp2
    go_ret
    exact ⟨rfl, by go_grown⟩
  have HG2 : Hid (G = goN (gerr l) n 0) := by show _ = _; rw [HG.out, if_neg h0, if_neg h6]
  have hn6 : n ≤ 6 := by omega
  clear HG h0 h6
  go_enter Tryz.func134, Tryz.ntmps134
  go_wp2_with fail
  go_loopw [17] (fun i wr => ∃ k : Nat, k ≤ n ∧ i = .int .i64 k ∧ Hid (∀ j, j < k → gerr l j = 0) ∧ Hid (Blk wr w.heap.size #[.slice ao n c] 30) ∧ Hid (Below w.heap.size w wr))
    (fun i _ => n - (intOf i).toNat)
  case atStart => exact ⟨0, Nat.zero_le _, rfl, (show ∀ j, j < 0 → _ from fun j hj => absurd hj (Nat.not_lt_zero _)), Blk.new w _ _, (Below.refl _ w).alloc (Nat.le_refl _) _⟩
  case round =>
    obtain ⟨k, hk, rfl, HK, KB, HB⟩ := hrel
    have b0 := KB.out.one
    by_cases hlt : k < n
    · obtain ⟨b, off, hao, hb, _, pv, c0, c1, c2, hp⟩ := HC.out k (by rw [← HN.out]; exact hlt)
      subst hao
      have d0 := (HB.out.cell (p := ⟨b, off + k * 3, none⟩) hb).trans c0
      have d1 := (HB.out.cell (p := ⟨b, off + k * 3 + 1, none⟩) hb).trans c1
      have d2 := (HB.out.cell (p := ⟨b, off + k * 3 + 2, none⟩) hb).trans c2
      obtain ⟨f, hf⟩ : ∃ f, f = frAt l k := ⟨_, rfl⟩
      rw [show (l[k]?.getD Fr.zero) = f from hf.symm] at d0 d1 hp
      obtain ⟨pa, pc, ep⟩ := hp.1.len
      obtain ⟨pn, hpn⟩ : ∃ pn, pn = f.parts.length := ⟨_, rfl⟩
      rw [← hpn] at ep
      subst ep
      obtain ⟨ft, fk, fp⟩ := f
      simp only at d0 d1 d2 hp hpn
      obtain ⟨ck, hck⟩ : ∃ ck, ck = chkF ft fp := ⟨_, rfl⟩
      have HCF : Hid (∀ w' : World, Strs w' (.slice pa pn pc) fp → Calls Tryz.prog 94 #[.agg #[.int .i64 ft, .bool fk, .slice pa pn pc]] w' fun e w'' => e = .returned (.int .i64 ck) ∧ Below w'.heap.size w' w'') := fun w' hs => by rw [hck]; exact frameCheck_any ft fk _ fp w' hs hp.2.1
      have HP : Hid (Strs wr (.slice pa pn pc) fp) := hp.1.below HB.out
      have HCK : Hid ((frAt l k).chk = ck) := by show _ = _; rw [← hf, hck]; rfl
      have hlti : (k : Int) < (n : Int) := by omega
      have HIP : Hid (∀ w' : World, FrsIn S w' (.slice (some ⟨b, off, none⟩) n c) l → Calls Tryz.prog 157 #[.slice (some ⟨b, off, none⟩) n c, .int .i64 k] w' fun e w'' => e = .returned (.bool (inPl l k)) ∧ Below w'.heap.size w' w'') := fun w' hs => isInPlace_any S _ l k w' hs (by rw [← HN.out]; exact hlt)
      obtain ⟨ip, hip⟩ : ∃ ip, ip = inPl l k := ⟨_, rfl⟩
      rw [← hip] at HIP
      have HII : Hid (ip = inPl l k) := hip
      have hbw := KB.out.lt
      clear c0 c1 c2 hp hf hck hpn hip
      go_wp2_with fail
      refine (HCF.out _ (HP.out.alloc _)).mono ?_
      rintro e w1 ⟨rfl, hb1⟩
      have B1 : Hid (Below wr.heap.size wr w1) := ((Below.refl _ wr).alloc (Nat.le_refl _) _).trans (hb1.mono (by simp))
      have K1 : Hid (Blk w1 w.heap.size #[.slice (some ⟨b, off, none⟩) n c] 30) := KB.out.below B1.out KB.out.lt
      have V1 : Hid (FrsIn S w1 (.slice (some ⟨b, off, none⟩) n c) l) := (HV.out.below HB.out).below B1.out
      have BB1 : Hid (Below w.heap.size w w1) := HB.out.trans (B1.out.mono HB.out.size)
      clear hb1 d0 d1 d2 b0
      have b1 := K1.out.one
      by_cases hc0 : ck = 0
      · subst hc0
        go_wp2_with fail
        refine (HIP.out _ V1.out).mono ?_
        rintro e w2 ⟨rfl, hb2⟩
        have K2 : Hid (Blk w2 w.heap.size #[.slice (some ⟨b, off, none⟩) n c] 30) := K1.out.below hb2 K1.out.lt
        have BB2 : Hid (Below w.heap.size w w2) := BB1.out.trans (hb2.mono BB1.out.size)
        clear hb2 b1
        cases ip
        · have HGE : Hid (G = 4) := by
            show _ = _
            have he : gerr l k = 4 := by unfold gerr; rw [if_pos HCK.out, ← HII.out]; rfl
            rw [HG2.out, goN_hit n 0 k (Nat.zero_le _) (by omega) (fun j _ hj => HK.out j hj) (by rw [he]; decide), he]
          go_wp2
          go_ret
          exact ⟨by rw [HGE.out]; rfl, BB2.out⟩
        · have HGE : Hid (gerr l k = 0) := gerr_zero.2 ⟨HCK.out, HII.out.symm⟩
          go_wp2
          go_roundw
          case rel => exact ⟨k + 1, by omega, by go_num, (show ∀ j, j < k + 1 → _ from fun j hj => by
            by_cases e : j = k
            · subst e; exact HGE.out
            · exact HK.out j (by omega)), K2, BB2⟩
          case measure => simp [intOf]; omega
      · have HGE : Hid (G = ck) := by
          show _ = _
          have he : gerr l k = ck := by unfold gerr; rw [if_neg (by rw [HCK.out]; exact hc0), HCK.out]
          rw [HG2.out, goN_hit n 0 k (Nat.zero_le _) (by omega) (fun j _ hj => HK.out j hj) (by rw [he]; exact hc0), he]
        go_wp2
        go_ret
        exact ⟨by rw [HGE.out]; rfl, BB1.out⟩
    · have hkl : k = n := by omega
      subst hkl
      have HGE : Hid (G = 0) := by show _ = _; rw [HG2.out]; exact goN_all _ _ (fun j _ hj => HK.out j (by omega))
      go_wp2
      go_ret
      exact ⟨by rw [HGE.out]; rfl, HB.out⟩

set_option maxHeartbeats 2000000 in
theorem groupSize_any (S : Nat → Prop) (v : Value) (l : List Fr) (w : World) (hv : FrsIn S w v l) :
    Calls Tryz.prog 158 #[.agg #[v]] w fun e w' => e = .returned (.tuple #[.int .i64 (gsize l), .int .i64 (gchk l)]) ∧ Below w.heap.size w w' := by
  have HCG : Hid (∀ w' : World, FrsIn S w' v l → Calls Tryz.prog 134 #[.agg #[v]] w' fun e w'' => e = .returned (.int .i64 (gchk l)) ∧ Below w'.heap.size w' w'') := fun w' hs => groupCheck_any S v l w' hs
  have HV : Hid (FrsIn S w v l) := hv
  obtain ⟨ao, c, hva, h1, h2, hc⟩ := hv
  have HC : Hid (∀ k, k < l.length → ∃ b off, ao = some ⟨b, off, none⟩ ∧ b < w.heap.size ∧ S b ∧ At3In S w b (off + k * 3) (l[k]?.getD Fr.zero)) := hc
  obtain ⟨n, hn⟩ : ∃ n, n = l.length := ⟨_, rfl⟩
  have HN : Hid (n = l.length) := hn
  obtain ⟨G, hG⟩ : ∃ G, G = gchk l := ⟨_, rfl⟩
  obtain ⟨Z, hZ⟩ : ∃ Z, Z = gsize l := ⟨_, rfl⟩
  have HZ : Hid (Z = if G = 0 then szG l else 0) := by show _ = _; rw [hZ, hG]; rfl
  have HGZ : Hid (G = 0 → 0 < l.length ∧ l.length ≤ 6 ∧ ∀ k, k < l.length → (frAt l k).chk = 0 ∧ inPl l k = true) := fun h => gchk_zero.1 (by rw [← hG]; exact h)
  rw [← hn] at hva h1
  rw [← hG] at HCG
  rw [← hG, ← hZ]
  clear hc hn hG hZ
  subst hva
  by_cases hG0 : G = 0
  case neg =>
    have hZ0 : Z = 0 := by rw [HZ.out, if_neg hG0]
    subst hZ0
    go_enter Tryz.func158, Tryz.ntmps158
    go_wp2_with fail
    refine (HCG.out _ (HV.out.alloc _)).mono ?_
    rintro e w1 ⟨rfl, hb1⟩
    have B1 : Hid (Below w.heap.size w w1) := ((Below.refl _ w).alloc (Nat.le_refl _) _).trans (hb1.mono (by simp))
    clear hb1
    go_wp2
    exact bodyPost_ret (v := .tuple #[.int .i64 0, .int .i64 G]) (by simp [results, Tryz.results158, go_sem]) rfl ⟨rfl, B1.out⟩
  have HZ2 : Hid (Z = szG l) := by show _ = _; rw [HZ.out, if_pos hG0]
  have hg := HGZ.out hG0
  have hn6 : n ≤ 6 := by rw [HN.out]; exact hg.2.1
  have HFR : Hid (∀ k, k < n → (frAt l k).chk = 0) := fun k hk => (hg.2.2 k (by rw [← HN.out]; exact hk)).1
  have HLE : Hid (∀ k, k ≤ n → szG (l.take k) ≤ k * 32) := fun k hk => szG_le (fun j hj => fr_szP (hg.2.2 j hj).1) k (by rw [← HN.out]; exact hk)
  subst hG0
  clear HZ HGZ hg
  go_enter Tryz.func158, Tryz.ntmps158
  go_wp2_with fail
  refine (HCG.out _ (HV.out.alloc _)).mono ?_
  rintro e w1 ⟨rfl, hb1⟩
  have B1 : Hid (Below w.heap.size w w1) := ((Below.refl _ w).alloc (Nat.le_refl _) _).trans (hb1.mono (by simp))
  have k0 := ((Blk.new w #[.slice ao n c] 30).below hb1 (by simp)).one
  clear hb1 HCG
  go_wp2_with fail
  go_loopw [5, 18] (fun s i wr => ∃ (k z : Nat), k ≤ n ∧ i = .int .i64 k ∧ s = .int .i64 z ∧ Hid (z = szG (l.take k)) ∧ Hid (Below w.heap.size w wr))
    (fun _ i _ => n - (intOf i).toNat)
  case atStart => exact ⟨0, 0, Nat.zero_le _, rfl, rfl, (show 0 = szG (l.take 0) from rfl), B1⟩
  case round =>
    obtain ⟨k, z, hk, rfl, rfl, HZK, HB⟩ := hrel
    by_cases hlt : k < n
    · obtain ⟨b, off, hao, hb, _, pv, c0, c1, c2, hp⟩ := HC.out k (by rw [← HN.out]; exact hlt)
      subst hao
      have d0 := (HB.out.cell (p := ⟨b, off + k * 3, none⟩) hb).trans c0
      have d1 := (HB.out.cell (p := ⟨b, off + k * 3 + 1, none⟩) hb).trans c1
      have d2 := (HB.out.cell (p := ⟨b, off + k * 3 + 2, none⟩) hb).trans c2
      obtain ⟨f, hf⟩ : ∃ f, f = frAt l k := ⟨_, rfl⟩
      rw [show (l[k]?.getD Fr.zero) = f from hf.symm] at d0 d1 hp
      obtain ⟨po, pc, ep, hpc⟩ := (hp.1.below HB.out).parts
      obtain ⟨pn, hpn⟩ : ∃ pn, pn = f.parts.length := ⟨_, rfl⟩
      have HPC : Hid (∀ j, j < f.parts.length → ∃ b off, po = some ⟨b, off, none⟩ ∧ b < wr.heap.size ∧ wr.cell? ⟨b, off + j, none⟩ = some (.string (f.parts[j]?.getD ByteArray.empty))) := hpc
      have HPN : Hid (pn = f.parts.length) := hpn
      rw [← hpn] at ep
      subst ep
      have hlti : (k : Int) < (n : Int) := by omega
      have hfz := HFR.out k hlt
      rw [← hf] at hfz
      have hp4 : pn ≤ 4 := by rw [hpn]; exact (chkF_zero hfz).2.2.2.1
      have hp8 : ∀ j, j < pn → (f.parts[j]?.getD ByteArray.empty).size ≤ 8 := fun j hj => by
        rw [List.getElem?_eq_getElem (by omega), Option.getD_some]
        exact (chkF_zero hfz).2.2.2.2 _ (List.getElem_mem _)
      have HP8 : Hid (∀ j, j < pn → (f.parts[j]?.getD ByteArray.empty).size ≤ 8) := hp8
      have hz := HLE.out k hk
      rw [← HZK.out] at hz
      have HSU : Hid (szG (l.take (k + 1)) = z + szP f.parts) := by show _ = _; rw [szG_take l k (by rw [← HN.out]; exact hlt), ← HZK.out, hf]
      clear c0 c1 c2 hp hpc hpn hfz hp8 hf
      go_wp2_with fail
      obtain ⟨W, hW⟩ : ∃ W, W = wr.alloc (.cells #[.int .i64 f.time, .bool f.key, .slice po pn pc] 98) := ⟨_, rfl⟩
      have BW : Hid (Below wr.heap.size wr W) := by rw [hW]; exact (Below.refl _ wr).alloc (Nat.le_refl _) _
      rw [← hW]
      clear hW d0 d1 d2
      go_loopw [5, 25] (fun s i wi => ∃ (j y : Nat), j ≤ pn ∧ i = .int .i64 j ∧ s = .int .i64 y ∧ Hid (y = z + szP (f.parts.take j)) ∧ Hid (y ≤ z + j * 8) ∧ W = wi)
        (fun _ i _ => pn - (intOf i).toNat)
      case atStart => exact ⟨0, z, Nat.zero_le _, rfl, rfl, (show z = z + szP (f.parts.take 0) from rfl), (show _ ≤ _ from Nat.le_refl _), rfl⟩
      case round =>
        obtain ⟨j, y, hj, rfl, rfl, HY, HYL, rfl⟩ := hrel
        by_cases hjl : j < pn
        · obtain ⟨b2, off2, hpo, hb2, hct⟩ := HPC.out j (by rw [← HPN.out]; exact hjl)
          have hct2 := (BW.out.cell (p := ⟨b2, off2 + j, none⟩) hb2).trans hct
          obtain ⟨s, hs⟩ : ∃ s, s = f.parts[j]?.getD ByteArray.empty := ⟨_, rfl⟩
          have h8 := HP8.out j hjl
          have HNY : Hid (y + s.size = z + szP (f.parts.take (j + 1))) := by show _ = _; rw [szP_take f.parts j (by rw [← HPN.out]; exact hjl), HY.out, ← hs]; omega
          rw [← hs] at hct2 h8
          subst hpo
          have hji : (j : Int) < (pn : Int) := by omega
          have hyl := HYL.out
          clear hct hs
          go_wp2_with fail
          go_roundw
          case rel => exact ⟨j + 1, y + s.size, by omega, by go_num, by go_num, HNY, (show _ ≤ _ by omega), by first | rfl | trivial⟩
          case measure => simp [intOf]; omega
        · have hjn : j = pn := by omega
          subst hjn
          have hyz := HY.out
          rw [HPN.out, List.take_length, ← HSU.out] at hyz
          have HY2 : Hid (y = szG (l.take (k + 1))) := hyz
          clear hyz
          go_wp2_with fail
          go_roundw
          case rel => exact ⟨k + 1, y, by omega, by go_num, rfl, HY2, HB.out.trans (BW.out.mono HB.out.size)⟩
          case measure => simp [intOf]; omega
    · have hkl : k = n := by omega
      subst hkl
      have HE : Hid (Z = z) := by show _ = _; rw [HZ2.out, HZK.out, HN.out, List.take_length]
      go_wp2
      exact bodyPost_ret (v := .tuple #[.int .i64 z, .int .i64 0]) (by simp [results, Tryz.results158, go_sem]) rfl ⟨by rw [HE.out], HB.out⟩

end Go.Proofs.YtnpaejknoipicagGreat

namespace Go.Proofs.YtnpaejknoipicagGreat
open Go.RowKit

set_option maxHeartbeats 4000000 in
theorem areTooGreat_any (S : Nat → Prop) (v : Value) (L : List (List Fr)) (w : World) (hv : GrsIn S w v L) (hL : L.length ≤ 1000) :
    Calls Tryz.prog 135 #[v] w fun e w' => e = .returned (.bool (tooB L)) ∧ Below w.heap.size w w' := by
  obtain ⟨ao, c, hva, h1, h2, hc⟩ := hv
  obtain ⟨n, hn⟩ : ∃ n, n = L.length := ⟨_, rfl⟩
  have HN : Hid (n = L.length) := hn
  have HC : Hid (∀ k, k < L.length → ∃ b off, ao = some ⟨b, off, none⟩ ∧ b < w.heap.size ∧ S b ∧ ∃ sv, w.cell? ⟨b, off + k, none⟩ = some sv ∧ FrsIn S w sv (L[k]?.getD [])) := hc
  rw [← hn] at hva h1 hL
  obtain ⟨T, hT⟩ : ∃ T, T = tooB L := ⟨_, rfl⟩
  have HT : Hid (T = tooB L) := hT
  rw [← hT]
  clear hc hn hT
  subst hva
  go_enter Tryz.func135, Tryz.ntmps135
  go_wp2_with fail
  go_loopw [3, 10] (fun s i wr => ∃ k y : Nat, k ≤ n ∧ i = .int .i64 k ∧ s = .int .i64 y ∧ Hid (y = sumG (L.take k)) ∧ Hid (y ≤ k * 192) ∧ Hid (Below w.heap.size w wr))
    (fun _ i _ => n - (intOf i).toNat)
  case atStart => exact ⟨0, 0, Nat.zero_le _, rfl, rfl, (show 0 = sumG [] from rfl), (show 0 ≤ 0 from Nat.le_refl _), Below.refl _ _⟩
  case round =>
    obtain ⟨k, y, hk, rfl, rfl, HY, HYL, HB⟩ := hrel
    by_cases hlt : k < n
    · obtain ⟨b, off, rfl, hb, _, sv, c0, hs⟩ := HC.out k (by rw [← HN.out]; exact hlt)
      obtain ⟨g, hg⟩ : ∃ g, g = L[k]?.getD [] := ⟨_, rfl⟩
      rw [← hg] at hs
      have c1 := (HB.out.cell (p := ⟨b, off + k, none⟩) hb).trans c0
      obtain ⟨sa, sc, esv, _, _⟩ := hs.len
      obtain ⟨gn, hgn⟩ : ∃ gn, gn = g.length := ⟨_, rfl⟩
      rw [← hgn] at esv
      obtain ⟨z, hz⟩ : ∃ z : Nat, z = gsize g := ⟨_, rfl⟩
      obtain ⟨e, he⟩ : ∃ e, e = gchk g := ⟨_, rfl⟩
      have HS : Hid (∀ U, Below w.heap.size w U → Calls Tryz.prog 158 #[.agg #[sv]] U fun e' w'' => e' = .returned (.tuple #[.int .i64 z, .int .i64 e]) ∧ Below U.heap.size U w'') := fun U hU => by
        rw [hz, he]; exact groupSize_any S sv g U (hs.below hU)
      have HY2 : Hid (y + z = sumG (L.take (k + 1))) := by show _ = _; rw [sumG_take L k (by rw [← HN.out]; exact hlt), HY.out, hz, hg]
      have hz2 : z ≤ 192 := by rw [hz]; exact gsize_le g
      have hyl := HYL.out
      have hlti : (k : Int) < (n : Int) := by omega
      clear hs hg hgn hz he c0
      subst esv
      go_wp2_with fail
      have B1 : Hid (Below w.heap.size w (wr.alloc (.cells #[.slice sa gn sc] 30))) := HB.out.alloc HB.out.size _
      refine (HS.out _ B1.out).mono ?_
      rintro e' w2 ⟨rfl, hb2⟩
      have B2 : Hid (Below w.heap.size w w2) := B1.out.trans (hb2.mono B1.out.size)
      clear hb2 c1
      go_wp2_with fail
      go_roundw
      case rel => exact ⟨k + 1, y + z, by omega, by go_num, by go_num, HY2, (show _ ≤ _ by omega), B2⟩
      case measure => simp [intOf]; omega
    · have hkl : k = n := by omega
      subst hkl
      have hy : y = sumG L := by rw [HY.out, HN.out, List.take_length]
      have hT : T = (decide (1 < k) && decide (100 < y)) := by rw [HT.out, hy]; unfold tooB; rw [← HN.out]
      clear hy
      by_cases h1 : 1 < k
      · have h1i : (1 : Int) < (k : Int) := by omega
        by_cases h2 : 100 < y
        · have h2i : (100 : Int) < (y : Int) := by omega
          have hT2 : T = true := by rw [hT]; simp [h1, h2]
          go_wp2
          go_ret
          exact ⟨by first | rfl | (rw [hT2]; rfl), HB.out⟩
        · have h2i : ¬ (100 : Int) < (y : Int) := by omega
          have hT2 : T = false := by rw [hT]; simp [h1, h2]
          go_wp2
          go_ret
          exact ⟨by first | rfl | (rw [hT2]; rfl), HB.out⟩
      · have h1i : ¬ (1 : Int) < (k : Int) := by omega
        have hT2 : T = false := by rw [hT]; simp [h1]
        go_wp2
        go_ret
        exact ⟨by first | rfl | (rw [hT2]; rfl), HB.out⟩

set_option maxHeartbeats 4000000 in
theorem storeCheck_any (S : Nat → Prop) (first : Int) (gv ov : Value) (L : List (List Fr)) (O : List Fr) (w : World) (hg : GrsIn S w gv L) (ho : FrsIn S w ov O) :
    Calls Tryz.prog 103 #[.agg #[.int .i64 first, gv, ov]] w fun e w' => e = .returned (.int .i64 (stchk first L O)) ∧ Below w.heap.size w w' := by
  have HG : Hid (GrsIn S w gv L) := hg
  have HO : Hid (FrsIn S w ov O) := ho
  obtain ⟨ao, c, hva, h1, h2, hc⟩ := hg
  obtain ⟨oa, oc, eo, _, hol⟩ := ho.len
  obtain ⟨n, hn⟩ : ∃ n, n = L.length := ⟨_, rfl⟩
  obtain ⟨m, hm⟩ : ∃ m, m = O.length := ⟨_, rfl⟩
  have HN : Hid (n = L.length) := hn
  have HC : Hid (∀ k, k < L.length → ∃ b off, ao = some ⟨b, off, none⟩ ∧ b < w.heap.size ∧ S b ∧ ∃ sv, w.cell? ⟨b, off + k, none⟩ = some sv ∧ FrsIn S w sv (L[k]?.getD [])) := hc
  rw [← hn] at hva h1
  rw [← hm] at eo hol
  obtain ⟨E, hE⟩ : ∃ E, E = stchk first L O := ⟨_, rfl⟩
  have HE : Hid (E = if first < 0 then 3 else if 100000 < first then 3 else if 5 < n then 2 else
    if goN (fun k => gchk (grAt L k)) n 0 = 0 then (if tooB L then 2 else if 0 < m then gchk O else 0) else goN (fun k => gchk (grAt L k)) n 0) := by show _ = _; rw [hE, hn, hm]; rfl
  rw [← hE]
  clear hc hn hm hE ho
  subst hva eo
  by_cases f1 : first < 0
  · have e : E = 3 := by rw [HE.out, if_pos f1]
    rw [e]
    go_enter Tryz.func103, Tryz.ntmps103
    go_wp2
    go_ret
    exact ⟨rfl, (Below.refl _ _).alloc (Nat.le_refl _) _⟩
  by_cases f2 : 100000 < first
  · have e : E = 3 := by rw [HE.out, if_neg f1, if_pos f2]
    rw [e]
    go_enter Tryz.func103, Tryz.ntmps103
    go_wp2
    go_ret
    exact ⟨rfl, (Below.refl _ _).alloc (Nat.le_refl _) _⟩
  by_cases f3 : 5 < n
  · have e : E = 2 := by rw [HE.out, if_neg f1, if_neg f2, if_pos f3]
    have f3i : (5 : Int) < (n : Int) := by omega
    rw [e]
    go_enter Tryz.func103, Tryz.ntmps103
    go_wp2
    go_ret
    exact ⟨rfl, (Below.refl _ _).alloc (Nat.le_refl _) _⟩
  have f3i : ¬ (5 : Int) < (n : Int) := by omega
  have HE2 : Hid (E = if goN (fun k => gchk (grAt L k)) n 0 = 0 then (if tooB L then 2 else if 0 < m then gchk O else 0) else goN (fun k => gchk (grAt L k)) n 0) := by show _ = _; rw [HE.out, if_neg f1, if_neg f2, if_neg f3]
  clear HE
  go_enter Tryz.func103, Tryz.ntmps103
  go_wp2_with fail
  go_loopw [21] (fun i wr => ∃ k : Nat, k ≤ n ∧ i = .int .i64 k ∧ Hid (∀ j, j < k → gchk (grAt L j) = 0) ∧ Hid (Blk wr w.heap.size #[.int .i64 first, .slice ao n c, .slice oa m oc] 32) ∧ Hid (Below w.heap.size w wr))
    (fun i _ => n - (intOf i).toNat)
  case atStart => exact ⟨0, Nat.zero_le _, rfl, (show ∀ j, _ → _ from fun j hj => absurd hj (Nat.not_lt_zero _)), Blk.new _ _ _, (Below.refl _ _).alloc (Nat.le_refl _) _⟩
  case round =>
    obtain ⟨k, hk, rfl, HK, KB, HB⟩ := hrel
    by_cases hlt : k < n
    · obtain ⟨b, off, rfl, hb, _, sv, c0, hs⟩ := HC.out k (by rw [← HN.out]; exact hlt)
      obtain ⟨g, hg⟩ : ∃ g, g = grAt L k := ⟨_, rfl⟩
      rw [show L[k]?.getD [] = g from hg.symm] at hs
      have c1 := (HB.out.cell (p := ⟨b, off + k, none⟩) hb).trans c0
      obtain ⟨sa, sc, esv, _, _⟩ := hs.len
      obtain ⟨gn, hgn⟩ : ∃ gn, gn = g.length := ⟨_, rfl⟩
      rw [← hgn] at esv
      obtain ⟨e, he⟩ : ∃ e, e = gchk g := ⟨_, rfl⟩
      have HS : Hid (∀ U, Below w.heap.size w U → Calls Tryz.prog 134 #[.agg #[sv]] U fun e' w'' => e' = .returned (.int .i64 e) ∧ Below U.heap.size U w'') := fun U hU => by
        rw [he]; exact groupCheck_any S sv g U (hs.below hU)
      have hlti : (k : Int) < (n : Int) := by omega
      have HGE : Hid (e = gchk (grAt L k)) := by show _ = _; rw [he, hg]
      clear hs hg hgn he c0
      subst esv
      go_wp2_with fail
      have B1 : Hid (Below w.heap.size w (wr.alloc (.cells #[.slice sa gn sc] 30))) := HB.out.alloc HB.out.size _
      have K1 : Hid (Blk (wr.alloc (.cells #[.slice sa gn sc] 30)) w.heap.size #[.int .i64 first, .slice (some ⟨b, off, none⟩) n c, .slice oa m oc] 32) := KB.out.alloc _
      refine (HS.out _ B1.out).mono ?_
      rintro e' w2 ⟨rfl, hb2⟩
      have B2 : Hid (Below w.heap.size w w2) := B1.out.trans (hb2.mono B1.out.size)
      have K2 : Hid (Blk w2 w.heap.size #[.int .i64 first, .slice (some ⟨b, off, none⟩) n c, .slice oa m oc] 32) := K1.out.below hb2 K1.out.lt
      clear hb2 c1 K1 B1 KB HB
      by_cases he0 : e = 0
      · have HK2 : Hid (∀ j, j < k + 1 → gchk (grAt L j) = 0) := fun j hj => by
          by_cases e' : j = k
          · subst e'; rw [← HGE.out]; exact he0
          · exact HK.out j (by omega)
        clear HGE
        subst he0
        go_wp2_with fail
        go_roundw
        case rel => exact ⟨k + 1, by omega, by go_num, HK2, K2, B2⟩
        case measure => simp [intOf]; omega
      · have hE : E = e := by
          have hh := goN_hit (e := fun k => gchk (grAt L k)) n 0 k (Nat.zero_le _) (by omega) (fun j _ hj => HK.out j hj) (by show ¬ gchk (grAt L k) = 0; rw [← HGE.out]; exact he0)
          change goN (fun k => gchk (grAt L k)) n 0 = gchk (grAt L k) at hh
          rw [← HGE.out] at hh
          rw [HE2.out, hh, if_neg he0]
        have HEE : Hid (E = e) := hE
        clear hE
        go_wp2
        go_ret
        exact ⟨by rw [HEE.out]; rfl, B2.out⟩
    · have hkl : k = n := by omega
      subst hkl
      have hz : goN (fun k => gchk (grAt L k)) k 0 = 0 := goN_all _ _ (fun j _ hj => HK.out j (by omega))
      have HE3 : Hid (E = if tooB L then 2 else if 0 < m then gchk O else 0) := by show _ = _; rw [HE2.out, if_pos hz]
      obtain ⟨T, hT⟩ : ∃ T, T = tooB L := ⟨_, rfl⟩
      have HTG : Hid (∀ U, Below w.heap.size w U → Calls Tryz.prog 135 #[.slice ao k c] U fun e' w'' => e' = .returned (.bool T) ∧ Below U.heap.size U w'') := fun U hU => by
        rw [hT]; exact areTooGreat_any S _ L U (HG.out.below hU) (by rw [← HN.out]; omega)
      have HE4 : Hid (E = if T then 2 else if 0 < m then gchk O else 0) := by show _ = _; rw [hT]; exact HE3.out
      clear hz hT HE3 HE2
      obtain ⟨k0, k1, k2⟩ := KB.out.three
      go_wp2_with fail
      refine (HTG.out _ HB.out).mono ?_
      rintro e' w2 ⟨rfl, hb2⟩
      have B2 : Hid (Below w.heap.size w w2) := HB.out.trans (hb2.mono HB.out.size)
      obtain ⟨j0, j1, j2⟩ := (KB.out.below hb2 KB.out.lt).three
      clear hb2 k0 k1 k2
      cases T
      case true =>
        have HEE : Hid (E = 2) := HE4.out
        go_wp2
        go_ret
        exact ⟨by rw [HEE.out]; rfl, B2.out⟩
      case false =>
        by_cases hm0 : 0 < m
        · have hm0i : (0 : Int) < (m : Int) := by omega
          have HEO : Hid (E = gchk O) := by show _ = _; rw [HE4.out]; simp [hm0]
          go_wp2_with fail
          refine (groupCheck_any S _ O _ (HO.out.below B2.out)).mono ?_
          rintro e' w3 ⟨rfl, hb3⟩
          rw [← HEO.out]
          have B3 : Hid (Below w.heap.size w w3) := B2.out.trans (hb3.mono B2.out.size)
          clear hb3 j0 j1 j2
          go_wp2
          go_ret
          exact ⟨rfl, B3.out⟩
        · have hm0i : ¬ (0 : Int) < (m : Int) := by omega
          have HEE : Hid (E = 0) := by show _ = _; rw [HE4.out]; simp [hm0]
          go_wp2
          go_ret
          exact ⟨by rw [HEE.out]; rfl, B2.out⟩

end Go.Proofs.YtnpaejknoipicagGreat

namespace Go.Proofs.YtnpaejknoipicagGreat
open Go.RowKit

set_option maxHeartbeats 2000000 in
set_option maxRecDepth 100000 in
theorem cloneStrs_any (v : Value) (l : List ByteArray) (w : World) (hv : Strs w v l) (hlen : l.length ≤ 4) (h8 : ∀ s ∈ l, s.size ≤ 8) :
    Calls Tryz.prog 145 #[v, .func (.func 120) #[] #[]] w fun e w' => ∃ u, e = .returned u ∧ w'.ownsRow w.heap.size 9 1 u l.length (l.map Value.string) ∧ Below w.heap.size w w' := by
  obtain ⟨i0, hi, hz0, hz1, hz2⟩ := info_parts Tryz.infoStr
  obtain ⟨ao, c, hva, hc⟩ := hv.parts
  obtain ⟨n, hn⟩ : ∃ n, n = l.length := ⟨_, rfl⟩
  have HN : Hid (n = l.length) := hn
  have HC : Hid (∀ k, k < l.length → ∃ b off, ao = some ⟨b, off, none⟩ ∧ b < w.heap.size ∧ w.cell? ⟨b, off + k, none⟩ = some (.string (l[k]?.getD ByteArray.empty))) := hc
  have H8 : Hid (∀ k, k < l.length → (l[k]?.getD ByteArray.empty).size ≤ 8) := fun k hk => h8 _ (by rw [List.getElem?_eq_getElem hk]; exact List.getElem_mem hk)
  have eg : Enters Tryz.prog 120 := enters_of Tryz.func120 (by kernel_rfl) rfl
  have eg' : ∀ (args : Array Value) (w : World), (callFunc 120 args).run Tryz.prog w = .ok (.enter 120 args) w := eg
  rw [← hn] at hva hlen ⊢
  clear hc hv hn h8 eg
  subst hva
  go_enter Tryz.func145, Tryz.ntmps145
  go_wp2_with fail
  go_loopw [5, 10] (fun u i wr => ∃ k : Nat, k ≤ n ∧ i = .int .i64 k ∧ Hid (wr.ownsRow w.heap.size 9 1 u k ((l.take k).map Value.string)) ∧ Hid (Below w.heap.size w wr))
    (fun _ i _ => n - (intOf i).toNat)
  case atStart => exact ⟨0, Nat.zero_le _, rfl, (show World.ownsRow _ _ _ _ _ _ _ from World.ownsRow_nil _ _ _ _), Below.refl _ _⟩
  case round =>
    obtain ⟨k, hk, rfl, HO, HB⟩ := hrel
    by_cases hlt : k < n
    · obtain ⟨b, off, rfl, hb, hat⟩ := HC.out k (by rw [← HN.out]; exact hlt)
      have h8 := H8.out k (by rw [← HN.out]; exact hlt)
      have c0 := (HB.out.cell (p := ⟨b, off + k, none⟩) hb).trans hat
      obtain ⟨s, hs⟩ : ∃ s, s = l[k]?.getD ByteArray.empty := ⟨_, rfl⟩
      have HS : Hid (s = l[k]?.getD ByteArray.empty) := hs
      rw [← hs] at c0 h8
      have hcl : ∀ w : World, Calls Tryz.prog 120 #[.string s] w fun e w' => e = .returned (.string s) ∧ Below w.heap.size w w' := fun w => stringsClone_any s w h8
      have hlti : (k : Int) < (n : Int) := by omega
      clear hs hat
      go_wp2_with (first
        | (go_at_fn 120; refine (hcl _).mono ?_; rintro e w1 ⟨rfl, hbw⟩)
        | (at_builtin; refine wpList_append_own _ rfl _ _ 96 rfl w.heap.size 9 i0 _ 1 16 Tryz.underlying96 hi hz0 hz1 hz2 rfl (by decide) _ k ((l.take k).map Value.string) rfl ?c0 ⟨w1.heap.size, 0, none⟩ 1 1 [.string s] rfl rfl ?c1 ?c2 ?c3 ?c4 ?c5 ?_))
      case c0 => exact (owns_below HO.out hbw (Nat.le_refl _)).alloc _
      case c1 => exact news1 rfl
      case c2 => intro u hu; simp at hu; subst hu; rfl
      case c3 => unfold maxLen; omega
      case c4 => omega
      case c5 => have h1 := HB.out.size; have h2 := hbw.size; simp; omega
      · intro v' w2 hown' hgrow _
        have hb1 : Below w.heap.size w w1 := HB.out.trans (hbw.mono HB.out.size)
        have R1 : Hid (Below w.heap.size w w2) := (hb1.alloc hb1.size _).grown hgrow (by have := hb1.size; simp; omega) (fun j hj => (HO.out.lt j hj).1)
        have R2 : Hid (w2.ownsRow w.heap.size 9 1 v' (k + 1) ((l.take (k + 1)).map Value.string)) := by
          show World.ownsRow _ _ _ _ _ _ _
          rw [take_one (by rw [← HN.out]; exact hlt) ByteArray.empty, List.map_append, List.map_take, ← HS.out]
          exact hown'
        clear hown' hgrow c0 hbw hb1 HO HS
        go_wp2
        go_roundw
        case rel => exact ⟨k + 1, by omega, by go_num, R2, R1⟩
        case measure => simp [intOf]; omega
    · have hkl : k = n := by omega
      subst hkl
      go_wp2
      go_ret
      have ho := HO.out
      rw [HN.out, List.take_length, ← HN.out] at ho
      exact ⟨_, rfl, ho, HB.out⟩

/-- texts of a row of the call's own -/
theorem StrsIn.of_owns {base : Nat} {w : World} {v : Value} {l : List ByteArray} (h : w.ownsRow base 9 1 v l.length (l.map Value.string)) (hl : l.length ≤ 9223372036854775807) : StrsIn (fun g => base ≤ g) w v l :=
  ⟨Sl.of_owns h, hl, fun g hg _ => h.lt g hg⟩

set_option maxHeartbeats 2000000 in
theorem cloneFrame_any (S : Nat → Prop) (f : Fr) (pv : Value) (w : World) (hv : StrsIn S w pv f.parts) (hf : f.chk = 0) :
    Calls Tryz.prog 112 #[.agg #[.int .i64 f.time, .bool f.key, pv]] w fun e w' => ∃ a c, e = .returned (.agg #[.int .i64 f.time, .bool f.key, .slice a f.parts.length c]) ∧ StrsIn (fun g => w.heap.size ≤ g) w' (.slice a f.parts.length c) f.parts ∧ Below w.heap.size w w' := by
  obtain ⟨_, _, _, h4, h5⟩ := chkF_zero hf
  obtain ⟨pa, pc, ep⟩ := hv.1.len
  have HCS : Hid (∀ w' : World, Strs w' pv f.parts → Calls Tryz.prog 145 #[pv, .func (.func 120) #[] #[]] w' fun e w'' => ∃ u, e = .returned u ∧ w''.ownsRow w'.heap.size 9 1 u f.parts.length (f.parts.map Value.string) ∧ Below w'.heap.size w' w'') := fun w' hs => cloneStrs_any pv f.parts w' hs h4 h5
  have HV : Hid (Strs w pv f.parts) := hv.1
  obtain ⟨t, k, ps⟩ := f
  simp only at ep HCS HV h4 ⊢
  obtain ⟨n, hn⟩ : ∃ n, n = ps.length := ⟨_, rfl⟩
  have HN : Hid (n = ps.length) := hn
  rw [← hn] at ep HCS h4 ⊢
  clear hn hv hf h5
  subst ep
  go_enter Tryz.func112, Tryz.ntmps112
  go_wp2_with fail
  refine (HCS.out _ ((HV.out.alloc _).alloc _)).mono ?_
  rintro e w1 ⟨u, rfl, ho, hb1⟩
  obtain ⟨k1, k2, bb, hs⟩ := blocks2 hb1
  obtain ⟨a, c, eu⟩ := Sl.len (Sl.of_owns ho)
  subst eu
  obtain ⟨c0, c1, c2⟩ := k1.three
  obtain ⟨d0, d1, d2⟩ := k2.three
  have f1 := k1.free
  have f2 := k2.free
  have HO : Hid (w1.ownsRow (w.heap.size + 1 + 1) 9 1 (.slice a n c) n (ps.map Value.string)) := by
    have := ho
    simp only [World.size_alloc] at this
    exact this
  have BB : Hid (Below w.heap.size w w1) := bb
  clear hb1 k1 k2 bb ho HCS
  go_wp2
  refine bodyPost_ret (v := .agg #[.int .i64 t, .bool k, .slice a n c]) (by simp [results, Tryz.results112, go_sem, d0, d1, d2]) rfl ⟨a, c, rfl, ?_, ?_⟩
  · have h := ownsRow_setCell_below (ownsRow_setCell_below (ownsRow_setCell_below (ownsRow_setCell_below HO.out (a := ⟨w.heap.size, 2, none⟩) (by show w.heap.size < _; omega) (.slice a n c)) (a := ⟨w.heap.size + 1, 0, none⟩) (by show w.heap.size + 1 < _; omega) (.int .i64 t)) (a := ⟨w.heap.size + 1, 1, none⟩) (by show w.heap.size + 1 < _; omega) (.bool k)) (a := ⟨w.heap.size + 1, 2, none⟩) (by show w.heap.size + 1 < _; omega) (.slice a n c)
    rw [HN.out] at h ⊢
    exact (StrsIn.of_owns h (by rw [← HN.out]; omega)).mono (fun g _ hg => by omega)
  · exact (((BB.out.setCell (by simp) _).setCell (by simp) _).setCell (by simp) _).setCell (by simp) _

end Go.Proofs.YtnpaejknoipicagGreat

namespace Go.Proofs.YtnpaejknoipicagGreat
open Go.RowKit

/-- what an operation of such a region does -/
inductive Kd where
  | quiet (v : Value)
  | qcall (v : Value)
  | main
  | fin (f : Value → Value)
  | box (t : TypeId) (z : Array Value)
  | put (b : Nat) (f : Value → Array Value)

namespace Kd
def val (r : Value) : Kd → Option Value
  | quiet v => some v
  | qcall v => some v
  | main => some r
  | fin f => some (f r)
  | _ => none
def out (r : Value) (g : Nat) : Kd → Value
  | quiet v => v
  | qcall v => v
  | main => r
  | fin f => f r
  | box _ _ => .pointer (some ⟨g, 0, none⟩)
  | put _ _ => undef
def isRes : Kd → Bool
  | main => true
  | fin _ => true
  | _ => false
def isMain : Kd → Bool
  | main => true
  | _ => false
def isBox : Kd → Bool
  | box _ _ => true
  | _ => false
def to : Kd → Option Nat
  | put b _ => some b
  | _ => none
end Kd
def kdAt (ks : List Kd) (i : Nat) : Kd := (ks[i]?).getD (.quiet undef)
def dstOf (l : List Oper) (j : Nat) : Nat := match l[j]? with
  | some o => o.dst.getD 0
  | none => 0
/-- the frame behind all of them -/
def putK (r : Value) (gs : Nat → Nat) : Nat → List Kd → List Oper → Act → Act
  | k, d :: ks, o :: l, a => putK r gs (k + 1) ks l (a.put o.dst (d.out r (gs k)))
  | _, _, _, a => a
/-- what the operations wait for -/
def mainOk (ks : List Kd) (l : List Oper) (c n : Nat) : Bool :=
  decide (ks.length = l.length) && decide (c < l.length) && (kdAt ks c).isMain && (l.all fun o => match o.dst with | some k => decide (k < n) | none => true) &&
  ((List.range l.length).all fun i => (i == c || !(kdAt ks i).isMain) && (match kdAt ks i with
    | .fin _ => (List.range l.length).any fun j => waits l i j && (kdAt ks j).isRes
    | .put b _ => waits l i b && (kdAt ks b).isBox && decide (b < l.length) && ((List.range l.length).any fun j => waits l i j && (kdAt ks j).isRes) && ((List.range l.length).all fun j => i == j || (kdAt ks j).to != some b)
    | _ => true) && (match kdAt ks i with | .put _ _ => (l[i]?.map fun o => o.dst) == some none | _ => (l[i]?.map fun o => o.dst.isSome) == some true))

section
variable {P : Program} {Q : Exit → Act → World → Prop}

structure RM (w : World) (ks : List Kd) (n c : Nat) (Pm : (Nat → Prop) → Value → World → Prop) (ls : Nat → Bool) (vs : Nat → Value) (w' : World) : Prop where
  below : Below w.heap.size w w'
  lt : ∀ i, ls i = true → i < n
  val : ∀ i v, ls i = true → (kdAt ks i).val (vs c) = some v → vs i = v
  res : ∀ i, ls i = true → (kdAt ks i).isRes = true → ls c = true
  put : ∀ i b f, ls i = true → kdAt ks i = .put b f → ls c = true ∧ ls b = true ∧ vs i = undef
  main : ls c = true → ∃ S, Pm S (vs c) w' ∧ (∀ g, S g → g < w'.heap.size) ∧ ∀ i t z g, ls i = true → kdAt ks i = .box t z → vs i = .pointer (some ⟨g, 0, none⟩) → ¬ S g
  box : ∀ i t z, ls i = true → kdAt ks i = .box t z → ∃ g C, vs i = .pointer (some ⟨g, 0, none⟩) ∧ w.heap.size ≤ g ∧ Blk w' g C t ∧ C.size = z.size ∧ ∀ j f, kdAt ks j = .put i f → ls j = true → C = f (vs c)
  apart : ∀ i j t z t' z', ls i = true → ls j = true → i ≠ j → kdAt ks i = .box t z → kdAt ks j = .box t' z' → vs i ≠ vs j

theorem putL_all (L : Array Bool) (vs : Nat → Value) (r : Value) (gs : Nat → Nat) : ∀ (l : List Oper) (k : Nat) (ks : List Kd) (a : Act), ks.length = l.length → (∀ i, i < l.length → L.getD (k + i) false = true) → (∀ i, i < l.length → vs (k + i) = (kdAt ks i).out r (gs (k + i))) → putL L vs k l a = putK r gs k ks l a
  | [], _, [], _, _, _, _ => rfl
  | o :: l, k, d :: ks, a, hl, hL, hv => by
    simp only [putL, putK]
    rw [if_pos (by simpa using hL 0 (by simp)), show vs k = d.out r (gs k) by simpa [kdAt] using hv 0 (by simp)]
    refine putL_all L vs r gs l (k + 1) ks _ (by simpa using hl) (fun i hi => ?_) (fun i hi => ?_)
    · have := hL (i + 1) (by simpa using hi)
      rw [show k + (i + 1) = k + 1 + i by omega] at this; exact this
    · have := hv (i + 1) (by simpa using hi)
      rw [show k + (i + 1) = k + 1 + i by omega] at this
      simpa [kdAt] using this

theorem region_main {id : Nat} {a : Act} {w : World} {l : List Oper} (hm : P.follows .mixedOrders = true) (hB : regOk l = true) (ks : List Kd) (c : Nat) (hK : mainOk ks l c a.tmps.size = true)
    (Pm : (Nat → Prop) → Value → World → Prop)
    (hloc : ∀ S r w1 w2, Pm S r w1 → w1.heap.size ≤ w2.heap.size → (∀ g, S g → g < w1.heap.size → w2.heap[g]? = w1.heap[g]?) → Pm S r w2)
    (hstep : ∀ i o, l[i]? = some o → ∀ (a' : Act) (w' : World) (r : Value), Below w.heap.size w w' → (∀ s, (l.all fun o => o.dst != some s) = true → a'.eval (.tmp s) = a.eval (.tmp s)) → (∀ j v, waits l i j = true → (kdAt ks j).val r = some v → a'.eval (.tmp (dstOf l j)) = v) →
      match kdAt ks i with
      | .quiet v => (execOp a'.eval o).run P w' = .ok (.value v) w'
      | .qcall v => ∃ f args, (execOp a'.eval o).run P w' = .ok (.enter f args) w' ∧ Calls P f args w' fun e w'' => e = .returned v ∧ Below w'.heap.size w' w''
      | .main => ∃ f args, (execOp a'.eval o).run P w' = .ok (.enter f args) w' ∧ Calls P f args w' fun e w'' => ∃ r, e = .returned r ∧ Pm (fun g => g < w''.heap.size ∧ (g < w.heap.size ∨ w'.heap.size ≤ g)) r w'' ∧ Below w'.heap.size w' w''
      | .fin f => ∀ S, Pm S r w' → (execOp a'.eval o).run P w' = .ok (.value (f r)) w'
      | .box t z => (execOp a'.eval o).run P w' = .ok (.value (.pointer (some ⟨w'.heap.size, 0, none⟩))) (w'.alloc (.cells z t))
      | .put b f => ∀ S, Pm S r w' → ∀ t z g C, kdAt ks b = .box t z → Blk w' g C t → C.size = z.size → a'.eval (.tmp (dstOf l b)) = .pointer (some ⟨g, 0, none⟩) → ∃ w'', (execOp a'.eval o).run P w' = .ok .skip w'' ∧ w''.heap.size = w'.heap.size ∧ Blk w'' g (f r) t ∧ (f r).size = z.size ∧ (∀ j, j ≠ g → w''.heap[j]? = w'.heap[j]?) ∧ w''.os = w'.os ∧ w''.tape = w'.tape ∧ w''.output = w'.output)
    (hend : ∀ (r : Value) (gs : Nat → Nat) (S : Nat → Prop) (w' : World), Below w.heap.size w w' → Pm S r w' → (∀ g, S g → g < w'.heap.size) →
      (∀ b t z, b < l.length → kdAt ks b = .box t z → w.heap.size ≤ gs b ∧ ¬ S (gs b) ∧ ∃ C, Blk w' (gs b) C t ∧ ∀ j f, j < l.length → kdAt ks j = .put b f → C = f r) →
      (∀ b b' t z t' z', b < l.length → b' < l.length → b ≠ b' → kdAt ks b = .box t z → kdAt ks b' = .box t' z' → gs b ≠ gs b') → Q .normal (putK r gs 0 ks l a) w') :
    (Code.region id l.toArray true).wp P Q a w := by
  simp only [mainOk, Bool.and_eq_true, decide_eq_true_eq] at hK
  obtain ⟨⟨⟨⟨hlen, hcl⟩, hcm⟩, hdst⟩, hall⟩ := hK
  have hkc : kdAt ks c = .main := by cases h : kdAt ks c <;> rw [h] at hcm <;> first | rfl | cases hcm
  have hap : dstsApart l = true := by simp only [regOk, Bool.and_eq_true] at hB; exact hB.1.1
  have hal : ∀ i, i < l.length → _ := fun i hi => List.all_eq_true.1 hall i (List.mem_range.2 hi)
  have hmu : ∀ i, i < l.length → kdAt ks i = .main → i = c := fun i hi hk => by
    have h := hal i hi
    simp only [Bool.and_eq_true] at h
    have h1 := h.1.1
    rw [hk] at h1
    simpa [Kd.isMain] using h1
  have hval : ∀ (L : Array Bool) (vs : Nat → Value) (i j : Nat) (o : Oper), l[i]? = some o → (∀ e ∈ o.after, Region.binds .any e = true → L.getD e.on false = true) → waits l i j = true → L.getD j false = true ∧ ∀ oj k, l[j]? = some oj → oj.dst = some k → (putL L vs 0 l a).eval (.tmp k) = vs j := fun L vs i j o ho hr hw => by
    have h1 := waits_spec hw ho hr
    refine ⟨h1, fun oj k hoj hk => putL_at h1 l 0 a oj hap (Nat.zero_le _) (by simpa using hoj) hk ?_⟩
    have := List.all_eq_true.1 hdst oj (List.mem_of_getElem? hoj)
    rw [hk] at this
    simpa using this
  refine wp_region_inv hm hB (fun L vs w' => RM w ks l.length c Pm (fun j => L.getD j false) vs w') ?_ ?_ ?_
  · have hno : ∀ j, ¬ (Array.replicate l.length false).getD j false = true := fun j => by
      simp [Array.getD_eq_getD_getElem?, Array.getElem?_replicate]; split <;> simp
    exact ⟨⟨rfl, rfl, rfl, Nat.le_refl _, fun _ _ => rfl⟩, fun i h => absurd h (hno i), fun i _ h => absurd h (hno i), fun i h => absurd h (hno i), fun i _ _ h => absurd h (hno i), fun h => absurd h (hno c), fun i _ _ h => absurd h (hno i), fun i _ _ _ _ _ h => absurd h (hno i)⟩
  · intro L vs w' F i o ho hL hr
    have hi : i < l.length := (List.getElem?_eq_some_iff.1 ho).1
    have ni : L.getD i false = false := by simpa using listed_no hL
    have hset := setfun hL
    have hwt := fun j => hval L vs i j o ho hr
    have hfree : ∀ s, (l.all fun o => o.dst != some s) = true → (putL L vs 0 l a).eval (.tmp s) = a.eval (.tmp s) := fun s hs => putL_other l 0 a (fun p hp t ht e => by
      injection e with e
      subst e
      have := List.all_eq_true.1 hs p hp
      rw [ht] at this
      simp at this)
    have hvals : ∀ j v, waits l i j = true → (kdAt ks j).val (vs c) = some v → (putL L vs 0 l a).eval (.tmp (dstOf l j)) = v := fun j v hw hv => by
      obtain ⟨h1, h2⟩ := hwt j hw
      have hjl : j < l.length := F.lt j h1
      have hoj : l[j]? = some l[j] := List.getElem?_eq_getElem hjl
      have h3 := hal j hjl
      simp only [Bool.and_eq_true] at h3
      have h4 := h3.2
      cases hd : l[j].dst with
      | none =>
        have : (l[j]?.map fun o => o.dst.isSome) = some false := by rw [hoj]; simp [hd]
        cases hk : kdAt ks j <;> rw [hk] at hv h4 <;> simp [Kd.val, this] at hv h4
      | some k =>
        rw [show dstOf l j = k by simp [dstOf, hoj, hd], h2 _ k hoj hd]
        exact F.val j v h1 hv
    have hs := hstep i o ho (putL L vs 0 l a) w' (vs c) F.below hfree hvals
    have hdeps := hal i hi
    simp only [Bool.and_eq_true] at hdeps
    rw [hset]
    obtain ⟨ls, hls⟩ : ∃ ls : Nat → Bool, ls = fun j => L.getD j false := ⟨_, rfl⟩
    have hlsj : ∀ j, L.getD j false = ls j := fun j => by rw [hls]
    simp only [hlsj] at F ni hwt ⊢
    have hcne : ∀ k, kdAt ks i = k → k.isMain = false → c ≠ i := fun k h1 h2 e => by subst e; rw [hkc] at h1; subst h1; cases h2
    have hupc : ∀ k v, kdAt ks i = k → k.isMain = false → upd vs i v c = vs c := fun k v h1 h2 => upd_ne (hcne k h1 h2)
    have hlt' : ∀ j, (decide (j = i) || ls j) = true → j < l.length := fun j hj => by
      simp only [Bool.or_eq_true, decide_eq_true_eq] at hj
      rcases hj with rfl | hj
      · exact hi
      · exact F.lt j hj
    have hres : ∀ j, waits l i j = true → (kdAt ks j).isRes = true → ls c = true := fun j hw hk => F.res j (hwt j hw).1 hk
    -- an op that changes no memory and is no main, no box, no put
    have plain : ∀ (k : Kd) (v : Value) (w'' : World), kdAt ks i = k → k.isMain = false → k.isBox = false → k.to = none → Below w'.heap.size w' w'' → (k.val (vs c) = some v) → (k.isRes = true → ls c = true) → RM w ks l.length c Pm (fun j => decide (j = i) || ls j) (upd vs i v) w'' := fun k v w'' hk h1 h2 h3 hb hv hrs => by
      have hsame : ∀ g, g < w'.heap.size → w''.heap[g]? = w'.heap[g]? := hb.block
      refine ⟨F.below.trans (hb.mono F.below.size), hlt', ?_, ?_, ?_, ?_, ?_, ?_⟩
      · intro j u hj hu
        rw [hupc k v hk h1] at hu
        by_cases e : j = i
        · subst e; rw [upd_at]; rw [hk, hv] at hu; injection hu
        · rw [upd_ne e]; exact F.val j u (by simpa [e] using hj) hu
      · intro j hj hjr
        by_cases e : j = i
        · subst e; rw [hk] at hjr; simp [hrs hjr]
        · simp [F.res j (by simpa [e] using hj) hjr]
      · intro j b f hj hjk
        by_cases e : j = i
        · subst e; rw [hk] at hjk; subst hjk; cases h3
        · obtain ⟨e1, e2, e3⟩ := F.put j b f (by simpa [e] using hj) hjk
          rw [upd_ne e]; exact ⟨by simp [e1], by simp [e2], e3⟩
      · intro hc
        have hc' : ls c = true := by simpa [hcne k hk h1] using hc
        obtain ⟨S, e1, e2, e3⟩ := F.main hc'
        rw [hupc k v hk h1]
        refine ⟨S, hloc S _ w' w'' e1 hb.size (fun g _ h => hsame g h), fun g hg => Nat.lt_of_lt_of_le (e2 g hg) hb.size, fun j t z g hj hjk hjv => ?_⟩
        by_cases e : j = i
        · subst e; rw [hk] at hjk; subst hjk; cases h2
        · rw [upd_ne e] at hjv; exact e3 j t z g (by simpa [e] using hj) hjk hjv
      · intro j t z hj hjk
        by_cases e : j = i
        · subst e; rw [hk] at hjk; subst hjk; cases h2
        · obtain ⟨g, C, e1, e2, e3, e4, e5⟩ := F.box j t z (by simpa [e] using hj) hjk
          refine ⟨g, C, by rw [upd_ne e]; exact e1, e2, (hsame g e3.lt).trans e3, e4, fun q f hq hlq => ?_⟩
          rw [hupc k v hk h1]
          by_cases e' : q = i
          · subst e'; rw [hk] at hq; subst hq; cases h3
          · exact e5 q f hq (by simpa [e'] using hlq)
      · intro p q t z t' z' hp hq hpq hpk hqk
        have e1 : p ≠ i := fun e => by subst e; rw [hk] at hpk; subst hpk; cases h2
        have e2 : q ≠ i := fun e => by subst e; rw [hk] at hqk; subst hqk; cases h2
        rw [upd_ne e1, upd_ne e2]
        exact F.apart p q t z t' z' (by simpa [e1] using hp) (by simpa [e2] using hq) hpq hpk hqk
    cases hk : kdAt ks i with
    | quiet v =>
      rw [hk] at hs
      exact oper_wp_ok hs ⟨v, rfl, plain _ v w' hk rfl rfl rfl (Below.refl _ _) rfl (fun h => by cases h)⟩
    | fin f =>
      rw [hk] at hs
      have h := hdeps.1.2
      rw [hk] at h
      obtain ⟨j, _, hj⟩ := List.any_eq_true.1 h
      simp only [Bool.and_eq_true] at hj
      have hlc := hres j hj.1 hj.2
      obtain ⟨S, p1, _⟩ := F.main hlc
      exact oper_wp_ok (hs S p1) ⟨_, rfl, plain _ _ w' hk rfl rfl rfl (Below.refl _ _) rfl (fun _ => hlc)⟩
    | qcall v =>
      rw [hk] at hs
      obtain ⟨f, args, h1, h2⟩ := hs
      unfold Oper.wp
      rw [h1, Oper.upon_enter]
      refine h2.mono ?_
      rintro e w'' ⟨rfl, hb⟩
      exact ⟨v, rfl, plain _ v w'' hk rfl rfl rfl hb rfl (fun h => by cases h)⟩
    | main =>
      rw [hk] at hs
      obtain ⟨f, args, h1, h2⟩ := hs
      have hic : i = c := hmu i hi hk
      subst hic
      unfold Oper.wp
      rw [h1, Oper.upon_enter]
      refine h2.mono ?_
      rintro e w'' ⟨r, rfl, hP, hb⟩
      refine ⟨r, rfl, F.below.trans (hb.mono F.below.size), hlt', ?_, fun _ _ _ => by simp, ?_, ?_, ?_, ?_⟩
      · intro j u hj hu
        rw [upd_at] at hu
        by_cases e : j = i
        · subst e; rw [upd_at]; rw [hk] at hu; simpa [Kd.val] using hu
        · rw [upd_ne e]
          have hlj : ls j = true := by simpa [e] using hj
          have hnr : ¬ (kdAt ks j).isRes = true := fun h => by rw [F.res j hlj h] at ni; cases ni
          refine F.val j u hlj ?_
          cases hkj : kdAt ks j <;> rw [hkj] at hu hnr <;> simp [Kd.val, Kd.isRes] at hu hnr ⊢ <;> exact hu
      · intro j b f hj hjk
        by_cases e : j = i
        · subst e; rw [hk] at hjk; cases hjk
        · have := (F.put j b f (by simpa [e] using hj) hjk).1
          rw [this] at ni; cases ni
      · intro _
        rw [upd_at]
        refine ⟨_, hP, fun g hg => hg.1, fun j t z g hj hjk hjv hg => ?_⟩
        by_cases e : j = i
        · subst e; rw [hk] at hjk; cases hjk
        · rw [upd_ne e] at hjv
          obtain ⟨g', C, e1, e2, e3, _⟩ := F.box j t z (by simpa [e] using hj) hjk
          rw [hjv] at e1
          injection e1 with e1; injection e1 with e1; injection e1 with e1
          have := e3.lt
          rcases hg.2 with h | h <;> omega
      · intro j t z hj hjk
        by_cases e : j = i
        · subst e; rw [hk] at hjk; cases hjk
        · obtain ⟨g, C, e1, e2, e3, e4, e5⟩ := F.box j t z (by simpa [e] using hj) hjk
          refine ⟨g, C, by rw [upd_ne e]; exact e1, e2, (hb.block g e3.lt).trans e3, e4, fun q f hq hlq => ?_⟩
          by_cases e' : q = i
          · subst e'; rw [hk] at hq; cases hq
          · have := (F.put q j f (by simpa [e'] using hlq) hq).1
            rw [this] at ni; cases ni
      · intro p q t z t' z' hp hq hpq hpk hqk
        have e1 : p ≠ i := fun e => by subst e; rw [hk] at hpk; cases hpk
        have e2 : q ≠ i := fun e => by subst e; rw [hk] at hqk; cases hqk
        rw [upd_ne e1, upd_ne e2]
        exact F.apart p q t z t' z' (by simpa [e1] using hp) (by simpa [e2] using hq) hpq hpk hqk
    | box t z =>
      rw [hk] at hs
      refine oper_wp_ok hs ⟨_, rfl, ?_⟩
      have hb : Below w'.heap.size w' (w'.alloc (.cells z t)) := (Below.refl _ _).alloc (Nat.le_refl _) _
      have hnew : ∀ j t' z', ls j = true → kdAt ks j = .box t' z' → vs j ≠ .pointer (some ⟨w'.heap.size, 0, none⟩) := fun j t' z' hj hjk e => by
        obtain ⟨g, C, e1, _, e3, _⟩ := F.box j t' z' hj hjk
        rw [e] at e1
        injection e1 with e1; injection e1 with e1; injection e1 with e1
        have := e3.lt; omega
      refine ⟨F.below.trans (hb.mono F.below.size), hlt', ?_, ?_, ?_, ?_, ?_, ?_⟩
      · intro j u hj hu
        rw [hupc _ _ hk rfl] at hu
        by_cases e : j = i
        · subst e; rw [hk] at hu; cases hu
        · rw [upd_ne e]; exact F.val j u (by simpa [e] using hj) hu
      · intro j hj hjr
        by_cases e : j = i
        · subst e; rw [hk] at hjr; cases hjr
        · simp [F.res j (by simpa [e] using hj) hjr]
      · intro j b f hj hjk
        by_cases e : j = i
        · subst e; rw [hk] at hjk; cases hjk
        · obtain ⟨e1, e2, e3⟩ := F.put j b f (by simpa [e] using hj) hjk
          rw [upd_ne e]; exact ⟨by simp [e1], by simp [e2], e3⟩
      · intro hc
        have hc' : ls c = true := by simpa [hcne _ hk rfl] using hc
        obtain ⟨S, e1, e2, e3⟩ := F.main hc'
        rw [hupc _ _ hk rfl]
        refine ⟨S, hloc S _ w' _ e1 hb.size (fun g _ h => hb.block g h), fun g hg => Nat.lt_of_lt_of_le (e2 g hg) hb.size, fun j t z g hj hjk hjv => ?_⟩
        by_cases e : j = i
        · subst e
          rw [upd_at] at hjv
          injection hjv with hjv; injection hjv with hjv; injection hjv with hjv
          intro hg
          have := e2 g hg; omega
        · rw [upd_ne e] at hjv; exact e3 j t z g (by simpa [e] using hj) hjk hjv
      · intro j t' z' hj hjk
        by_cases e : j = i
        · subst e
          rw [hk] at hjk
          injection hjk with h1 h2
          subst h1; subst h2
          refine ⟨w'.heap.size, z, by rw [upd_at], F.below.size, Blk.new _ _ _, rfl, fun q f hq hlq => ?_⟩
          have e' : q ≠ j := fun e' => by subst e'; rw [hk] at hq; cases hq
          have := (F.put q j f (by simpa [e'] using hlq) hq).2.1
          rw [this] at ni; cases ni
        · obtain ⟨g, C, e1, e2, e3, e4, e5⟩ := F.box j t' z' (by simpa [e] using hj) hjk
          refine ⟨g, C, by rw [upd_ne e]; exact e1, e2, (hb.block g e3.lt).trans e3, e4, fun q f hq hlq => ?_⟩
          rw [hupc _ _ hk rfl]
          have e' : q ≠ i := fun e' => by subst e'; rw [hk] at hq; cases hq
          exact e5 q f hq (by simpa [e'] using hlq)
      · intro p q t1 z1 t2 z2 hp hq hpq hpk hqk
        by_cases e1 : p = i
        · have e2 : q ≠ i := fun e => hpq (e1.trans e.symm)
          subst e1
          rw [upd_at, upd_ne e2]
          exact fun e => hnew q _ _ (by simpa [e2] using hq) hqk e.symm
        · by_cases e2 : q = i
          · subst e2
            rw [upd_at, upd_ne e1]
            exact hnew p _ _ (by simpa [e1] using hp) hpk
          · rw [upd_ne e1, upd_ne e2]
            exact F.apart p q _ _ _ _ (by simpa [e1] using hp) (by simpa [e2] using hq) hpq hpk hqk
    | put b f =>
      rw [hk] at hs
      have h := hdeps.1.2
      rw [hk] at h
      simp only [Bool.and_eq_true, decide_eq_true_eq] at h
      obtain ⟨⟨⟨⟨hwb, hbb⟩, hbl⟩, hany⟩, huniq⟩ := h
      obtain ⟨t, z, hkb⟩ : ∃ t z, kdAt ks b = .box t z := by
        cases h : kdAt ks b <;> rw [h] at hbb <;> first | exact ⟨_, _, rfl⟩ | cases hbb
      obtain ⟨hlb, hev⟩ := hwt b hwb
      obtain ⟨g, C, e1, e2, e3, e4, e5⟩ := F.box b t z hlb hkb
      have hob : l[b]? = some l[b] := List.getElem?_eq_getElem hbl
      have hdb : ∃ k, l[b].dst = some k := by
        have h3 := hal b hbl
        simp only [Bool.and_eq_true] at h3
        have h4 := h3.2
        rw [hkb, hob] at h4
        simp at h4
        exact Option.isSome_iff_exists.1 h4
      obtain ⟨k, hdb⟩ := hdb
      have hevb : (putL L vs 0 l a).eval (.tmp (dstOf l b)) = .pointer (some ⟨g, 0, none⟩) := by
        rw [show dstOf l b = k by simp [dstOf, hob, hdb], hev _ k hob hdb, e1]
      have hlc : ls c = true := by
        obtain ⟨j, _, hj⟩ := List.any_eq_true.1 hany
        simp only [Bool.and_eq_true] at hj
        exact hres j hj.1 hj.2
      obtain ⟨S, p1, p2, p3⟩ := F.main hlc
      obtain ⟨w'', hrun, hsz, hblk, hfs, hoth, h1, h2, h3⟩ := hs S p1 t z g C hkb e3 e4 hevb
      have hdn : o.dst = none := by
        have h4 := hdeps.2
        rw [hk, ho] at h4
        simpa using h4
      unfold Oper.wp
      rw [hrun, Oper.upon_skip]
      have hbel : Below w.heap.size w w'' := ⟨h1.trans F.below.os, h2.trans F.below.tape, h3.trans F.below.output, by rw [hsz]; exact F.below.size, fun j hj => by rw [hoth j (by omega)]; exact F.below.block j hj⟩
      refine ⟨undef, rfl, hbel, hlt', ?_, ?_, ?_, ?_, ?_, ?_⟩
      · intro j u hj hu
        rw [hupc _ _ hk rfl] at hu
        by_cases e : j = i
        · subst e; rw [hk] at hu; cases hu
        · rw [upd_ne e]; exact F.val j u (by simpa [e] using hj) hu
      · intro j hj hjr
        simp [hlc]
      · intro j b' f' hj hjk
        by_cases e : j = i
        · subst e
          rw [hk] at hjk
          injection hjk with q1 q2
          subst q1
          exact ⟨by simp [hlc], by simp [hlb], by rw [upd_at]⟩
        · obtain ⟨e1, e2, e3⟩ := F.put j b' f' (by simpa [e] using hj) hjk
          rw [upd_ne e]; exact ⟨by simp [e1], by simp [e2], e3⟩
      · intro _
        rw [hupc _ _ hk rfl]
        refine ⟨S, hloc S _ w' w'' p1 (by omega) (fun g' hg' _ => hoth g' (fun e => p3 b t z g hlb hkb e1 (e ▸ hg'))), fun g' hg' => by have := p2 g' hg'; omega, fun j t' z' g' hj hjk hjv => ?_⟩
        have e : j ≠ i := fun e => by subst e; rw [hk] at hjk; cases hjk
        rw [upd_ne e] at hjv
        exact p3 j t' z' g' (by simpa [e] using hj) hjk hjv
      · intro j t' z' hj hjk
        have e : j ≠ i := fun e => by subst e; rw [hk] at hjk; cases hjk
        have hlj : ls j = true := by simpa [e] using hj
        by_cases ejb : j = b
        · subst ejb
          rw [hkb] at hjk
          injection hjk with q1 q2
          subst q1; subst q2
          refine ⟨g, f (vs c), by rw [upd_ne e]; exact e1, e2, hblk, hfs, fun q f' hq hlq => ?_⟩
          rw [hupc _ _ hk rfl]
          by_cases eq : q = i
          · subst eq
            rw [hk] at hq
            injection hq with _ q2
            rw [q2]
          · have hql : q < l.length := hlt' q hlq
            have h5 := List.all_eq_true.1 huniq q (List.mem_range.2 hql)
            simp [hq, Kd.to, Ne.symm eq] at h5
        · obtain ⟨g', C', p1, p2, p3, p4, p5⟩ := F.box j t' z' hlj hjk
          have hne : g' ≠ g := fun e => F.apart j b t' z' t z hlj hlb ejb hjk hkb (by rw [p1, e1, e])
          refine ⟨g', C', by rw [upd_ne e]; exact p1, p2, (hoth g' hne).trans p3, p4, fun q f' hq hlq => ?_⟩
          rw [hupc _ _ hk rfl]
          by_cases eq : q = i
          · subst eq
            rw [hk] at hq
            injection hq with q1 _
            exact absurd q1.symm ejb
          · exact p5 q f' hq (by simpa [eq] using hlq)
      · intro p q t1 z1 t2 z2 hp hq hpq hpk hqk
        have e1 : p ≠ i := fun e => by subst e; rw [hk] at hpk; cases hpk
        have e2 : q ≠ i := fun e => by subst e; rw [hk] at hqk; cases hqk
        rw [upd_ne e1, upd_ne e2]
        exact F.apart p q _ _ _ _ (by simpa [e1] using hp) (by simpa [e2] using hq) hpq hpk hqk
  · intro L vs w' F hlst
    have hc := hlst c hcl
    obtain ⟨S, p1, p2, p3⟩ := F.main hc
    have hgs : ∃ gs : Nat → Nat, ∀ i t z, i < l.length → kdAt ks i = .box t z → vs i = .pointer (some ⟨gs i, 0, none⟩) := by
      refine ⟨fun i => match vs i with | .pointer (some ad) => ad.block | _ => 0, fun i t z hi hk => ?_⟩
      obtain ⟨g, C, e1, _⟩ := F.box i t z (hlst i hi) hk
      simp [e1]
    obtain ⟨gs, hgs⟩ := hgs
    rw [putL_all L vs (vs c) gs l 0 ks a hlen (fun i hi => by rw [Nat.zero_add]; exact hlst i hi) (fun i hi => ?_)]
    · refine hend (vs c) gs S w' F.below p1 p2 (fun b t z hb hk => ?_) (fun b b' t z t' z' hb hb' hne hk hk' e => ?_)
      · obtain ⟨g, C, e1, e2, e3, e4, e5⟩ := F.box b t z (hlst b hb) hk
        have e6 := hgs b t z hb hk
        rw [e6] at e1
        injection e1 with e1; injection e1 with e1; injection e1 with e1
        rw [e1]
        refine ⟨e2, ?_, C, e3, fun j f hj hjk => e5 j f hjk (hlst j hj)⟩
        rw [← e1]
        exact p3 b t z (gs b) (hlst b hb) hk e6
      · exact F.apart b b' t z t' z' (hlst b hb) (hlst b' hb') hne hk hk' (by rw [hgs b t z hb hk, hgs b' t' z' hb' hk', e])
    · rw [Nat.zero_add]
      cases hk : kdAt ks i with
      | box t z => exact hgs i t z hi hk
      | put b f => exact (F.put i b f (hlst i hi) hk).2.2
      | quiet v => exact F.val i _ (hlst i hi) (by rw [hk]; rfl)
      | qcall v => exact F.val i _ (hlst i hi) (by rw [hk]; rfl)
      | main => exact F.val i _ (hlst i hi) (by rw [hk]; rfl)
      | fin f => exact F.val i _ (hlst i hi) (by rw [hk]; rfl)
end

/-- a part of a tuple -/
def exT (i : Nat) (r : Value) : Value := match r with
  | .tuple vs => vs[i]?.getD undef
  | _ => undef
/-- a struct's cells -/
def aggC (r : Value) : Array Value := match r with
  | .agg vs => vs
  | _ => #[]

theorem set1 {w : World} {g : Nat} {C : Array Value} {t : TypeId} (h : Blk w g C t) (hs : C.size = 1) (v0 : Value) :
    (w.setCell ⟨g, 0, none⟩ v0).heap.size = w.heap.size ∧ Blk (w.setCell ⟨g, 0, none⟩ v0) g #[v0] t ∧ ∀ j, j ≠ g → (w.setCell ⟨g, 0, none⟩ v0).heap[j]? = w.heap[j]? := by
  obtain ⟨l⟩ := C
  obtain ⟨c0, rfl⟩ := List.length_eq_one_iff.1 hs
  exact ⟨by simp, h.set 0 v0, fun j hj => Below.heap_setCell _ _ _ _ hj⟩
theorem set3 {w : World} {g : Nat} {C : Array Value} {t : TypeId} (h : Blk w g C t) (hs : C.size = 3) (v0 v1 v2 : Value) :
    (((w.setCell ⟨g, 0, none⟩ v0).setCell ⟨g, 1, none⟩ v1).setCell ⟨g, 2, none⟩ v2).heap.size = w.heap.size ∧ Blk (((w.setCell ⟨g, 0, none⟩ v0).setCell ⟨g, 1, none⟩ v1).setCell ⟨g, 2, none⟩ v2) g #[v0, v1, v2] t ∧ ∀ j, j ≠ g → (((w.setCell ⟨g, 0, none⟩ v0).setCell ⟨g, 1, none⟩ v1).setCell ⟨g, 2, none⟩ v2).heap[j]? = w.heap[j]? := by
  obtain ⟨l⟩ := C
  match l, hs with
  | [c0, c1, c2], _ => exact ⟨by simp, ((h.set 0 v0).set 1 v1).set 2 v2, fun j hj => by rw [Below.heap_setCell _ _ _ _ (by exact hj), Below.heap_setCell _ _ _ _ (by exact hj), Below.heap_setCell _ _ _ _ (by exact hj)]⟩
theorem cells1 {w : World} {g : Nat} {C : Array Value} {t : TypeId} (h : Blk w g C t) (hs : C.size = 1) : ∃ c0, w.cell? ⟨g, 0, none⟩ = some c0 := by
  obtain ⟨l⟩ := C
  match l, hs with
  | [c0], _ => exact ⟨c0, h.cell rfl⟩
theorem cells3 {w : World} {g : Nat} {C : Array Value} {t : TypeId} (h : Blk w g C t) (hs : C.size = 3) : ∃ c0 c1 c2, w.cell? ⟨g, 0, none⟩ = some c0 ∧ w.cell? ⟨g, 1, none⟩ = some c1 ∧ w.cell? ⟨g, 2, none⟩ = some c2 := by
  obtain ⟨l⟩ := C
  match l, hs with
  | [c0, c1, c2], _ => exact ⟨c0, c1, c2, h.cell rfl, h.cell rfl, h.cell rfl⟩

end Go.Proofs.YtnpaejknoipicagGreat
