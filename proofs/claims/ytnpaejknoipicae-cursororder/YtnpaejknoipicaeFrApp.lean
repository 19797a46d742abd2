/-
  Rows of frames that grow, their texts in memory of the call's own: what else there is stays.
-/
import Derived.Test.YtnpaejknoipicaeConcat
import Derived.Test.YtnpaejknoipicaeButB
namespace Go.Proofs.Ytnpaejknoipicae
open Go.RowKit

/-- a row of frames behind a row of the call's own -/
theorem fr_app {base : Nat} {w : World} {u x : Value} {l m : List Fr} (h : OwnFrs base (NS base u) w u l) (hx : FrsIn (NS base u) w x m) (hl : l.length + m.length ≤ 1000) (hb : base ≤ w.heap.size) :
    ∃ v' w', (Builtin.append_ #[32, 32] 32 #[u, x]).run Try.prog w = .ok v' w' ∧ OwnFrs base (NS base v') w' v' (l ++ m) ∧ w.grownBy w' u.ownBlock := by
  obtain ⟨i0, hi, hz0, hz1, hz2⟩ := info_parts Try.infoFrm
  have h1 : OwnFrs base (fun g => NS base u g ∧ g < w.heap.size) w u l := h.to (SameOn.refl _ _) (fun g hg hs => ⟨hs, hg⟩) (fun _ _ => rfl)
  have hx1 : FrsIn (fun g => NS base u g ∧ g < w.heap.size) w x m := hx.mono fun g hg hs => ⟨hs, hg⟩
  obtain ⟨ps, p1, p2, p3⟩ := h1
  obtain ⟨qs, q1, q2, q3⟩ := hx1.sl
  have hps : ps.length = l.length := by rw [← p1, List.length_map]
  have hqs : qs.length = m.length := by rw [← q1, List.length_map]
  obtain ⟨v', w', r, o, g, dd⟩ := run_append_any (P := Try.prog) w base 32 32 39 i0 _ 3 40 Try.underlying32 hi hz0 hz1 hz2 rfl (by decide) u ps.length (frCells ps) p2 qs.length (frCells qs) x q2 (fr_one2 q3) (by unfold maxLen; omega) (by omega) hb
  have hs : SameOn (fun g => NS base u g ∧ g < w.heap.size) w w' := SameOn.grown g (fun g hg => hg.1.2)
  have o1 : OwnFrs base (fun g => NS base u g ∧ g < w.heap.size) w' v' (l ++ m) := by
    refine ⟨ps ++ qs, by rw [List.map_append, p1, q1], by rw [List.length_append, frCells_append]; exact o, fun p hp => ?_⟩
    rcases List.mem_append.1 hp with hp | hp
    · exact (p3 p hp).to hs (fun _ _ h => h)
    · exact (q3 p hp).to hs (fun _ _ h => h)
  refine ⟨v', w', r, o1.to (SameOn.refl _ _) (fun g _ hg => ⟨hg.1.1, fun e => ?_⟩) (fun _ _ => rfl), g⟩
  rcases dd with d | d
  · rw [d] at e; exact hg.1.2 e
  · have := d g e.symm; omega

/-- one more frame behind a row of the call's own -/
theorem fr_snocK {base : Nat} {w : World} {u pv : Value} {l : List Fr} {f : Fr} (h : OwnFrs base (NS base u) w u l) (hp : StrsIn (NS base u) w pv f.parts) (hl : l.length ≤ 999) (hb : base ≤ w.heap.size) :
    ∃ v' w', (Builtin.append_ #[32, 32] 32 #[u, .slice (some ⟨w.heap.size, 0, none⟩) 1 1]).run Try.prog (w.alloc (.cells #[.int .i64 f.time, .bool f.key, pv] 39)) = .ok v' w' ∧ OwnFrs base (NS base v') w' v' (l ++ [f]) ∧ (w.alloc (.cells #[.int .i64 f.time, .bool f.key, pv] 39)).grownBy w' u.ownBlock := by
  have h1 : OwnFrs base (NS base u) (w.alloc (.cells #[.int .i64 f.time, .bool f.key, pv] 39)) u l := h.below ((Below.refl _ w).alloc (Nat.le_refl _) _)
  have hW : base ≤ (w.alloc (.cells #[.int .i64 f.time, .bool f.key, pv] 39)).heap.size := by simp; omega
  refine fr_app h1 ⟨some ⟨w.heap.size, 0, none⟩, 1, rfl, Nat.le_refl _, by decide, fun k hk => ?_⟩ (by simp; omega) hW
  have hk0 : k = 0 := by simpa using hk
  subst hk0
  have hB := Blk.new w #[.int .i64 f.time, .bool f.key, pv] 39
  refine ⟨w.heap.size, 0, rfl, hB.lt, ⟨hb, fun e => ?_⟩, pv, hB.cell rfl, hB.cell rfl, hB.cell rfl, hp.alloc _⟩
  have := (h.lt _ e.symm).2
  omega
theorem OwnFrs.but {base : Nat} {S : Nat → Prop} {w w' : World} {v : Value} {l : List Fr} (h : OwnFrs base S w v l) (hb : Below w.heap.size w w') : OwnFrs base S w' v l := h.below hb
theorem OwnFrs.set {base : Nat} {w : World} {v : Value} {l : List Fr} (h : OwnFrs base (NS base v) w v l) {b i : Nat} (hb : b < base) (y : Value) : OwnFrs base (NS base v) (w.setCell ⟨b, i, none⟩ y) v l :=
  h.to (SameOn.setCell (S := NS base v) (a := ⟨b, i, none⟩) (fun g hg => by have := hg.1; show g ≠ b; omega) y) (fun _ _ h => h) (fun g hg => Below.heap_setCell _ _ _ _ (by have := (h.lt g hg).1; show g ≠ b; omega))
/-- what an append leaves of the rest -/
theorem grown_but {B base : Nat} {w w' : World} {row : Option Nat} (hg : w.grownBy w' row) (hb : base ≤ w.heap.size) (hr : ∀ k, row = some k → base ≤ k) : But B base w w' := .of_below ((Below.refl base w).grown hg hb hr)

end Go.Proofs.Ytnpaejknoipicae
