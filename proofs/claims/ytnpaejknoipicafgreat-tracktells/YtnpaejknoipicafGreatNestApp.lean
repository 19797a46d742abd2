/-
  append of rows of frames and of groups.
-/
import Derived.Test.YtnpaejknoipicafGreatGroupMake
import Derived.Test.YtnpaejknoipicafGreatAppAny
import Derived.Deep.Slices
namespace Go.Proofs.YtnpaejknoipicafGreat
open Go.RowKit

/-- what a row of frames shows, as cells -/
theorem FrsIn.sl {S : Nat → Prop} {w : World} {v : Value} {l : List Fr} (h : FrsIn S w v l) : ∃ ps : List (Fr × Value), ps.map Prod.fst = l ∧ Sl w v ps.length 3 (frCells ps) ∧ ∀ p ∈ ps, StrsIn S w p.2 p.1.parts := by
  obtain ⟨ao, c, rfl, _, _, hc⟩ := h
  have each : ∀ k, k < l.length → ∃ pv, ∃ b off, ao = some ⟨b, off, none⟩ ∧ b < w.heap.size ∧ w.cell? ⟨b, off + k * 3, none⟩ = some (.int .i64 (l[k]?.getD Fr.zero).time) ∧ w.cell? ⟨b, off + k * 3 + 1, none⟩ = some (.bool (l[k]?.getD Fr.zero).key) ∧ w.cell? ⟨b, off + k * 3 + 2, none⟩ = some pv ∧ StrsIn S w pv (l[k]?.getD Fr.zero).parts := fun k hk => by
    obtain ⟨b, off, e1, e2, _, pv, h1, h2, h3, h4⟩ := hc k hk
    exact ⟨pv, b, off, e1, e2, h1, h2, h3, h4⟩
  obtain ⟨f, hf⟩ := Go.Deep.choose_lt each
  have hlen : ((List.range l.length).map fun k => (l[k]?.getD Fr.zero, f k)).length = l.length := by simp
  have hat : ∀ k, k < l.length → ((List.range l.length).map fun k => (l[k]?.getD Fr.zero, f k))[k]? = some (l[k]?.getD Fr.zero, f k) := fun k hk => by
    rw [List.getElem?_map, List.getElem?_range hk]; rfl
  refine ⟨(List.range l.length).map fun k => (l[k]?.getD Fr.zero, f k), ?_, ?_, fun p hp => ?_⟩
  · refine List.ext_getElem (by simp) fun k h1 h2 => ?_
    simp [List.getElem?_eq_getElem h2]
  · rw [hlen]
    refine ⟨by rw [frCells_len, hlen], ?_⟩
    by_cases h0 : l.length = 0
    · exact .inl ⟨h0, ao, c, by rw [h0]⟩
    · obtain ⟨b, off, e1, e2, _⟩ := hf 0 (by omega)
      subst e1
      refine .inr ⟨b, off, c, rfl, e2, fun j u hj => ?_⟩
      have hjl : j < l.length * 3 := by
        have := (List.getElem?_eq_some_iff.1 hj).1
        rwa [frCells_len, hlen] at this
      have hjk : j = j / 3 * 3 + j % 3 := by omega
      rw [hjk, frCells_at _ (j / 3) (j % 3) _ (by omega) (hat (j / 3) (by omega))] at hj
      obtain ⟨b', off', e1, _, g0, g1, g2, _⟩ := hf (j / 3) (by omega)
      injection e1 with e1
      injection e1 with e1 e3
      subst e1 e3
      have h3 : j % 3 = 0 ∨ j % 3 = 1 ∨ j % 3 = 2 := by omega
      rcases h3 with h3 | h3 | h3
      · rw [h3] at hj hjk
        simp at hj; subst hj
        rw [show off + j = off + j / 3 * 3 by omega]; exact g0
      · rw [h3] at hj hjk
        simp at hj; subst hj
        rw [show off + j = off + j / 3 * 3 + 1 by omega]; exact g1
      · rw [h3] at hj hjk
        simp at hj; subst hj
        rw [show off + j = off + j / 3 * 3 + 2 by omega]; exact g2
  · obtain ⟨k, hk, rfl⟩ := List.mem_map.1 hp
    obtain ⟨b, off, _, _, _, _, _, h4⟩ := hf k (by simpa using hk)
    exact h4
theorem GrsIn.sl {S : Nat → Prop} {w : World} {v : Value} {L : List (List Fr)} (h : GrsIn S w v L) : ∃ ps : List (List Fr × Value), ps.map Prod.fst = L ∧ Sl w v ps.length 1 (ps.map Prod.snd) ∧ ∀ p ∈ ps, FrsIn S w p.2 p.1 := by
  obtain ⟨ao, c, rfl, _, _, hc⟩ := h
  have each : ∀ k, k < L.length → ∃ sv, ∃ b off, ao = some ⟨b, off, none⟩ ∧ b < w.heap.size ∧ w.cell? ⟨b, off + k, none⟩ = some sv ∧ FrsIn S w sv (L[k]?.getD []) := fun k hk => by
    obtain ⟨b, off, e1, e2, _, sv, h1, h2⟩ := hc k hk
    exact ⟨sv, b, off, e1, e2, h1, h2⟩
  obtain ⟨f, hf⟩ := Go.Deep.choose_lt each
  have hlen : ((List.range L.length).map fun k => (L[k]?.getD [], f k)).length = L.length := by simp
  refine ⟨(List.range L.length).map fun k => (L[k]?.getD [], f k), ?_, ?_, fun p hp => ?_⟩
  · refine List.ext_getElem (by simp) fun k h1 h2 => ?_
    simp [List.getElem?_eq_getElem h2]
  · rw [hlen]
    refine ⟨by simp, ?_⟩
    by_cases h0 : L.length = 0
    · exact .inl ⟨h0, ao, c, by rw [h0]⟩
    · obtain ⟨b, off, e1, e2, _⟩ := hf 0 (by omega)
      subst e1
      refine .inr ⟨b, off, c, rfl, e2, fun j u hj => ?_⟩
      have hjl : j < L.length := by
        have := (List.getElem?_eq_some_iff.1 hj).1
        simpa using this
      obtain ⟨b', off', e1, _, g0, _⟩ := hf j hjl
      injection e1 with e1
      injection e1 with e1 e3
      subst e1 e3
      rw [List.getElem?_map, List.getElem?_map, List.getElem?_range hjl] at hj
      simp at hj; subst hj
      exact g0
  · obtain ⟨k, hk, rfl⟩ := List.mem_map.1 hp
    obtain ⟨b, off, _, _, _, h4⟩ := hf k (by simpa using hk)
    exact h4
theorem fr_one2 {S : Nat → Prop} {w : World} {ps : List (Fr × Value)} (h : ∀ p ∈ ps, StrsIn S w p.2 p.1.parts) : ∀ u ∈ frCells ps, u.oneCell' = true := fun u hu => by
  obtain ⟨p, hp, hu⟩ := List.mem_flatMap.1 hu
  simp at hu
  rcases hu with rfl | rfl | rfl
  · rfl
  · rfl
  · obtain ⟨a, c, e⟩ := (h p hp).1.len
    rw [e]; rfl
/-- 'append(append([]api.Frame{}, a...), b...)' -/
theorem frames_two {S : Nat → Prop} {w : World} {u v : Value} {l m : List Fr} (hu : FrsIn S w u l) (hv : FrsIn S w v m) (hb : l.length + m.length ≤ 1000) :
    ∃ v3 w3 v4 w4, (Builtin.append_ #[23, 23] 23 #[.slice (some ⟨w.heap.size, 0, none⟩) 0 0, u]).run Tryz.prog (w.alloc (.cells #[] 30)) = .ok v3 w3 ∧ (Builtin.append_ #[23, 23] 23 #[v3, v]).run Tryz.prog w3 = .ok v4 w4 ∧ OwnFrs w.heap.size S w4 v4 (l ++ m) ∧ Below w.heap.size w w4 := by
  obtain ⟨i0, hi, hz0, hz1, hz2⟩ := info_parts Tryz.infoFrm
  obtain ⟨ps, p1, p2, p3⟩ := hu.sl
  obtain ⟨qs, q1, q2, q3⟩ := hv.sl
  have hps : ps.length = l.length := by rw [← p1, List.length_map]
  have hqs : qs.length = m.length := by rw [← q1, List.length_map]
  obtain ⟨v3, w3, v4, w4, r3, r4, o4, b4⟩ := app_two (P := Tryz.prog) w 23 30 i0 _ 3 40 Tryz.underlying23 hi hz0 hz1 hz2 rfl (by decide) u v ps.length qs.length (frCells ps) (frCells qs) p2 q2 (fr_one2 p3) (fr_one2 q3) (by unfold maxLen; omega) (by omega)
  refine ⟨v3, w3, v4, w4, r3, r4, ⟨ps ++ qs, by rw [List.map_append, p1, q1], by rw [List.length_append, frCells_append]; exact o4, fun p hp => ?_⟩, b4⟩
  rcases List.mem_append.1 hp with hp | hp
  · exact (p3 p hp).below b4
  · exact (q3 p hp).below b4
/-- append of groups to a row of the call's own -/
theorem groups_app {base : Nat} {S : Nat → Prop} {w : World} {v u : Value} {L M : List (List Fr)} {qs : List (List Fr × Value)} (hv : OwnGrs base S w v L) (q1 : qs.map Prod.fst = M) (q2 : Sl w u qs.length 1 (qs.map Prod.snd)) (q3 : ∀ p ∈ qs, FrsIn S w p.2 p.1) (hS : ∀ g, S g → some g ≠ v.ownBlock) (hb : L.length + M.length ≤ 1000) (hbase : base ≤ w.heap.size) :
    ∃ v' w', (Builtin.append_ #[22, 22] 22 #[v, u]).run Tryz.prog w = .ok v' w' ∧ OwnGrs base S w' v' (L ++ M) ∧ w.grownBy w' v.ownBlock ∧ (v'.ownBlock = v.ownBlock ∨ ∀ g, v'.ownBlock = some g → w.heap.size ≤ g) := by
  obtain ⟨i0, hi, hz0, hz1, hz2⟩ := info_parts Tryz.infoGrp
  obtain ⟨ps, p1, p2, p3⟩ := hv
  have hps : ps.length = L.length := by rw [← p1, List.length_map]
  have hqs : qs.length = M.length := by rw [← q1, List.length_map]
  obtain ⟨v', w', r, o, g, dd⟩ := run_append_any (P := Tryz.prog) w base 22 22 25 i0 _ 1 24 Tryz.underlying22 hi hz0 hz1 hz2 rfl (by decide) v ps.length (ps.map Prod.snd) p2 qs.length (qs.map Prod.snd) u q2 (grp_one q3) (by unfold maxLen; omega) (by omega) hbase
  refine ⟨v', w', r, ⟨ps ++ qs, by rw [List.map_append, p1, q1], by rw [List.length_append, List.map_append]; exact o, fun p hp => ?_⟩, g, dd⟩
  have hs : SameOn S w w' := SameOn.grown g hS
  rcases List.mem_append.1 hp with hp | hp
  · exact (p3 p hp).to hs (fun _ _ h => h)
  · exact (q3 p hp).to hs (fun _ _ h => h)
/-- 'append([]api.Group{}, a...)' -/
theorem groups_copy {w : World} {u : Value} {L : List (List Fr)} (hu : GrsIn (fun g => g < w.heap.size) w u L) (hb : L.length ≤ 1000) :
    ∃ v' w', (Builtin.append_ #[22, 22] 22 #[.slice (some ⟨w.heap.size, 0, none⟩) 0 0, u]).run Tryz.prog (w.alloc (.cells #[] 25)) = .ok v' w' ∧ OwnGrs w.heap.size (fun g => g < w.heap.size) w' v' L ∧ Below w.heap.size w w' := by
  obtain ⟨qs, q1, q2, q3⟩ := (hu.alloc (.cells #[] 25)).sl
  have h0 : OwnGrs w.heap.size (fun g => g < w.heap.size) (w.alloc (.cells #[] 25)) (.slice (some ⟨w.heap.size, 0, none⟩) 0 0) [] := ⟨[], rfl, World.ownsRow_lit (base := w.heap.size) (e := 25) (size := 1) w #[] 0 (Nat.le_refl _) (by unfold maxLen; omega) rfl, fun _ hp => absurd hp List.not_mem_nil⟩
  obtain ⟨v', w', r, o, g, _⟩ := groups_app h0 q1 q2 q3 (fun g hg e => by simp [Value.ownBlock] at e; omega) (by simpa using hb) (by simp)
  exact ⟨v', w', r, by simpa using o, ((Below.refl _ w).alloc (Nat.le_refl _) _).grown g (by simp) (fun j hj => by simp [Value.ownBlock] at hj; omega)⟩
/-- 'append(want, x)' -/
theorem groups_snoc {base B : Nat} {w : World} {v ov : Value} {L : List (List Fr)} {o : List Fr} (hv : OwnGrs base (fun g => g < B) w v L) (hB : B ≤ base) (ho : FrsIn (fun g => g < B) w ov o) (hb : L.length ≤ 999) (hbase : base ≤ w.heap.size) :
    ∃ v' w', (Builtin.append_ #[22, 22] 22 #[v, .slice (some ⟨w.heap.size, 0, none⟩) 1 1]).run Tryz.prog (w.alloc (.cells #[ov] 25)) = .ok v' w' ∧ OwnGrs base (fun g => g < B) w' v' (L ++ [o]) ∧ Below base w w' := by
  have hS : ∀ g, g < B → some g ≠ v.ownBlock := fun g hg e => by have := (hv.lt g e.symm).1; omega
  obtain ⟨v', w', r, o', g, _⟩ := groups_app (qs := [(o, ov)]) (hv.below ((Below.refl _ w).alloc (Nat.le_refl _) (.cells #[ov] 25))) rfl (Sl.new w #[ov] 25 1 1 1 rfl) (fun p hp => by simp at hp; subst hp; exact ho.alloc _) hS (by simpa using hb) (by simp; omega)
  exact ⟨v', w', r, o', ((Below.refl base w).alloc hbase _).grown g (by simp; omega) (fun j hj => (hv.lt j hj).1)⟩

end Go.Proofs.YtnpaejknoipicafGreat
