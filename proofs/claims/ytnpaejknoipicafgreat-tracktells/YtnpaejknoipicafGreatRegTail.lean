/-
  A region that draws its order, whose last operations each wait for all that stand ahead of them (stores and assigns behind what is reckoned): the first part by one invariant, the last ones in the text's order.
-/
import Derived.Test.YtnpaejknoipicafGreatRegInv
namespace Go.Proofs.YtnpaejknoipicafGreat
open Go.RowKit

section
variable {P : Program} {Q : Exit → Act → World → Prop}

/-- operations in the text's order -/
def tl (P : Program) (Q : Exit → Act → World → Prop) : List Oper → Act → World → Prop
  | [], a, w => Q .normal a w
  | o :: r, a, w => o.wp P a w (fun a' w' => tl P Q r a' w') Q

/-- (a structure of its own: nothing looks into it unasked) -/
structure TL (P : Program) (Q : Exit → Act → World → Prop) (l : List Oper) (a : Act) (w : World) : Prop where
  out : tl P Q l a w

/-- each of the last ones waits for all ahead of it -/
def tailB (n : Nat) (l : List Oper) : Bool := (List.range l.length).all fun i => decide (i < n) || (match l[i]? with | none => false | some o => (List.range i).all fun j => o.after.toList.any fun e => e.on == j && Region.binds .any e)
def regOkT (l : List Oper) : Bool := l.all (fun o => o.guard.isNone) && (l.zipIdx.all fun p => p.1.after.all fun e => decide (e.on < p.2) || !(Region.binds .any e))

theorem tailB_spec {n : Nat} {l : List Oper} (h : tailB n l = true) {i : Nat} {o : Oper} (ho : l[i]? = some o) (hn : n ≤ i) {L : Array Bool} (hr : ∀ e ∈ o.after, Region.binds .any e = true → L.getD e.on false = true) : ∀ j, j < i → L.getD j false = true := by
  intro j hj
  have hi : i < l.length := (List.getElem?_eq_some_iff.1 ho).1
  have h1 := List.all_eq_true.1 h i (List.mem_range.2 hi)
  simp only [Bool.or_eq_true, decide_eq_true_eq] at h1
  rcases h1 with h1 | h1
  · omega
  · rw [ho] at h1
    have h2 := List.all_eq_true.1 h1 j (List.mem_range.2 hj)
    obtain ⟨e, he, h3⟩ := List.any_eq_true.1 h2
    simp only [Bool.and_eq_true, beq_iff_eq] at h3
    rw [← h3.1]; exact hr e (by simpa using he) h3.2

theorem rep_no (n j : Nat) : (Array.replicate n false).getD j false = false := by
  simp [Array.getD_eq_getD_getElem?, Array.getElem?_replicate]; split <;> rfl

theorem wp_region_tail {id : Nat} {a : Act} {w : World} {l t : List Oper} (hm : P.follows .mixedOrders = true) (hd : dstsApart l = true) (hB : regOkT (l ++ t) = true) (hT : tailB l.length (l ++ t) = true) (F : Array Bool → (Nat → Value) → World → Prop)
    (h0 : F (Array.replicate l.length false) (fun _ => undef) { w with drawn := w.drawn + 1 })
    (hstep : ∀ L vs w', F L vs w' → ∀ (i : Nat) (o : Oper), l[i]? = some o → L[i]? = some false → (∀ e ∈ o.after, Region.binds .any e = true → L.getD e.on false = true) →
      o.wp P (putL L vs 0 l a) w' (fun a' w'' => ∃ v, a' = (putL L vs 0 l a).put o.dst v ∧ F (L.setIfInBounds i true) (upd vs i v) w'') Q)
    (hend : ∀ L vs w', F L vs w' → (∀ i, i < l.length → L.getD i false = true) → tl P Q t (putL L vs 0 l a) w') : (Code.region id (l ++ t).toArray true).wp P Q a w := by
  simp only [regOkT, Bool.and_eq_true] at hB
  obtain ⟨hg, hA⟩ := hB
  have hAft : ∀ (i : Nat) (o : Oper), (l ++ t).toArray[i]? = some o → ∀ e ∈ o.after, Region.binds .any e = true → e.on < i := fun i o ho e he hb => by
    have h1 : (o, i) ∈ (l ++ t).zipIdx := by
      rw [List.mem_zipIdx_iff_getElem?]; simpa using ho
    have h2 := List.all_eq_true.1 hA _ h1
    rw [Array.all_eq_true_iff_forall_mem] at h2
    simpa [hb] using h2 e he
  refine wp_region_any hm ?_
  refine wpAny_inv (md := .any) (fun L a' w' => (∃ L1 vs, L1.size = l.length ∧ (∀ j, j < l.length → L.getD j false = L1.getD j false) ∧ (∀ j, l.length ≤ j → L.getD j false = false) ∧ a' = putL L1 vs 0 l a ∧ F L1 vs w') ∨ (∃ k, k ≤ t.length ∧ 0 < k ∧ (∀ j, j < l.length + k → L.getD j false = true) ∧ (∀ j, l.length + k ≤ j → L.getD j false = false) ∧ tl P Q (t.drop k) a' w')) ?_ ?_ ?_ _ _ _ _ (by simp) ?_ ?_
  · intro o ho
    have := List.all_eq_true.1 hg o (by simpa using ho)
    simpa using this
  · rintro L a' w' hs hI i o ho hL hrdy
    have ho' : (l ++ t)[i]? = some o := by simpa using ho
    have hLi : L.getD i false = false := by simp [Array.getD_eq_getD_getElem?, hL]
    have hit : i < l.length + t.length := by have := (List.getElem?_eq_some_iff.1 ho').1; simpa using this
    have next : ∀ k, k < t.length → i = l.length + k → (∀ j, j < i → L.getD j false = true) → (∀ j, i < j → L.getD j false = false) → tl P Q (t.drop k) a' w' → o.wp P a' w' (fun a'' w'' => (∃ L1 vs, L1.size = l.length ∧ (∀ j, j < l.length → (L.setIfInBounds i true).getD j false = L1.getD j false) ∧ (∀ j, l.length ≤ j → (L.setIfInBounds i true).getD j false = false) ∧ a'' = putL L1 vs 0 l a ∧ F L1 vs w'') ∨ (∃ k, k ≤ t.length ∧ 0 < k ∧ (∀ j, j < l.length + k → (L.setIfInBounds i true).getD j false = true) ∧ (∀ j, l.length + k ≤ j → (L.setIfInBounds i true).getD j false = false) ∧ tl P Q (t.drop k) a'' w'')) Q := fun k hk hik h1 h2 h3 => by
      have hok : t.drop k = o :: t.drop (k + 1) := by
        have e : t[k]? = some o := by
          rw [List.getElem?_append_right (by omega)] at ho'
          rw [← ho']; congr 1; omega
        rw [List.drop_eq_getElem_cons hk]
        congr 1
        rw [List.getElem?_eq_getElem hk] at e
        injection e
      rw [hok] at h3
      refine Oper.wp_mono (fun a'' w'' h => ?_) h3
      refine .inr ⟨k + 1, hk, by omega, fun j hj => ?_, fun j hj => ?_, h⟩
      · by_cases e : j = i
        · subst e; exact getD_set_at hL _
        · rw [getD_set_other e]; exact h1 j (by omega)
      · rw [getD_set_other (by omega)]; exact h2 j (by omega)
    rcases hI with ⟨L1, vs, hs1, hj1, hj2, rfl, hF⟩ | ⟨k, hk, hk0, hj1, hj2, ht⟩
    · by_cases hi : i < l.length
      · have hl : l[i]? = some o := by rw [List.getElem?_append_left hi] at ho'; exact ho'
        have hL1 : L1[i]? = some false := by
          have h1 := hj1 i hi
          rw [hLi] at h1
          have h2 : i < L1.size := by omega
          rw [Array.getElem?_eq_getElem h2]
          simp [Array.getD_eq_getD_getElem?, h2] at h1
          rw [h1]
        have hsub : ∀ e ∈ o.after, Region.binds .any e = true → L1.getD e.on false = true := fun e he hb => by
          have := hAft i o ho e he hb
          rw [← hj1 e.on (by omega)]; exact hrdy e he hb
        refine Oper.wp_mono (fun a'' w'' ⟨v, h1, h2⟩ => ?_) (hstep L1 vs w' hF i o hl hL1 hsub)
        · refine .inl ⟨L1.setIfInBounds i true, upd vs i v, by simpa using hs1, fun j hj => ?_, fun j hj => ?_, by rw [h1, putL_set hL1 l 0 a o hd (Nat.zero_le _) (by simpa using hl)], h2⟩
          · by_cases e : j = i
            · subst e; rw [getD_set_at hL, getD_set_at hL1]
            · rw [getD_set_other e, getD_set_other e]; exact hj1 j hj
          · rw [getD_set_other (by omega)]; exact hj2 j hj
      · have hall := tailB_spec hT ho' (by omega) hrdy
        have hin : i = l.length := by
          by_cases h : i = l.length
          · exact h
          · have h1 := hall l.length (by omega)
            rw [hj2 _ (Nat.le_refl _)] at h1; cases h1
        refine next 0 (by omega) (by omega) hall (fun j hj => hj2 j (by omega)) ?_
        exact hend L1 vs w' hF (fun j hj => by rw [← hj1 j hj]; exact hall j (by omega))
    · have hik : l.length + k ≤ i := by
        by_cases h : i < l.length + k
        · rw [hj1 i h] at hLi; cases hLi
        · omega
      have hall := tailB_spec hT ho' (by omega) hrdy
      have hin : i = l.length + k := by
        by_cases h : i = l.length + k
        · exact h
        · have h1 := hall (l.length + k) (by omega)
          rw [hj2 _ (Nat.le_refl _)] at h1; cases h1
      exact next k (by omega) hin hall (fun j hj => hj2 j (by omega)) ht
  · rintro L a' w' hs hI hr
    have hall : ∀ i, i < l.length + t.length → L.getD i false = true := fun i hi => by
      have := ready_nil hs hAft hr i (by simpa using hi)
      simp [Array.getD_eq_getD_getElem?, this]
    rcases hI with ⟨L1, vs, hs1, hj1, hj2, rfl, hF⟩ | ⟨k, hk, hk0, hj1, hj2, ht⟩
    · have ht0 : t = [] := by
        cases t with
        | nil => rfl
        | cons o r =>
          have h1 := hall l.length (by simp)
          rw [hj2 _ (Nat.le_refl _)] at h1; cases h1
      subst ht0
      exact hend L1 vs w' hF (fun j hj => by rw [← hj1 j hj]; exact hall j (by simpa using hj))
    · have hkt : k = t.length := by
        by_cases h : k = t.length
        · exact h
        · have h1 := hall (l.length + k) (by omega)
          rw [hj2 _ (Nat.le_refl _)] at h1; cases h1
      subst hkt
      simpa [tl] using ht
  · simp only [left]; exact Nat.le_trans List.countP_le_length (by simp)
  · refine .inl ⟨Array.replicate l.length false, fun _ => undef, by simp, fun j hj => ?_, fun j hj => ?_, ?_, h0⟩
    · rw [rep_no, rep_no]
    · exact rep_no _ _
    · have : ∀ (m : List Oper) (k : Nat) (a : Act), a = putL (Array.replicate l.length false) (fun _ => undef) k m a := by
        intro m
        induction m with
        | nil => intro k a; rfl
        | cons o r ih =>
          intro k a
          simp only [putL]
          rw [if_neg (by simp [Array.getD_eq_getD_getElem?, Array.getElem?_replicate]; split <;> simp)]
          exact ih (k + 1) a
      exact this l 0 a
end
end Go.Proofs.YtnpaejknoipicafGreat
