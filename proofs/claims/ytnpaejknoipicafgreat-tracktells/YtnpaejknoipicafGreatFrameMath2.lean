/-
  Plain facts on builders that are right, and on the frame that a slot makes whole.
-/
import Derived.Test.YtnpaejknoipicafGreatFrameMath
import Derived.Test.YtnpaejknoipicafGreatRefBuild
namespace Go.Proofs.YtnpaejknoipicafGreat

theorem ogo_take : ∀ (l : List Sk) (prev : Option Sk) (k : Nat), ogo prev l = 0 → ogo prev (l.take k) = 0
  | [], _, _, _ => by simp [ogo]
  | _ :: _, _, 0, _ => by simp [ogo]
  | y :: r, prev, k + 1, h => by
    rw [List.take_succ_cons]
    by_cases hy : y.chk = 0
    · by_cases h2 : badO prev y = true
      · simp [ogo, hy, h2] at h
      · have h' : ogo (some y) r = 0 := by simpa [ogo, hy, h2] using h
        have := ogo_take r (some y) k h'
        simpa [ogo, hy, h2] using this
    · simp [ogo, hy] at h
theorem ogo_each {l : List Sk} (h : ogo none l = 0) {i : Nat} (hi : i < l.length) : badO (if i = 0 then none else some (l[i - 1]?.getD Sk.zero)) (l[i]?.getD Sk.zero) = false := by
  have h1 := ogo_take l none (i + 1) h
  rw [ogo_at1 l i hi (ogo_take l none i h)] at h1
  cases hb : badO (if i = 0 then none else some (l[i - 1]?.getD Sk.zero)) (l[i]?.getD Sk.zero)
  · rfl
  · by_cases hc : (l[i]?.getD Sk.zero).chk = 0
    · simp [ogo, hc, hb] at h1
    · simp [ogo, hc] at h1
theorem nextB_iff {a x : Sk} : nextB a x = true ↔ x.p.f = false ∧ x.n = a.n + 1 ∧ x.p.time = a.p.time := by
  unfold nextB folB
  simp
/-- of a right builder's slots: the first one alone is First, none is End, each has the number behind the one ahead, and all have one time -/
theorem ogo_facts {l : List Sk} (h : ogo none l = 0) : ∀ i, i < l.length → (l[i]?.getD Sk.zero).p.f = decide (i = 0) ∧ (l[i]?.getD Sk.zero).p.e = false ∧ (l[i]?.getD Sk.zero).p.time = (l[0]?.getD Sk.zero).p.time ∧ (0 < i → (l[i]?.getD Sk.zero).n = (l[i - 1]?.getD Sk.zero).n + 1)
  | 0, hi => by
    have := ogo_each h hi
    rw [if_pos rfl] at this
    simp [badO] at this
    exact ⟨by rw [this.1]; rfl, this.2, rfl, fun h => absurd h (Nat.lt_irrefl _)⟩
  | i + 1, hi => by
    have := ogo_each h hi
    rw [if_neg (by omega)] at this
    simp only [badO, Bool.or_eq_false_iff, Bool.not_eq_false'] at this
    obtain ⟨h1, h2⟩ := this
    obtain ⟨h3, h4, h5⟩ := nextB_iff.1 h2
    have ih := ogo_facts h i (by omega)
    refine ⟨by rw [h3]; rfl, h1, ?_, fun _ => h4⟩
    rw [h5]
    exact ih.2.2.1
/-- the same of all that is open with a slot that follows -/
theorem ogo_more {l : List Sk} (h : ogo none l = 0) {x : Sk} (h0 : 0 < l.length) (hx : nextB (lastSk l) x = true) : ∀ i, i < l.length + 1 →
    ((l ++ [x])[i]?.getD Sk.zero).p.f = decide (i = 0) ∧ ((l ++ [x])[i]?.getD Sk.zero).p.time = ((l ++ [x])[0]?.getD Sk.zero).p.time ∧ (0 < i → ((l ++ [x])[i]?.getD Sk.zero).n = ((l ++ [x])[i - 1]?.getD Sk.zero).n + 1) := by
  intro i hi
  have e0 : (l ++ [x])[0]? = l[0]? := List.getElem?_append_left h0
  by_cases hl : i < l.length
  · have e1 : (l ++ [x])[i]? = l[i]? := List.getElem?_append_left hl
    have e2 : (l ++ [x])[i - 1]? = l[i - 1]? := List.getElem?_append_left (by omega)
    rw [e0, e1, e2]
    have := ogo_facts h i hl
    exact ⟨this.1, this.2.2.1, this.2.2.2⟩
  · have hi' : i = l.length := by omega
    subst hi'
    have e1 : (l ++ [x])[l.length]? = some x := by simp
    have e2 : (l ++ [x])[l.length - 1]? = l[l.length - 1]? := List.getElem?_append_left (by omega)
    rw [e0, e1, e2]
    obtain ⟨h3, h4, h5⟩ := nextB_iff.1 hx
    have := ogo_facts h (l.length - 1) (by omega)
    refine ⟨?_, ?_, fun _ => h4⟩
    · rw [Option.getD_some, h3, decide_eq_false (by omega)]
    · rw [Option.getD_some, h5]
      exact this.2.2.1

end Go.Proofs.YtnpaejknoipicafGreat
