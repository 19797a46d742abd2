/-
  Plain mathematics of stores: no Go in sight.
-/
import Derived.Test.YtnpaejknoipicadGroupMath2
namespace Go.Proofs.Ytnpaejknoipicad

abbrev grAt (L : List (List Fr)) (k : Nat) : List Fr := L[k]?.getD []
/-- bytes of groups -/
def sumG (L : List (List Fr)) : Nat := (L.map gsize).sum
/-- too many bytes? -/
def tooB (L : List (List Fr)) : Bool := decide (1 < L.length) && decide (100 < sumG L)
/-- too many, or too much -/
def fullB (L : List (List Fr)) : Bool := decide (5 < L.length) || tooB L
/-- what Check says of a store -/
def stchk (first : Int) (L : List (List Fr)) (O : List Fr) : Int :=
  if first < 0 then 3 else if 100000 < first then 3 else if 5 < L.length then 2 else
    if goN (fun k => gchk (grAt L k)) L.length 0 = 0 then (if tooB L then 2 else if 0 < O.length then gchk O else 0) else goN (fun k => gchk (grAt L k)) L.length 0

theorem gsize_le (g : List Fr) : gsize g ≤ 192 := by
  unfold gsize
  by_cases h : gchk g = 0
  · rw [if_pos h]
    obtain ⟨_, h2, h3⟩ := gchk_zero.1 h
    have := szG_le (l := g) (fun k hk => fr_szP (h3 k hk).1) g.length (Nat.le_refl _)
    rw [List.take_length] at this
    omega
  · rw [if_neg h]; omega
theorem sumG_take (L : List (List Fr)) (k : Nat) (hk : k < L.length) : sumG (L.take (k + 1)) = sumG (L.take k) + gsize (grAt L k) := by
  unfold sumG
  rw [take_one hk [], List.map_append, List.sum_append]; simp
theorem sumG_le (L : List (List Fr)) : ∀ k, k ≤ L.length → sumG (L.take k) ≤ k * 192
  | 0, _ => by simp [sumG]
  | k + 1, hk => by
    rw [sumG_take L k (by omega)]
    have := sumG_le L k (by omega)
    have := gsize_le (grAt L k)
    omega
theorem stchk_zero {first : Int} {L : List (List Fr)} {O : List Fr} : stchk first L O = 0 ↔ 0 ≤ first ∧ first ≤ 100000 ∧ L.length ≤ 5 ∧ (∀ g ∈ L, gchk g = 0) ∧ tooB L = false ∧ (O = [] ∨ gchk O = 0) := by
  unfold stchk
  by_cases h1 : first < 0
  · rw [if_pos h1]; constructor
    · intro h; cases h
    · intro h; omega
  rw [if_neg h1]
  by_cases h2 : 100000 < first
  · rw [if_pos h2]; constructor
    · intro h; cases h
    · intro h; omega
  rw [if_neg h2]
  by_cases h3 : 5 < L.length
  · rw [if_pos h3]; constructor
    · intro h; cases h
    · intro h; omega
  rw [if_neg h3]
  have hall : goN (fun k => gchk (grAt L k)) L.length 0 = 0 ↔ ∀ g ∈ L, gchk g = 0 := by
    constructor
    · intro h g hg
      obtain ⟨k, hk, e⟩ := List.mem_iff_getElem.1 hg
      have := goN_zero _ _ h k (Nat.zero_le _) (by omega)
      rw [show grAt L k = g by simp [grAt, List.getElem?_eq_getElem hk, e]] at this
      exact this
    · intro h
      refine goN_all _ _ (fun j _ hj => h _ ?_)
      have hj' : j < L.length := by omega
      rw [show grAt L j = L[j] by simp [grAt, List.getElem?_eq_getElem hj']]
      exact List.getElem_mem _
  by_cases h4 : goN (fun k => gchk (grAt L k)) L.length 0 = 0
  · rw [if_pos h4]
    have h5 := hall.1 h4
    cases h6 : tooB L
    · simp only [Bool.false_eq_true, if_false]
      by_cases h7 : 0 < O.length
      · rw [if_pos h7]
        have hne : ¬ O = [] := fun e => by rw [e] at h7; simp at h7
        constructor
        · intro h; exact ⟨by omega, by omega, by omega, h5, trivial, .inr h⟩
        · rintro ⟨_, _, _, _, _, h | h⟩
          · exact absurd h hne
          · exact h
      · rw [if_neg h7]
        have he : O = [] := List.eq_nil_of_length_eq_zero (by omega)
        exact ⟨fun _ => ⟨by omega, by omega, by omega, h5, trivial, .inl he⟩, fun _ => rfl⟩
    · simp only [if_true]
      constructor
      · intro h; cases h
      · rintro ⟨_, _, _, _, h, _⟩; cases h
  · rw [if_neg h4]
    constructor
    · intro h; exact absurd h h4
    · rintro ⟨_, _, _, h, _⟩; exact absurd (hall.2 h) h4

end Go.Proofs.Ytnpaejknoipicad
