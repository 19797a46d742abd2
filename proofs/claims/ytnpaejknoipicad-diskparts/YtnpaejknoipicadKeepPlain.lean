/-
  Plain mathematics of buffers: what goes out, and what is held. No Go in sight.
-/
import Derived.Test.YtnpaejknoipicadSlotPlain
namespace Go.Proofs.Ytnpaejknoipicad

/-- all whose turn it is -/
def letF : Int → List Sk → List Sk → Int × List Sk × List Sk
  | next, [], o => (next, [], o)
  | next, x :: r, o => if x.n = next then letF (next + 1) r (o ++ [x]) else (next, x :: r, o)
/-- what is missing is given up till at most so many are held -/
def giveF (most : Nat) : Nat → Int → List Sk → List Sk → Int × List Sk × List Sk
  | 0, next, h, o => (next, h, o)
  | _ + 1, next, [], o => (next, [], o)
  | f + 1, next, x :: r, o => if r.length + 1 ≤ most then (next, x :: r, o) else giveF most f (letF x.n (x :: r) o).1 (letF x.n (x :: r) o).2.1 (letF x.n (x :: r) o).2.2
/-- both in one: as the document has it -/
def relF (most : Nat) : Int → List Sk → List Sk → Int × List Sk × List Sk
  | next, [], o => (next, [], o)
  | next, x :: r, o => if x.n = next then relF most (next + 1) r (o ++ [x]) else if r.length + 1 ≤ most then (next, x :: r, o) else relF most (x.n + 1) r (o ++ [x])

theorem letF_len : ∀ (h : List Sk) (next : Int) (o : List Sk), (letF next h o).2.1.length ≤ h.length
  | [], _, _ => Nat.le_refl _
  | x :: r, next, o => by
    unfold letF
    split
    · have := letF_len r (next + 1) (o ++ [x]); simp; omega
    · exact Nat.le_refl _
theorem letF_first (x : Sk) (r o : List Sk) : letF x.n (x :: r) o = letF (x.n + 1) r (o ++ [x]) := by simp [letF]

theorem give_let (most : Nat) : ∀ (k : Nat) (h : List Sk), h.length ≤ k → ∀ (f : Nat) (next : Int) (o : List Sk), (letF next h o).2.1.length ≤ f →
    giveF most f (letF next h o).1 (letF next h o).2.1 (letF next h o).2.2 = relF most next h o
  | _, [], _, f, next, o, _ => by cases f <;> simp [letF, giveF, relF]
  | 0, _ :: _, hk, _, _, _, _ => by simp at hk
  | k + 1, x :: r, hk, f, next, o, hf => by
    simp only [List.length_cons] at hk
    by_cases h : x.n = next
    · simp only [letF, relF, if_pos h] at hf ⊢
      exact give_let most k r (by omega) f (next + 1) (o ++ [x]) hf
    · simp only [letF, relF, if_neg h] at hf ⊢
      cases f with
      | zero => simp at hf
      | succ f =>
        by_cases hm : r.length + 1 ≤ most
        · simp only [giveF, if_pos hm]
        · simp only [giveF, if_neg hm, letF_first]
          have := letF_len r (x.n + 1) (o ++ [x])
          simp only [List.length_cons] at hf
          exact give_let most k r (by omega) f (x.n + 1) (o ++ [x]) (by omega)
theorem give_zero (f : Nat) (h : List Sk) (next : Int) (o : List Sk) (hf : h.length ≤ f) : giveF 0 f next h o = relF 0 next h o := by
  cases h with
  | nil => cases f <;> simp [giveF, relF]
  | cons x r =>
    cases f with
    | zero => simp at hf
    | succ f =>
      simp only [giveF, letF_first, relF]
      rw [if_neg (by omega), give_let 0 r.length r (Nat.le_refl _) f _ _ (by have := letF_len r (x.n + 1) (o ++ [x]); simp at hf; omega)]
      by_cases h : x.n = next
      · rw [if_pos h, h]
      · rw [if_neg h, if_neg (by omega)]

end Go.Proofs.Ytnpaejknoipicad
