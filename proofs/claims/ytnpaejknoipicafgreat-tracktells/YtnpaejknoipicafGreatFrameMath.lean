/-
  Plain facts on frames: what came ahead of a First one does not matter.
-/
import Derived.Test.YtnpaejknoipicafGreatFrameAll
namespace Go.Proofs.YtnpaejknoipicafGreat

def foldA (O : List Sk) (l : List Sk) : List Sk × List Fr := l.foldl stepA (O, [])
theorem stepA_out (O : List Sk) (F : List Fr) (x : Sk) : stepA (O, F) x = ((stepA (O, []) x).1, F ++ (stepA (O, []) x).2) := by
  unfold stepA
  by_cases h : addW O x
  · simp [h]
  · simp [h]
theorem foldA_out : ∀ (l : List Sk) (O : List Sk) (F : List Fr), l.foldl stepA (O, F) = ((foldA O l).1, F ++ (foldA O l).2)
  | [], O, F => by simp [foldA]
  | x :: r, O, F => by
    unfold foldA
    simp only [List.foldl_cons]
    rw [stepA_out O F x, foldA_out r _ _]
    obtain ⟨P, G⟩ := stepA (O, []) x
    rw [foldA_out r P G]
    simp
theorem takeF_first (O : List Sk) {x : Sk} (h : x.p.f = true) : takeF O x = [x] := by unfold takeF; rw [if_pos h]
theorem stepA_first (O : List Sk) {x : Sk} (h : x.p.f = true) : stepA (O, []) x = stepA ([], []) x := by
  simp only [stepA, addO, addW, addT, addK, addP, takeF_first _ h]
theorem foldA_first (O : List Sk) {x : Sk} (r : List Sk) (h : x.p.f = true) : foldA O (x :: r) = foldA [] (x :: r) := by
  unfold foldA
  simp only [List.foldl_cons]
  rw [stepA_first O h]
theorem framesS_fold (l : List Sk) : framesS l = (foldA [] l).2 := by unfold framesS upA foldA; rw [List.take_length]
/-- where the second row begins with a First one, the frames of both are those of the first and those of the second -/
theorem framesS_append (l m : List Sk) (h : ∀ x r, m = x :: r → x.p.f = true) : framesS (l ++ m) = framesS l ++ framesS m := by
  rw [framesS_fold, framesS_fold, framesS_fold]
  unfold foldA
  rw [List.foldl_append]
  obtain ⟨O, F⟩ : List Sk × List Fr := l.foldl stepA ([], [])
  rw [foldA_out m O F]
  cases m with
  | nil => simp [foldA]
  | cons x r =>
    rw [foldA_first O r (h x r rfl)]
    rfl

end Go.Proofs.YtnpaejknoipicafGreat
