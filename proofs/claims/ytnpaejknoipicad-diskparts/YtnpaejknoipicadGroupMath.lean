/-
  Plain facts on the groups of frames.
-/
import Derived.Test.YtnpaejknoipicadGroupPlain
namespace Go.Proofs.Ytnpaejknoipicad

theorem stepG_out (A : List (List Fr)) (o : List Fr) (f : Fr) : stepG (A, o) f = (A ++ (stepG ([], o) f).1, (stepG ([], o) f).2) := by
  unfold stepG
  simp only
  split <;> simp
def foldG (o : List Fr) (l : List Fr) : List (List Fr) × List Fr := l.foldl stepG ([], o)
theorem foldG_out : ∀ (l : List Fr) (A : List (List Fr)) (o : List Fr), l.foldl stepG (A, o) = (A ++ (foldG o l).1, (foldG o l).2)
  | [], A, o => by simp [foldG]
  | f :: r, A, o => by
    have e : foldG o (f :: r) = r.foldl stepG ((stepG ([], o) f).1, (stepG ([], o) f).2) := rfl
    rw [e, foldG_out r, List.foldl_cons, stepG_out, foldG_out r]
    simp
theorem groupsE_zero {l : List Fr} : groupsE l = 0 ↔ l.length ≤ 100 ∧ ∀ k, k < l.length → (frAt l k).chk = 0 := by
  unfold groupsE
  by_cases h : 100 < l.length
  · rw [if_pos h]
    exact ⟨fun h2 => (by cases h2), fun h2 => (by omega)⟩
  · rw [if_neg h]
    exact ⟨fun h2 => ⟨by omega, fun k hk => goN_zero _ _ h2 k (Nat.zero_le _) (by omega)⟩, fun h2 => goN_all _ _ (fun j _ hj => h2.2 j (by omega))⟩
theorem frAt_append (l m : List Fr) (k : Nat) : frAt (l ++ m) k = if k < l.length then frAt l k else frAt m (k - l.length) := by
  unfold frAt
  split
  · rename_i h; rw [List.getElem?_append_left h]
  · rename_i h; rw [List.getElem?_append_right (by omega)]
theorem groupsE_append {l m : List Fr} (h1 : groupsE l = 0) (h2 : groupsE m = 0) (h : l.length + m.length ≤ 100) : groupsE (l ++ m) = 0 := by
  rw [groupsE_zero] at *
  refine ⟨by rw [List.length_append]; exact h, fun k hk => ?_⟩
  rw [List.length_append] at hk
  rw [frAt_append]
  split
  · exact h1.2 k (by assumption)
  · exact h2.2 _ (by omega)
theorem upG_fold (l : List Fr) : upG l l.length = foldG [] l := by unfold upG foldG; rw [List.take_length]
/-- where the second row begins with a whole one, nothing of what was ahead matters, but that it is closed -/
theorem upG_append (l : List Fr) (f : Fr) (r : List Fr) (hf : f.key = true) : upG (l ++ f :: r) (l ++ f :: r).length = ((upG l l.length).1 ++ (if 0 < (upG l l.length).2.length then [(upG l l.length).2] else []) ++ (upG (f :: r) (f :: r).length).1, (upG (f :: r) (f :: r).length).2) := by
  rw [upG_fold, upG_fold, upG_fold]
  have e1 : foldG [] (l ++ f :: r) = (f :: r).foldl stepG (foldG [] l) := by unfold foldG; rw [List.foldl_append]
  rw [e1]
  obtain ⟨A, o⟩ : List (List Fr) × List Fr := foldG [] l
  have e2 : ∀ o', growG o' f = [f] := fun o' => by unfold growG; rw [if_pos hf]
  have e3 : foldG [] (f :: r) = foldG [f] r := by
    unfold foldG
    rw [List.foldl_cons]
    congr 1
    unfold stepG
    simp [hf, e2]
  rw [e3, List.foldl_cons]
  have e4 : stepG (A, o) f = (A ++ (if 0 < o.length then [o] else []), [f]) := by
    unfold stepG
    simp only [hf, Bool.true_and, e2]
    by_cases h0 : 0 < o.length
    · rw [if_pos (decide_eq_true h0), if_pos h0]
    · rw [if_neg (by rw [decide_eq_true_eq]; exact h0), if_neg h0]; simp
  rw [e4, foldG_out]

end Go.Proofs.Ytnpaejknoipicad
