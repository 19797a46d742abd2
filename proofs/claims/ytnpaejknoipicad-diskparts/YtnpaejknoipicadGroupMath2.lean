/-
  Plain facts: groups of right frames are right; what is in them is what came, in order, each whole one among them.
-/
import Derived.Test.YtnpaejknoipicadGroupMath
namespace Go.Proofs.Ytnpaejknoipicad

theorem gchk_one {f : Fr} (h : f.chk = 0) (hk : f.key = true) : gchk [f] = 0 := by
  refine gchk_zero.2 ⟨by simp, by simp, fun k hk' => ?_⟩
  have : k = 0 := by simpa using hk'
  subst this
  exact ⟨h, by unfold inPl; rw [if_pos rfl]; exact hk⟩
theorem gchk_snoc {o : List Fr} {f : Fr} (ho : gchk o = 0) (h6 : o.length < 6) (h : f.chk = 0) (hk : f.key = false) (ht : (frAt o (o.length - 1)).time ≤ f.time) : gchk (o ++ [f]) = 0 := by
  obtain ⟨h1, _, h3⟩ := gchk_zero.1 ho
  refine gchk_zero.2 ⟨by simp, by simp; omega, fun k hk' => ?_⟩
  simp at hk'
  by_cases hl : k < o.length
  · have e : frAt (o ++ [f]) k = frAt o k := by rw [frAt_append, if_pos hl]
    have := h3 k hl
    rw [e]
    refine ⟨this.1, ?_⟩
    have h2 := this.2
    unfold inPl at h2 ⊢
    rw [e]
    by_cases h0 : k = 0
    · rw [if_pos h0] at h2 ⊢; exact h2
    · rw [if_neg h0] at h2 ⊢
      rw [frAt_append, if_pos (by omega)]; exact h2
  · have e0 : k = o.length := by omega
    subst e0
    have e : frAt (o ++ [f]) o.length = f := by rw [frAt_append, if_neg (by omega)]; simp [frAt]
    rw [e]
    refine ⟨h, ?_⟩
    unfold inPl
    rw [if_neg (by omega), e, hk, frAt_append, if_pos (by omega)]
    simp [ht]
def RightG (s : List (List Fr) × List Fr) : Prop := (∀ g ∈ s.1, gchk g = 0) ∧ (s.2 = [] ∨ gchk s.2 = 0)
theorem stepG_right {s : List (List Fr) × List Fr} {f : Fr} (h : RightG s) (hf : f.chk = 0) : RightG (stepG s f) := by
  obtain ⟨A, o⟩ := s
  obtain ⟨h1, h2⟩ := h
  simp only at h1 h2
  constructor
  · simp only [stepG]
    split
    · rename_i hc
      simp only [Bool.and_eq_true, decide_eq_true_eq] at hc
      intro g hg
      rcases List.mem_append.1 hg with hg | hg
      · exact h1 g hg
      · simp at hg; subst hg
        rcases h2 with h2 | h2
        · rw [h2] at hc; simp at hc
        · exact h2
    · exact h1
  · simp only [stepG]
    unfold growG
    split
    · rename_i hk; right; exact gchk_one hf hk
    · split
      · exact h2
      · rename_i hk hc
        right
        rcases h2 with h2 | h2
        · rw [h2] at hc; simp at hc
        · exact gchk_snoc h2 (by omega) hf (by simpa using hk) (by omega)
theorem fold_right : ∀ (l : List Fr) (s : List (List Fr) × List Fr), RightG s → (∀ f ∈ l, f.chk = 0) → RightG (l.foldl stepG s)
  | [], _, h, _ => h
  | f :: r, s, h, hl => fold_right r (stepG s f) (stepG_right h (hl f List.mem_cons_self)) (fun x hx => hl x (List.mem_cons_of_mem _ hx))
theorem upG_right {l : List Fr} (h : groupsE l = 0) : RightG (upG l l.length) := by
  rw [upG_fold]
  refine fold_right l ([], []) ⟨fun g hg => absurd hg List.not_mem_nil, .inl rfl⟩ (fun f hf => ?_)
  obtain ⟨k, hk, rfl⟩ := List.getElem_of_mem hf
  have := (groupsE_zero.1 h).2 k hk
  unfold frAt at this
  rw [List.getElem?_eq_getElem hk] at this
  exact this
/-- some of what came, in order; each whole one is there -/
inductive SubF : List Fr → List Fr → Prop
  | nil {l : List Fr} : (∀ f ∈ l, f.key = false) → SubF [] l
  | take {f : Fr} {X l : List Fr} : SubF X l → SubF (f :: X) (f :: l)
  | skip {f : Fr} {X l : List Fr} : f.key = false → SubF X l → SubF X (f :: l)
theorem SubF.drop {f : Fr} (hf : f.key = false) : ∀ {l X : List Fr}, SubF (f :: X) l → SubF X l
  | [], _, h => by cases h
  | g :: l, X, h => by
    cases h with
    | take h => exact .skip hf h
    | skip h1 h2 => exact .skip h1 (SubF.drop hf h2)
theorem SubF.hit {f : Fr} {X l : List Fr} (h : SubF (f :: X) (f :: l)) : SubF X l := by
  cases h with
  | take h => exact h
  | skip h1 h2 => exact SubF.drop h1 h2
theorem SubF.miss {f g : Fr} {X l : List Fr} (h : SubF (f :: X) (g :: l)) (hne : ¬ g = f) : g.key = false ∧ SubF (f :: X) l := by
  cases h with
  | take h => exact absurd rfl hne
  | skip h1 h2 => exact ⟨h1, h2⟩
theorem SubF.none {l : List Fr} (h : SubF [] l) : ∀ f ∈ l, f.key = false := by
  induction l with
  | nil => intro f hf; cases hf
  | cons g r ih =>
    cases h with
    | nil h => exact h
    | skip h1 h2 =>
      intro f hf
      rcases List.mem_cons.1 hf with rfl | hf
      · exact h1
      · exact ih h2 f hf
def flatG (s : List (List Fr) × List Fr) : List Fr := s.1.flatten ++ s.2
theorem flat_step (s : List (List Fr) × List Fr) (f : Fr) : flatG (stepG s f) = flatG s ++ [f] ∨ (f.key = false ∧ flatG (stepG s f) = flatG s) := by
  obtain ⟨A, o⟩ := s
  unfold flatG stepG
  simp only
  cases hk : f.key
  · unfold growG
    rw [hk]
    simp only [Bool.false_and, Bool.false_eq_true, if_false]
    split
    · right; simp
    · left; simp
  · left
    unfold growG
    rw [hk]
    simp only [Bool.true_and, if_true]
    cases o with
    | nil => simp
    | cons x r => simp
theorem flat_fold : ∀ (l : List Fr) (s : List (List Fr) × List Fr), ∃ Y, flatG (l.foldl stepG s) = flatG s ++ Y ∧ SubF Y l
  | [], s => ⟨[], by simp, .nil (fun f hf => absurd hf List.not_mem_nil)⟩
  | f :: r, s => by
    obtain ⟨Y, h1, h2⟩ := flat_fold r (stepG s f)
    rcases flat_step s f with h | ⟨hk, h⟩
    · exact ⟨f :: Y, by rw [List.foldl_cons, h1, h]; simp, .take h2⟩
    · exact ⟨Y, by rw [List.foldl_cons, h1, h], .skip hk h2⟩
theorem upG_sub (l : List Fr) : SubF (flatG (upG l l.length)) l := by
  rw [upG_fold]
  obtain ⟨Y, h1, h2⟩ := flat_fold l ([], [])
  unfold foldG
  rw [h1]
  exact h2

end Go.Proofs.Ytnpaejknoipicad
