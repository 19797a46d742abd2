/-
  Plain mathematics: a buffer stays right; what comes again leaves no trace. No Go in sight.
-/
import Derived.Test.YtanefofheeecdabBufPut
namespace Go.Proofs.Ytanefofheeecdab

theorem upB_mono {a b : Int} {l : List Sk} (h : upB b l = true) (hab : a ≤ b) : upB a l = true := by
  cases l with
  | nil => rfl
  | cons x r => simp only [upB, Bool.and_eq_true, decide_eq_true_eq] at h ⊢; exact ⟨by omega, h.2⟩
theorem upB_all {a : Int} {l : List Sk} (h : upB a l = true) : ∀ x ∈ l, a < x.n := by
  induction l generalizing a with
  | nil => simp
  | cons y r ih =>
    simp only [upB, Bool.and_eq_true, decide_eq_true_eq] at h
    intro x hx
    rcases List.mem_cons.1 hx with rfl | hx
    · exact h.1
    · have := ih h.2 x hx; omega
theorem upB_append {a : Int} {l m : List Sk} (h : upB a (l ++ m) = true) : upB a l = true ∧ ∀ x ∈ l, ∀ y ∈ m, x.n < y.n := by
  induction l generalizing a with
  | nil => exact ⟨rfl, by simp⟩
  | cons z r ih =>
    simp only [List.cons_append, upB, Bool.and_eq_true, decide_eq_true_eq] at h ⊢
    obtain ⟨h1, h2⟩ := h
    obtain ⟨i1, i2⟩ := ih h2
    refine ⟨⟨h1, i1⟩, fun x hx y hy => ?_⟩
    rcases List.mem_cons.1 hx with rfl | hx
    · exact upB_all h2 y (by simp [hy])
    · exact i2 x hx y hy

/-- what released leaves of slots that rise -/
theorem rel_inv (most : Nat) : ∀ (h : List Sk) (next : Int) (o : List Sk), upB (next - 1) h = true →
    ∃ p, h = p ++ (relF most next h o).2.1 ∧ (relF most next h o).2.2 = o ++ p ∧ (∀ x ∈ p, x.n < (relF most next h o).1) ∧ next ≤ (relF most next h o).1 ∧ upB (relF most next h o).1 (relF most next h o).2.1 = true ∧
      (relF most next h o).2.1.length ≤ most ∧ ((relF most next h o).1 = next ∨ ∃ x ∈ p, (relF most next h o).1 = x.n + 1)
  | [], next, o, _ => ⟨[], by simp [relF, upB]⟩
  | x :: r, next, o, hu => by
    simp only [upB, Bool.and_eq_true, decide_eq_true_eq] at hu
    obtain ⟨h1, h2⟩ := hu
    by_cases hx : x.n = next
    · have e : relF most next (x :: r) o = relF most (next + 1) r (o ++ [x]) := by simp [relF, hx]
      rw [e]
      obtain ⟨p, i1, i2, i3, i4, i5, i6, i7⟩ := rel_inv most r (next + 1) (o ++ [x]) (upB_mono h2 (by omega))
      refine ⟨x :: p, by rw [List.cons_append, ← i1], by rw [i2]; simp, fun y hy => ?_, by omega, i5, i6, .inr ?_⟩
      · rcases List.mem_cons.1 hy with rfl | hy
        · omega
        · exact i3 y hy
      · rcases i7 with i7 | ⟨y, hy, i7⟩
        · exact ⟨x, by simp, by omega⟩
        · exact ⟨y, by simp [hy], i7⟩
    · by_cases hm : r.length + 1 ≤ most
      · have e : relF most next (x :: r) o = (next, x :: r, o) := by simp [relF, hx, hm]
        rw [e]
        refine ⟨[], by simp, by simp, by simp, Int.le_refl _, ?_, by simpa using hm, .inl rfl⟩
        simp only [upB, Bool.and_eq_true, decide_eq_true_eq]
        exact ⟨by omega, h2⟩
      · have e : relF most next (x :: r) o = relF most (x.n + 1) r (o ++ [x]) := by simp [relF, hx, hm]
        rw [e]
        obtain ⟨p, i1, i2, i3, i4, i5, i6, i7⟩ := rel_inv most r (x.n + 1) (o ++ [x]) (upB_mono h2 (by omega))
        refine ⟨x :: p, by rw [List.cons_append, ← i1], by rw [i2]; simp, fun y hy => ?_, by omega, i5, i6, .inr ?_⟩
        · rcases List.mem_cons.1 hy with rfl | hy
          · omega
          · exact i3 y hy
        · rcases i7 with i7 | ⟨y, hy, i7⟩
          · exact ⟨x, by simp, by omega⟩
          · exact ⟨y, by simp [hy], i7⟩

theorem place_nil (x : Sk) : place [] x = 0 := rfl
theorem place_cons (y : Sk) (r : List Sk) (x : Sk) : place (y :: r) x = if x.n < y.n then 0 else place r x + 1 := by
  unfold place
  rw [List.findIdx?_cons]
  by_cases h : x.n < y.n
  · simp [h]
  · simp only [h, decide_false]
    cases r.findIdx? fun y => decide (x.n < y.n) <;> simp
theorem insF_nil (x : Sk) : insF [] x = [x] := rfl
theorem insF_cons (y : Sk) (r : List Sk) (x : Sk) : insF (y :: r) x = if x.n < y.n then x :: y :: r else y :: insF r x := by
  unfold insF putAt
  rw [place_cons]
  by_cases h : x.n < y.n
  · simp [h]
  · simp [h]
/-- a slot put in where it belongs: they rise still -/
theorem up_ins (x : Sk) : ∀ (h : List Sk) (a : Int), upB a h = true → a < x.n → (∀ y ∈ h, ¬ y.n = x.n) → upB a (insF h x) = true
  | [], a, _, hx, _ => by simp [insF_nil, upB, hx]
  | y :: r, a, hu, hx, hne => by
    simp only [upB, Bool.and_eq_true, decide_eq_true_eq] at hu
    rw [insF_cons]
    by_cases h : x.n < y.n
    · rw [if_pos h]
      simp only [upB, Bool.and_eq_true, decide_eq_true_eq]
      exact ⟨hx, h, hu.2⟩
    · rw [if_neg h]
      simp only [upB, Bool.and_eq_true, decide_eq_true_eq]
      have := hne y (by simp)
      exact ⟨hu.1, up_ins x r y.n hu.2 (by omega) (fun z hz => hne z (by simp [hz]))⟩
theorem mem_ins {h : List Sk} {x y : Sk} : y ∈ insF h x ↔ y = x ∨ y ∈ h := by
  induction h with
  | nil => simp [insF_nil]
  | cons z r ih =>
    rw [insF_cons]
    by_cases hh : x.n < z.n
    · rw [if_pos hh]; simp
    · rw [if_neg hh]
      simp only [List.mem_cons, ih]
      constructor
      · rintro (h | h | h) <;> simp [h]
      · rintro (h | h | h) <;> simp [h]

/-- what Put does to a buffer that is right -/
theorem put_inv {next : Int} {l : List Sk} {x : Sk} (hR : Right next l) (hx : x.chk = 0) :
    Right (putF next l x).1 (putF next l x).2.1 ∧ next ≤ (putF next l x).1 ∧ (∀ y ∈ (putF next l x).2.2, (y = x ∨ y ∈ l) ∧ next ≤ y.n ∧ y.n < (putF next l x).1) ∧ upB (next - 1) (putF next l x).2.2 = true ∧ (∀ y ∈ (putF next l x).2.1, y = x ∨ y ∈ l) ∧
      (x.n < (putF next l x).1 ∨ ∃ y ∈ (putF next l x).2.1, y.n = x.n) ∧ ¬ (putF next l x).1 = 0 := by
  obtain ⟨r1, r2, r3, r4⟩ := hR
  have hxn := Sk.chk_zero hx
  unfold putF
  by_cases h0 : next = 0
  · have hl : l = [] := by rcases r1 with ⟨_, h⟩ | h; exact h; omega
    subst hl
    simp only [h0, if_true]
    rw [if_neg (by omega)]
    simp only [List.any_nil, Bool.false_eq_true, if_false, insF_nil]
    have e : relF 4 x.n [x] [] = (x.n + 1, [], [x]) := by simp [relF]
    rw [e]
    refine ⟨⟨.inr (by omega), by simp, by simp, rfl⟩, by omega, ?_, ?_, by simp, .inl (by simp; omega), by simp; omega⟩
    · intro y hy; simp at hy; subst hy; exact ⟨.inl rfl, by omega, by omega⟩
    · simp [upB]; omega
  · have hb : 65536 ≤ next ∧ next ≤ 1000000001 := by rcases r1 with ⟨h, _⟩ | h; omega; exact h
    simp only [if_neg h0]
    by_cases h1 : x.n < next
    · rw [if_pos h1]
      exact ⟨⟨.inr hb, r2, r3, r4⟩, Int.le_refl _, by simp, rfl, fun y hy => .inr hy, .inl h1, h0⟩
    · rw [if_neg h1]
      by_cases h2 : (l.any fun y => y.n == x.n) = true
      · rw [if_pos h2]
        refine ⟨⟨.inr hb, r2, r3, r4⟩, Int.le_refl _, by simp, rfl, fun y hy => .inr hy, ?_, h0⟩
        obtain ⟨y, hy, e⟩ := List.any_eq_true.1 h2
        exact .inr ⟨y, hy, by simpa using e⟩
      · rw [if_neg h2]
        have hne : ∀ y ∈ l, ¬ y.n = x.n := fun y hy e => h2 (List.any_eq_true.2 ⟨y, hy, by simp [e]⟩)
        have hup : upB (next - 1) (insF l x) = true := up_ins x l (next - 1) (upB_mono r4 (by omega)) (by omega) hne
        obtain ⟨p, i1, i2, i3, i4, i5, i6, i7⟩ := rel_inv 4 (insF l x) next [] hup
        have hmem : ∀ y ∈ insF l x, y = x ∨ y ∈ l := fun y hy => mem_ins.1 hy
        have hchk : ∀ y ∈ insF l x, y.chk = 0 := fun y hy => by rcases hmem y hy with rfl | h; exact hx; exact r3 y h
        have hpm : ∀ y ∈ p, y ∈ insF l x := fun y hy => by rw [i1]; simp [hy]
        have hqm : ∀ y ∈ (relF 4 next (insF l x) []).2.1, y ∈ insF l x := fun y hy => by rw [i1]; simp [hy]
        rw [i2, List.nil_append]
        refine ⟨⟨.inr ⟨by omega, ?_⟩, i6, fun y hy => hchk y (hqm y hy), i5⟩, i4, fun y hy => ⟨hmem y (hpm y hy), ?_, i3 y hy⟩, ?_, fun y hy => hmem y (hqm y hy), ?_, by omega⟩
        · rcases i7 with i7 | ⟨y, hy, i7⟩
          · omega
          · have := Sk.chk_zero (hchk y (hpm y hy)); omega
        · have := upB_all hup y (hpm y hy); omega
        · rw [i1] at hup; exact (upB_append hup).1
        · have hxi : x ∈ insF l x := mem_ins.2 (.inl rfl)
          rw [i1] at hxi
          rcases List.mem_append.1 hxi with h | h
          · exact .inl (i3 x h)
          · exact .inr ⟨x, h, rfl⟩

/-- what came, comes again without a trace -/
theorem put_again {next : Int} {l : List Sk} {x : Sk} (h0 : ¬ next = 0) (h : x.n < next ∨ ∃ y ∈ l, y.n = x.n) : putF next l x = (next, l, []) := by
  unfold putF
  simp only [if_neg h0]
  by_cases h1 : x.n < next
  · rw [if_pos h1]
  · rw [if_neg h1, if_pos]
    rcases h with h | ⟨y, hy, e⟩
    · exact absurd h h1
    · exact List.any_eq_true.2 ⟨y, hy, by simp [e]⟩
/-- what Flush does to a buffer that is right -/
theorem flush_inv {next : Int} {l : List Sk} (hR : Right next l) :
    Right (relF 0 next l []).1 (relF 0 next l []).2.1 ∧ next ≤ (relF 0 next l []).1 ∧ (∀ y ∈ (relF 0 next l []).2.2, y ∈ l ∧ next ≤ y.n ∧ y.n < (relF 0 next l []).1) ∧ upB (next - 1) (relF 0 next l []).2.2 = true ∧ (relF 0 next l []).2.1 = [] := by
  obtain ⟨r1, r2, r3, r4⟩ := hR
  obtain ⟨p, i1, i2, i3, i4, i5, i6, i7⟩ := rel_inv 0 l next [] (upB_mono r4 (by omega))
  have hnil : (relF 0 next l []).2.1 = [] := List.eq_nil_of_length_eq_zero (by omega)
  rw [i2, List.nil_append, hnil]
  rw [hnil, List.append_nil] at i1
  subst i1
  refine ⟨⟨?_, by simp, by simp, rfl⟩, i4, fun y hy => ⟨hy, by have := upB_all r4 y hy; omega, i3 y hy⟩, upB_mono r4 (by omega), rfl⟩
  rcases i7 with i7 | ⟨y, hy, i7⟩
  · rw [i7]
    rcases r1 with ⟨h, _⟩ | h
    · exact .inl ⟨h, rfl⟩
    · exact .inr h
  · have := Sk.chk_zero (r3 y hy)
    exact .inr (by omega)

end Go.Proofs.Ytanefofheeecdab
