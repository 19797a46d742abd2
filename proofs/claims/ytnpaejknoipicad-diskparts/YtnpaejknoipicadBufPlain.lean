/-
  Plain mathematics of buffers that are right. No Go in sight.
-/
import Derived.Test.YtnpaejknoipicadKeepPlain
namespace Go.Proofs.Ytnpaejknoipicad

/-- each number is more than the one ahead of it, the first one more than n -/
def upB : Int → List Sk → Bool
  | _, [] => true
  | n, x :: r => decide (n < x.n) && upB x.n r
/-- numbers may be, at most four are held, each is right, and they rise -/
def Right (next : Int) (l : List Sk) : Prop :=
  (next = 0 ∧ l = [] ∨ 65536 ≤ next ∧ next ≤ 1000000001) ∧ l.length ≤ 4 ∧ (∀ x ∈ l, x.chk = 0) ∧ upB next l = true
/-- as the document has it: slot by slot -/
def bgo (next : Int) : Int → List Sk → Int
  | _, [] => 0
  | last, x :: r => if x.chk = 0 then (if x.n ≤ next ∨ x.n ≤ last then 4 else bgo next x.n r) else x.chk
def nextBad (next : Int) : Bool := !(next == 0) && !(decide (65536 ≤ next) && decide (next ≤ 1000000001))
def bchk (next : Int) (l : List Sk) : Int :=
  if nextBad next then 3 else if 4 < l.length then 2 else if bgo next next l = 0 then (if next = 0 ∧ 0 < l.length then 4 else 0) else bgo next next l

theorem chkAll_zero (l : List Sk) : chkAll l = 0 ↔ ∀ x ∈ l, x.chk = 0 := by
  induction l with
  | nil => simp [chkAll]
  | cons x r ih =>
    simp only [chkAll, List.mem_cons, forall_eq_or_imp]
    by_cases h : x.chk = 0
    · rw [if_pos h, ih]; simp [h]
    · rw [if_neg h]; simp [h]
theorem bgo_zero (next : Int) : ∀ (l : List Sk) (last : Int), next ≤ last → (bgo next last l = 0 ↔ (∀ x ∈ l, x.chk = 0) ∧ upB last l = true)
  | [], _, _ => by simp [bgo, upB]
  | x :: r, last, hl => by
    simp only [bgo, upB, List.mem_cons, forall_eq_or_imp]
    by_cases h : x.chk = 0
    · rw [if_pos h]
      by_cases h2 : x.n ≤ next ∨ x.n ≤ last
      · rw [if_pos h2]
        have : decide (last < x.n) = false := decide_eq_false (by omega)
        rw [this]; simp
      · rw [if_neg h2, bgo_zero next r x.n (by omega)]
        have : decide (last < x.n) = true := decide_eq_true (by omega)
        rw [this]; simp [h]
    · rw [if_neg h]; simp [h]
theorem nextBad_false {next : Int} : nextBad next = false ↔ next = 0 ∨ 65536 ≤ next ∧ next ≤ 1000000001 := by
  simp [nextBad]; omega
theorem bchk_right (next : Int) (l : List Sk) : bchk next l = 0 ↔ Right next l := by
  unfold bchk Right
  cases hb : nextBad next
  · have hn := nextBad_false.1 hb
    rw [if_neg (by simp)]
    by_cases h4 : 4 < l.length
    · rw [if_pos h4]; simp; omega
    · rw [if_neg h4]
      by_cases hg : bgo next next l = 0
      · rw [if_pos hg]
        have h := (bgo_zero next l next (Int.le_refl _)).1 hg
        by_cases h0 : next = 0 ∧ 0 < l.length
        · rw [if_pos h0]
          constructor
          · intro h; omega
          · rintro ⟨h1, _⟩
            rcases h1 with ⟨_, h1⟩ | h1
            · rw [h1] at h0; simp at h0
            · omega
        · rw [if_neg h0]
          refine ⟨fun _ => ⟨?_, by omega, h.1, h.2⟩, fun _ => rfl⟩
          rcases hn with hn | hn
          · left; exact ⟨hn, List.eq_nil_of_length_eq_zero (by omega)⟩
          · right; exact hn
      · rw [if_neg hg]
        constructor
        · intro h; exact absurd h hg
        · rintro ⟨_, _, h1, h2⟩
          exact absurd ((bgo_zero next l next (Int.le_refl _)).2 ⟨h1, h2⟩) hg
  · rw [if_pos rfl]
    constructor
    · intro h; omega
    · rintro ⟨h1, _⟩
      have : nextBad next = false := nextBad_false.2 (by rcases h1 with ⟨h, _⟩ | h <;> omega)
      rw [this] at hb; cases hb

theorem Sk.chk_zero {x : Sk} (h : x.chk = 0) : 65536 ≤ x.n ∧ x.n ≤ 1000000000 ∧ x.p.chk = 0 ∧ x.n % 65536 = x.p.seq := by
  cases hb : Cn.isNB x.n
  · rw [Sk.chk_range hb] at h; omega
  · have := Cn.isNB_iff.1 hb
    by_cases hc : x.p.chk = 0
    · by_cases hs : x.n % 65536 = x.p.seq
      · exact ⟨this.1, this.2, hc, hs⟩
      · rw [Sk.chk_seq hb hc hs] at h; omega
    · rw [Sk.chk_pkt hb hc] at h; exact absurd h hc
theorem Sk.chk_short {x : Sk} (h : x.chk = 0) : x.p.t.size ≤ 8 := by
  have hc := (Sk.chk_zero h).2.2.1
  unfold Pk.chk at hc
  by_cases h1 : x.p.seq < 0
  · rw [if_pos h1] at hc; omega
  rw [if_neg h1] at hc
  by_cases h2 : 65535 < x.p.seq
  · rw [if_pos h2] at hc; omega
  rw [if_neg h2] at hc
  by_cases h3 : x.p.time < 0
  · rw [if_pos h3] at hc; omega
  rw [if_neg h3] at hc
  by_cases h4 : 1000000 < x.p.time
  · rw [if_pos h4] at hc; omega
  rw [if_neg h4] at hc
  by_cases h5 : 8 < (x.p.t.size : Int)
  · rw [if_pos h5] at hc; omega
  omega

end Go.Proofs.Ytnpaejknoipicad
