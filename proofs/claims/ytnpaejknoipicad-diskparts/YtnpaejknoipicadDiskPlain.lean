/-
  Plain mathematics of disks: no Go in sight.
-/
import Derived.Test.YtnpaejknoipicadWireMath
import Derived.Test.YtnpaejknoipicadStorePlain
namespace Go.Proofs.Ytnpaejknoipicad

/-- the text at the front, and what is left -/
def tkT (l : List UInt8) : Option (ByteArray × List UInt8) := if 1 ≤ l.length ∧ at8 l 0 ≤ l.length - 1 then some (ba ((l.drop 1).take (at8 l 0)), l.drop (1 + at8 l 0)) else none
def tkTs : Nat → List UInt8 → Option (List ByteArray × List UInt8)
  | 0, l => some ([], l)
  | k + 1, l => (tkTs k l).bind fun a => (tkT a.2).map fun b => (a.1 ++ [b.1], b.2)
/-- the frame at the front, and what is left -/
def tkF (key : Bool) (l : List UInt8) : Option (Fr × List UInt8) := if 5 ≤ l.length then (tkTs (at8 l 4) (l.drop 5)).map fun a => (⟨num (l.take 4), key, a.1⟩, a.2) else none
def tkFs : Nat → List UInt8 → Option (List Fr × List UInt8)
  | 0, l => some ([], l)
  | k + 1, l => (tkFs k l).bind fun a => (tkF (k == 0) a.2).map fun b => (a.1 ++ [b.1], b.2)
/-- a number and a group at the front, and what is left -/
def tkG (l : List UInt8) : Option (Int × List Fr × List UInt8) := if 5 ≤ l.length then (tkFs (at8 l 4) (l.drop 5)).map fun a => (num (l.take 4), a.1, a.2) else none
/-- what Encode says -/
def recE (n : Int) (g : List Fr) : Int := if n < 0 ∨ 100000 < n then 3 else gchk g
/-- do just these bytes tell a right group, and which? -/
def decR (l : List UInt8) : Option (Int × List Fr) := (tkG l).bind fun a => if a.2.2 = [] ∧ recE a.1 a.2.1 = 0 then some (a.1, a.2.1) else none

def encT (s : ByteArray) : List UInt8 := byteU s.size 0 :: s.data.toList
def encTs (l : List ByteArray) : List UInt8 := l.flatMap encT
def encF (f : Fr) : List UInt8 := be f.time 4 ++ (be f.parts.length 1 ++ encTs f.parts)
def encFs (l : List Fr) : List UInt8 := l.flatMap encF
def encG (n : Int) (g : List Fr) : List UInt8 := be n 4 ++ (be g.length 1 ++ encFs g)
/-- the bytes of a record -/
def recB (n : Int) (g : List Fr) : List UInt8 := be (encG n g).length 2 ++ encG n g

/-- the bytes of the whole record at the front, and what is left -/
def tkR (l : List UInt8) : Option (List UInt8 × List UInt8) := if 2 ≤ l.length ∧ (num (l.take 2)).toNat ≤ l.length - 2 then some ((l.drop 2).take (num (l.take 2)).toNat, l.drop (2 + (num (l.take 2)).toNat)) else none
def recsF : Nat → List UInt8 → List (List UInt8)
  | 0, _ => []
  | k + 1, l => match tkR l with
    | none => []
    | some a => a.1 :: recsF k a.2
/-- the bytes of all whole records -/
def recs (l : List UInt8) : List (List UInt8) := recsF l.length l
/-- where the first k of them end -/
def endK (b : List (List UInt8)) (k : Nat) : Nat := ((b.take k).map fun x => 2 + x.length).sum
def recAt (b : List (List UInt8)) (k : Nat) : List UInt8 := b[k]?.getD []

theorem tkR_some {l a r : List UInt8} (h : tkR l = some (a, r)) : 2 + a.length ≤ l.length ∧ r = l.drop (2 + a.length) ∧ a = (l.drop 2).take a.length ∧ num (l.take 2) = a.length := by
  unfold tkR at h
  by_cases hc : 2 ≤ l.length ∧ (num (l.take 2)).toNat ≤ l.length - 2
  · rw [if_pos hc] at h
    injection h with h
    injection h with h1 h2
    have hl : a.length = (num (l.take 2)).toNat := by rw [← h1, List.length_take, List.length_drop]; omega
    have := num_bd (l.take 2)
    exact ⟨by omega, by rw [hl, h2], by rw [hl, h1], by omega⟩
  · rw [if_neg hc] at h; cases h
theorem tkR_of {l : List UInt8} {n : Nat} (h : num (l.take 2) = n) (h2 : 2 + n ≤ l.length) : tkR l = some ((l.drop 2).take n, l.drop (2 + n)) := by
  unfold tkR
  rw [h, if_pos (by omega)]; rfl
theorem tkR_none {l : List UInt8} : tkR l = none ↔ l.length < 2 ∨ (l.length : Int) - 2 < num (l.take 2) := by
  unfold tkR
  have := num_bd (l.take 2)
  constructor
  · intro h
    by_cases hc : 2 ≤ l.length ∧ (num (l.take 2)).toNat ≤ l.length - 2
    · rw [if_pos hc] at h; cases h
    · omega
  · intro h
    rw [if_neg (by omega)]

theorem endK_zero (b : List (List UInt8)) : endK b 0 = 0 := rfl
theorem endK_succ {b : List (List UInt8)} {k : Nat} (h : k < b.length) : endK b (k + 1) = endK b k + (2 + (recAt b k).length) := by
  unfold endK
  rw [take_one h [], List.map_append, List.sum_append]; simp [recAt]
theorem endK_cons (x : List UInt8) (b : List (List UInt8)) (k : Nat) : endK (x :: b) (k + 1) = 2 + x.length + endK b k := by simp [endK]
theorem recsF_at : ∀ (fuel : Nat) (l : List UInt8), l.length ≤ fuel → ∀ k, k ≤ (recsF fuel l).length → endK (recsF fuel l) k ≤ l.length ∧ (k < (recsF fuel l).length → tkR (l.drop (endK (recsF fuel l) k)) = some (recAt (recsF fuel l) k, l.drop (endK (recsF fuel l) (k + 1)))) ∧ (k = (recsF fuel l).length → tkR (l.drop (endK (recsF fuel l) k)) = none)
  | 0, l, hl, k, hk => by
    have : l = [] := List.eq_nil_of_length_eq_zero (by omega)
    subst this
    have hk : k = 0 := by simpa [recsF] using hk
    subst hk
    exact ⟨by simp [endK], fun h => by simp [recsF] at h, fun _ => by simp [tkR]⟩
  | fuel + 1, l, hl, k, hk => by
    cases hr : tkR l with
    | none =>
      have e : recsF (fuel + 1) l = [] := by simp [recsF, hr]
      rw [e] at hk ⊢
      have hk : k = 0 := by simpa using hk
      subst hk
      exact ⟨by simp [endK], fun h => by simp at h, fun _ => by simpa [endK] using hr⟩
    | some p =>
      obtain ⟨a, r⟩ := p
      have e : recsF (fuel + 1) l = a :: recsF fuel r := by simp [recsF, hr]
      obtain ⟨h1, h2, h3, h4⟩ := tkR_some hr
      rw [e] at hk ⊢
      have hrl : r.length = l.length - (2 + a.length) := by rw [h2, List.length_drop]
      cases k with
      | zero =>
        refine ⟨by simp [endK], fun _ => ?_, fun h => by simp at h⟩
        rw [endK_cons, endK_zero, endK_zero, List.drop_zero, hr, h2]; rfl
      | succ k =>
        obtain ⟨i1, i2, i3⟩ := recsF_at fuel r (by omega) k (by simpa using hk)
        have hd : ∀ m, l.drop (2 + a.length + m) = r.drop m := fun m => by rw [h2, List.drop_drop]
        refine ⟨by rw [endK_cons]; omega, fun h => ?_, fun h => ?_⟩
        · rw [endK_cons, endK_cons, hd, hd, i2 (by simpa using h)]; rfl
        · rw [endK_cons, hd]; exact i3 (by simpa using h)
theorem recs_le (l : List UInt8) {k : Nat} (h : k ≤ (recs l).length) : endK (recs l) k ≤ l.length := (recsF_at _ l (Nat.le_refl _) k h).1
theorem recs_some (l : List UInt8) {k : Nat} (h : k < (recs l).length) : tkR (l.drop (endK (recs l) k)) = some (recAt (recs l) k, l.drop (endK (recs l) (k + 1))) := (recsF_at _ l (Nat.le_refl _) k (Nat.le_of_lt h)).2.1 h
theorem recs_none (l : List UInt8) : tkR (l.drop (endK (recs l) (recs l).length)) = none := (recsF_at _ l (Nat.le_refl _) _ (Nat.le_refl _)).2.2 rfl

/-- are the records right, number by number? -/
def decN (l : List UInt8) : Int := ((decR l).getD (0, [])).1
def decG (l : List UInt8) : List Fr := ((decR l).getD (0, [])).2
def okR (b : List (List UInt8)) (k : Nat) : Bool := (decR (recAt b k)).isSome && decide (decN (recAt b k) = decN (recAt b 0) + k)
def okRs (b : List (List UInt8)) : Bool := decide (∀ k, k < b.length → okR b k = true)
/-- what is on a disk: the first number, the groups, where they end -/
def dFirst (l : List UInt8) : Int := decN (recAt (recs l) 0)
def dGs (l : List UInt8) : List (List Fr) := (recs l).map decG
def dEnd (l : List UInt8) : Nat := endK (recs l) (recs l).length
/-- what Check says of a disk -/
def diskE (l : List UInt8) (synced : Int) : Int := if 2000 < l.length then 2 else if okRs (recs l) then (if ∃ k, k ≤ (recs l).length ∧ synced = endK (recs l) k then 0 else 3) else 1

theorem decR_nil : decR [] = none := rfl
theorem decN_nil : decN [] = 0 := rfl
theorem dFirst_none {l : List UInt8} (h : (recs l).length = 0) : dFirst l = 0 := by
  have : recs l = [] := List.eq_nil_of_length_eq_zero h
  unfold dFirst; rw [this]; rfl
theorem okR_zero (b : List (List UInt8)) : okR b 0 = (decR (recAt b 0)).isSome := by simp [okR]
theorem okRs_at {b : List (List UInt8)} (h : okRs b = true) {k : Nat} (hk : k < b.length) : ∃ n g, decR (recAt b k) = some (n, g) ∧ n = decN (recAt b 0) + k ∧ g = decG (recAt b k) ∧ recE n g = 0 := by
  have h1 := (of_decide_eq_true h) k hk
  unfold okR at h1
  simp only [Bool.and_eq_true, decide_eq_true_eq] at h1
  obtain ⟨h1, h2⟩ := h1
  obtain ⟨⟨n, g⟩, hd⟩ := Option.isSome_iff_exists.1 h1
  have hn : decN (recAt b k) = n := by unfold decN; rw [hd]; rfl
  have hg : decG (recAt b k) = g := by unfold decG; rw [hd]; rfl
  refine ⟨n, g, hd, by rw [← hn]; exact h2, hg.symm, ?_⟩
  unfold decR at hd
  cases ht : tkG (recAt b k) with
  | none => rw [ht] at hd; cases hd
  | some a =>
    rw [ht] at hd
    simp only [Option.bind_some] at hd
    by_cases hc : a.2.2 = [] ∧ recE a.1 a.2.1 = 0
    · rw [if_pos hc] at hd
      injection hd with hd
      injection hd with e1 e2
      rw [← e1, ← e2]; exact hc.2
    · rw [if_neg hc] at hd; cases hd

end Go.Proofs.Ytnpaejknoipicad
