/-
  Plain mathematics of numbers that go round at 65536: no Go in sight.
-/
import Derived.WalkKit
namespace Go.Proofs.Ytnpaejknoipicad
namespace Cn

def isNB (n : Int) : Bool := decide (65536 ≤ n ∧ n ≤ 1000000000)
theorem isNB_true {n : Int} (h1 : 65536 ≤ n) (h2 : n ≤ 1000000000) : isNB n = true := by simp [isNB]; omega
theorem isNB_false {n : Int} (h : n < 65536 ∨ 1000000000 < n) : isNB n = false := by simp [isNB]; omega
theorem isNB_iff {n : Int} : isNB n = true ↔ 65536 ≤ n ∧ n ≤ 1000000000 := by simp [isNB]

/-- the number near 'last' that goes round to 'seq' -/
def raw (last seq : Int) : Int :=
  if 32768 < (seq - last) % 65536 then last + ((seq - last) % 65536 - 65536) else last + (seq - last) % 65536
def okB (last seq : Int) : Bool := isNB last && decide (0 ≤ seq) && decide (seq ≤ 65535) && isNB (raw last seq)
def uwE (last seq : Int) : Int := if okB last seq then 0 else 3
def uwN (last seq : Int) : Int := if okB last seq then raw last seq else 0

theorem okB_iff {last seq : Int} : okB last seq = true ↔ (65536 ≤ last ∧ last ≤ 1000000000) ∧ 0 ≤ seq ∧ seq ≤ 65535 ∧ 65536 ≤ raw last seq ∧ raw last seq ≤ 1000000000 := by
  simp [okB, isNB]; omega
theorem uw_ok {last seq : Int} (h : okB last seq = true) : uwE last seq = 0 ∧ uwN last seq = raw last seq := by simp [uwE, uwN, h]
theorem uw_no {last seq : Int} (h : okB last seq = false) : uwE last seq = 3 ∧ uwN last seq = 0 := by simp [uwE, uwN, h]
theorem raw_near (last seq : Int) (h : 0 ≤ seq) (h2 : seq ≤ 65535) : raw last seq % 65536 = seq ∧ last - 32767 ≤ raw last seq ∧ raw last seq ≤ last + 32768 := by
  unfold raw; split <;> omega
theorem raw_uniq (last seq n : Int) (h : n % 65536 = seq) (h1 : last - 32767 ≤ n) (h2 : n ≤ last + 32768) : raw last seq = n := by
  unfold raw; split <;> omega
def wrE (n : Int) : Int := if isNB n then 0 else 3
def wrN (n : Int) : Int := if isNB n then n % 65536 else 0

def lastOf : Int → List Int → Int
  | d, [] => d
  | _, x :: r => lastOf x r
theorem lastOf_snoc (l : List Int) (x : Int) : ∀ d, lastOf d (l ++ [x]) = x := by
  induction l with
  | nil => intro d; rfl
  | cons y r ih => intro d; exact ih y
/-- numbers one by one, each by the one ahead of it; none where one cannot be -/
def goes : Int → List Int → Option (List Int)
  | _, [] => some []
  | last, x :: r => if okB last x then (goes (raw last x) r).map (raw last x :: ·) else none
def allE (first : Int) (l : List Int) : Int := if (goes first l).isSome then 0 else 3
def allL (first : Int) (l : List Int) : List Int := (goes first l).getD []

theorem goes_append (l m : List Int) : ∀ first, goes first (l ++ m) = (goes first l).bind fun o => (goes (lastOf first o) m).map (o ++ ·) := by
  induction l with
  | nil => intro first; simp [goes, lastOf]
  | cons x r ih =>
    intro first
    simp only [List.cons_append, goes]
    by_cases h : okB first x = true
    · simp only [h, if_true, ih]
      cases hg : goes (raw first x) r with
      | none => simp
      | some o => simp [lastOf]; rfl
    · simp [h]
theorem goes_length (l : List Int) : ∀ first o, goes first l = some o → o.length = l.length := by
  induction l with
  | nil => intro first o h; simp [goes] at h; subst h; rfl
  | cons x r ih =>
    intro first o h
    simp only [goes] at h
    split at h
    · cases hg : goes (raw first x) r with
      | none => simp [hg] at h
      | some q => simp [hg] at h; subst h; simp [ih _ _ hg]
    · cases h
theorem goes_snoc_ok {first x : Int} {l o : List Int} (h : goes first l = some o) (hx : okB (lastOf first o) x = true) : goes first (l ++ [x]) = some (o ++ [raw (lastOf first o) x]) := by
  rw [goes_append, h]; simp [goes, hx]
theorem goes_snoc_no {first x : Int} {l o m : List Int} (h : goes first l = some o) (hx : okB (lastOf first o) x = false) : goes first (l ++ x :: m) = none := by
  rw [goes_append, h]; simp [goes, hx]
theorem take_snoc (l : List Int) (k : Nat) (h : k < l.length) : l.take (k + 1) = l.take k ++ [l[k]?.getD 0] := by
  rw [List.take_add_one, List.getElem?_eq_getElem h]; rfl
theorem take_drop_at (l : List Int) (k : Nat) (h : k < l.length) : l = l.take k ++ (l[k]?.getD 0) :: l.drop (k + 1) := by
  conv => lhs; rw [← List.take_append_drop k l]
  rw [List.drop_eq_getElem_cons h]; simp [List.getElem?_eq_getElem h]
theorem allE_some {first : Int} {l o : List Int} (h : goes first l = some o) : allE first l = 0 ∧ allL first l = o := by simp [allE, allL, h]
theorem allE_none {first : Int} {l : List Int} (h : goes first l = none) : allE first l = 3 ∧ allL first l = [] := by simp [allE, allL, h]

end Cn
end Go.Proofs.Ytnpaejknoipicad
