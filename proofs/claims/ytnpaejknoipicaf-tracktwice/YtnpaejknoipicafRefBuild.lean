/-
  Contracts: the document's CheckBuilder.
-/
import Derived.Test.YtnpaejknoipicafRefSlot
import Derived.Test.YtnpaejknoipicafBufPlain
import Derived.Test.YtnpaejknoipicafMaker1
import Derived.Test.YtnpaejknoipicafRowAux
import Derived.BigQuiet
namespace Go.Proofs.Ytnpaejknoipicaf
open Go.RowKit Go.Sort

/-- what is wrong of an open slot, by the one ahead of it -/
def badO (prev : Option Sk) (x : Sk) : Bool := match prev with
  | none => !x.p.f || x.p.e
  | some a => x.p.e || !nextB a x
def ogo : Option Sk → List Sk → Int
  | _, [] => 0
  | prev, x :: r => if x.chk = 0 then (if badO prev x = true then 4 else ogo (some x) r) else x.chk
/-- what is said of a builder: D1, slot by slot -/
def ochk (l : List Sk) : Int := if 4 ≤ l.length then 2 else ogo none l

theorem ogo_split (x : Sk) (s : List Sk) : ∀ (r : List Sk) (prev : Option Sk), ogo prev r = 0 → ogo prev (r ++ x :: s) = ogo (r.foldl (fun _ y => some y) prev) (x :: s)
  | [], _, _ => rfl
  | y :: r, prev, h => by
    simp only [List.cons_append, List.foldl_cons]
    by_cases hy : y.chk = 0
    · by_cases h2 : badO prev y = true
      · simp [ogo, hy, h2] at h
      · have h' : ogo (some y) r = 0 := by simpa [ogo, hy, h2] using h
        rw [← ogo_split x s r (some y) h']
        conv => lhs; unfold ogo
        rw [if_pos hy, if_neg h2]
    · simp [ogo, hy] at h
theorem olast_at (l : List Sk) (p : Option Sk) (k : Nat) (hk : k ≤ l.length) : (l.take k).foldl (fun _ y => some y) p = if k = 0 then p else some (l[k - 1]?.getD Sk.zero) := by
  cases k with
  | zero => simp
  | succ k =>
    rw [take_one (by omega) Sk.zero, List.foldl_append]
    simp
theorem ogo_at (l : List Sk) (k : Nat) (hk : k < l.length) (h : ogo none (l.take k) = 0) :
    ogo none l = ogo (if k = 0 then none else some (l[k - 1]?.getD Sk.zero)) ((l[k]?.getD Sk.zero) :: l.drop (k + 1)) := by
  have e : l = l.take k ++ (l[k]?.getD Sk.zero) :: l.drop (k + 1) := by
    rw [List.getElem?_eq_getElem hk, Option.getD_some, ← List.drop_eq_getElem_cons hk, List.take_append_drop]
  conv => lhs; rw [e]
  rw [ogo_split _ _ _ _ h, olast_at l none k (by omega)]
theorem ogo_at1 (l : List Sk) (k : Nat) (hk : k < l.length) (h : ogo none (l.take k) = 0) :
    ogo none (l.take (k + 1)) = ogo (if k = 0 then none else some (l[k - 1]?.getD Sk.zero)) [l[k]?.getD Sk.zero] := by
  rw [take_one hk Sk.zero, ogo_split _ _ _ _ h, olast_at l none k (by omega)]
theorem ogo_all : ∀ (l : List Sk) (prev : Option Sk), ogo prev l = 0 → ∀ x ∈ l, x.chk = 0
  | [], _, _, _, hx => absurd hx List.not_mem_nil
  | y :: r, prev, h, x, hx => by
    by_cases hy : y.chk = 0
    · by_cases h2 : badO prev y = true
      · simp [ogo, hy, h2] at h
      · rcases List.mem_cons.1 hx with rfl | hx
        · exact hy
        · exact ogo_all r (some y) (by simpa [ogo, hy, h2] using h) x hx
    · simp [ogo, hy] at h

end Go.Proofs.Ytnpaejknoipicaf
