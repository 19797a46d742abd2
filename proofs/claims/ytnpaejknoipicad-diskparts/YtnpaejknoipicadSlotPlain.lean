/-
  Plain mathematics of slots: no Go in sight.
-/
import Derived.Test.YtnpaejknoipicadWirePlain
import Derived.Test.YtnpaejknoipicadCountPlain
namespace Go.Proofs.Ytnpaejknoipicad

/-- a slot: a packet with its number -/
structure Sk where
  n : Int
  p : Pk

namespace Sk
def cells (x : Sk) : Array Value := #[.int .i64 x.n, .int .i64 x.p.seq, .int .i64 x.p.time, .bool x.p.f, .bool x.p.e, .bool x.p.k, .string x.p.t]
def val (x : Sk) : Value := .agg #[.int .i64 x.n, .int .i64 x.p.seq, .int .i64 x.p.time, .bool x.p.f, .bool x.p.e, .bool x.p.k, .string x.p.t]
def zero : Sk := ⟨0, Pk.zero⟩
instance : Inhabited Sk := ⟨zero⟩
/-- what the document says of a slot -/
def chk (x : Sk) : Int := if Cn.isNB x.n then (if x.p.chk = 0 then (if x.n % 65536 = x.p.seq then 0 else 4) else x.p.chk) else 3
theorem chk_range {x : Sk} (h : Cn.isNB x.n = false) : x.chk = 3 := by simp [chk, h]
theorem chk_pkt {x : Sk} (h : Cn.isNB x.n = true) (h2 : ¬ x.p.chk = 0) : x.chk = x.p.chk := by simp [chk, h, h2]
theorem chk_seq {x : Sk} (h : Cn.isNB x.n = true) (h2 : x.p.chk = 0) (h3 : ¬ x.n % 65536 = x.p.seq) : x.chk = 4 := by simp [chk, h, h2, h3]
theorem chk_ok {x : Sk} (h : Cn.isNB x.n = true) (h2 : x.p.chk = 0) (h3 : x.n % 65536 = x.p.seq) : x.chk = 0 := by simp [chk, h, h2, h3]
end Sk

/-- the cells of slots in a row -/
def skCells (l : List Sk) : List Value := l.flatMap fun x => x.cells.toList
theorem skCells_len (l : List Sk) : (skCells l).length = l.length * 7 := by
  induction l with
  | nil => rfl
  | cons x r ih => simp only [skCells, List.flatMap_cons, List.length_append] at ih ⊢; rw [ih]; simp [Sk.cells]; omega
theorem skCells_append (l m : List Sk) : skCells (l ++ m) = skCells l ++ skCells m := by simp [skCells]
theorem skCells_one (x : Sk) : skCells [x] = x.cells.toList := by simp [skCells]
theorem skCells_at (l : List Sk) : ∀ (k i : Nat), i < 7 → k < l.length → (skCells l)[k * 7 + i]? = ((l[k]?.getD Sk.zero).cells)[i]? := by
  induction l with
  | nil => intro k i _ h; simp at h
  | cons x r ih =>
    intro k i hi hk
    have hx : x.cells.toList.length = 7 := rfl
    simp only [skCells, List.flatMap_cons] at ih ⊢
    cases k with
    | zero =>
      rw [List.getElem?_append_left (by rw [hx]; omega)]
      simp
    | succ k =>
      rw [List.getElem?_append_right (by rw [hx]; omega), hx, show (k + 1) * 7 + i - 7 = k * 7 + i by omega, ih k i hi (by simpa using hk)]
      simp
/-- the first error of slots, one by one -/
def chkAll : List Sk → Int
  | [] => 0
  | x :: r => if x.chk = 0 then chkAll r else x.chk
theorem chkAll_append (l m : List Sk) (h : chkAll l = 0) : chkAll (l ++ m) = chkAll m := by
  induction l with
  | nil => rfl
  | cons x r ih =>
    simp only [List.cons_append, chkAll] at h ⊢
    by_cases hx : x.chk = 0
    · rw [if_pos hx] at h ⊢; exact ih h
    · rw [if_neg hx] at h; exact absurd h hx
theorem chkAll_take_no {l : List Sk} {k : Nat} (hk : k < l.length) (h : chkAll (l.take k) = 0) (hx : ¬ (l[k]?.getD Sk.zero).chk = 0) : chkAll l = (l[k]?.getD Sk.zero).chk := by
  have e : l = l.take k ++ (l[k]?.getD Sk.zero) :: l.drop (k + 1) := by
    rw [List.getElem?_eq_getElem hk, Option.getD_some, ← List.drop_eq_getElem_cons hk, List.take_append_drop]
  rw [e, chkAll_append _ _ h]
  rw [← e]
  simp only [chkAll, if_neg hx]
theorem take_one {α : Type} {l : List α} {k : Nat} (hk : k < l.length) (d : α) : l.take (k + 1) = l.take k ++ [l[k]?.getD d] := by
  rw [List.take_add_one, List.getElem?_eq_getElem hk]; rfl
theorem chkAll_take_ok {l : List Sk} {k : Nat} (hk : k < l.length) (h : chkAll (l.take k) = 0) (hx : (l[k]?.getD Sk.zero).chk = 0) : chkAll (l.take (k + 1)) = 0 := by
  rw [take_one hk Sk.zero, chkAll_append _ _ h]
  simp [chkAll, hx]

end Go.Proofs.Ytnpaejknoipicad
