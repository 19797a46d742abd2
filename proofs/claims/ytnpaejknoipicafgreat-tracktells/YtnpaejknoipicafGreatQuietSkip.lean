/-
  A quiet walk over operations whose guard is not met: all of them at once.
-/
import Derived.BigQuiet
namespace Go.Proofs.YtnpaejknoipicafGreat
open Go.RowKit

/-- none of these is wanted -/
def skipB (ops : Array Oper) : List Oper → Act → Bool
  | [], _ => true
  | o :: r, a => !(Region.wanted o (yielded ops a.tmps)) && skipB ops r (a.put o.dst undef)
/-- the frame behind them -/
def putU : List Oper → Act → Act
  | [], a => a
  | o :: r, a => putU r (a.put o.dst undef)

theorem wpQuiet_jump {P : Program} {ops : Array Oper} {C : World → Prop} {Q : Act → Prop} (n : Nat) : ∀ {l : List Oper} {a : Act}, skipB ops (l.take n) a = true → (∀ b, b = putU (l.take n) a → wpQuiet P ops C Q (l.drop n) b) → wpQuiet P ops C Q l a := by
  induction n with
  | zero => intro l a _ h; simpa using h a rfl
  | succ n ih =>
    intro l a hs h
    cases l with
    | nil => simpa using h a rfl
    | cons o r =>
      simp only [List.take_succ_cons, skipB, Bool.and_eq_true, Bool.not_eq_true'] at hs
      refine BigFrame.wpQuiet_skip hs.1 (ih hs.2 (fun b hb => ?_))
      have := h b (by rw [List.take_succ_cons]; exact hb)
      simpa using this

end Go.Proofs.YtnpaejknoipicafGreat
