/-
  Contracts: the document's CheckSlot; '==' between slots; SameSlots, SameBuffer.
-/
import Derived.Test.YtdcdfpjjdobmhacSlotRows
import Derived.Test.YtdcdfpjjdobmhacWireEq
import Derived.Deep.QuietTactic
import Derived.BigQuiet
namespace Go.Proofs.Ytdcdfpjjdobmhac
open Go.RowKit

def Sk.eqB (a b : Sk) : Bool := (a.n == b.n) && Pk.eqB a.p b.p
theorem Sk.eqB_iff (a b : Sk) : Sk.eqB a b = true ↔ a = b := by
  obtain ⟨an, ap⟩ := a
  obtain ⟨bn, bp⟩ := b
  simp [Sk.eqB, Pk.eqB_iff]

set_option maxHeartbeats 1000000 in
theorem equalIn_slot (a b : Sk) (w : World) : (Op.equalIn 10000 31 a.val b.val).run Try.prog w = .ok (Sk.eqB a b) w := by
  obtain ⟨an, a0, a1, a2, a3, a4, a5⟩ := a
  obtain ⟨bn, b0, b1, b2, b3, b4, b5⟩ := b
  simp only [Sk.val, Sk.eqB, Pk.eqB]
  rw [run_equalIn_agg w 9999 31 _ _ (by kernel_rfl) (by kernel_rfl)]
  rw [show (Try.prog.fieldsOf 31) = _ by unfold Program.fieldsOf; rw [Try.underlying31]]
  cases hn : (an == bn)
  · simp [go_sem, hn]
  simp [go_sem, hn]
  by_cases h0 : a0 = b0
  · by_cases h1 : a1 = b1
    · by_cases h2 : a2 = b2
      · by_cases h3 : a3 = b3
        · by_cases h4 : a4 = b4
          · by_cases h5 : a5.toList = b5.toList <;> simp [h0, h1, h2, h3, h4, h5]
          · simp [h0, h1, h2, h3, h4]
        · simp [h0, h1, h2, h3]
      · simp [h0, h1, h2]
    · simp [h0, h1]
  · simp [h0]
theorem neq_slot (a b : Sk) (w : World) : (binOp .neq 31 a.val b.val).run Try.prog w = .ok (.bool (!(Sk.eqB a b))) w := by
  have h := equalIn_slot a b w
  simp only [Sk.val] at h ⊢
  rw [run_neq_struct, h]
  rfl
theorem eql_slot (a b : Sk) (w : World) : (binOp .eql 31 a.val b.val).run Try.prog w = .ok (.bool (Sk.eqB a b)) w := by
  have h := equalIn_slot a b w
  simp only [Sk.val] at h ⊢
  rw [run_eql_struct, h]
  rfl

/-- are they the same? -/
def sameB : List Sk → List Sk → Bool
  | [], [] => true
  | x :: r, y :: s => Sk.eqB x y && sameB r s
  | _, _ => false
theorem sameB_iff : ∀ (l m : List Sk), sameB l m = true ↔ l = m
  | [], [] => by simp [sameB]
  | x :: r, y :: s => by simp [sameB, Sk.eqB_iff, sameB_iff r s]
  | [], _ :: _ => by simp [sameB]
  | _ :: _, [] => by simp [sameB]
theorem sameB_len {l m : List Sk} (h : ¬ l.length = m.length) : sameB l m = false := by
  cases hb : sameB l m
  · rfl
  · rw [sameB_iff] at hb; exact absurd (by rw [hb]) h
theorem sameB_at {l m : List Sk} {k : Nat} (hx : ¬ (l[k]?.getD Sk.zero) = (m[k]?.getD Sk.zero)) : sameB l m = false := by
  cases hb : sameB l m
  · rfl
  · rw [sameB_iff] at hb
    subst hb
    exact absurd rfl hx
theorem same_ext {l m : List Sk} (hl : l.length = m.length) (h : ∀ k, k < l.length → (l[k]?.getD Sk.zero) = (m[k]?.getD Sk.zero)) : sameB l m = true := by
  rw [sameB_iff]
  refine List.ext_getElem hl fun k h1 h2 => ?_
  have := h k h1
  rw [List.getElem?_eq_getElem h1, List.getElem?_eq_getElem h2] at this
  exact this

end Go.Proofs.Ytdcdfpjjdobmhac
