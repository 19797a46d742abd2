/-
  '==' between two packets.
-/
import Derived.Test.YtnpaejknoipicagWireCheck
namespace Go.Proofs.Ytnpaejknoipicag
open Go.RowKit

def Pk.eqB (a b : Pk) : Bool := (a.seq == b.seq) && ((a.time == b.time) && ((a.f == b.f) && ((a.e == b.e) && ((a.k == b.k) && (a.t.toList == b.t.toList)))))

set_option maxHeartbeats 1000000 in
theorem eql_pkt (a b : Pk) (w : World) : (binOp .eql 36 a.val b.val).run Try.prog w = .ok (.bool (Pk.eqB a b)) w := by
  obtain ⟨a0, a1, a2, a3, a4, a5⟩ := a
  obtain ⟨b0, b1, b2, b3, b4, b5⟩ := b
  simp only [Pk.val, Pk.eqB]
  rw [run_eql_struct, run_equalIn_agg w 9999 36 _ _ (by kernel_rfl) (by kernel_rfl)]
  rw [show (Try.prog.fieldsOf 36) = _ by unfold Program.fieldsOf; rw [Try.underlying36]]
  cases h0 : (a0 == b0)
  · simp [go_sem, h0]
  cases h1 : (a1 == b1)
  · simp [go_sem, h0, h1]
  cases h2 : (a2 == b2)
  · simp [go_sem, h0, h1, h2]
  cases h3 : (a3 == b3)
  · simp [go_sem, h0, h1, h2, h3]
  cases h4 : (a4 == b4)
  · simp [go_sem, h0, h1, h2, h3, h4]
  cases h5 : (a5.toList == b5.toList)
  · simp [go_sem, h0, h1, h2, h3, h4, h5]
  · simp [go_sem, h0, h1, h2, h3, h4, h5]

theorem Pk.eqB_iff (a b : Pk) : Pk.eqB a b = true ↔ a = b := by
  obtain ⟨a0, a1, a2, a3, a4, a5⟩ := a
  obtain ⟨b0, b1, b2, b3, b4, b5⟩ := b
  simp only [Pk.eqB, Bool.and_eq_true, beq_iff_eq, Pk.mk.injEq]
  constructor
  · rintro ⟨h0, h1, h2, h3, h4, h5⟩
    exact ⟨h0, h1, h2, h3, h4, by rw [ByteArray.toList_eq, ByteArray.toList_eq] at h5; exact ByteArray.ext (Array.ext' h5)⟩
  · rintro ⟨h0, h1, h2, h3, h4, h5⟩
    exact ⟨h0, h1, h2, h3, h4, by rw [h5]⟩

end Go.Proofs.Ytnpaejknoipicag
