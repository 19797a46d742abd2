/-
  Contracts: slot.Check, and the document's CheckSlot.
-/
import Derived.Test.YtnpaejknoipicafGreatSlotPlain
import Derived.Test.YtnpaejknoipicafGreatWireCheck
import Derived.Test.YtnpaejknoipicafGreatCountWalk
import Derived.Test.YtnpaejknoipicafGreatSlices
import Derived.Handy
namespace Go.Proofs.YtnpaejknoipicafGreat
open Go.RowKit

set_option maxHeartbeats 1000000 in
theorem slotCheck_any (x : Sk) (w : World) :
    Calls Tryz.prog 91 #[x.val] w fun e w' => e = .returned (.int .i64 x.chk) ∧ Below w.heap.size w w' := by
  cases hb : Cn.isNB x.n
  · have hE : Cn.wrE x.n = 3 := by simp [Cn.wrE, hb]
    have hw : ∀ w : World, Calls Tryz.prog 80 #[.int .i64 x.n] w fun e w' => e = .returned (.tuple #[.int .i64 (Cn.wrN x.n), .int .i64 3]) ∧ w = w' := fun w => by rw [← hE]; exact wrap_any _ _
    rw [Sk.chk_range hb]
    clear hE hb
    obtain ⟨n, seq, time, f, e, k, t⟩ := x
    simp only [Sk.val] at hw ⊢
    go_enter Tryz.func91, Tryz.ntmps91
    go_wp2_with (go_at_call 80; refine (hw _).mono ?_; rintro e w' ⟨rfl, rfl⟩)
    go_ret
    exact ⟨rfl, by go_grown⟩
  have hE : Cn.wrE x.n = 0 := by simp [Cn.wrE, hb]
  have hN : Cn.wrN x.n = x.n % 65536 := by simp [Cn.wrN, hb]
  obtain ⟨m, hm⟩ : ∃ m, m = x.n % 65536 := ⟨_, rfl⟩
  have hw : ∀ w : World, Calls Tryz.prog 80 #[.int .i64 x.n] w fun e w' => e = .returned (.tuple #[.int .i64 m, .int .i64 0]) ∧ w = w' := fun w => by rw [← hE, hm, ← hN]; exact wrap_any _ _
  by_cases hc : x.p.chk = 0
  · have hp : ∀ w : World, Calls Tryz.prog 137 #[x.p.val] w fun e w' => e = .returned (.int .i64 0) ∧ w' = w.alloc (.cells x.p.cells 89) := fun w => by rw [← hc]; exact check_any _ _
    by_cases hs : x.n % 65536 = x.p.seq
    · have hs' : x.p.seq = m := by omega
      rw [Sk.chk_ok hb hc hs]
      clear hE hb hN hm hc hs
      obtain ⟨n, seq, time, f, e, k, t⟩ := x
      simp only [Sk.val, Pk.val, Pk.cells] at hw hp hs' ⊢
      subst hs'
      go_enter Tryz.func91, Tryz.ntmps91
      go_wp2_with (first | (go_at_call 80; refine (hw _).mono ?_; rintro e w' ⟨rfl, rfl⟩) | (go_at_call 137; refine (hp _).mono ?_; rintro e w' ⟨rfl, rfl⟩))
      go_ret
      exact ⟨rfl, by go_grown⟩
    · have hs' : ¬ x.p.seq = m := by omega
      rw [Sk.chk_seq hb hc hs]
      clear hE hb hN hm hc hs
      obtain ⟨n, seq, time, f, e, k, t⟩ := x
      simp only [Sk.val, Pk.val, Pk.cells] at hw hp hs' ⊢
      go_enter Tryz.func91, Tryz.ntmps91
      go_wp2_with (first | (go_at_call 80; refine (hw _).mono ?_; rintro e w' ⟨rfl, rfl⟩) | (go_at_call 137; refine (hp _).mono ?_; rintro e w' ⟨rfl, rfl⟩))
      go_ret
      exact ⟨rfl, by go_grown⟩
  · rw [Sk.chk_pkt hb hc]
    obtain ⟨c, hcc⟩ : ∃ c, c = x.p.chk := ⟨_, rfl⟩
    have hp : ∀ w : World, Calls Tryz.prog 137 #[x.p.val] w fun e w' => e = .returned (.int .i64 c) ∧ w' = w.alloc (.cells x.p.cells 89) := fun w => by rw [hcc]; exact check_any _ _
    rw [← hcc] at hc ⊢
    clear hE hb hN hm hcc
    obtain ⟨n, seq, time, f, e, k, t⟩ := x
    simp only [Sk.val, Pk.val, Pk.cells] at hw hp ⊢
    go_enter Tryz.func91, Tryz.ntmps91
    go_wp2_with (first | (go_at_call 80; refine (hw _).mono ?_; rintro e w' ⟨rfl, rfl⟩) | (go_at_call 137; refine (hp _).mono ?_; rintro e w' ⟨rfl, rfl⟩))
    go_ret
    exact ⟨rfl, by go_grown⟩

end Go.Proofs.YtnpaejknoipicafGreat
