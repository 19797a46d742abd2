/-
  Contract: the document's SamePackets, of two rows that show the same.
-/
import Derived.Test.YtnpaejknoipicafPktRows
import Derived.Test.YtnpaejknoipicafWireEq
import Derived.BigQuiet
namespace Go.Proofs.Ytnpaejknoipicaf
open Go.RowKit

set_option maxHeartbeats 1000000 in
theorem neql_pkt (a : Pk) (w : World) : (binOp .neq 38 a.val a.val).run Try.prog w = .ok (.bool false) w := by
  obtain ⟨a0, a1, a2, a3, a4, a5⟩ := a
  simp only [Pk.val]
  rw [run_neq_struct, run_equalIn_agg w 9999 38 _ _ (by kernel_rfl) (by kernel_rfl)]
  rw [show (Try.prog.fieldsOf 38) = _ by unfold Program.fieldsOf; rw [Try.underlying38]]
  simp [go_sem]

set_option maxHeartbeats 2000000 in
set_option maxRecDepth 100000 in
theorem samePk_refl (u v : Value) (l : List Pk) (w : World) (hu : Pks w u l) (hv : Pks w v l) (hlen : l.length ≤ 1000) :
    Calls Try.prog 13 #[u, v] w fun e w' => e = .returned (.bool true) ∧ Below w.heap.size w w' := by
  obtain ⟨ua, uc, eu⟩ := Sl.len hu
  obtain ⟨va, vc, ev⟩ := Sl.len hv
  obtain ⟨n, hn⟩ : ∃ n, n = l.length := ⟨_, rfl⟩
  rw [← hn] at eu ev hlen
  subst eu ev
  have HU : Hid (Pks w (.slice ua n uc) l) := hu
  have HV : Hid (Pks w (.slice va n vc) l) := hv
  have HN : Hid (n = l.length) := hn
  clear hu hv hn
  go_enter Try.func13, Try.ntmps13
  go_wp2_with fail
  go_loopw [5] (fun i wr => ∃ k : Nat, k ≤ n ∧ i = .int .i64 k ∧ Hid (Below w.heap.size w wr)) (fun i _ => n - (intOf i).toNat)
  case atStart => exact ⟨0, Nat.zero_le _, rfl, Below.refl _ _⟩
  case round =>
    obtain ⟨k, hk, rfl, HB⟩ := hrel
    by_cases hlt : k < n
    · have hlti : (k : Int) < (n : Int) := by omega
      have hkl : k < l.length := by rw [← HN.out]; exact hlt
      obtain ⟨b, off, e1, hb1, hc1⟩ := (HU.out.below HB.out).at hkl
      obtain ⟨b', off', e2, hb2, hc2⟩ := (HV.out.below HB.out).at hkl
      obtain ⟨p, hp⟩ : ∃ p, p = l[k] := ⟨_, rfl⟩
      rw [← hp] at hc1 hc2
      clear hp hkl
      obtain ⟨q0, q1, q2, q3, q4, q5⟩ := p
      have x0 := hc1 0 (.int .i64 q0) rfl
      have x1 := hc1 1 (.int .i64 q1) rfl
      have x2 := hc1 2 (.bool q2) rfl
      have x3 := hc1 3 (.bool q3) rfl
      have x4 := hc1 4 (.bool q4) rfl
      have x5 := hc1 5 (.string q5) rfl
      have y0 := hc2 0 (.int .i64 q0) rfl
      have y1 := hc2 1 (.int .i64 q1) rfl
      have y2 := hc2 2 (.bool q2) rfl
      have y3 := hc2 3 (.bool q3) rfl
      have y4 := hc2 4 (.bool q4) rfl
      have y5 := hc2 5 (.string q5) rfl
      simp only [Nat.add_zero] at x0 y0
      have hq := fun W => neql_pkt ⟨q0, q1, q2, q3, q4, q5⟩ W
      simp only [Pk.val] at hq
      subst e1 e2
      clear hc1 hc2
      go_wp2_with fail
      go_quiet (fail)
      go_wp2_with fail
      go_roundw
      case rel => exact ⟨k + 1, by omega, by go_num, by first | exact HB.out | exact HB.out.drew | exact below_drewN HB.out _⟩
      case measure => simp [intOf]; omega
    · have hkl : k = n := by omega
      subst hkl
      go_wp2
      go_ret
      exact ⟨rfl, HB.out⟩

end Go.Proofs.Ytnpaejknoipicaf
