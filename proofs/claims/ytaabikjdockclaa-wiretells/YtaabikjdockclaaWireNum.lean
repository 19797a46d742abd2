/-
  Contracts: wire.sumOf of three flags; wire.appendNumber.
-/
import Derived.Test.YtaabikjdockclaaWireCheck
import Derived.Test.YtaabikjdockclaaSlices
import Derived.Test.YtaabikjdockclaaGrow
namespace Go.Proofs.Ytaabikjdockclaa
open Go.RowKit

def Pk.flags (f e k : Bool) : Int := (if f then 1 else 0) + (if e then 2 else 0) + (if k then 4 else 0)

set_option maxHeartbeats 1000000 in
theorem sumOf_any (f e k : Bool) (b c : Nat) (w : World) (h0 : w.cell? ⟨b, 0, none⟩ = some (.bool f)) (h1 : w.cell? ⟨b, 1, none⟩ = some (.bool e)) (h2 : w.cell? ⟨b, 2, none⟩ = some (.bool k)) :
    Calls Try.prog 24 #[.slice (some ⟨b, 0, none⟩) 3 c] w fun r w' => r = .returned (.int .i64 (Pk.flags f e k)) ∧ w = w' := by
  cases f <;> cases e <;> cases k
  all_goals
    go_enter Try.func24, Try.ntmps24
    go_wp2
    go_rounds 4
    go_ret
    exact ⟨rfl, rfl⟩

theorem Try.infoU8 : (Try.prog.info? 5).map (fun i => (i.zero, i.size, i.bytes)) = some (some (.int .u8 0), 1, 1) := by kernel_rfl

set_option maxHeartbeats 1000000 in
set_option maxRecDepth 1000000 in
theorem appendNumber_any (base size : Nat) (v : Value) (xs : List UInt8) (n sz : Int) (w : World) (hsz : sz = (size : Int)) (_hn : 0 ≤ n) (_hn2 : n ≤ 4294967295) (hs : size ≤ 8) (hm : xs.length ≤ 1000) (hb : base ≤ w.heap.size) (hown : w.ownsRow base 5 1 v xs.length (bcells xs)) :
    Calls Try.prog 23 #[v, .int .i64 n, .int .i64 sz] w fun r w' => ∃ v', r = .returned v' ∧ w'.ownsRow base 5 1 v' (xs ++ be n size).length (bcells (xs ++ be n size)) ∧ Below base w w' := by
  subst hsz
  obtain ⟨i0, hi, hz0, hz1, hz2⟩ := info_parts Try.infoU8
  go_enter Try.func23, Try.ntmps23
  go_wp2
  go_loopw [0, 7] (fun vb i wr => ∃ (k : Nat), k ≤ size ∧ i = .int .i64 ((size : Int) - 1 - k) ∧ wr.ownsRow base 5 1 vb (xs.length + k) (bcells (xs ++ beK n size k)) ∧ Below base w wr) (fun _ i _ => (intOf i + 1).toNat)
  case atStart => exact ⟨0, Nat.zero_le _, by simp, by simpa [beK] using hown, Below.refl _ _⟩
  case round =>
    obtain ⟨k, hk, rfl, how, hnx⟩ := hrel
    have hszr := hnx.size
    by_cases hlt : k < size
    · have h1 : 0 ≤ (size : Int) - 1 - k := by omega
      have h2 : (size : Int) - 1 - k ≤ 7 := by omega
      go_wp2_with (at_builtin; refine wpList_append_own _ rfl _ _ 45 rfl base 5 i0 (.int .u8 0) 1 1 Try.underlying45 hi hz0 hz1 hz2 rfl (by decide) u0 _ _ rfl (how.alloc _) ⟨wr.heap.size, 0, none⟩ 1 1 [.int .u8 (n / 2 ^ (8 * (size - 1 - k)) % 256)] rfl rfl (news1 rfl) one1 (by unfold maxLen; omega) (by omega) (by simp; omega) ?_; intro v' w2 hown' hgrow _)
      have hb2 : Below base w w2 := (hnx.alloc (by omega) _).grown hgrow (by simp; omega) (fun j hj => (how.lt j hj).1)
      refine ⟨⟨k + 1, by omega, by go_num, ?_, hb2⟩, by simp [intOf]; omega⟩
      rw [beK_succ, ← List.append_assoc, bcells_append, bcells_one]
      exact hown'
    · have hkl : k = size := by omega
      subst hkl
      go_wp2
      go_ret
      refine ⟨_, rfl, ?_, hnx⟩
      rw [be, List.length_append, beK_len]
      exact how

end Go.Proofs.Ytaabikjdockclaa
