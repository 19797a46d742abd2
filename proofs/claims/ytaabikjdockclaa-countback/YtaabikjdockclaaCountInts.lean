/-
  'intsAre' returns true where the two lists are the same, or both are to be empty.
-/
import Derived.Test.YtaabikjdockclaaCountMore
namespace Go.Proofs.Ytaabikjdockclaa
open Go.RowKit

theorem ints_cell {w : World} {b off : Nat} {zs : List Int} (hc : ∀ j u, (zs.map (Value.int .i64))[j]? = some u → w.cell? ⟨b, off + j, none⟩ = some u) (k : Nat) (h : k < zs.length) : w.cell? ⟨b, off + k, none⟩ = some (.int .i64 (zs[k]?.getD 0)) :=
  hc k _ (by simp [List.getElem?_eq_getElem h])

set_option maxHeartbeats 1000000 in
theorem intsAre_none (a : Option Addr) (c : Nat) (e : Int) (v : Value) (w : World) (he : (e == 0) = false) :
    Calls Try.prog 22 #[.slice a 0 c, .int .i64 e, .int .i64 e, v] w fun r w' => r = .returned (.bool true) ∧ Below w.heap.size w w' := by
  have hne : (e != 0) = true := by simp at he; simp [he]
  have hee : (e != e) = false := by simp
  go_enter Try.func22, Try.ntmps22
  go_wp2
  refine wp_loop_rounds 1 ?_
  rw [rounds_succ]
  go_wp2
  go_ret
  exact ⟨rfl, Below.refl _ _⟩

set_option maxHeartbeats 1000000 in
theorem intsAre_empty (a a' : Option Addr) (c c' : Nat) (w : World) :
    Calls Try.prog 22 #[.slice a 0 c, .int .i64 0, .int .i64 0, .slice a' 0 c'] w fun r w' => r = .returned (.bool true) ∧ Below w.heap.size w w' := by
  go_enter Try.func22, Try.ntmps22
  go_wp2
  refine wp_loop_rounds 1 ?_
  rw [rounds_succ]
  go_wp2
  go_ret
  exact ⟨rfl, Below.refl _ _⟩

set_option maxHeartbeats 1000000 in
theorem intsAre_row (b off c b' off' c' : Nat) (zs : List Int) (w : World) (hreach : zs.length * 8 ≤ 140737488351232)
    (hc : ∀ k, k < zs.length → w.cell? ⟨b, off + k, none⟩ = some (.int .i64 (zs[k]?.getD 0)))
    (hc' : ∀ k, k < zs.length → w.cell? ⟨b', off' + k, none⟩ = some (.int .i64 (zs[k]?.getD 0))) :
    Calls Try.prog 22 #[.slice (some ⟨b, off, none⟩) zs.length c, .int .i64 0, .int .i64 0, .slice (some ⟨b', off', none⟩) zs.length c'] w fun r w' => r = .returned (.bool true) ∧ Below w.heap.size w w' := by
  go_enter Try.func22, Try.ntmps22
  go_wp2
  go_loopw [9] (fun i wr => ∃ (k n : Nat), k ≤ zs.length ∧ i = .int .i64 k ∧ wr = w.drewN n) (fun i _ => zs.length - (intOf i).toNat)
  case atStart => exact ⟨0, 0, Nat.zero_le _, rfl, rfl⟩
  case round =>
    obtain ⟨k, n, hk, rfl, rfl⟩ := hrel
    by_cases hlt : k < zs.length
    · have h1 := hc k hlt
      have h2 := hc' k hlt
      have hlt' : (k : Int) < (zs.length : Int) := by omega
      go_wp2
      go_quiet (fail)
      go_wp2
      exact ⟨⟨k + 1, n + nq, by omega, by go_num, rfl⟩, by simp [intOf]; omega⟩
    · have hkl : ¬ (k : Int) < (zs.length : Int) := by omega
      go_wp2
      go_ret
      exact ⟨rfl, below_drewN (Below.refl _ _) n⟩

theorem intsAre_any (v u : Value) (xs : List Int) (e : Int) (w : World) (hreach : xs.length * 8 ≤ 140737488351232) (hv : Sl w v xs.length 1 (xs.map (Value.int .i64)))
    (he : (e = 0 ∧ Sl w u xs.length 1 (xs.map (Value.int .i64))) ∨ ((e == 0) = false ∧ xs = [])) :
    Calls Try.prog 22 #[v, .int .i64 e, .int .i64 e, u] w fun r w' => r = .returned (.bool true) ∧ Below w.heap.size w w' := by
  rcases he with ⟨rfl, hu⟩ | ⟨he, rfl⟩
  · by_cases h0 : xs = []
    · subst h0
      obtain ⟨a, c, rfl⟩ := hv.len
      obtain ⟨a', c', rfl⟩ := hu.len
      exact intsAre_empty _ _ _ _ _
    · have hp : ¬ xs.length = 0 := by simpa using h0
      obtain ⟨_, ⟨hn, _⟩ | ⟨b, off, c, rfl, _, hc⟩⟩ := hv
      · exact absurd hn hp
      obtain ⟨_, ⟨hn, _⟩ | ⟨b', off', c', rfl, _, hc'⟩⟩ := hu
      · exact absurd hn hp
      exact intsAre_row b off c b' off' c' xs w hreach (ints_cell hc) (ints_cell hc')
  · obtain ⟨a, c, rfl⟩ := hv.len
    exact intsAre_none _ _ _ _ _ he

end Go.Proofs.Ytaabikjdockclaa
