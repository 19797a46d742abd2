/-
  Contracts: the document's answers for packets as bytes.
-/
import Derived.Test.YtnpaejknoipicafWireMath
import Derived.Test.YtnpaejknoipicafWireBegun
namespace Go.Proofs.Ytnpaejknoipicaf
open Go.RowKit Go.Sort

theorem ba_get (l : List UInt8) (j : Nat) (h : j < (ba l).size) : ((ba l)[j]'h).toNat = at8 l j := by
  have hl : j < l.length := by rw [ba_size] at h; exact h
  have e : (ba l)[j]'h = l[j] := by simp [ba]; rfl
  rw [e, at8, List.getElem?_eq_getElem hl]
  rfl
theorem num_step (l : List UInt8) (i k : Nat) (h : i + k < l.length) : num ((l.drop i).take (k + 1)) = num ((l.drop i).take k) * 256 + at8 l (i + k) := by
  rw [u8_snoc (l.drop i) k (by simp; omega), num_snoc, List.getElem?_drop]
  rfl

/-- the bytes of a number as the document's recursion has them -/
def beR : Nat → Int → List UInt8
  | 0, _ => []
  | k + 1, n => beR k (n / 256) ++ [byteU n 0]
theorem beR_len (k : Nat) : ∀ n, (beR k n).length = k := by
  induction k with
  | zero => intro n; rfl
  | succ k ih => intro n; simp [beR, ih]
theorem byteU_div (n : Int) (i : Nat) : byteU (n / 256) i = byteU n (i + 1) := by
  apply u8_ext
  rw [byteU_toNat, byteU_toNat, show (8 * (i + 1)) = 8 + 8 * i by omega, Int.pow_add, ← Int.ediv_ediv_of_nonneg (by decide)]
  rfl
theorem beR1 (n : Int) : beR 1 n = be n 1 := rfl
theorem beR2 (n : Int) : beR 2 n = be n 2 := by
  show [byteU (n / 256) 0, byteU n 0] = [byteU n 1, byteU n 0]
  rw [byteU_div]
theorem beR4 (n : Int) : beR 4 n = be n 4 := by
  show [byteU (n / 256 / 256 / 256) 0, byteU (n / 256 / 256) 0, byteU (n / 256) 0, byteU n 0] = [byteU n 3, byteU n 2, byteU n 1, byteU n 0]
  rw [byteU_div, byteU_div, byteU_div, byteU_div, byteU_div, byteU_div]

theorem ba_append (a b : List UInt8) : ba a ++ ba b = ba (a ++ b) := by
  apply ByteArray.ext; simp [ba]
theorem one_back (n : Int) (W : World) (b : Nat) (h : W.cell? ⟨b, 0, none⟩ = some (.int .u8 (n % 256))) :
    (convert 140 9 (.slice (some ⟨b, 0, none⟩) 1 1)).run Try.prog W = .ok (.string (ba [byteU n 0])) W := by
  refine run_convert_bytes_back W 140 9 5 ⟨b, 0, none⟩ 1 [byteU n 0] Try.underlying140 Try.underlying5 Try.underlying9 (fun j hj => ?_)
  have hj0 : j = 0 := by simpa using hj
  subst hj0
  rw [Addr.add_lit]
  show W.cell? ⟨b, 0, none⟩ = some (.int .u8 (((byteU n 0).toNat : Nat) : Int))
  rw [b0]
  exact h

set_option maxHeartbeats 2000000 in
theorem numberBytes_any (k : Nat) : ∀ (n ki : Int) (w : World), ki = (k : Int) → 0 ≤ n → n ≤ 4294967295 → k ≤ 8 →
    Calls Try.prog 87 #[.int .i64 n, .int .i64 ki] w fun e w' => e = .returned (.string (ba (beR k n))) ∧ Below w.heap.size w w' := by
  induction k with
  | zero =>
    intro n ki w hki hn _ _
    subst hki
    go_enter Try.func87, Try.ntmps87
    go_wp2
    go_ret
    exact ⟨rfl, Below.refl _ _⟩
  | succ k ih =>
    intro n ki w hki hn hn2 hk8
    have hk0 : (ki == 0) = false := by rw [hki]; simp; omega
    have hkb : 0 ≤ ki ∧ ki ≤ 8 := by omega
    have IH := @id (Hid (∀ w : World, Calls Try.prog 87 #[.int .i64 (n / 256), .int .i64 (ki - 1)] w fun e w' => e = .returned (.string (ba (beR k (n / 256)))) ∧ Below w.heap.size w w')) (fun w => ih (n / 256) (ki - 1) w (by omega) (by omega) (by omega) (by omega))
    obtain ⟨r, hr⟩ : ∃ r, r = beR k (n / 256) := ⟨_, rfl⟩
    rw [← hr] at IH
    have hrl : (ba r).size ≤ 8 := by rw [hr, ba_size, beR_len]; omega
    have HR : Hid (r = beR k (n / 256)) := hr
    clear hr hki ih
    obtain ⟨hk1, hk2⟩ := hkb
    go_enter Try.func87, Try.ntmps87
    go_wp2_with fail
    have hw1 : IntKind.i64.wrap (n.tdiv 256) = n / 256 := by rw [Int.tdiv_eq_ediv_of_nonneg hn, IntKind.wrap_i64]; omega
    have hw2 : IntKind.i64.wrap (ki - 1) = ki - 1 := by rw [IntKind.wrap_i64]; omega
    have hw3 : n.tmod 256 = n % 256 := Int.tmod_eq_emod_of_nonneg hn
    have hw4 : IntKind.u8.wrap (n % 256) = n % 256 := by rw [IntKind.wrap_u8]; omega
    have hsm : ¬ 9223372036854775807 < (ba r).size + (ba [byteU n 0]).size := by rw [ba_size [byteU n 0]]; simp; omega
    have hcv := one_back n
    go_region_with (go_at_call 87; refine (IH.out _).mono ?_; rintro e w1 ⟨rfl, hb1⟩; have hcw := hb1.cell (p := ⟨w.heap.size, 0, none⟩))
    all_goals
      go_wp2
      go_ret
      refine ⟨?_, ?_⟩
      · show Ending.returned (.string (ba r ++ ba [byteU n 0])) = _
        rw [ba_append, HR.out]
        rfl
      · first
          | exact (((Below.refl _ w).drew).trans hb1).alloc (((Below.refl _ w).drew).trans hb1).size _
          | exact (((Below.refl _ w).alloc (Nat.le_refl _) _).drew).trans (hb1.mono (by simp))

end Go.Proofs.Ytnpaejknoipicaf
