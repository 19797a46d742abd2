/-
  Contract: the document's PacketOf.
-/
import Derived.Test.YtnpaejknoipicaaWireRef2
namespace Go.Proofs.Ytnpaejknoipicaa
open Go.RowKit Go.Sort

set_option maxHeartbeats 4000000 in
theorem packetOf_no (l : List UInt8) (w : World) (hform : formB l = false) :
    Calls Try.prog 13 #[.string (ba l)] w fun e w' => e = .returned (.tuple #[Pk.zero.val, .int .i64 1]) ∧ Below w.heap.size w w' := by
  simp only [Pk.zero, Pk.val]
  by_cases h8 : l.length < 8
  · have h8' : ((ba l).size : Int) < 8 := by rw [ba_size]; omega
    clear hform
    go_enter Try.func13, Try.ntmps13
    go_wp2
    exact bodyPost_ret (v := .tuple #[.agg #[.int .i64 0, .int .i64 0, .bool false, .bool false, .bool false, .string ByteArray.empty], .int .i64 1]) (by simp [results, Try.results13, go_sem]; rfl) rfl ⟨rfl, by go_grown⟩
  · have h8' : ¬ ((ba l).size : Int) < 8 := by rw [ba_size]; omega
    have hz0 : 0 < (ba l).size := by rw [ba_size]; omega
    have hz7 : 7 < (ba l).size := by rw [ba_size]; omega
    have g0 := ba_get l 0 hz0
    have g7 := ba_get l 7 hz7
    have b0' := at8_lt l 0
    have b7' := at8_lt l 7
    have hno : at8 l 0 < 128 ∨ 135 < at8 l 0 ∨ ((ba l).size : Int) ≠ 8 + at8 l 7 := by
      rw [ba_size]
      simp only [formB, Bool.and_eq_false_iff, decide_eq_false_iff_not] at hform
      omega
    generalize at8 l 0 = a0 at *
    generalize at8 l 7 = a7 at *
    clear hform h8
    by_cases hA : a0 < 128
    · have hA' : (a0 : Int) < 128 := by omega
      clear hno g7 b7'
      go_enter Try.func13, Try.ntmps13
      go_wp2
      exact bodyPost_ret (v := .tuple #[.agg #[.int .i64 0, .int .i64 0, .bool false, .bool false, .bool false, .string ByteArray.empty], .int .i64 1]) (by simp [results, Try.results13, go_sem]; rfl) rfl ⟨rfl, by go_grown⟩
    · have hA' : ¬ (a0 : Int) < 128 := by omega
      by_cases hB : 135 < a0
      · have hB' : (135 : Int) < a0 := by omega
        clear hno g7 b7'
        go_enter Try.func13, Try.ntmps13
        go_wp2
        exact bodyPost_ret (v := .tuple #[.agg #[.int .i64 0, .int .i64 0, .bool false, .bool false, .bool false, .string ByteArray.empty], .int .i64 1]) (by simp [results, Try.results13, go_sem]; rfl) rfl ⟨rfl, by go_grown⟩
      · have hB' : ¬ (135 : Int) < a0 := by omega
        have hne : (((ba l).size : Int) != 8 + (a7 : Int)) = true := by
          rw [bne_iff_ne]
          rcases hno with h | h | h
          · exact absurd h hA
          · exact absurd h hB
          · exact h
        clear hno
        go_enter Try.func13, Try.ntmps13
        go_wp2
        exact bodyPost_ret (v := .tuple #[.agg #[.int .i64 0, .int .i64 0, .bool false, .bool false, .bool false, .string ByteArray.empty], .int .i64 1]) (by simp [results, Try.results13, go_sem]; rfl) rfl ⟨rfl, by go_grown⟩

set_option maxHeartbeats 16000000 in
theorem packetOf_form (l : List UInt8) (w : World) (hform : formB l = true) :
    Calls Try.prog 13 #[.string (ba l)] w fun e w' => e = .returned (.tuple #[(if (Pk.told l).chk == 0 then Pk.told l else Pk.zero).val, .int .i64 (Pk.told l).chk]) ∧ Below w.heap.size w w' := by
  have hf4 : ((8 ≤ l.length ∧ l.length = 8 + at8 l 7) ∧ 128 ≤ at8 l 0) ∧ at8 l 0 ≤ 135 := by simpa [formB] using hform
  obtain ⟨⟨⟨h8, hl⟩, hh1⟩, hh2⟩ := hf4
  have h8' : ¬ ((ba l).size : Int) < 8 := by rw [ba_size]; omega
  have hz0 : 0 < (ba l).size := by rw [ba_size]; omega
  have hz7 : 7 < (ba l).size := by rw [ba_size]; omega
  have g0 := ba_get l 0 hz0
  have g7 := ba_get l 7 hz7
  have b7' := at8_lt l 7
  have hne : (((ba l).size : Int) != 8 + (at8 l 7 : Int)) = false := by rw [bne_eq_false_iff_eq, ba_size]; omega
  have HN1 := @id (Hid (∀ w : World, Calls Try.prog 33 #[.string (ba l), .int .i64 1, .int .i64 2] w fun e w' => e = .returned (.int .i64 (num ((l.drop 1).take 2))) ∧ w = w')) (fun w => numberAt_any l 1 2 1 2 w rfl rfl (by omega) (by decide) (by decide))
  have HN2 := @id (Hid (∀ w : World, Calls Try.prog 33 #[.string (ba l), .int .i64 3, .int .i64 4] w fun e w' => e = .returned (.int .i64 (num ((l.drop 3).take 4))) ∧ w = w')) (fun w => numberAt_any l 3 4 3 4 w rfl rfl (by omega) (by decide) (by decide))
  obtain ⟨p, hp⟩ : ∃ p, p = Pk.told l := ⟨_, rfl⟩
  have hseq : num ((l.drop 1).take 2) = p.seq := by rw [hp]; rfl
  have htime : num ((l.drop 3).take 4) = p.time := by rw [hp]; rfl
  have ht : ba (l.drop 8) = p.t := by rw [hp]; rfl
  have hpf : p.f = (at8 l 0 % 2 == 1) := by rw [hp]; rfl
  have hpe : p.e = (at8 l 0 / 2 % 2 == 1) := by rw [hp]; rfl
  have hpk : p.k = (at8 l 0 / 4 % 2 == 1) := by rw [hp]; rfl
  have hext : (ba l).extract 8 (ba l).size = p.t := by rw [ba_drop, ht]
  rw [hseq] at HN1
  rw [htime] at HN2
  rw [← hp]
  obtain ⟨c, hc⟩ : ∃ c, c = p.chk := ⟨_, rfl⟩
  have HCK := @id (Hid (∀ w : World, Calls Try.prog 11 #[p.val] w fun e w' => e = .returned (.int .i64 c) ∧ w' = w.alloc (.cells p.cells 23))) (fun w => by rw [hc]; exact refCheck_any p w)
  rw [← hc]
  clear hc hp hseq htime ht hform hl h8
  generalize at8 l 0 = a0 at *
  generalize at8 l 7 = a7 at *
  obtain ⟨seq, time, f, e, k, t⟩ := p
  simp only [Pk.val, Pk.cells] at *
  have u1 : (((a0 : Int) - 128).tmod 2 == 1) = f := by
    rw [hpf]
    have : a0 = 128 ∨ a0 = 129 ∨ a0 = 130 ∨ a0 = 131 ∨ a0 = 132 ∨ a0 = 133 ∨ a0 = 134 ∨ a0 = 135 := by omega
    rcases this with rfl | rfl | rfl | rfl | rfl | rfl | rfl | rfl <;> decide
  have u2 : ((IntKind.i64.wrap (((a0 : Int) - 128).tdiv 2)).tmod 2 == 1) = e := by
    rw [hpe]
    have : a0 = 128 ∨ a0 = 129 ∨ a0 = 130 ∨ a0 = 131 ∨ a0 = 132 ∨ a0 = 133 ∨ a0 = 134 ∨ a0 = 135 := by omega
    rcases this with rfl | rfl | rfl | rfl | rfl | rfl | rfl | rfl <;> decide
  have u3 : (IntKind.i64.wrap (((a0 : Int) - 128).tdiv 4) == 1) = k := by
    rw [hpk]
    have : a0 = 128 ∨ a0 = 129 ∨ a0 = 130 ∨ a0 = 131 ∨ a0 = 132 ∨ a0 = 133 ∨ a0 = 134 ∨ a0 = 135 := by omega
    rcases this with rfl | rfl | rfl | rfl | rfl | rfl | rfl | rfl <;> decide
  have hA' : ¬ (a0 : Int) < 128 := by omega
  have hB' : ¬ (135 : Int) < a0 := by omega
  clear hpf hpe hpk hh1 hh2
  cases hcz : (c == 0)
  · have hcn : (c != 0) = true := by simp at hcz; simp [hcz]
    simp only [Bool.false_eq_true, if_false, Pk.zero]
    go_enter Try.func13, Try.ntmps13
    go_wp2_with fail
    go_region_with (first | (go_at_call_of 33 (Value.int IntKind.i64 2); refine (HN1.out _).mono ?_; rintro e w' ⟨rfl, rfl⟩) | (go_at_call_of 33 (Value.int IntKind.i64 4); refine (HN2.out _).mono ?_; rintro e w' ⟨rfl, rfl⟩))
    all_goals
      go_wp2_with (go_at_call 11; refine (HCK.out _).mono ?_; rintro e w' ⟨rfl, rfl⟩)
      exact bodyPost_ret (v := .tuple #[.agg #[.int .i64 0, .int .i64 0, .bool false, .bool false, .bool false, .string ByteArray.empty], .int .i64 c]) (by simp [results, Try.results13, go_sem]; rfl) rfl ⟨rfl, by go_grown⟩
  · have hc0 : c = 0 := by simpa using hcz
    subst hc0
    clear hcz
    simp only [if_true]
    go_enter Try.func13, Try.ntmps13
    go_wp2_with fail
    go_region_with (first | (go_at_call_of 33 (Value.int IntKind.i64 2); refine (HN1.out _).mono ?_; rintro e w' ⟨rfl, rfl⟩) | (go_at_call_of 33 (Value.int IntKind.i64 4); refine (HN2.out _).mono ?_; rintro e w' ⟨rfl, rfl⟩))
    all_goals
      go_wp2_with (go_at_call 11; refine (HCK.out _).mono ?_; rintro e w' ⟨rfl, rfl⟩)
      exact bodyPost_ret (v := .tuple #[.agg #[.int .i64 seq, .int .i64 time, .bool f, .bool e, .bool k, .string t], .int .i64 0]) (by simp [results, Try.results13, go_sem]) rfl ⟨rfl, by go_grown⟩

theorem packetOf_any (l : List UInt8) (w : World) :
    Calls Try.prog 13 #[.string (ba l)] w fun e w' => e = .returned (.tuple #[(Pk.dec l).1.val, .int .i64 (Pk.dec l).2]) ∧ Below w.heap.size w w' := by
  unfold Pk.dec
  cases hform : formB l
  · exact packetOf_no l w hform
  · have h := packetOf_form l w hform
    cases hc : ((Pk.told l).chk == 0)
    · rw [hc] at h
      simpa using h
    · rw [hc] at h
      have : (Pk.told l).chk = 0 := by simpa using hc
      rw [this] at h
      simpa using h

end Go.Proofs.Ytnpaejknoipicaa
