/-
  Contract: what every statement of wire asks first.
-/
import Derived.Test.YtnpaejknoipicaaWireDecode
import Derived.Deep.QuietTactic
import Derived.BigQuiet
import Derived.Deep.RegionWith
import Derived.BigRegion
import Derived.Lib.QuietBelow
namespace Go.Proofs.Ytnpaejknoipicaa
open Go.RowKit Go.Sort

theorem wholeP_any (seq time : Int) (t : ByteArray) (w : World) :
    Calls Try.prog 34 #[.int .i64 seq, .int .i64 time, .string t] w fun e w' =>
      e = .returned (.agg #[.int .i64 seq, .int .i64 time, .bool true, .bool true, .bool true, .string t]) ∧ w' = w.alloc (.cells #[.int .i64 seq, .int .i64 time, .bool true, .bool true, .bool true, .string t] 23) := by
  go_enter Try.func34, Try.ntmps34
  go_wp2
  exact bodyPost_ret (v := .agg #[.int .i64 seq, .int .i64 time, .bool true, .bool true, .bool true, .string t]) (by simp [results, Try.results34, go_sem]) rfl ⟨rfl, rfl⟩

def p0 : Pk := ⟨258, 5, true, true, true, ⟨#[97, 98]⟩⟩
theorem p0_chk : p0.chk = 0 := by decide
theorem p0_enc : p0.enc = [135, 1, 2, 0, 0, 0, 5, 2, 97, 98] := by decide
theorem p0_dec : Pk.dec [135, 1, 2, 0, 0, 0, 5, 2, 97, 98] = (p0, 0) := by rfl
theorem p0_no : Pk.dec [135, 1, 2, 0, 0, 0, 5, 2, 97, 98, 122] = (Pk.zero, 1) := by rfl

set_option maxHeartbeats 2000000 in
theorem wireBegun_any (w : World) :
    Calls Try.prog 14 #[] w fun e w' => e = .returned (.bool true) ∧ Below w.heap.size w w' := by
  have hE := fun w => encode_ok p0 w p0_chk
  rw [p0_enc] at hE
  have hD := fun w => decode_any [135, 1, 2, 0, 0, 0, 5, 2, 97, 98] w
  rw [p0_dec] at hD
  have hX := fun w => decode_any [135, 1, 2, 0, 0, 0, 5, 2, 97, 98, 122] w
  rw [p0_no] at hX
  simp only [p0, Pk.val, Pk.zero, ba] at hE hD hX
  have hck := fun w => check_any p0 w
  rw [p0_chk] at hck
  simp only [p0, Pk.val, Pk.cells] at hck
  have HCK := @id (Hid _) hck
  clear hck
  have HE := @id (Hid _) hE
  have HD := @id (Hid _) hD
  have HX := @id (Hid _) hX
  clear hE hD hX
  go_enter Try.func14, Try.ntmps14
  go_wp2_with (first
    | (go_at_call 34; refine (wholeP_any _ _ _ _).mono ?_; rintro e w' ⟨rfl, rfl⟩)
    | (go_at_call 9; refine (HE.out _).mono ?_; rintro e w1 ⟨rfl, hb1⟩))
  refine (HD.out _).mono ?_
  rintro e w2 ⟨rfl, hb2⟩
  go_wp2_with fail
  rw [show (({ data := #[135, 1, 2, 0, 0, 0, 5, 2, 97, 98] } : ByteArray) ++ ({ data := #[122] } : ByteArray)) = { data := #[135, 1, 2, 0, 0, 0, 5, 2, 97, 98, 122] } from rfl]
  have bx2 : Blk (w2.alloc (.cells #[.int .i64 258, .int .i64 5, .bool true, .bool true, .bool true, .string { data := #[97, 98] }] 23)) w2.heap.size #[.int .i64 258, .int .i64 5, .bool true, .bool true, .bool true, .string { data := #[97, 98] }] 23 := Blk.new _ _ _
  refine (HX.out _).mono ?_
  rintro e w3 ⟨rfl, hb3⟩
  have bx3 := bx2.below hb3 bx2.lt
  have hfin : Below w.heap.size w w3 := by
    have h1 : Below w.heap.size w w1 := ((Below.refl _ w).alloc (Nat.le_refl _) _).trans (hb1.mono (by simp))
    have h2 : Below w.heap.size w w2 := h1.trans (hb2.mono h1.size)
    exact (h2.alloc h2.size _).trans (hb3.mono (by have := h2.size; simp; omega))
  clear hb1 hb2 hb3 bx2 HE HD HX
  go_wp2_with fail
  obtain ⟨W, hW⟩ : ∃ W, W = w3.alloc (.cells #[.int .i64 0, .int .i64 0, .bool false, .bool false, .bool false, .string ByteArray.empty] 23) := ⟨_, rfl⟩
  have bW : Blk W w2.heap.size #[.int .i64 258, .int .i64 5, .bool true, .bool true, .bool true, .string { data := #[97, 98] }] 23 := by rw [hW]; exact bx3.alloc _
  have hbW : Below w.heap.size w W := by rw [hW]; exact hfin.alloc hfin.size _
  rw [← hW]
  clear hW hfin bx3
  obtain ⟨d0, d1, d2, d3, d4, d5, _⟩ := bW.six
  have k0 := cell_regrown d0
  have k1 := cell_regrown d1
  have k2 := cell_regrown d2
  have k3 := cell_regrown d3
  have k4 := cell_regrown d4
  have k5 := cell_regrown d5
  have cC : ∀ d os, Calls Try.prog 15 #[.agg #[.int .i64 258, .int .i64 5, .bool true, .bool true, .bool true, .string { data := #[97, 98] }]] (grow (redrawn W d) os) fun e w'' => e = .returned (.int .i64 0) ∧ ∃ p : Regrown, w'' = grow (redrawn W p.d) p.os := fun d os =>
    Calls.regrown_of ((HCK.out _).mono fun e w' h => ⟨h.1, by rw [h.2]; exact (Below.refl _ _).alloc (Nat.le_refl _) _⟩)
  have cW : ∀ d os, Calls Try.prog 34 #[.int .i64 258, .int .i64 5, .string { data := #[97, 98] }] (grow (redrawn W d) os) fun e w'' => e = .returned (.agg #[.int .i64 258, .int .i64 5, .bool true, .bool true, .bool true, .string { data := #[97, 98] }]) ∧ ∃ p : Regrown, w'' = grow (redrawn W p.d) p.os := fun d os =>
    Calls.regrown_of ((wholeP_any _ _ _ _).mono fun e w' h => ⟨h.1, by rw [h.2]; exact (Below.refl _ _).alloc (Nat.le_refl _) _⟩)
  clear d0 d1 d2 d3 d4 d5 bW HCK
  refine wp_region_quiet_below (by kernel_rfl) (by kernel_rfl) ?_
  repeat (quiet_step (first | exact cC _ _ | exact cW _ _))
  refine wpQuiet_nil ?_
  intro _ hw'
  obtain ⟨⟨dq, osq⟩, hw''⟩ := hw'
  subst hw''
  clear k0 k1 k2 k3 k4 k5 cC cW
  go_wp2
  go_ret
  exact ⟨rfl, hbW.trans ((below_regrown W dq osq).mono hbW.size)⟩

end Go.Proofs.Ytnpaejknoipicaa
