/-
  'switchbacklaw.WireBack' returns true, whatever it is handed.
-/
import Derived.Test.YtnpaejknoipicaaWireMath
import Derived.Test.YtnpaejknoipicaaWireBegun
namespace Go.Proofs.Ytnpaejknoipicaa
open Go.RowKit Go.Sort

theorem encode_okL (p : Pk) (w : World) (h : p.chk = 0) (l : List UInt8) (hl : p.enc = l) :
    Calls Try.prog 9 #[p.val] w fun e w' => e = .returned (.tuple #[.string (ba l), .int .i64 0]) ∧ Below w.heap.size w w' := by
  subst hl; exact encode_ok p w h

set_option maxHeartbeats 2000000 in
theorem wireBack_any (p : Pk) (l : List UInt8) (w : World) :
    Calls Try.prog 4 #[p.val, .string (ba l)] w fun e w' => e = .returned (.bool true) ∧ Below w.heap.size w w' := by
  have HD2 : Hid _ := Pk.dec_or l
  cases hck : (p.chk == 0)
  · have HEn := @id (Hid (∀ w : World, Calls Try.prog 9 #[p.val] w fun e w' => e = .returned (.tuple #[.string ByteArray.empty, .int .i64 p.chk]) ∧ Below w.heap.size w w')) (fun w => encode_no p w hck)
    obtain ⟨c, hc⟩ : ∃ c, c = p.chk := ⟨_, rfl⟩
    rw [← hc] at HEn hck
    clear hc
    obtain ⟨seq, time, f, e, k, t⟩ := p
    simp only [Pk.val] at HEn ⊢
    have F0 : Below w.heap.size w (w.alloc (.cells #[.int .i64 seq, .int .i64 time, .bool f, .bool e, .bool k, .string t] 23)) := (Below.refl _ w).alloc (Nat.le_refl _) _
    go_enter Try.func4, Try.ntmps4
    go_wp2_with (first
      | (go_at_call 14; refine (wireBegun_any _).mono ?_; rintro e w1 ⟨rfl, hb1⟩; have bx1 := (Blk.new w #[.int .i64 seq, .int .i64 time, .bool f, .bool e, .bool k, .string t] 23).below hb1 (by simp); obtain ⟨d0, d1, d2, d3, d4, d5, _⟩ := bx1.six)
      | (go_at_call 9; refine (HEn.out _).mono ?_; rintro e w2 ⟨rfl, hb2⟩))
    have F1 : Below w.heap.size w w1 := F0.trans (hb1.mono F0.size)
    have F2 : Below w.heap.size w w2 := F1.trans (hb2.mono F1.size)
    clear hb1 hb2 bx1 d0 d1 d2 d3 d4 d5 HEn F0 F1
    rcases HD2.out with ⟨hz, hne⟩ | ⟨h0, hchk, henc⟩
    · obtain ⟨c2, hc2⟩ : ∃ c, c = (Pk.dec l).2 := ⟨_, rfl⟩
      have HDz := @id (Hid (∀ w : World, Calls Try.prog 10 #[.string (ba l)] w fun e w' => e = .returned (.tuple #[.agg #[.int .i64 0, .int .i64 0, .bool false, .bool false, .bool false, .string ByteArray.empty], .int .i64 c2]) ∧ Below w.heap.size w w')) (fun w => by have h := decode_any l w; rw [hz, ← hc2] at h; exact h)
      rw [← hc2] at hne
      clear HD2 hz hc2
      have hne2 : (c2 != 0) = true := by simp at hne; simp [hne]
      refine (HDz.out _).mono ?_
      rintro e w3 ⟨rfl, hb3⟩
      clear HDz
      go_wp2
      go_ret
      exact ⟨rfl, (F2.trans (hb3.mono F2.size)).alloc (F2.trans (hb3.mono F2.size)).size _⟩
    · obtain ⟨q, hq⟩ : ∃ q, q = (Pk.dec l).1 := ⟨_, rfl⟩
      rw [← hq] at hchk henc
      have HDq := @id (Hid (∀ w : World, Calls Try.prog 10 #[.string (ba l)] w fun e w' => e = .returned (.tuple #[q.val, .int .i64 0]) ∧ Below w.heap.size w w')) (fun w => by have h := decode_any l w; rw [h0, ← hq] at h; exact h)
      have HEq := @id (Hid (∀ w : World, Calls Try.prog 9 #[q.val] w fun e w' => e = .returned (.tuple #[.string (ba l), .int .i64 0]) ∧ Below w.heap.size w w')) (fun w => encode_okL q w hchk l henc)
      have HCq := @id (Hid (∀ w : World, Calls Try.prog 15 #[q.val] w fun e w' => e = .returned (.int .i64 0) ∧ w' = w.alloc (.cells q.cells 23))) (fun w => by rw [← hchk]; exact check_any q w)
      clear HD2 hq h0 hchk henc
      obtain ⟨qs, qt, qf, qe, qk, qx⟩ := q
      simp only [Pk.val, Pk.cells] at HDq HEq HCq
      refine (HDq.out _).mono ?_
      rintro e w3 ⟨rfl, hb3⟩
      have F3 : Below w.heap.size w w3 := F2.trans (hb3.mono F2.size)
      have F4 := F3.alloc F3.size (.cells #[.int .i64 qs, .int .i64 qt, .bool qf, .bool qe, .bool qk, .string qx] 23)
      have bq := Blk.new w3 #[.int .i64 qs, .int .i64 qt, .bool qf, .bool qe, .bool qk, .string qx] 23
      clear HDq hb3
      go_wp2_with (first
        | (go_at_call 9; refine (HEq.out _).mono ?_; rintro e w5 ⟨rfl, hb5⟩; have bq5 := bq.below hb5 bq.lt; obtain ⟨j0, j1, j2, j3, j4, j5, _⟩ := bq5.six)
        | (go_at_call 15; refine (HCq.out _).mono ?_; rintro e w6 ⟨rfl, hw6⟩))
      go_ret
      subst hw6
      have F5 : Below w.heap.size w w5 := F4.trans (hb5.mono F4.size)
      exact ⟨rfl, F5.alloc F5.size _⟩
  · have hc0 : p.chk = 0 := by simpa using hck
    have HEn := @id (Hid (∀ w : World, Calls Try.prog 9 #[p.val] w fun e w' => e = .returned (.tuple #[.string (ba p.enc), .int .i64 0]) ∧ Below w.heap.size w w')) (fun w => encode_ok p w hc0)
    have HDn := @id (Hid (∀ w : World, Calls Try.prog 10 #[.string (ba p.enc)] w fun e w' => e = .returned (.tuple #[p.val, .int .i64 0]) ∧ Below w.heap.size w w')) (fun w => by have h := decode_any p.enc w; rw [Pk.dec_enc p hc0] at h; exact h)
    obtain ⟨m, hm⟩ : ∃ m, m = p.enc := ⟨_, rfl⟩
    rw [← hm] at HEn HDn
    clear hc0 hm hck
    obtain ⟨seq, time, f, e, k, t⟩ := p
    simp only [Pk.val] at HEn HDn ⊢
    have F0 : Below w.heap.size w (w.alloc (.cells #[.int .i64 seq, .int .i64 time, .bool f, .bool e, .bool k, .string t] 23)) := (Below.refl _ w).alloc (Nat.le_refl _) _
    go_enter Try.func4, Try.ntmps4
    go_wp2_with (first
      | (go_at_call 14; refine (wireBegun_any _).mono ?_; rintro e w1 ⟨rfl, hb1⟩; have bx1 := (Blk.new w #[.int .i64 seq, .int .i64 time, .bool f, .bool e, .bool k, .string t] 23).below hb1 (by simp); obtain ⟨d0, d1, d2, d3, d4, d5, _⟩ := bx1.six)
      | (go_at_call 9; refine (HEn.out _).mono ?_; rintro e w2 ⟨rfl, hb2⟩))
    have F1 : Below w.heap.size w w1 := F0.trans (hb1.mono F0.size)
    have F2 : Below w.heap.size w w2 := F1.trans (hb2.mono F1.size)
    have bx2 := bx1.below hb2 bx1.lt
    refine (HDn.out _).mono ?_
    rintro e w2' ⟨rfl, hb2'⟩
    have F2' : Below w.heap.size w w2' := F2.trans (hb2'.mono F2.size)
    have bx3 := (bx2.below hb2' bx2.lt).alloc (.cells #[.int .i64 seq, .int .i64 time, .bool f, .bool e, .bool k, .string t] 23)
    clear hb1 hb2 bx1 d0 d1 d2 d3 d4 d5 HEn F0 F1
    obtain ⟨d0, d1, d2, d3, d4, d5, _⟩ := bx3.six
    have FA := F2'.alloc F2'.size (.cells #[.int .i64 seq, .int .i64 time, .bool f, .bool e, .bool k, .string t] 23)
    go_wp2_with fail
    rcases HD2.out with ⟨hz, hne⟩ | ⟨h0, hchk, henc⟩
    · obtain ⟨c2, hc2⟩ : ∃ c, c = (Pk.dec l).2 := ⟨_, rfl⟩
      have HDz := @id (Hid (∀ w : World, Calls Try.prog 10 #[.string (ba l)] w fun e w' => e = .returned (.tuple #[.agg #[.int .i64 0, .int .i64 0, .bool false, .bool false, .bool false, .string ByteArray.empty], .int .i64 c2]) ∧ Below w.heap.size w w')) (fun w => by have h := decode_any l w; rw [hz, ← hc2] at h; exact h)
      rw [← hc2] at hne
      clear HD2 hz hc2
      have hne2 : (c2 != 0) = true := by simp at hne; simp [hne]
      refine (HDz.out _).mono ?_
      rintro e w3 ⟨rfl, hb3⟩
      clear HDz
      go_wp2
      go_ret
      exact ⟨rfl, (FA.trans (hb3.mono FA.size)).alloc (FA.trans (hb3.mono FA.size)).size _⟩
    · obtain ⟨q, hq⟩ : ∃ q, q = (Pk.dec l).1 := ⟨_, rfl⟩
      rw [← hq] at hchk henc
      have HDq := @id (Hid (∀ w : World, Calls Try.prog 10 #[.string (ba l)] w fun e w' => e = .returned (.tuple #[q.val, .int .i64 0]) ∧ Below w.heap.size w w')) (fun w => by have h := decode_any l w; rw [h0, ← hq] at h; exact h)
      have HEq := @id (Hid (∀ w : World, Calls Try.prog 9 #[q.val] w fun e w' => e = .returned (.tuple #[.string (ba l), .int .i64 0]) ∧ Below w.heap.size w w')) (fun w => encode_okL q w hchk l henc)
      have HCq := @id (Hid (∀ w : World, Calls Try.prog 15 #[q.val] w fun e w' => e = .returned (.int .i64 0) ∧ w' = w.alloc (.cells q.cells 23))) (fun w => by rw [← hchk]; exact check_any q w)
      clear HD2 hq h0 hchk henc
      obtain ⟨qs, qt, qf, qe, qk, qx⟩ := q
      simp only [Pk.val, Pk.cells] at HDq HEq HCq
      refine (HDq.out _).mono ?_
      rintro e w3 ⟨rfl, hb3⟩
      have F3 : Below w.heap.size w w3 := FA.trans (hb3.mono FA.size)
      have F4 := F3.alloc F3.size (.cells #[.int .i64 qs, .int .i64 qt, .bool qf, .bool qe, .bool qk, .string qx] 23)
      have bq := Blk.new w3 #[.int .i64 qs, .int .i64 qt, .bool qf, .bool qe, .bool qk, .string qx] 23
      clear HDq hb3
      go_wp2_with (first
        | (go_at_call 9; refine (HEq.out _).mono ?_; rintro e w5 ⟨rfl, hb5⟩; have bq5 := bq.below hb5 bq.lt; obtain ⟨j0, j1, j2, j3, j4, j5, _⟩ := bq5.six)
        | (go_at_call 15; refine (HCq.out _).mono ?_; rintro e w6 ⟨rfl, hw6⟩))
      go_ret
      subst hw6
      have F5 : Below w.heap.size w w5 := F4.trans (hb5.mono F4.size)
      exact ⟨rfl, F5.alloc F5.size _⟩

end Go.Proofs.Ytnpaejknoipicaa
