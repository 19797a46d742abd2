/-
  Contracts: the document's PacketBytes and PacketOf.
-/
import Derived.Test.YtnpaejknoipicagWireRef
namespace Go.Proofs.Ytnpaejknoipicag
open Go.RowKit Go.Sort

set_option maxHeartbeats 8000000 in
theorem packetBytes_any (p : Pk) (w : World) (h : p.chk = 0) :
    Calls Try.prog 20 #[p.val] w fun e w' => e = .returned (.string (ba p.enc)) ∧ Below w.heap.size w w' := by
  obtain ⟨h1, h2, h3, h4, h5, _⟩ := Pk.chk_ok h
  obtain ⟨hf1, hf2⟩ := Pk.flags_le p.f p.e p.k
  obtain ⟨fl, hfl⟩ : ∃ fl, fl = 128 + Pk.flags p.f p.e p.k := ⟨_, rfl⟩
  obtain ⟨x1, hx1⟩ : ∃ x, x = ba (be fl 1) := ⟨_, rfl⟩
  obtain ⟨x2, hx2⟩ : ∃ x, x = ba (be p.seq 2) := ⟨_, rfl⟩
  obtain ⟨x3, hx3⟩ : ∃ x, x = ba (be p.time 4) := ⟨_, rfl⟩
  obtain ⟨x4, hx4⟩ : ∃ x, x = ba (be p.t.size 1) := ⟨_, rfl⟩
  have s1 : x1.size = 1 := by rw [hx1, ba_size]; rfl
  have s2 : x2.size = 2 := by rw [hx2, ba_size]; rfl
  have s3 : x3.size = 4 := by rw [hx3, ba_size]; rfl
  have s4 : x4.size = 1 := by rw [hx4, ba_size]; rfl
  have hfin : x1 ++ x2 ++ x3 ++ x4 ++ p.t = ba p.enc := by
    rw [hx1, hx2, hx3, hx4, ← ba_of p.t, ba_append, ba_append, ba_append, ba_append, ba_of, hfl]
    rfl
  have c1 : ∀ W : World, Calls Try.prog 38 #[.int .i64 fl, .int .i64 1] W fun e w' => e = .returned (.string x1) ∧ Below W.heap.size W w' := fun W => by
    rw [hx1, ← beR1]; exact numberBytes_any 1 fl 1 W rfl (by omega) (by omega) (by decide)
  have c2 : ∀ W : World, Calls Try.prog 38 #[.int .i64 p.seq, .int .i64 2] W fun e w' => e = .returned (.string x2) ∧ Below W.heap.size W w' := fun W => by
    rw [hx2, ← beR2]; exact numberBytes_any 2 p.seq 2 W rfl (by omega) (by omega) (by decide)
  have c3 : ∀ W : World, Calls Try.prog 38 #[.int .i64 p.time, .int .i64 4] W fun e w' => e = .returned (.string x3) ∧ Below W.heap.size W w' := fun W => by
    rw [hx3, ← beR4]; exact numberBytes_any 4 p.time 4 W rfl (by omega) (by omega) (by decide)
  have c4 : ∀ W : World, Calls Try.prog 38 #[.int .i64 (p.t.size : Int), .int .i64 1] W fun e w' => e = .returned (.string x4) ∧ Below W.heap.size W w' := fun W => by
    rw [hx4, ← beR1]; exact numberBytes_any 1 p.t.size 1 W rfl (by omega) (by omega) (by decide)
  rw [← hfin]
  obtain ⟨seq, time, f, e, k, t⟩ := p
  simp only [Pk.val] at *
  obtain ⟨W, hW⟩ : ∃ W, W = w.alloc (.cells #[.int .i64 seq, .int .i64 time, .bool f, .bool e, .bool k, .string t] 36) := ⟨_, rfl⟩
  have bW : Blk W w.heap.size #[.int .i64 seq, .int .i64 time, .bool f, .bool e, .bool k, .string t] 36 := by rw [hW]; exact Blk.new _ _ _
  have hbW : Below w.heap.size w W := by rw [hW]; exact (Below.refl _ _).alloc (Nat.le_refl _) _
  obtain ⟨d0, d1, _, _, _, d5, _⟩ := bW.six
  have k0 := cell_regrown d0
  have k1 := cell_regrown d1
  have k5 := cell_regrown d5
  have C1 := @id (Hid (∀ d os, Calls Try.prog 38 #[.int .i64 fl, .int .i64 1] (grow (redrawn W d) os) fun e w'' => e = .returned (.string x1) ∧ ∃ p : Regrown, w'' = grow (redrawn W p.d) p.os)) (fun d os => Calls.regrown_of (c1 _))
  have C2 := @id (Hid (∀ d os, Calls Try.prog 38 #[.int .i64 seq, .int .i64 2] (grow (redrawn W d) os) fun e w'' => e = .returned (.string x2) ∧ ∃ p : Regrown, w'' = grow (redrawn W p.d) p.os)) (fun d os => Calls.regrown_of (c2 _))
  have C3 := @id (Hid (∀ d os, Calls Try.prog 38 #[.int .i64 time, .int .i64 4] (grow (redrawn W d) os) fun e w'' => e = .returned (.string x3) ∧ ∃ p : Regrown, w'' = grow (redrawn W p.d) p.os)) (fun d os => Calls.regrown_of (c3 _))
  have C4 := @id (Hid (∀ d os, Calls Try.prog 38 #[.int .i64 (t.size : Int), .int .i64 1] (grow (redrawn W d) os) fun e w'' => e = .returned (.string x4) ∧ ∃ p : Regrown, w'' = grow (redrawn W p.d) p.os)) (fun d os => Calls.regrown_of (c4 _))
  have n1 : ¬ 9223372036854775807 < x1.size + x2.size := by omega
  have n2 : ¬ 9223372036854775807 < x1.size + x2.size + x3.size := by omega
  have n3 : ¬ 9223372036854775807 < x1.size + x2.size + x3.size + x4.size := by omega
  have n4 : ¬ 9223372036854775807 < x1.size + x2.size + x3.size + x4.size + t.size := by omega
  clear c1 c2 c3 c4 d0 d1 d5 bW hx1 hx2 hx3 hx4 s1 s2 s3 s4 hfin h h1 h2 h3 h4 h5 hf1 hf2
  have HW : Hid _ := hW
  subst hfl
  clear hW
  cases f <;> cases e <;> cases k
  all_goals
    simp only [Pk.flags, Bool.false_eq_true, if_true, if_false, Int.reduceAdd] at C1
    go_enter Try.func20, Try.ntmps20
    go_wp2_with fail
    rw [← HW.out]
    refine wp_region_quiet_below (by kernel_rfl) (by kernel_rfl) ?_
    repeat (quiet_step (first | (go_at_call_of 38 (Value.int IntKind.i64 2); exact C2.out _ _) | (go_at_call_of 38 (Value.int IntKind.i64 4); exact C3.out _ _) | (go_at_call_of 38 (Value.int IntKind.i64 (t.size : Int)); exact C4.out _ _) | exact C1.out _ _))
    refine wpQuiet_nil ?_
    intro _ hw'
    obtain ⟨⟨dq, osq⟩, hw''⟩ := hw'
    subst hw''
    clear k0 k1 k5
    go_wp2
    go_ret
    exact ⟨rfl, hbW.trans ((below_regrown W dq osq).mono hbW.size)⟩

end Go.Proofs.Ytnpaejknoipicag
