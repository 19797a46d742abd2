/-
  'switchbacklaw.WireTells' returns true, whatever it is handed.
-/
import Derived.Test.YtnpaejknoipicaaWireRef3
import Derived.Test.YtnpaejknoipicaaWireApartLaw
namespace Go.Proofs.Ytnpaejknoipicaa
open Go.RowKit Go.Sort

theorem Pk.eqB_refl (a : Pk) : Pk.eqB a a = true := (Pk.eqB_iff a a).2 rfl

set_option maxHeartbeats 4000000 in
theorem wireTells_any (p : Pk) (l : List UInt8) (w : World) :
    Calls Try.prog 3 #[p.val, .string (ba l)] w fun e w' => e = .returned (.bool true) ∧ Below w.heap.size w w' := by
  have HE := @id (Hid (∀ w : World, Calls Try.prog 9 #[p.val] w fun e w' => e = .returned (.tuple #[.string (ba p.out), .int .i64 p.chk]) ∧ Below w.heap.size w w')) (encode_any p)
  have HD := @id (Hid (∀ w : World, Calls Try.prog 10 #[.string (ba l)] w fun e w' => e = .returned (.tuple #[(Pk.dec l).1.val, .int .i64 (Pk.dec l).2]) ∧ Below w.heap.size w w')) (decode_any l)
  have HR := @id (Hid (∀ w : World, Calls Try.prog 13 #[.string (ba l)] w fun e w' => e = .returned (.tuple #[(Pk.dec l).1.val, .int .i64 (Pk.dec l).2]) ∧ Below w.heap.size w w')) (packetOf_any l)
  have HC := @id (Hid (∀ w : World, Calls Try.prog 15 #[p.val] w fun e w' => e = .returned (.int .i64 p.chk) ∧ w' = w.alloc (.cells p.cells 23))) (check_any p)
  have HK := @id (Hid (∀ w : World, Calls Try.prog 11 #[p.val] w fun e w' => e = .returned (.int .i64 p.chk) ∧ w' = w.alloc (.cells p.cells 23))) (refCheck_any p)
  have HB := @id (Hid (p.chk = 0 → ∀ w : World, Calls Try.prog 12 #[p.val] w fun e w' => e = .returned (.string (ba p.out)) ∧ Below w.heap.size w w')) (fun h w => by rw [show p.out = p.enc by simp [Pk.out, h]]; exact packetBytes_any p w h)
  have HO := @id (Hid ((p.chk == 0) = false → p.out = [])) (fun h => by simp [Pk.out, h])
  have heq := eql_pkt (Pk.dec l).1 (Pk.dec l).1
  rw [Pk.eqB_refl] at heq
  generalize (Pk.dec l).1 = q at *
  generalize (Pk.dec l).2 = d at *
  generalize p.out = m at *
  generalize p.chk = c at *
  obtain ⟨seq, time, f, e, k, t⟩ := p
  obtain ⟨qs, qt, qf, qe, qk, qx⟩ := q
  simp only [Pk.val, Pk.cells] at HE HD HR HC HK HB heq ⊢
  have bp0 := Blk.new w #[.int .i64 seq, .int .i64 time, .bool f, .bool e, .bool k, .string t] 23
  have F0 : Below w.heap.size w (w.alloc (.cells #[.int .i64 seq, .int .i64 time, .bool f, .bool e, .bool k, .string t] 23)) := (Below.refl _ w).alloc (Nat.le_refl _) _
  go_enter Try.func3, Try.ntmps3
  go_wp2_with fail
  refine (HE.out _).mono ?_
  rintro r w1 ⟨rfl, hb1⟩
  have F1 := F0.trans (hb1.mono F0.size)
  have bp1 := bp0.below hb1 bp0.lt
  clear hb1 bp0 F0 HE
  go_wp2_with fail
  refine (HD.out _).mono ?_
  rintro r w2 ⟨rfl, hb2⟩
  have F2 := F1.trans (hb2.mono F1.size)
  have bp2 := (bp1.below hb2 bp1.lt).alloc (.cells #[.int .i64 qs, .int .i64 qt, .bool qf, .bool qe, .bool qk, .string qx] 23)
  have bx2 := Blk.new w2 #[.int .i64 qs, .int .i64 qt, .bool qf, .bool qe, .bool qk, .string qx] 23
  have G2 := F2.alloc F2.size (.cells #[.int .i64 qs, .int .i64 qt, .bool qf, .bool qe, .bool qk, .string qx] 23)
  clear hb2 bp1 F1 F2 HD
  obtain ⟨d0, d1, d2, d3, d4, d5, _⟩ := bp2.six
  go_wp2_with fail
  refine (HK.out _).mono ?_
  rintro r w3 ⟨rfl, hw3⟩
  have bp3 := bp2.alloc (.cells #[.int .i64 seq, .int .i64 time, .bool f, .bool e, .bool k, .string t] 23)
  have bx3 := bx2.alloc (.cells #[.int .i64 seq, .int .i64 time, .bool f, .bool e, .bool k, .string t] 23)
  have G3 := G2.alloc G2.size (.cells #[.int .i64 seq, .int .i64 time, .bool f, .bool e, .bool k, .string t] 23)
  rw [← hw3] at bp3 bx3 G3
  clear hw3 d0 d1 d2 d3 d4 d5 bp2 bx2 G2 HK
  obtain ⟨d0, d1, d2, d3, d4, d5, _⟩ := bp3.six
  cases hcz : (c == 0)
  · have hm : m = [] := HO.out hcz
    subst hm
    clear HO HB
    have hbn : ba [] = ⟨#[]⟩ := rfl
    go_wp2_with fail
    refine (HR.out _).mono ?_
    rintro r w5 ⟨rfl, hb5⟩
    have F5 := G3.trans (hb5.mono G3.size)
    have bp5 := (bp3.below hb5 bp3.lt).alloc (.cells #[.int .i64 qs, .int .i64 qt, .bool qf, .bool qe, .bool qk, .string qx] 23)
    have bx5 := (bx3.below hb5 bx3.lt).alloc (.cells #[.int .i64 qs, .int .i64 qt, .bool qf, .bool qe, .bool qk, .string qx] 23)
    have by5 := Blk.new w5 #[.int .i64 qs, .int .i64 qt, .bool qf, .bool qe, .bool qk, .string qx] 23
    have G5 := F5.alloc F5.size (.cells #[.int .i64 qs, .int .i64 qt, .bool qf, .bool qe, .bool qk, .string qx] 23)
    clear hb5 d0 d1 d2 d3 d4 d5 F5 HR bp3 bx3 G3
    go_wp2_with fail
    refine (wireBegun_any _).mono ?_
    rintro r w6 ⟨rfl, hb6⟩
    have G6 := G5.trans (hb6.mono G5.size)
    have bp6 := bp5.below hb6 bp5.lt
    have bx6 := bx5.below hb6 bx5.lt
    have by6 := by5.below hb6 by5.lt
    clear hb6 bp5 bx5 by5 G5
    obtain ⟨d0, d1, d2, d3, d4, d5, _⟩ := bp6.six
    go_wp2_with fail
    refine (HC.out _).mono ?_
    rintro r w7 ⟨rfl, hw7⟩
    have bx7 := bx6.alloc (.cells #[.int .i64 seq, .int .i64 time, .bool f, .bool e, .bool k, .string t] 23)
    have by7 := by6.alloc (.cells #[.int .i64 seq, .int .i64 time, .bool f, .bool e, .bool k, .string t] 23)
    have G7 := G6.alloc G6.size (.cells #[.int .i64 seq, .int .i64 time, .bool f, .bool e, .bool k, .string t] 23)
    rw [← hw7] at bx7 by7 G7
    clear hw7 d0 d1 d2 d3 d4 d5 bp6 bx6 by6 G6
    obtain ⟨j0, j1, j2, j3, j4, j5, _⟩ := bx7.six
    obtain ⟨i0, i1, i2, i3, i4, i5, _⟩ := by7.six
    go_wp2
    go_ret
    exact ⟨rfl, G7⟩
  · have hc0 : c = 0 := by simpa using hcz
    subst hc0
    clear HO hcz
    go_wp2_with fail
    refine (HB.out (by trivial) _).mono ?_
    rintro r w4 ⟨rfl, hb4⟩
    have bp4 := bp3.below hb4 bp3.lt
    have bx4 := bx3.below hb4 bx3.lt
    have G4 := G3.trans (hb4.mono G3.size)
    clear hb4 bp3 bx3 G3 HB
    go_wp2_with fail
    refine (HR.out _).mono ?_
    rintro r w5 ⟨rfl, hb5⟩
    have F5 := G4.trans (hb5.mono G4.size)
    have bp5 := (bp4.below hb5 bp4.lt).alloc (.cells #[.int .i64 qs, .int .i64 qt, .bool qf, .bool qe, .bool qk, .string qx] 23)
    have bx5 := (bx4.below hb5 bx4.lt).alloc (.cells #[.int .i64 qs, .int .i64 qt, .bool qf, .bool qe, .bool qk, .string qx] 23)
    have by5 := Blk.new w5 #[.int .i64 qs, .int .i64 qt, .bool qf, .bool qe, .bool qk, .string qx] 23
    have G5 := F5.alloc F5.size (.cells #[.int .i64 qs, .int .i64 qt, .bool qf, .bool qe, .bool qk, .string qx] 23)
    clear hb5 d0 d1 d2 d3 d4 d5 F5 HR bp4 bx4 G4
    go_wp2_with fail
    refine (wireBegun_any _).mono ?_
    rintro r w6 ⟨rfl, hb6⟩
    have G6 := G5.trans (hb6.mono G5.size)
    have bp6 := bp5.below hb6 bp5.lt
    have bx6 := bx5.below hb6 bx5.lt
    have by6 := by5.below hb6 by5.lt
    clear hb6 bp5 bx5 by5 G5
    obtain ⟨d0, d1, d2, d3, d4, d5, _⟩ := bp6.six
    go_wp2_with fail
    refine (HC.out _).mono ?_
    rintro r w7 ⟨rfl, hw7⟩
    have bx7 := bx6.alloc (.cells #[.int .i64 seq, .int .i64 time, .bool f, .bool e, .bool k, .string t] 23)
    have by7 := by6.alloc (.cells #[.int .i64 seq, .int .i64 time, .bool f, .bool e, .bool k, .string t] 23)
    have G7 := G6.alloc G6.size (.cells #[.int .i64 seq, .int .i64 time, .bool f, .bool e, .bool k, .string t] 23)
    rw [← hw7] at bx7 by7 G7
    clear hw7 d0 d1 d2 d3 d4 d5 bp6 bx6 by6 G6
    obtain ⟨j0, j1, j2, j3, j4, j5, _⟩ := bx7.six
    obtain ⟨i0, i1, i2, i3, i4, i5, _⟩ := by7.six
    go_wp2
    go_ret
    exact ⟨rfl, G7⟩

end Go.Proofs.Ytnpaejknoipicaa
