/-
  Contract: what Decode's closure reads, where the bytes are there; that it panics where they are not.
-/
import Derived.Test.YtnpaejknoipicafGreatWireClosure
namespace Go.Proofs.YtnpaejknoipicafGreat
open Go.RowKit

theorem num_one (l : List UInt8) : num (l.take 1) = (l[0]?.getD 0).toNat := by
  cases l with
  | nil => rfl
  | cons x r => simp [num]

set_option maxHeartbeats 2000000 in
theorem closure_ok (R H P c : Nat) (l : List UInt8) (hv s0 t0 f0 e0 k0 x0 : Value) (w : World)
    (bR : Blk w R #[.string (ba l)] 231) (bH : Blk w H #[hv] 3) (bP : Blk w P #[s0, t0, f0, e0, k0, x0] 89)
    (hRH : R ≠ H) (hRP : R ≠ P) (hHP : H ≠ P) (h8 : 8 ≤ l.length) (hc : num ((l.drop 7).take 1) = (c : Int)) (hcl : 8 + c ≤ l.length) (hc255 : c ≤ 255) :
    Calls Tryz.prog 155 #[.pointer (some ⟨R, 0, none⟩), .pointer (some ⟨H, 0, none⟩), .pointer (some ⟨P, 0, none⟩)] w fun e w' =>
      e = .returned (.tuple #[]) ∧ Blk w' R #[.string (ba (l.drop (8 + c)))] 231 ∧ Blk w' H #[.int .i64 (num (l.take 1))] 3 ∧
      Blk w' P #[.int .i64 (num ((l.drop 1).take 2)), .int .i64 (num ((l.drop 3).take 4)), f0, e0, k0, .string (ba ((l.drop 8).take c))] 89 ∧ Kept [R, H, P] w w' := by
  have HC : Hid (num ((l.drop 7).take 1) = (c : Int)) := hc
  clear hc
  have sub : ∀ {a b : World}, Kept [R] a b → Kept [R, H, P] a b := fun h => ⟨h.os, h.tape, h.output, h.size, fun k hk hS => h.block k hk (fun hm => hS (by simp at hm ⊢; exact .inl hm))⟩
  have HSub := @id (Hid (∀ {a b : World}, Kept [R] a b → Kept [R, H, P] a b)) sub
  clear sub
  obtain ⟨m1, hm1⟩ : ∃ m, m = num (l.take 1) := ⟨_, rfl⟩
  obtain ⟨r1, hr1⟩ : ∃ r, r = l.drop 1 := ⟨_, rfl⟩
  obtain ⟨m2, hm2⟩ : ∃ m, m = num (r1.take 2) := ⟨_, rfl⟩
  obtain ⟨r2, hr2⟩ : ∃ r, r = r1.drop 2 := ⟨_, rfl⟩
  obtain ⟨m3, hm3⟩ : ∃ m, m = num (r2.take 4) := ⟨_, rfl⟩
  obtain ⟨r3, hr3⟩ : ∃ r, r = r2.drop 4 := ⟨_, rfl⟩
  obtain ⟨r4, hr4⟩ : ∃ r, r = r3.drop 1 := ⟨_, rfl⟩
  obtain ⟨x5, hx5⟩ : ∃ x, x = ba (r4.take c) := ⟨_, rfl⟩
  obtain ⟨r5, hr5⟩ : ∃ r, r = r4.drop c := ⟨_, rfl⟩
  have l1 : r1.length = l.length - 1 := by rw [hr1]; simp
  have l2 : r2.length = l.length - 3 := by rw [hr2]; simp; omega
  have l3 : r3.length = l.length - 7 := by rw [hr3]; simp; omega
  have l4 : r4.length = l.length - 8 := by rw [hr4]; simp; omega
  have hm4 : (c : Int) = num (r3.take 1) := by rw [← HC.out, hr3, hr2, hr1]; simp
  have f2 : m2 = num ((l.drop 1).take 2) := by rw [hm2, hr1]
  have f3 : m3 = num ((l.drop 3).take 4) := by rw [hm3, hr2, hr1]; simp
  have f5 : x5 = ba ((l.drop 8).take c) := by rw [hx5, hr4, hr3, hr2, hr1]; simp
  have g5 : r5 = l.drop (8 + c) := by rw [hr5, hr4, hr3, hr2, hr1]; simp
  rw [← hm1, ← f2, ← f3, ← f5, ← g5]
  have E1 : Hid _ := hm1
  have E2 : Hid _ := hm2
  have E3 : Hid _ := hm3
  have E4 : Hid _ := hm4
  have E5 : Hid _ := hx5
  have D1 : Hid _ := hr1
  have D2 : Hid _ := hr2
  have D3 : Hid _ := hr3
  have D4 : Hid _ := hr4
  have D5 : Hid _ := hr5
  have q1 : 2 ≤ r1.length := by omega
  have q2 : 4 ≤ r2.length := by omega
  have q3 : 1 ≤ r3.length := by omega
  have q4 : c ≤ r4.length := by omega
  clear hm1 hm2 hm3 hm4 hx5 hr1 hr2 hr3 hr4 hr5 f2 f3 f5 g5 l1 l2 l3 l4
  go_enter Tryz.func155, Tryz.ntmps155
  go_wp2_with fail
  refine (numberL_some R 1 1 m1 l r1 _ E1.out D1.out rfl bR (by omega) (by decide)).mono ?_
  rintro e w1 ⟨rfl, bR1, k1⟩
  have bH1 := bH.kept k1 (by simpa using fun h => hRH h.symm)
  have bP1 := bP.kept k1 (by simpa using fun h => hRP h.symm)
  have cH := bH1.cell (j := 0) (u := hv) rfl
  have fH := bH1.free 0
  go_wp2_with fail
  have bR1' := bR1.other (a := ⟨H, 0, none⟩) hRH (.int .i64 m1)
  have bP1' := bP1.other (a := ⟨H, 0, none⟩) (fun h => hHP h.symm) (.int .i64 m1)
  have bH1' : Blk _ H #[.int .i64 m1] 3 := bH1.set 0 (.int .i64 m1)
  have K1 := (HSub.out k1).setCell (p := ⟨H, 0, none⟩) (by simp) (.int .i64 m1)
  refine (numberL_some R 2 2 m2 r1 r2 _ E2.out D2.out rfl bR1' q1 (by decide)).mono ?_
  rintro e w2 ⟨rfl, bR2, k2⟩
  have bH2 := bH1'.kept k2 (by simpa using fun h => hRH h.symm)
  have bP2 := bP1'.kept k2 (by simpa using fun h => hRP h.symm)
  have K2 := K1.trans (HSub.out k2)
  have cP := bP2.cell (j := 0) (u := s0) rfl
  have fP := bP2.free 0
  clear cH fH bR1 bR1' bP1 bP1' bH1 bH1' K1 k1 k2
  go_wp2_with fail
  have bR2' := bR2.other (a := ⟨P, 0, none⟩) hRP (.int .i64 m2)
  have bP2' : Blk _ P #[.int .i64 m2, t0, f0, e0, k0, x0] 89 := bP2.set 0 (.int .i64 m2)
  have bH2' := bH2.other (a := ⟨P, 0, none⟩) hHP (.int .i64 m2)
  have K2' := K2.setCell (p := ⟨P, 0, none⟩) (by simp) (.int .i64 m2)
  refine (numberL_some R 4 4 m3 r2 r3 _ E3.out D3.out rfl bR2' q2 (by decide)).mono ?_
  rintro e w3 ⟨rfl, bR3, k3⟩
  have bH3 := bH2'.kept k3 (by simpa using fun h => hRH h.symm)
  have bP3 := bP2'.kept k3 (by simpa using fun h => hRP h.symm)
  have K3 := K2'.trans (HSub.out k3)
  have cP1 := bP3.cell (j := 1) (u := t0) rfl
  have fP1 := bP3.free 1
  clear cP fP bR2 bR2' bP2 bP2' bH2 bH2' K2 K2' k3
  go_wp2_with fail
  have bR3' := bR3.other (a := ⟨P, 1, none⟩) hRP (.int .i64 m3)
  have bP3' : Blk _ P #[.int .i64 m2, .int .i64 m3, f0, e0, k0, x0] 89 := bP3.set 1 (.int .i64 m3)
  have bH3' := bH3.other (a := ⟨P, 1, none⟩) hHP (.int .i64 m3)
  have K3' := K3.setCell (p := ⟨P, 1, none⟩) (by simp) (.int .i64 m3)
  refine (numberL_some R 1 1 (c : Int) r3 r4 _ E4.out D4.out rfl bR3' q3 (by decide)).mono ?_
  rintro e w4 ⟨rfl, bR4, k4⟩
  have bH4 := bH3'.kept k4 (by simpa using fun h => hRH h.symm)
  have bP4 := bP3'.kept k4 (by simpa using fun h => hRP h.symm)
  have K4 := K3'.trans (HSub.out k4)
  clear cP1 fP1 bR3 bR3' bP3 bP3' bH3 bH3' K3 K3' k4
  go_wp2_with fail
  refine (textL_some R c x5 r4 r5 _ E5.out D5.out bR4 q4 hc255).mono ?_
  rintro e w5 ⟨rfl, bR5, k5⟩
  have bH5 := bH4.kept k5 (by simpa using fun h => hRH h.symm)
  have bP5 := bP4.kept k5 (by simpa using fun h => hRP h.symm)
  have K5 := K4.trans (HSub.out k5)
  have cP5 := bP5.cell (j := 5) (u := x0) rfl
  have fP5 := bP5.free 5
  clear bR4 bP4 bH4 K4 k5
  go_wp2
  go_end0
  exact ⟨rfl, bR5.other (a := ⟨P, 5, none⟩) hRP _, bH5.other (a := ⟨P, 5, none⟩) hHP _, bP5.set 5 _, K5.setCell (p := ⟨P, 5, none⟩) (by simp) _⟩

set_option maxHeartbeats 4000000 in
theorem closure_few (R H P : Nat) (l : List UInt8) (hv s0 t0 f0 e0 k0 x0 : Value) (w : World)
    (bR : Blk w R #[.string (ba l)] 231) (bH : Blk w H #[hv] 3) (bP : Blk w P #[s0, t0, f0, e0, k0, x0] 89)
    (hRH : R ≠ H) (hRP : R ≠ P) (hHP : H ≠ P) (hfew : l.length < 8 ∨ ∃ c : Nat, num ((l.drop 7).take 1) = (c : Int) ∧ l.length < 8 + c) :
    Calls Tryz.prog 155 #[.pointer (some ⟨R, 0, none⟩), .pointer (some ⟨H, 0, none⟩), .pointer (some ⟨P, 0, none⟩)] w fun e w' =>
      e = .panicked few ∧ Kept [R, H, P] w w' := by
  have sub : ∀ {a b : World}, Kept [R] a b → Kept [R, H, P] a b := fun h => ⟨h.os, h.tape, h.output, h.size, fun k hk hS => h.block k hk (fun hm => hS (by simp at hm ⊢; exact .inl hm))⟩
  have HSub := @id (Hid (∀ {a b : World}, Kept [R] a b → Kept [R, H, P] a b)) sub
  clear sub
  obtain ⟨m1, hm1⟩ : ∃ m, m = num (l.take 1) := ⟨_, rfl⟩
  obtain ⟨r1, hr1⟩ : ∃ r, r = l.drop 1 := ⟨_, rfl⟩
  obtain ⟨m2, hm2⟩ : ∃ m, m = num (r1.take 2) := ⟨_, rfl⟩
  obtain ⟨r2, hr2⟩ : ∃ r, r = r1.drop 2 := ⟨_, rfl⟩
  obtain ⟨m3, hm3⟩ : ∃ m, m = num (r2.take 4) := ⟨_, rfl⟩
  obtain ⟨r3, hr3⟩ : ∃ r, r = r2.drop 4 := ⟨_, rfl⟩
  obtain ⟨m4, hm4⟩ : ∃ m, m = num (r3.take 1) := ⟨_, rfl⟩
  obtain ⟨r4, hr4⟩ : ∃ r, r = r3.drop 1 := ⟨_, rfl⟩
  have l1 : r1.length = l.length - 1 := by rw [hr1]; simp
  have l2 : r2.length = l.length - 3 := by rw [hr2]; simp; omega
  have l3 : r3.length = l.length - 7 := by rw [hr3]; simp; omega
  have l4 : r4.length = l.length - 8 := by rw [hr4]; simp; omega
  have hq4 : 8 ≤ l.length → (r4.length : Int) < m4 := by
    intro h
    rcases hfew with hf | ⟨c, hc, hcl⟩
    · omega
    · have : m4 = (c : Int) := by rw [hm4, ← hc, hr3, hr2, hr1]; simp
      omega
  have E1 : Hid _ := hm1
  have E2 : Hid _ := hm2
  have E3 : Hid _ := hm3
  have E4 : Hid _ := hm4
  have D1 : Hid _ := hr1
  have D2 : Hid _ := hr2
  have D3 : Hid _ := hr3
  have D4 : Hid _ := hr4
  have L1 : Hid _ := l1
  have L2 : Hid _ := l2
  have L3 : Hid _ := l3
  have HQ : Hid _ := hq4
  clear hm1 hm2 hm3 hm4 hr1 hr2 hr3 hr4 l1 l2 l3 l4 hq4 hfew
  go_enter Tryz.func155, Tryz.ntmps155
  go_wp2_with fail
  by_cases hA : l.length < 1
  · refine (numberL_few R l 1 _ bR (by omega)).mono ?_
    rintro e w1 ⟨rfl, rfl⟩
    go_wp2_with fail
    exact ⟨rfl, rfl, Kept.refl _ _⟩
  refine (numberL_some R 1 1 m1 l r1 _ E1.out D1.out rfl bR (by omega) (by decide)).mono ?_
  rintro e w1 ⟨rfl, bR1, k1⟩
  have bH1 := bH.kept k1 (by simpa using fun h => hRH h.symm)
  have bP1 := bP.kept k1 (by simpa using fun h => hRP h.symm)
  have cH := bH1.cell (j := 0) (u := hv) rfl
  have fH := bH1.free 0
  go_wp2_with fail
  have bR1' := bR1.other (a := ⟨H, 0, none⟩) hRH (.int .i64 m1)
  have bP1' := bP1.other (a := ⟨H, 0, none⟩) (fun h => hHP h.symm) (.int .i64 m1)
  have K1 := (HSub.out k1).setCell (p := ⟨H, 0, none⟩) (by simp) (.int .i64 m1)
  by_cases hB : l.length < 3
  · refine (numberL_few R r1 2 _ bR1' (by have := L1.out; omega)).mono ?_
    rintro e w2 ⟨rfl, rfl⟩
    go_wp2_with fail
    exact ⟨rfl, rfl, K1⟩
  refine (numberL_some R 2 2 m2 r1 r2 _ E2.out D2.out rfl bR1' (by have := L1.out; omega) (by decide)).mono ?_
  rintro e w2 ⟨rfl, bR2, k2⟩
  have bP2 := bP1'.kept k2 (by simpa using fun h => hRP h.symm)
  have K2 := K1.trans (HSub.out k2)
  have cP := bP2.cell (j := 0) (u := s0) rfl
  have fP := bP2.free 0
  clear cH fH bR1 bR1' bP1 bP1' bH1 K1 k1 k2
  go_wp2_with fail
  have bR2' := bR2.other (a := ⟨P, 0, none⟩) hRP (.int .i64 m2)
  have bP2' : Blk _ P #[.int .i64 m2, t0, f0, e0, k0, x0] 89 := bP2.set 0 (.int .i64 m2)
  have K2' := K2.setCell (p := ⟨P, 0, none⟩) (by simp) (.int .i64 m2)
  by_cases hC : l.length < 7
  · refine (numberL_few R r2 4 _ bR2' (by have := L2.out; omega)).mono ?_
    rintro e w3 ⟨rfl, rfl⟩
    go_wp2_with fail
    exact ⟨rfl, rfl, K2'⟩
  refine (numberL_some R 4 4 m3 r2 r3 _ E3.out D3.out rfl bR2' (by have := L2.out; omega) (by decide)).mono ?_
  rintro e w3 ⟨rfl, bR3, k3⟩
  have bP3 := bP2'.kept k3 (by simpa using fun h => hRP h.symm)
  have K3 := K2'.trans (HSub.out k3)
  have cP1 := bP3.cell (j := 1) (u := t0) rfl
  have fP1 := bP3.free 1
  clear cP fP bR2 bR2' bP2 bP2' K2 K2' k3
  go_wp2_with fail
  have bR3' := bR3.other (a := ⟨P, 1, none⟩) hRP (.int .i64 m3)
  have K3' := K3.setCell (p := ⟨P, 1, none⟩) (by simp) (.int .i64 m3)
  by_cases hD : l.length < 8
  · refine (numberL_few R r3 1 _ bR3' (by have := L3.out; omega)).mono ?_
    rintro e w4 ⟨rfl, rfl⟩
    go_wp2_with fail
    exact ⟨rfl, rfl, K3'⟩
  refine (numberL_some R 1 1 m4 r3 r4 _ E4.out D4.out rfl bR3' (by have := L3.out; omega) (by decide)).mono ?_
  rintro e w4 ⟨rfl, bR4, k4⟩
  have K4 := K3'.trans (HSub.out k4)
  clear cP1 fP1 bR3 bR3' bP3 K3 K3' k4
  go_wp2_with fail
  refine (textL_few R r4 m4 _ bR4 (HQ.out (by omega))).mono ?_
  rintro e w5 ⟨rfl, rfl⟩
  go_wp2_with fail
  exact ⟨rfl, rfl, K4⟩

end Go.Proofs.YtnpaejknoipicafGreat
