/-
  Contracts: raw.Read and what it defers.
-/
import Derived.Test.YtnpaejknoipicafGreatWireDecode1
namespace Go.Proofs.YtnpaejknoipicafGreat
open Go.RowKit

theorem catch_idle (p q : Addr) (w : World) :
    CallsD Tryz.prog 168 #[.pointer (some p), .pointer (some q)] .returning w fun e u' w' => e = .returned (.tuple #[]) ∧ u' = .returning ∧ w' = w := by
  refine callsD_of_wpS Tryz.func168 rfl fun c₀ cs hu => ?_
  apply wpS_seq
  apply wpS_region
  simp [wpOpsS, go_sem, recoverD, hu, Tryz.ntmps168, Exit.thenS]
  refine wpS_of_wp ?_
  rw [show (#[Value.pointer (some p), Value.pointer (some q)] ++ ((Array.replicate 14 undef).setIfInBounds 3 Value.nilIface).setIfInBounds 0 Value.nilIface) = #[.pointer (some p), .pointer (some q), .nilIface, undef, undef, .nilIface, undef, undef, undef, undef, undef, undef, undef, undef, undef, undef] from rfl]
  go_wp2
  cases c₀
  simp_all [bodyPostS, results, Tryz.results168]

theorem assert_few (w : World) : (Instr.typeAssert (.iface 228 (.agg #[])) 20 228 true).run Tryz.prog w = .ok (.tuple #[.agg #[], .bool true]) w := by kernel_rfl

theorem catch_few (b c : Nat) (x y : Value) (older : List PanicEntry) (w : World) (hb : Blk w b #[x] 9) (hc : Blk w c #[y] 4) (hbc : b ≠ c) :
    CallsD Tryz.prog 168 #[.pointer (some ⟨b, 0, none⟩), .pointer (some ⟨c, 0, none⟩)] (.panicking ({ v := .iface 228 (.agg #[]), recovered := false } :: older)) w fun e u' w' =>
      e = .returned (.tuple #[]) ∧ u' = .panicking ({ v := .iface 228 (.agg #[]), recovered := true } :: older) ∧ w' = ((w.alloc (.cells #[] 228)).setCell ⟨b, 0, none⟩ (.string ⟨#[]⟩)).setCell ⟨c, 0, none⟩ (.bool false) := by
  have hta := assert_few
  have hb0 := (hb.alloc (.cells #[] 228)).cell (j := 0) (u := x) rfl
  have hbz := (hb.alloc (.cells #[] 228)).free 0
  have hc1 := (hc.alloc (.cells #[] 228)).other (a := ⟨b, 0, none⟩) (fun h => hbc h.symm) (.string ⟨#[]⟩)
  have hc0 := hc1.cell (j := 0) (u := y) rfl
  have hcz := hc1.free 0
  refine callsD_of_wpS Tryz.func168 rfl fun c₀ cs hu => ?_
  apply wpS_seq
  apply wpS_region
  simp [wpOpsS, go_sem, recoverD, hu, Tryz.ntmps168, Exit.thenS]
  refine wpS_of_wp ?_
  rw [show (#[Value.pointer (some ⟨b, 0, none⟩), Value.pointer (some ⟨c, 0, none⟩)] ++ ((Array.replicate 14 undef).setIfInBounds 3 (Value.iface 228 (Value.agg #[]))).setIfInBounds 0 (Value.iface 228 (Value.agg #[]))) = #[.pointer (some ⟨b, 0, none⟩), .pointer (some ⟨c, 0, none⟩), .iface 228 (.agg #[]), undef, undef, .iface 228 (.agg #[]), undef, undef, undef, undef, undef, undef, undef, undef, undef, undef] from rfl]
  go_wp2
  cases c₀
  simp_all [bodyPostS, results, Tryz.results168]

/-- the memory as raw.Read begins to read -/
theorem read_start (w : World) (l : List UInt8) : ∀ W0, W0 = ((w.alloc (.cells #[.string ⟨#[]⟩] 9)).alloc (.cells #[.bool false] 4)).alloc (.cells #[.string (ba l)] 231) →
    Blk W0 w.heap.size #[.string ⟨#[]⟩] 9 ∧ Blk W0 (w.heap.size + 1) #[.bool false] 4 ∧ Blk W0 (w.heap.size + 1 + 1) #[.string (ba l)] 231 ∧ Below w.heap.size w W0 ∧ W0.heap.size = w.heap.size + 3 := by
  intro W0 h
  subst h
  refine ⟨((Blk.new w _ _).alloc _).alloc _, ?_, ?_, by go_grown, by simp⟩
  · have := Blk.new (w.alloc (.cells #[.string ⟨#[]⟩] 9)) #[.bool false] 4
    rw [World.size_alloc] at this
    exact this.alloc _
  · have := Blk.new ((w.alloc (.cells #[.string ⟨#[]⟩] 9)).alloc (.cells #[.bool false] 4)) #[.string (ba l)] 231
    rw [World.size_alloc, World.size_alloc] at this
    exact this

set_option maxHeartbeats 2000000 in
theorem whole_ok (H P c : Nat) (l : List UInt8) (hv s0 t0 f0 e0 k0 x0 : Value) (w : World)
    (bH : Blk w H #[hv] 3) (bP : Blk w P #[s0, t0, f0, e0, k0, x0] 89)
    (hHP : H ≠ P) (h8 : 8 ≤ l.length) (hc : num ((l.drop 7).take 1) = (c : Int)) (hcl : 8 + c ≤ l.length) (hc255 : c ≤ 255) :
    Calls Tryz.prog 149 #[.string (ba l), .func (.func 155) #[] #[.pointer (some ⟨H, 0, none⟩), .pointer (some ⟨P, 0, none⟩)]] w fun e w' =>
      e = .returned (.tuple #[.string (ba (l.drop (8 + c))), .bool true]) ∧ Blk w' H #[.int .i64 (num (l.take 1))] 3 ∧
      Blk w' P #[.int .i64 (num ((l.drop 1).take 2)), .int .i64 (num ((l.drop 3).take 4)), f0, e0, k0, .string (ba ((l.drop 8).take c))] 89 ∧ Kept [H, P] w w' := by
  have hmf : ∀ (fn : Fn) (first cap : Array Value) (w : World), (Instr.makeFunc fn first cap).run Tryz.prog w = .ok (.func fn first cap) w := fun _ _ _ _ => rfl
  have HC : Hid _ := hc
  obtain ⟨r, hr⟩ : ∃ r, r = l.drop (8 + c) := ⟨_, rfl⟩
  rw [← hr]
  have HR : Hid (r = l.drop (8 + c)) := hr
  clear hc hr
  go_enter_defers Tryz.func149, Tryz.ntmps149
  go_wp2_with fail
  obtain ⟨W0, hW0⟩ : ∃ W0, W0 = ((w.alloc (.cells #[.string ⟨#[]⟩] 9)).alloc (.cells #[.bool false] 4)).alloc (.cells #[.string (ba l)] 231) := ⟨_, rfl⟩
  obtain ⟨bA0, bB0, bR0, be0, hs0⟩ := read_start w l W0 hW0
  have bH0 : Blk W0 H #[hv] 3 := bH.below be0 bH.lt
  have bP0 : Blk W0 P #[s0, t0, f0, e0, k0, x0] 89 := bP.below be0 bP.lt
  have K0 : Kept [H, P] w W0 := (Kept.refl _ w).below be0
  rw [← hW0]
  clear hW0
  have hHl := bH.lt
  have hPl := bP.lt
  refine (closure_ok (w.heap.size + 1 + 1) H P c l hv s0 t0 f0 e0 k0 x0 W0 bR0 bH0 bP0 (by omega) (by omega) hHP h8 HC.out hcl hc255).mono ?_
  rintro e w1 ⟨rfl, bR1, bH1, bP1, k1⟩
  have bA1 := bA0.kept k1 (by simp; omega)
  have bB1 := bB0.kept k1 (by simp; omega)
  have K1 := K0.more k1 (by intro j hj hl; simp at hj ⊢; omega)
  rw [← HR.out] at bR1
  have cR := bR1.cell (j := 0) (u := .string (ba r)) rfl
  have cA := bA1.cell (j := 0) (u := .string ⟨#[]⟩) rfl
  have fA := bA1.free 0
  have bB2 := bB1.other (a := ⟨w.heap.size, 0, none⟩) (by show w.heap.size + 1 ≠ w.heap.size; omega) (.string (ba r))
  have cB := bB2.cell (j := 0) (u := .bool false) rfl
  have fB := bB2.free 0
  clear k1 bR0 bA0 bB0 bH0 bP0 K0 bR1
  go_wp2
  have bA3 := (bA1.set 0 (.string (ba r))).other (a := ⟨w.heap.size + 1, 0, none⟩) (by show w.heap.size ≠ w.heap.size + 1; omega) (.bool true)
  have bB3 := bB2.set 0 (.bool true)
  have cA3 := bA3.cell (j := 0) (u := .string (ba r)) rfl
  have cB3 := bB3.cell (j := 0) (u := .bool true) rfl
  refine leaves_cons (f := 168) (args := #[.pointer (some ⟨w.heap.size, 0, none⟩), .pointer (some ⟨w.heap.size + 1, 0, none⟩)]) (by simp) (by simp [go_sem]) ?_
  refine (catch_idle ⟨w.heap.size, 0, none⟩ ⟨w.heap.size + 1, 0, none⟩ _).mono ?_
  rintro e u' w'' ⟨rfl, rfl, rfl⟩
  simp [Leaves, settle, results, Tryz.results149, go_sem, cA3, cB3]
  have bH3 := (bH1.other (a := ⟨w.heap.size, 0, none⟩) (by show H ≠ w.heap.size; omega) (.string (ba r))).other (a := ⟨w.heap.size + 1, 0, none⟩) (by show H ≠ w.heap.size + 1; omega) (.bool true)
  have bP3 := (bP1.other (a := ⟨w.heap.size, 0, none⟩) (by show P ≠ w.heap.size; omega) (.string (ba r))).other (a := ⟨w.heap.size + 1, 0, none⟩) (by show P ≠ w.heap.size + 1; omega) (.bool true)
  have K3 := (K1.setNew (p := ⟨w.heap.size, 0, none⟩) (Nat.le_refl _) (.string (ba r))).setNew (p := ⟨w.heap.size + 1, 0, none⟩) (Nat.le_succ _) (.bool true)
  exact ⟨bH3, by simpa using bP3, K3⟩

set_option maxHeartbeats 2000000 in
theorem whole_few (H P : Nat) (l : List UInt8) (hv s0 t0 f0 e0 k0 x0 : Value) (w : World)
    (bH : Blk w H #[hv] 3) (bP : Blk w P #[s0, t0, f0, e0, k0, x0] 89)
    (hHP : H ≠ P) (hfew : l.length < 8 ∨ ∃ c : Nat, num ((l.drop 7).take 1) = (c : Int) ∧ l.length < 8 + c) :
    Calls Tryz.prog 149 #[.string (ba l), .func (.func 155) #[] #[.pointer (some ⟨H, 0, none⟩), .pointer (some ⟨P, 0, none⟩)]] w fun e w' =>
      e = .returned (.tuple #[.string ⟨#[]⟩, .bool false]) ∧ Kept [H, P] w w' := by
  have hmf : ∀ (fn : Fn) (first cap : Array Value) (w : World), (Instr.makeFunc fn first cap).run Tryz.prog w = .ok (.func fn first cap) w := fun _ _ _ _ => rfl
  have HC : Hid _ := hfew
  clear hfew
  go_enter_defers Tryz.func149, Tryz.ntmps149
  go_wp2_with fail
  obtain ⟨W0, hW0⟩ : ∃ W0, W0 = ((w.alloc (.cells #[.string ⟨#[]⟩] 9)).alloc (.cells #[.bool false] 4)).alloc (.cells #[.string (ba l)] 231) := ⟨_, rfl⟩
  obtain ⟨bA0, bB0, bR0, be0, hs0⟩ := read_start w l W0 hW0
  have bH0 : Blk W0 H #[hv] 3 := bH.below be0 bH.lt
  have bP0 : Blk W0 P #[s0, t0, f0, e0, k0, x0] 89 := bP.below be0 bP.lt
  have K0 : Kept [H, P] w W0 := (Kept.refl _ w).below be0
  rw [← hW0]
  clear hW0
  have hHl := bH.lt
  have hPl := bP.lt
  refine (closure_few (w.heap.size + 1 + 1) H P l hv s0 t0 f0 e0 k0 x0 W0 bR0 bH0 bP0 (by omega) (by omega) hHP HC.out).mono ?_
  rintro e w1 ⟨rfl, k1⟩
  have bA1 := bA0.kept k1 (by simp; omega)
  have bB1 := bB0.kept k1 (by simp; omega)
  have K1 := K0.more k1 (by intro j hj hl; simp at hj ⊢; omega)
  clear k1 bR0 bA0 bB0 bH0 bP0 K0
  simp only [few]
  go_wp2
  refine leaves_cons (f := 168) (args := #[.pointer (some ⟨w.heap.size, 0, none⟩), .pointer (some ⟨w.heap.size + 1, 0, none⟩)]) (by simp) (by simp [go_sem]) ?_
  refine (catch_few w.heap.size (w.heap.size + 1) (.string ⟨#[]⟩) (.bool false) [] _ bA1 bB1 (by omega)).mono ?_
  rintro e u' w'' ⟨rfl, rfl, rfl⟩
  have bA2 := ((bA1.alloc (.cells #[] 228)).set 0 (.string ⟨#[]⟩)).other (a := ⟨w.heap.size + 1, 0, none⟩) (by show w.heap.size ≠ w.heap.size + 1; omega) (.bool false)
  have bB2 := ((bB1.alloc (.cells #[] 228)).other (a := ⟨w.heap.size, 0, none⟩) (by show w.heap.size + 1 ≠ w.heap.size; omega) (.string ⟨#[]⟩)).set 0 (.bool false)
  have cA2 := bA2.cell (j := 0) (u := .string ⟨#[]⟩) rfl
  have cB2 := bB2.cell (j := 0) (u := .bool false) rfl
  simp [Leaves, settle, results, Tryz.results149, go_sem, cA2, cB2]
  exact ((K1.alloc _).setNew (p := ⟨w.heap.size, 0, none⟩) (Nat.le_refl _) _).setNew (p := ⟨w.heap.size + 1, 0, none⟩) (Nat.le_succ _) _

end Go.Proofs.YtnpaejknoipicafGreat
