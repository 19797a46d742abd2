/-
  Contracts: readWhole and what it defers.
-/
import Derived.Test.YtaabikjdockclaaWireDecode1
namespace Go.Proofs.Ytaabikjdockclaa
open Go.RowKit

theorem catch_idle (p : Addr) (w : World) :
    CallsD Try.prog 36 #[.pointer (some p)] .returning w fun e u' w' => e = .returned (.tuple #[]) ∧ u' = .returning ∧ w' = w := by
  refine callsD_of_wpS Try.func36 rfl fun c₀ cs hu => ?_
  apply wpS_seq
  apply wpS_region
  simp [wpOpsS, go_sem, recoverD, hu, Try.ntmps36, Exit.thenS]
  refine wpS_of_wp ?_
  rw [show (#[Value.pointer (some p)] ++ ((Array.replicate 14 undef).setIfInBounds 3 Value.nilIface).setIfInBounds 0 Value.nilIface) = #[.pointer (some p), .nilIface, undef, undef, .nilIface, undef, undef, undef, undef, undef, undef, undef, undef, undef, undef] from rfl]
  go_wp2
  cases c₀
  simp_all [bodyPostS, results, Try.results36]

theorem assert_few (w : World) : (Instr.typeAssert (.iface 62 (.agg #[])) 20 62 true).run Try.prog w = .ok (.tuple #[.agg #[], .bool true]) w := by kernel_rfl

theorem catch_few (b : Nat) (x : Value) (older : List PanicEntry) (w : World) (hb : Blk w b #[x] 4) :
    CallsD Try.prog 36 #[.pointer (some ⟨b, 0, none⟩)] (.panicking ({ v := .iface 62 (.agg #[]), recovered := false } :: older)) w fun e u' w' =>
      e = .returned (.tuple #[]) ∧ u' = .panicking ({ v := .iface 62 (.agg #[]), recovered := true } :: older) ∧ w' = (w.alloc (.cells #[] 62)).setCell ⟨b, 0, none⟩ (.bool false) := by
  have hta := assert_few
  have hc := (hb.alloc (.cells #[] 62)).cell (j := 0) (u := x) rfl
  have hz := (hb.alloc (.cells #[] 62)).free 0
  refine callsD_of_wpS Try.func36 rfl fun c₀ cs hu => ?_
  apply wpS_seq
  apply wpS_region
  simp [wpOpsS, go_sem, recoverD, hu, Try.ntmps36, Exit.thenS]
  refine wpS_of_wp ?_
  rw [show (#[Value.pointer (some ⟨b, 0, none⟩)] ++ ((Array.replicate 14 undef).setIfInBounds 3 (Value.iface 62 (Value.agg #[]))).setIfInBounds 0 (Value.iface 62 (Value.agg #[]))) = #[.pointer (some ⟨b, 0, none⟩), .iface 62 (.agg #[]), undef, undef, .iface 62 (.agg #[]), undef, undef, undef, undef, undef, undef, undef, undef, undef, undef] from rfl]
  go_wp2
  cases c₀
  simp_all [bodyPostS, results, Try.results36]


set_option maxHeartbeats 2000000 in
theorem whole_ok (H P c : Nat) (l : List UInt8) (hv s0 t0 f0 e0 k0 x0 : Value) (w : World)
    (bH : Blk w H #[hv] 3) (bP : Blk w P #[s0, t0, f0, e0, k0, x0] 23)
    (hHP : H ≠ P) (h8 : 8 ≤ l.length) (hc : num ((l.drop 7).take 1) = (c : Int)) (hcl : 8 + c ≤ l.length) (hc255 : c ≤ 255) :
    Calls Try.prog 25 #[.string (ba l), .func (.func 26) #[] #[.pointer (some ⟨H, 0, none⟩), .pointer (some ⟨P, 0, none⟩)]] w fun e w' =>
      e = .returned (.bool (decide (l.length = 8 + c))) ∧ Blk w' H #[.int .i64 (num (l.take 1))] 3 ∧
      Blk w' P #[.int .i64 (num ((l.drop 1).take 2)), .int .i64 (num ((l.drop 3).take 4)), f0, e0, k0, .string (ba ((l.drop 8).take c))] 23 ∧ Kept [H, P] w w' := by
  have hmf : ∀ (fn : Fn) (first cap : Array Value) (w : World), (Instr.makeFunc fn first cap).run Try.prog w = .ok (.func fn first cap) w := fun _ _ _ _ => rfl
  have HC : Hid _ := hc
  clear hc
  go_enter_defers Try.func25, Try.ntmps25
  go_wp2_with fail
  obtain ⟨W0, hW0⟩ : ∃ W0, W0 = (w.alloc (.cells #[.bool false] 4)).alloc (.cells #[.string (ba l)] 65) := ⟨_, rfl⟩
  have bR0 : Blk W0 (w.heap.size + 1) #[.string (ba l)] 65 := by rw [hW0]; have := Blk.new (w.alloc (.cells #[.bool false] 4)) #[.string (ba l)] 65; rw [World.size_alloc] at this; exact this
  have bB0 : Blk W0 w.heap.size #[.bool false] 4 := by rw [hW0]; exact (Blk.new w _ _).alloc _
  have bH0 : Blk W0 H #[hv] 3 := by rw [hW0]; exact (bH.alloc _).alloc _
  have bP0 : Blk W0 P #[s0, t0, f0, e0, k0, x0] 23 := by rw [hW0]; exact (bP.alloc _).alloc _
  have K0 : Kept [H, P] w W0 := by rw [hW0]; exact ((Kept.refl _ w).alloc _).alloc _
  rw [← hW0]
  clear hW0
  have hHl := bH.lt
  have hPl := bP.lt
  refine (closure_ok (w.heap.size + 1) H P c l hv s0 t0 f0 e0 k0 x0 W0 bR0 bH0 bP0 (by omega) (by omega) hHP h8 HC.out hcl hc255).mono ?_
  rintro e w1 ⟨rfl, bR1, bH1, bP1, k1⟩
  have bB1 := bB0.kept k1 (by simp; omega)
  have K1 := K0.more k1 (by intro j hj hl; simp at hj ⊢; omega)
  obtain ⟨r, hr⟩ : ∃ r, r = l.drop (8 + c) := ⟨_, rfl⟩
  rw [← hr] at bR1
  have HR : Hid (r = l.drop (8 + c)) := hr
  have cR := bR1.cell (j := 0) (u := .string (ba r)) rfl
  have cB := bB1.cell (j := 0) (u := .bool false) rfl
  have fB := bB1.free 0
  clear hr k1 bR0 bB0 bH0 bP0 K0 bR1
  go_wp2
  have bB2 := bB1.set 0 (.bool (ba r).toList.isEmpty)
  have cB2 := bB2.cell (j := 0) (u := .bool (ba r).toList.isEmpty) rfl
  refine leaves_cons (f := 36) (args := #[.pointer (some ⟨w.heap.size, 0, none⟩)]) (by simp) (by simp [go_sem]) ?_
  refine (catch_idle ⟨w.heap.size, 0, none⟩ _).mono ?_
  rintro e u' w'' ⟨rfl, rfl, rfl⟩
  simp [Leaves, settle, results, Try.results25, go_sem, cB2]
  refine ⟨?_, bH1.other (a := ⟨w.heap.size, 0, none⟩) (by show H ≠ w.heap.size; omega) _, ?_, K1.setNew (p := ⟨w.heap.size, 0, none⟩) (Nat.le_refl _) _⟩
  · rw [ByteArray.toList_eq, ba_data, HR.out, Bool.eq_iff_iff]
    simp
    omega
  · simpa using bP1.other (a := ⟨w.heap.size, 0, none⟩) (by show P ≠ w.heap.size; omega) _

set_option maxHeartbeats 2000000 in
theorem whole_few (H P : Nat) (l : List UInt8) (hv s0 t0 f0 e0 k0 x0 : Value) (w : World)
    (bH : Blk w H #[hv] 3) (bP : Blk w P #[s0, t0, f0, e0, k0, x0] 23)
    (hHP : H ≠ P) (hfew : l.length < 8 ∨ ∃ c : Nat, num ((l.drop 7).take 1) = (c : Int) ∧ l.length < 8 + c) :
    Calls Try.prog 25 #[.string (ba l), .func (.func 26) #[] #[.pointer (some ⟨H, 0, none⟩), .pointer (some ⟨P, 0, none⟩)]] w fun e w' =>
      e = .returned (.bool false) ∧ Kept [H, P] w w' := by
  have hmf : ∀ (fn : Fn) (first cap : Array Value) (w : World), (Instr.makeFunc fn first cap).run Try.prog w = .ok (.func fn first cap) w := fun _ _ _ _ => rfl
  have HC : Hid _ := hfew
  clear hfew
  go_enter_defers Try.func25, Try.ntmps25
  go_wp2_with fail
  obtain ⟨W0, hW0⟩ : ∃ W0, W0 = (w.alloc (.cells #[.bool false] 4)).alloc (.cells #[.string (ba l)] 65) := ⟨_, rfl⟩
  have bR0 : Blk W0 (w.heap.size + 1) #[.string (ba l)] 65 := by rw [hW0]; have := Blk.new (w.alloc (.cells #[.bool false] 4)) #[.string (ba l)] 65; rw [World.size_alloc] at this; exact this
  have bB0 : Blk W0 w.heap.size #[.bool false] 4 := by rw [hW0]; exact (Blk.new w _ _).alloc _
  have bH0 : Blk W0 H #[hv] 3 := by rw [hW0]; exact (bH.alloc _).alloc _
  have bP0 : Blk W0 P #[s0, t0, f0, e0, k0, x0] 23 := by rw [hW0]; exact (bP.alloc _).alloc _
  have K0 : Kept [H, P] w W0 := by rw [hW0]; exact ((Kept.refl _ w).alloc _).alloc _
  rw [← hW0]
  clear hW0
  have hHl := bH.lt
  have hPl := bP.lt
  refine (closure_few (w.heap.size + 1) H P l hv s0 t0 f0 e0 k0 x0 W0 bR0 bH0 bP0 (by omega) (by omega) hHP HC.out).mono ?_
  rintro e w1 ⟨rfl, k1⟩
  have bB1 := bB0.kept k1 (by simp; omega)
  have K1 := K0.more k1 (by intro j hj hl; simp at hj ⊢; omega)
  clear k1 bR0 bB0 bH0 bP0 K0
  simp only [few]
  go_wp2
  refine leaves_cons (f := 36) (args := #[.pointer (some ⟨w.heap.size, 0, none⟩)]) (by simp) (by simp [go_sem]) ?_
  refine (catch_few w.heap.size (.bool false) [] _ bB1).mono ?_
  rintro e u' w'' ⟨rfl, rfl, rfl⟩
  have bB2 := (bB1.alloc (.cells #[] 62)).set 0 (.bool false)
  have cB2 := bB2.cell (j := 0) (u := .bool false) rfl
  simp [Leaves, settle, results, Try.results25, go_sem, cB2]
  exact (K1.alloc _).setNew (p := ⟨w.heap.size, 0, none⟩) (Nat.le_refl _) _

end Go.Proofs.Ytaabikjdockclaa
