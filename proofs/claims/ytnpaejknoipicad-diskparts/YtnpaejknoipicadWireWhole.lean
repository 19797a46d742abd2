/-
  Contracts: raw.Read and what it defers.
-/
import Derived.Test.YtnpaejknoipicadWireDecode1
namespace Go.Proofs.Ytnpaejknoipicad
open Go.RowKit

theorem catch_idle (p q : Addr) (w : World) :
    CallsD Try.prog 106 #[.pointer (some p), .pointer (some q)] .returning w fun e u' w' => e = .returned (.tuple #[]) ∧ u' = .returning ∧ w' = w := by
  refine callsD_of_wpS Try.func106 rfl fun c₀ cs hu => ?_
  apply wpS_seq
  apply wpS_region
  simp [wpOpsS, go_sem, recoverD, hu, Try.ntmps106, Exit.thenS]
  refine wpS_of_wp ?_
  rw [show (#[Value.pointer (some p), Value.pointer (some q)] ++ ((Array.replicate 14 undef).setIfInBounds 3 Value.nilIface).setIfInBounds 0 Value.nilIface) = #[.pointer (some p), .pointer (some q), .nilIface, undef, undef, .nilIface, undef, undef, undef, undef, undef, undef, undef, undef, undef, undef] from rfl]
  go_wp2
  cases c₀
  simp_all [bodyPostS, results, Try.results106]

theorem assert_few (w : World) : (Instr.typeAssert (.iface 155 (.agg #[])) 20 155 true).run Try.prog w = .ok (.tuple #[.agg #[], .bool true]) w := by kernel_rfl

theorem catch_few (b c : Nat) (x y : Value) (older : List PanicEntry) (w : World) (hb : Blk w b #[x] 9) (hc : Blk w c #[y] 4) (hbc : b ≠ c) :
    CallsD Try.prog 106 #[.pointer (some ⟨b, 0, none⟩), .pointer (some ⟨c, 0, none⟩)] (.panicking ({ v := .iface 155 (.agg #[]), recovered := false } :: older)) w fun e u' w' =>
      e = .returned (.tuple #[]) ∧ u' = .panicking ({ v := .iface 155 (.agg #[]), recovered := true } :: older) ∧ w' = ((w.alloc (.cells #[] 155)).setCell ⟨b, 0, none⟩ (.string ⟨#[]⟩)).setCell ⟨c, 0, none⟩ (.bool false) := by
  have hta := assert_few
  have hb0 := (hb.alloc (.cells #[] 155)).cell (j := 0) (u := x) rfl
  have hbz := (hb.alloc (.cells #[] 155)).free 0
  have hc1 := (hc.alloc (.cells #[] 155)).other (a := ⟨b, 0, none⟩) (fun h => hbc h.symm) (.string ⟨#[]⟩)
  have hc0 := hc1.cell (j := 0) (u := y) rfl
  have hcz := hc1.free 0
  refine callsD_of_wpS Try.func106 rfl fun c₀ cs hu => ?_
  apply wpS_seq
  apply wpS_region
  simp [wpOpsS, go_sem, recoverD, hu, Try.ntmps106, Exit.thenS]
  refine wpS_of_wp ?_
  rw [show (#[Value.pointer (some ⟨b, 0, none⟩), Value.pointer (some ⟨c, 0, none⟩)] ++ ((Array.replicate 14 undef).setIfInBounds 3 (Value.iface 155 (Value.agg #[]))).setIfInBounds 0 (Value.iface 155 (Value.agg #[]))) = #[.pointer (some ⟨b, 0, none⟩), .pointer (some ⟨c, 0, none⟩), .iface 155 (.agg #[]), undef, undef, .iface 155 (.agg #[]), undef, undef, undef, undef, undef, undef, undef, undef, undef, undef] from rfl]
  go_wp2
  cases c₀
  simp_all [bodyPostS, results, Try.results106]

/-- the memory as raw.Read begins to read -/
theorem read_start (w : World) (l : List UInt8) : ∀ W0, W0 = ((w.alloc (.cells #[.string ⟨#[]⟩] 9)).alloc (.cells #[.bool false] 4)).alloc (.cells #[.string (ba l)] 158) →
    Blk W0 w.heap.size #[.string ⟨#[]⟩] 9 ∧ Blk W0 (w.heap.size + 1) #[.bool false] 4 ∧ Blk W0 (w.heap.size + 1 + 1) #[.string (ba l)] 158 ∧ Below w.heap.size w W0 ∧ W0.heap.size = w.heap.size + 3 := by
  intro W0 h
  subst h
  refine ⟨((Blk.new w _ _).alloc _).alloc _, ?_, ?_, by go_grown, by simp⟩
  · have := Blk.new (w.alloc (.cells #[.string ⟨#[]⟩] 9)) #[.bool false] 4
    rw [World.size_alloc] at this
    exact this.alloc _
  · have := Blk.new ((w.alloc (.cells #[.string ⟨#[]⟩] 9)).alloc (.cells #[.bool false] 4)) #[.string (ba l)] 158
    rw [World.size_alloc, World.size_alloc] at this
    exact this

end Go.Proofs.Ytnpaejknoipicad
