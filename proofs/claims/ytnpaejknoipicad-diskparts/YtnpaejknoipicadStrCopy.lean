/-
  Contract: a copy of a text has the same bytes.
-/
import Derived.Test.YtnpaejknoipicadWireEncode
import Derived.Test.YtnpaejknoipicadBlocks
import Derived.Lib.BufferWrite
import Derived.Lib.UnsafeStr
import Derived.Laws.MakeOwn
namespace Go.Proofs.Ytnpaejknoipicad
open Go.RowKit

/-- n zero bytes, made -/
theorem room_for (n : Nat) (hn : n ≤ 100000) : ∃ M : Array Value, M.size = n ∧ ∀ W : World,
    (Instr.makeSlice 116 (.int .i64 (n : Int)) (.int .i64 (n : Int))).run Try.prog W = .ok (.slice (some ⟨W.heap.size, 0, none⟩) n n) (W.alloc (.cells M 5)) := by
  obtain ⟨i, hi, h0, h1, h2⟩ := info_parts Try.infoU8
  refine ⟨madeCells (Value.int .u8 0).cells (n * i.size), by rw [size_madeCells, h1]; simp, fun W => ?_⟩
  have h := run_make (P := Try.prog) W 116 5 i (.int .u8 0) Try.underlying116 hi h0 .i64 .i64 n n (by omega) (Int.le_refl _) (by rw [h2]; omega) (by omega)
  rw [Int.toNat_natCast] at h
  exact h

/-- the bytes of a text, laid over a block of that many cells -/
theorem laid_over (l : List UInt8) (W : World) (b : Nat) (M : Array Value) (hM : M.size = l.length) (hb : Blk W b M 5) :
    (Builtin.copy_ #[116, 9] 3 #[.slice (some ⟨b, 0, none⟩) l.length l.length, .string (ba l)]).run Try.prog W = .ok (goInt l.length) (W.setRow b (bcells l).toArray) := by
  obtain ⟨i, hi, _, h1, _⟩ := info_parts Try.infoU8
  have h := Lib.run_copy_row_string (P := Try.prog) W 116 9 3 5 b 0 l.length l.length (ba l) M 5 Try.underlying116 (by rw [hi]; simp [h1]) hb (by rw [ba_size]; exact Nat.le_refl _) (by rw [ba_size]; omega)
  rw [ba_size, ba_data, List.take_zero, List.nil_append, List.drop_eq_nil_of_le (by rw [Array.length_toList]; omega), List.append_nil] at h
  exact h

/-- the text of a block whose cells are bytes -/
theorem read_back (l : List UInt8) (hl : l ≠ []) (hn : l.length ≤ 100000) (W : World) (b : Nat) (hb : Blk W b (bcells l).toArray 5) :
    (Builtin.unsafeString_ #[143, 3] 9 #[.pointer (some ⟨b, 0, none⟩), .int .i64 l.length]).run Try.prog W = .ok (.string (ba l)) (W.freeze ⟨b, 0, none⟩ l.length) := by
  refine Lib.run_unsafeString_row (P := Try.prog) W 143 3 9 5 Try.underlying143 (by kernel_rfl) b (bcells l).toArray.size ?_ l hl (by simp [bcells]) (by omega) (fun j x hj => ?_)
  · have hb' : W.heap[b]? = some (.cells (bcells l).toArray 5 (0, 0)) := hb
    unfold World.shape?
    rw [hb']
  · rw [Addr.add_lit, Nat.zero_add]
    exact hb.cell (by simp [bcells, hj])

theorem setRow_blk {W : World} {b : Nat} {M : Array Value} {t : TypeId} (h : Blk W b M t) (Y : Array Value) : Blk (W.setRow b Y) b Y t := setRow_heap W b M Y t (0, 0) h

set_option maxHeartbeats 2000000 in
set_option maxRecDepth 100000 in
theorem copied (l : List UInt8) (w : World) (hlim : l.length ≤ 100000) :
    Calls Try.prog 77 #[.string (ba l)] w fun e w' => e = .returned (.string (ba l)) ∧ Below w.heap.size w w' := by
  by_cases h0 : l = []
  · subst h0
    have hz : (ba []).size = 0 := rfl
    go_enter Try.func77, Try.ntmps77
    go_wp2
    go_ret
    exact ⟨rfl, Below.refl _ _⟩
  · have hp : 0 < l.length := List.length_pos_iff.2 h0
    have hz := ba_size l
    have hne : ((l.length : Int) == 0) = false := by simp [h0]
    have hlt : (0 : Int) < (l.length : Int) := by omega
    obtain ⟨M, hM, hmk⟩ := room_for l.length hlim
    have bM := Blk.new w M 5
    have hcp := laid_over l _ _ M hM bM
    have bY := setRow_blk bM (bcells l).toArray
    have hus := read_back l h0 hlim _ _ bY
    have hb1 : Below w.heap.size w (w.alloc (.cells M 5)) := (Below.refl _ w).alloc (Nat.le_refl _) _
    have hb2 : Below w.heap.size w ((w.alloc (.cells M 5)).setRow w.heap.size (bcells l).toArray) := hb1.trans ⟨rfl, rfl, rfl, by simp, fun k hk => setRow_other _ _ _ _ (by omega)⟩
    have hb3 := Lib.below_freeze hb2 (p := ⟨w.heap.size, 0, none⟩) (Nat.le_refl _) l.length
    clear hb1 hb2 bM bY h0
    go_enter Try.func77, Try.ntmps77
    go_wp2
    go_ret
    exact ⟨rfl, hb3⟩

end Go.Proofs.Ytnpaejknoipicad
