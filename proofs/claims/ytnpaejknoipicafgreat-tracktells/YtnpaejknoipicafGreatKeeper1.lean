/-
  Contracts: the keeper's holds and hold.
-/
import Derived.Test.YtnpaejknoipicafGreatSlotInsert2
import Derived.Test.YtnpaejknoipicafGreatKeepPlain
import Derived.Test.YtnpaejknoipicafGreatRowAux
namespace Go.Proofs.YtnpaejknoipicafGreat
open Go.RowKit

set_option maxHeartbeats 400000 in
theorem holdsLit_tells (n : Int) (B : Nat) (w : World) (hB : B < w.heap.size) (hc : w.cell? ⟨B, 0, none⟩ = some (.int .i64 n)) :
    Tells 174 #[.pointer (some ⟨B, 0, none⟩)] (fun x => x.n == n) w := fun W x hb => by
  have hcW : W.cell? ⟨B, 0, none⟩ = some (.int .i64 n) := (hb.cell (p := ⟨B, 0, none⟩) hB).trans hc
  have hBW : B < W.heap.size := by have := hb.size; omega
  have hne : B ≠ W.heap.size := by omega
  obtain ⟨xn, seq, time, xf, xe, xk, xt⟩ := x
  show Calls Tryz.prog 174 #[.agg #[.int .i64 xn, .int .i64 seq, .int .i64 time, .bool xf, .bool xe, .bool xk, .string xt], .pointer (some ⟨B, 0, none⟩)] W _
  go_enter Tryz.func174, Tryz.ntmps174
  go_wp2
  go_ret
  exact ⟨rfl, by go_grown⟩

set_option maxHeartbeats 400000 in
theorem holdLit_tells (y : Sk) (B : Nat) (w : World) (hB : B < w.heap.size) (hc : w.cell? ⟨B, 0, none⟩ = some (.int .i64 y.n)) :
    Tells 176 #[.pointer (some ⟨B, 0, none⟩)] (fun x => decide (y.n < x.n)) w := fun W x hb => by
  have hcW : W.cell? ⟨B, 0, none⟩ = some (.int .i64 y.n) := (hb.cell (p := ⟨B, 0, none⟩) hB).trans hc
  have hBW : B < W.heap.size := by have := hb.size; omega
  have hne : B ≠ W.heap.size := by omega
  obtain ⟨xn, seq, time, xf, xe, xk, xt⟩ := x
  obtain ⟨yn, _⟩ := y
  show Calls Tryz.prog 176 #[.agg #[.int .i64 xn, .int .i64 seq, .int .i64 time, .bool xf, .bool xe, .bool xk, .string xt], .pointer (some ⟨B, 0, none⟩)] W _
  go_enter Tryz.func176, Tryz.ntmps176
  go_wp2
  go_ret
  exact ⟨rfl, by go_grown⟩

set_option maxHeartbeats 400000 in
theorem holds_any (K : Nat) (next : Int) (hv ov : Value) (h : List Sk) (n : Int) (w : World) (hK : Blk w K #[.int .i64 next, hv, ov] 219) (hh : Sls w hv h) (hlen : h.length ≤ 1000) :
    Calls Tryz.prog 170 #[.pointer (some ⟨K, 0, none⟩), .int .i64 n] w fun e w' => e = .returned (.bool (h.any fun x => x.n == n)) ∧ Below w.heap.size w w' := by
  have eg : Enters Tryz.prog 174 := enters_of Tryz.func174 (by kernel_rfl) rfl
  have hcon := containsFunc_any 174 #[.pointer (some ⟨w.heap.size, 0, none⟩)] (fun x => x.n == n) eg hv h (w.alloc (.cells #[.int .i64 n] 3)) (hh.alloc _) (by omega) (holdsLit_tells n w.heap.size _ (by simp) (by simp))
  obtain ⟨c0, c1, c2⟩ := hK.three
  have hKw := hK.lt
  obtain ⟨r, hr⟩ : ∃ r, r = h.any fun x => x.n == n := ⟨_, rfl⟩
  rw [← hr] at hcon ⊢
  clear hr eg
  go_enter Tryz.func170, Tryz.ntmps170
  go_wp2_with (go_at_call 173; refine hcon.mono ?_; rintro e w1 ⟨rfl, hbw⟩)
  go_ret
  exact ⟨rfl, ((Below.refl _ _).alloc (Nat.le_refl _) _).trans (hbw.mono (by simp))⟩

/-- where a slot belongs -/
def place (h : List Sk) (x : Sk) : Nat := (h.findIdx? fun y => decide (x.n < y.n)).getD h.length
def insF (h : List Sk) (x : Sk) : List Sk := putAt h (place h x) x
theorem place_le (h : List Sk) (x : Sk) : place h x ≤ h.length := by
  unfold place
  cases e : h.findIdx? fun y => decide (x.n < y.n) with
  | none => simp
  | some i =>
    rw [List.findIdx?_eq_some_iff_getElem] at e
    obtain ⟨h1, _⟩ := e
    simp; omega
theorem idx_place (h : List Sk) (x : Sk) : (idxOf (fun y => decide (x.n < y.n)) h = -1 ∧ place h x = h.length) ∨ idxOf (fun y => decide (x.n < y.n)) h = (place h x : Int) := by
  unfold place idxOf
  cases e : h.findIdx? fun y => decide (x.n < y.n) with
  | none => left; simp
  | some i => right; simp
theorem insF_len (h : List Sk) (x : Sk) : (insF h x).length = h.length + 1 := by
  have := place_le h x
  simp [insF, putAt]; omega

end Go.Proofs.YtnpaejknoipicafGreat
