/-
  Contracts: the reader over lists of bytes; what Decode's closure reads.
-/
import Derived.Test.YtnpaejknoipicadWireRead
import Derived.Test.YtnpaejknoipicadBlocks
import Derived.Test.YtnpaejknoipicadStrCopy
namespace Go.Proofs.Ytnpaejknoipicad
open Go.RowKit

/-- what a reader that lacks bytes panics with -/
def few : List PanicEntry := [{ v := .iface 155 (.agg #[]), recovered := false }]

theorem numberL_few (B : Nat) (l : List UInt8) (n : Int) (w : World) (hb : Blk w B #[.string (ba l)] 158) (hn : (l.length : Int) < n) :
    Calls Try.prog 95 #[.pointer (some ⟨B, 0, none⟩), .int .i64 n] w fun e w' => e = .panicked few ∧ w = w' :=
  number_few B (ba l) n w (hb.cell rfl) (by rw [ba_size]; exact hn)

theorem numberL_some (B : Nat) (n : Nat) (ni m : Int) (l r : List UInt8) (w : World) (hm : m = num (l.take n)) (hr : r = l.drop n) (hni : ni = (n : Int)) (hb : Blk w B #[.string (ba l)] 158) (hn : n ≤ l.length) (h4 : n ≤ 4) :
    Calls Try.prog 95 #[.pointer (some ⟨B, 0, none⟩), .int .i64 ni] w fun e w' =>
      e = .returned (.int .i64 m) ∧ Blk w' B #[.string (ba r)] 158 ∧ Kept [B] w w' := by
  subst hni hm hr
  refine (number_some B n (ba l) w (hb.cell rfl) (hb.free 0) (by rw [ba_size]; exact hn) h4).mono ?_
  rintro e w' ⟨rfl, hbel⟩
  rw [ba_data, ba_drop] at *
  have h1 : Blk (w.setCell ⟨B, 0, none⟩ (.string (ba (l.drop n)))) B #[.string (ba (l.drop n))] 158 := hb.set 0 _
  exact ⟨rfl, h1.below hbel hb.lt, ((Kept.refl [B] w).setCell (p := ⟨B, 0, none⟩) (by simp) _).below (by rw [World.size_setCell]; exact hbel)⟩

set_option maxHeartbeats 1000000 in
theorem strClone_any (l : List UInt8) (w : World) (hlim : l.length ≤ 100000) :
    Calls Try.prog 50 #[.string (ba l)] w fun e w' => e = .returned (.string (ba l)) ∧ Below w.heap.size w w' := by
  go_enter Try.func50, Try.ntmps50
  go_wp2_with (go_at_call 77; refine (copied l _ hlim).mono ?_; rintro e w' ⟨rfl, hb⟩)
  go_ret
  exact ⟨rfl, hb⟩

set_option maxHeartbeats 1000000 in
theorem textL_few (B : Nat) (l : List UInt8) (n : Int) (w : World) (hb : Blk w B #[.string (ba l)] 158) (hn : (l.length : Int) < n) :
    Calls Try.prog 107 #[.pointer (some ⟨B, 0, none⟩), .int .i64 n] w fun e w' => e = .panicked few ∧ w = w' := by
  have hc := hb.cell (j := 0) (u := .string (ba l)) rfl
  have hn' : ((ba l).size : Int) < n := by rw [ba_size]; exact hn
  go_enter Try.func107, Try.ntmps107
  go_wp2_with (go_at_call 94; refine (take_few B (ba l) n _ hc hn').mono ?_; rintro e w' ⟨rfl, rfl⟩)
  exact ⟨rfl, rfl, rfl⟩

set_option maxHeartbeats 1000000 in
theorem textL_some (B : Nat) (n : Nat) (x : ByteArray) (l r : List UInt8) (w : World) (hx : x = ba (l.take n)) (hr : r = l.drop n) (hb : Blk w B #[.string (ba l)] 158) (hn : n ≤ l.length) (h4 : n ≤ 255) :
    Calls Try.prog 107 #[.pointer (some ⟨B, 0, none⟩), .int .i64 n] w fun e w' =>
      e = .returned (.string x) ∧ Blk w' B #[.string (ba r)] 158 ∧ Kept [B] w w' := by
  subst hx hr
  have hc := hb.cell (j := 0) (u := .string (ba l)) rfl
  have hf := hb.free 0
  have ht : ∀ w : World, w.cell? ⟨B, 0, none⟩ = some (.string (ba l)) → w.frozen? ⟨B, 0, none⟩ = false → Calls Try.prog 94 #[.pointer (some ⟨B, 0, none⟩), .int .i64 n] w fun e w' =>
      e = .returned (.string (ba (l.take n))) ∧ w' = w.setCell ⟨B, 0, none⟩ (.string (ba (l.drop n))) := by
    intro w h1 h2
    have := take_some B n (ba l) w h1 h2 (by rw [ba_size]; exact hn)
    rw [ba_take, ba_drop] at this
    exact this
  have HT := @id (Hid _) ht
  clear ht
  have hsz : (l.take n).length ≤ 100000 := by rw [List.length_take]; omega
  have h1 : Blk (w.setCell ⟨B, 0, none⟩ (.string (ba (l.drop n)))) B #[.string (ba (l.drop n))] 158 := hb.set 0 _
  have hk : Kept [B] w (w.setCell ⟨B, 0, none⟩ (.string (ba (l.drop n)))) := (Kept.refl [B] w).setCell (p := ⟨B, 0, none⟩) (by simp) _
  go_enter Try.func107, Try.ntmps107
  go_wp2_with (first
    | (go_at_call 94; refine (HT.out _ hc hf).mono ?_; rintro e w' ⟨rfl, rfl⟩)
    | (go_at_call 50; refine (strClone_any _ _ hsz).mono ?_; rintro e w2 ⟨rfl, hb2⟩))
  go_ret
  exact ⟨rfl, h1.below hb2 h1.lt, hk.below hb2⟩

end Go.Proofs.Ytnpaejknoipicad
