/-
  Contract: the laws' shelf.
-/
import Derived.Test.YtgmnhbmjnllhhacStoreAdd3
import Derived.Test.YtgmnhbmjnllhhacStoreSeek
import Derived.Test.YtgmnhbmjnllhhacGroupBegun
namespace Go.Proofs.Ytgmnhbmjnllhhac
open Go.RowKit

theorem FrsIn.pair {S : Nat → Prop} {w : World} {b : Nat} {f g : Fr} {pv qv : Value} (hb : Blk w b #[.int .i64 f.time, .bool f.key, pv, .int .i64 g.time, .bool g.key, qv] 48) (hS : S b) (hp : StrsIn S w pv f.parts) (hq : StrsIn S w qv g.parts) : FrsIn S w (.slice (some ⟨b, 0, none⟩) 2 2) [f, g] := by
  refine ⟨some ⟨b, 0, none⟩, 2, rfl, Nat.le_refl _, by omega, fun k hk => ⟨b, 0, rfl, hb.lt, hS, ?_⟩⟩
  have : k = 0 ∨ k = 1 := by simp at hk; omega
  rcases this with rfl | rfl
  · exact ⟨pv, hb.cell rfl, hb.cell rfl, hb.cell rfl, hp⟩
  · exact ⟨qv, hb.cell rfl, hb.cell rfl, hb.cell rfl, hq⟩
theorem GrsIn.pair {S : Nat → Prop} {w : World} {b : Nat} {f g : List Fr} {pv qv : Value} (hb : Blk w b #[pv, qv] 35) (hS : S b) (hp : FrsIn S w pv f) (hq : FrsIn S w qv g) : GrsIn S w (.slice (some ⟨b, 0, none⟩) 2 2) [f, g] := by
  refine ⟨some ⟨b, 0, none⟩, 2, rfl, Nat.le_refl _, by omega, fun k hk => ⟨b, 0, rfl, hb.lt, hS, ?_⟩⟩
  have : k = 0 ∨ k = 1 := by simp at hk; omega
  rcases this with rfl | rfl
  · exact ⟨pv, hb.cell rfl, hp⟩
  · exact ⟨qv, hb.cell rfl, hq⟩

def picF (t : Int) (k : Bool) : Fr := ⟨t, k, [⟨#[97, 98, 99]⟩]⟩
def shelfL : List (List Fr) := [[picF 10 true, picF 12 false], [picF 20 true]]
def shelfO : List Fr := [picF 30 true]

set_option maxHeartbeats 4000000 in
set_option maxRecDepth 100000 in
theorem shelf_any (w : World) :
    Calls Try.prog 49 #[] w fun e w' => ∃ gb ob, e = .returned (.agg #[.int .i64 3, .slice (some ⟨gb, 0, none⟩) 2 2, .slice (some ⟨ob, 0, none⟩) 1 1]) ∧ GrsIn (fun _ => True) w' (.slice (some ⟨gb, 0, none⟩) 2 2) shelfL ∧ FrsIn (fun _ => True) w' (.slice (some ⟨ob, 0, none⟩) 1 1) shelfO ∧ Below w.heap.size w w' := by
  have HPIC : Hid (∀ (t : Int) (k : Bool) (U : World), Calls Try.prog 41 #[.int .i64 t, .bool k] U fun e w' => ∃ p, e = .returned (.agg #[.int .i64 t, .bool k, .slice (some ⟨p, 0, none⟩) 1 1]) ∧ Hid (StrsIn (fun g => U.heap.size ≤ g) w' (.slice (some ⟨p, 0, none⟩) 1 1) [⟨#[97, 98, 99]⟩]) ∧ Below U.heap.size U w') := fun t k U => by
    refine (pic_any t k U).mono ?_
    rintro e w' ⟨rfl, h1, h2⟩
    exact ⟨_, rfl, h1, h2⟩
  go_enter Try.func49, Try.ntmps49
  go_wp2_with fail
  obtain ⟨w0, hw0⟩ : ∃ w0, w0 = w.alloc (.cells #[.int .i64 0, .slice none 0 0, .slice none 0 0] 51) := ⟨_, rfl⟩
  have B0 : Below w.heap.size w w0 := by rw [hw0]; exact (Below.refl _ _).alloc (Nat.le_refl _) _
  have R0 : Blk w0 w.heap.size #[.int .i64 0, .slice none 0 0, .slice none 0 0] 51 := by rw [hw0]; exact Blk.new _ _ _
  rw [← hw0]
  clear hw0
  refine (HPIC.out _ _ _).mono ?_
  rintro e w1 ⟨p1, rfl, S1, b1⟩
  go_wp2_with fail
  refine (HPIC.out _ _ _).mono ?_
  rintro e w2 ⟨p2, rfl, S2, b2⟩
  go_wp2_with fail
  have z0 := R0.lt
  have s1 := b1.size
  have s2 := b2.size
  have PA : StrsIn (fun g => w.heap.size < g) w2 (.slice (some ⟨p1, 0, none⟩) 1 1) [⟨#[97, 98, 99]⟩] := (S1.out.mono fun g _ h => by omega).below b2
  have PB : StrsIn (fun g => w.heap.size < g) w2 (.slice (some ⟨p2, 0, none⟩) 1 1) [⟨#[97, 98, 99]⟩] := S2.out.mono fun g _ h => by omega
  have R2 : Blk w2 w.heap.size #[.int .i64 0, .slice none 0 0, .slice none 0 0] 51 := (R0.below b1 R0.lt).below b2 (by omega)
  have B2 : Below w.heap.size w w2 := (B0.trans (b1.mono B0.size)).trans (b2.mono (by omega))
  obtain ⟨V2, hV2⟩ : ∃ V2, V2 = w2.alloc (.cells #[.int .i64 10, .bool true, .slice (some ⟨p1, 0, none⟩) 1 1, .int .i64 12, .bool false, .slice (some ⟨p2, 0, none⟩) 1 1] 48) := ⟨_, rfl⟩
  have FA : Hid (FrsIn (fun g => w.heap.size < g) V2 (.slice (some ⟨w2.heap.size, 0, none⟩) 2 2) [picF 10 true, picF 12 false]) := by
    rw [hV2]; exact FrsIn.pair (f := picF 10 true) (g := picF 12 false) (Blk.new w2 _ _) (by omega) (PA.alloc _) (PB.alloc _)
  have RV2 : Hid (Blk V2 w.heap.size #[.int .i64 0, .slice none 0 0, .slice none 0 0] 51) := by rw [hV2]; exact R2.alloc _
  have BV2 : Hid (Below w.heap.size w V2) := by rw [hV2]; exact B2.alloc B2.size _
  rw [← hV2]
  have sV2 : w2.heap.size < V2.heap.size := by rw [hV2]; simp
  clear hV2 PA PB R2 B2 S1 S2 b1 b2 R0 B0
  refine (HPIC.out _ _ _).mono ?_
  rintro e w3 ⟨p3, rfl, S3, b3⟩
  go_wp2_with fail
  have s3 := b3.size
  obtain ⟨V3, hV3⟩ : ∃ V3, V3 = (w3.alloc (.cells #[.int .i64 20, .bool true, .slice (some ⟨p3, 0, none⟩) 1 1] 48)).alloc (.cells #[.slice (some ⟨w2.heap.size, 0, none⟩) 2 2, .slice (some ⟨w3.heap.size, 0, none⟩) 1 1] 35) := ⟨_, rfl⟩
  have GV : Hid (GrsIn (fun g => w.heap.size < g) V3 (.slice (some ⟨w3.heap.size + 1, 0, none⟩) 2 2) shelfL) := by
    have hone : FrsIn (fun g => w.heap.size < g) (w3.alloc (.cells #[.int .i64 20, .bool true, .slice (some ⟨p3, 0, none⟩) 1 1] 48)) (.slice (some ⟨w3.heap.size, 0, none⟩) 1 1) [picF 20 true] := FrsIn.one (f := picF 20 true) (Blk.new w3 _ _) (by omega) ((S3.out.mono fun g _ h => (by omega)).alloc _)
    have hb : Blk V3 (w3.heap.size + 1) #[.slice (some ⟨w2.heap.size, 0, none⟩) 2 2, .slice (some ⟨w3.heap.size, 0, none⟩) 1 1] 35 := by
      have := Blk.new (w3.alloc (.cells #[.int .i64 20, .bool true, .slice (some ⟨p3, 0, none⟩) 1 1] 48)) #[.slice (some ⟨w2.heap.size, 0, none⟩) 2 2, .slice (some ⟨w3.heap.size, 0, none⟩) 1 1] 35
      rw [hV3]; simpa using this
    exact GrsIn.pair hb (by omega) (by rw [hV3]; exact ((FA.out.below b3).alloc _).alloc _) (by rw [hV3]; exact hone.alloc _)
  have RV3 : Hid (Blk V3 w.heap.size #[.int .i64 0, .slice none 0 0, .slice none 0 0] 51) := by rw [hV3]; exact ((RV2.out.below b3 RV2.out.lt).alloc _).alloc _
  have BV3 : Hid (Below w.heap.size w V3) := by
    have h := BV2.out.trans (b3.mono BV2.out.size)
    rw [hV3]; exact (h.alloc h.size _).alloc (by have := h.size; simp; omega) _
  rw [← hV3]
  clear hV3 S3 b3 FA RV2 BV2
  refine (HPIC.out _ _ _).mono ?_
  rintro e w4 ⟨p4, rfl, S4, b4⟩
  have s4 := b4.size
  have r4 := RV3.out.lt
  have RW4 := RV3.out.below b4 RV3.out.lt
  obtain ⟨r0, r1, r2⟩ := RW4.three
  have fr := RW4.free
  have hlw : w.heap.size < w4.heap.size := RW4.lt
  have B4 : Below w.heap.size w w4 := BV3.out.trans (b4.mono BV3.out.size)
  obtain ⟨X, hX⟩ : ∃ X, X = ((w4.setCell ⟨w.heap.size, 0, none⟩ (.int .i64 3)).setCell ⟨w.heap.size, 1, none⟩ (.slice (some ⟨w3.heap.size + 1, 0, none⟩) 2 2)).setCell ⟨w.heap.size, 2, none⟩ (.slice (some ⟨w4.heap.size, 0, none⟩) 1 1) := ⟨_, rfl⟩
  have KX : Blk X w.heap.size #[.int .i64 3, .slice (some ⟨w3.heap.size + 1, 0, none⟩) 2 2, .slice (some ⟨w4.heap.size, 0, none⟩) 1 1] 51 := by
    rw [hX]; exact ((RW4.set 0 (.int .i64 3)).set 1 (.slice (some ⟨w3.heap.size + 1, 0, none⟩) 2 2)).set 2 (.slice (some ⟨w4.heap.size, 0, none⟩) 1 1)
  have hXo : ∀ g, g ≠ w.heap.size → X.heap[g]? = w4.heap[g]? := fun g hg => by
    rw [hX, Below.heap_setCell _ _ _ _ (by exact hg), Below.heap_setCell _ _ _ _ (by exact hg), Below.heap_setCell _ _ _ _ (by exact hg)]
  have hXs : X.heap.size = w4.heap.size := by rw [hX]; simp
  have BX : Below w.heap.size w X := by
    rw [hX]; exact ((B4.setCell (Nat.le_refl _) _).setCell (Nat.le_refl _) _).setCell (Nat.le_refl _) _
  obtain ⟨V5, hV5⟩ : ∃ V5, V5 = X.alloc (.cells #[.int .i64 30, .bool true, .slice (some ⟨p4, 0, none⟩) 1 1] 48) := ⟨_, rfl⟩
  have KV : Blk V5 w.heap.size #[.int .i64 3, .slice (some ⟨w3.heap.size + 1, 0, none⟩) 2 2, .slice (some ⟨w4.heap.size, 0, none⟩) 1 1] 51 := by rw [hV5]; exact KX.alloc _
  have G5 : Hid (GrsIn (fun _ => True) V5 (.slice (some ⟨w3.heap.size + 1, 0, none⟩) 2 2) shelfL) := by
    rw [hV5]
    exact GrsIn.alloc ((GV.out.below b4).to (S' := fun _ => True) ⟨by omega, fun g _ hg => hXo g (by omega)⟩ (fun _ _ _ => trivial)) _
  have O5 : Hid (FrsIn (fun _ => True) V5 (.slice (some ⟨w4.heap.size, 0, none⟩) 1 1) shelfO) := by
    have hn : Blk V5 w4.heap.size #[.int .i64 30, .bool true, .slice (some ⟨p4, 0, none⟩) 1 1] 48 := by
      rw [hV5, ← hXs]; exact Blk.new _ _ _
    have hs : StrsIn (fun _ => True) V5 (.slice (some ⟨p4, 0, none⟩) 1 1) [⟨#[97, 98, 99]⟩] := by
      rw [hV5]
      exact StrsIn.alloc (S4.out.to (S' := fun _ => True) ⟨by omega, fun g _ hg => hXo g (by omega)⟩ (fun _ _ _ => trivial)) _
    exact FrsIn.one (f := picF 30 true) hn trivial hs
  have B5 : Hid (Below w.heap.size w V5) := by rw [hV5]; exact BX.alloc BX.size _
  obtain ⟨c0, c1, c2⟩ := KV.three
  rw [hX] at hV5
  clear hX hXo hXs KV KX BX B4 RW4 b4 S4 GV RV3 BV3
  go_wp2_with fail
  rw [← hV5]
  exact bodyPost_ret (v := .agg #[.int .i64 3, .slice (some ⟨w3.heap.size + 1, 0, none⟩) 2 2, .slice (some ⟨w4.heap.size, 0, none⟩) 1 1]) (by simp [results, Try.results49, go_sem, c0, c1, c2]) rfl ⟨_, _, rfl, G5.out, O5.out, B5.out⟩

end Go.Proofs.Ytgmnhbmjnllhhac
