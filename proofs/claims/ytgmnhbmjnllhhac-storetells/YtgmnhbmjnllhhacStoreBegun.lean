/-
  Contract: what must be in any case, of stores.
-/
import Derived.Test.YtgmnhbmjnllhhacStoreShelf2
import Derived.Deep.RegionHeld3
namespace Go.Proofs.Ytgmnhbmjnllhhac
open Go.RowKit

theorem heldB {W X Y : World} {a b : Addr} {u v : Value} (h : X.cell? a = some u ∧ X.cell? b = some v ∧ Below W.heap.size W X) (k : Below X.heap.size X Y) : Y.cell? a = some u ∧ Y.cell? b = some v ∧ Below W.heap.size W Y :=
  ⟨(k.cell (block_lt_of_cell h.1)).trans h.1, (k.cell (block_lt_of_cell h.2.1)).trans h.2.1, h.2.2.trans (k.mono h.2.2.size)⟩

set_option maxHeartbeats 8000000 in
set_option maxRecDepth 100000 in
theorem storeBegun_any (w : World) :
    Calls Try.prog 29 #[] w fun e w' => e = .returned (.bool true) ∧ Below w.heap.size w w' := by
  have HSH : Hid (∀ U : World, Calls Try.prog 49 #[] U fun e w' => ∃ gb ob, e = .returned (.agg #[.int .i64 3, .slice (some ⟨gb, 0, none⟩) 2 2, .slice (some ⟨ob, 0, none⟩) 1 1]) ∧ Hid (GrsIn (fun _ => True) w' (.slice (some ⟨gb, 0, none⟩) 2 2) shelfL) ∧ Hid (FrsIn (fun _ => True) w' (.slice (some ⟨ob, 0, none⟩) 1 1) shelfO) ∧ Below U.heap.size U w') := shelf_any
  go_enter Try.func29, Try.ntmps29
  go_wp2_with fail
  refine (HSH.out _).mono ?_
  rintro e w1 ⟨g1, o1, rfl, G1, O1, b1⟩
  go_wp2_with fail
  refine (pic_any _ _ _).mono ?_
  rintro e w2 ⟨rfl, S2, b2⟩
  go_wp2_with fail
  have A1 := storeAdd_any 3 (.slice (some ⟨g1, 0, none⟩) 2 2) (.slice (some ⟨o1, 0, none⟩) 1 1) (.slice (some ⟨w1.heap.size + 1, 0, none⟩) 1 1) shelfL shelfO (picF 40 true) w2 (G1.out.below b2) (O1.out.below b2) (S2.mono fun _ _ _ => trivial)
  rw [shelf_addE, shelf_addB] at A1
  refine A1.mono ?_
  rintro e w3 ⟨gv, ov, rfl, hgv, hov, b3⟩
  obtain ⟨va, vc, ev, _, _⟩ := hgv.len
  rw [shelf_addL] at ev
  obtain ⟨qa, qc, eq, _, _⟩ := hov.len
  subst ev eq
  obtain ⟨F, hF⟩ : ∃ F, F = addsF 3 shelfL shelfO (picF 40 true) := ⟨_, rfl⟩
  obtain ⟨nq, hnq⟩ : ∃ n, n = (addsO 3 shelfL shelfO (picF 40 true)).length := ⟨_, rfl⟩
  rw [← hF, ← hnq]
  clear hF hgv hov A1 hnq
  have B3 : Below w.heap.size w w3 := (b1.trans (b2.mono b1.size)).trans (b3.mono (by have := b1.size; have := b2.size; omega))
  obtain ⟨W4, hW4⟩ : ∃ W4, W4 = w3.alloc (.cells #[.int .i64 F, .slice va 3 vc, .slice qa nq qc] 51) := ⟨_, rfl⟩
  have K4 : Hid (Blk W4 w3.heap.size #[.int .i64 F, .slice va 3 vc, .slice qa nq qc] 51) := by rw [hW4]; exact Blk.new _ _ _
  have B4 : Hid (Below w.heap.size w W4) := by rw [hW4]; exact B3.alloc B3.size _
  clear b1 b2 b3 B3 G1 O1 S2
  go_wp2_with fail
  rw [← hW4]
  clear hW4
  refine (HSH.out _).mono ?_
  rintro e w5 ⟨g5, o5, rfl, G5, O5, b5⟩
  have K5 : Hid (Blk w5 w3.heap.size #[.int .i64 F, .slice va 3 vc, .slice qa nq qc] 51) := K4.out.below b5 K4.out.lt
  have B5 : Hid (Below w.heap.size w w5) := B4.out.trans (b5.mono B4.out.size)
  clear b5 K4 B4
  have A5 := storeSeek_any 3 (.slice (some ⟨g5, 0, none⟩) 2 2) (.slice (some ⟨o5, 0, none⟩) 1 1) shelfL shelfO 25 w5 G5.out O5.out
  rw [shelf_seekE, shelf_seekN] at A5
  go_wp2_with fail
  refine A5.mono ?_
  rintro e w6 ⟨rfl, b6⟩
  have K6 : Hid (Blk w6 w3.heap.size #[.int .i64 F, .slice va 3 vc, .slice qa nq qc] 51) := K5.out.below b6 K5.out.lt
  have B6 : Hid (Below w.heap.size w w6) := B5.out.trans (b6.mono B5.out.size)
  clear b6 K5 B5 A5 G5 O5
  go_wp2_with fail
  refine (HSH.out _).mono ?_
  rintro e w7 ⟨g7, o7, rfl, G7, O7, b7⟩
  have A7 := storeGet_any 3 (.slice (some ⟨g7, 0, none⟩) 2 2) (.slice (some ⟨o7, 0, none⟩) 1 1) shelfL shelfO 5 w7 G7.out O7.out (by omega)
  rw [shelf_get5E, shelf_get5G, show shelfO.length = 1 from rfl] at A7
  have K7 : Hid (Blk w7 w3.heap.size #[.int .i64 F, .slice va 3 vc, .slice qa nq qc] 51) := K6.out.below b7 K6.out.lt
  have B7 : Hid (Below w.heap.size w w7) := B6.out.trans (b7.mono B6.out.size)
  clear b7 K6 B6
  go_wp2_with fail
  refine A7.mono ?_
  rintro e w8 ⟨a8, c8, rfl, F8, b8⟩
  obtain ⟨W9, hW9⟩ : ∃ W9, W9 = w8.alloc (.cells #[.slice a8 1 c8] 35) := ⟨_, rfl⟩
  have bb9 : Below w7.heap.size w7 W9 := by rw [hW9]; exact b8.alloc b8.size _
  have K9 : Hid (Blk W9 w3.heap.size #[.int .i64 F, .slice va 3 vc, .slice qa nq qc] 51) := K7.out.below bb9 K7.out.lt
  have J9 : Hid (Blk W9 w8.heap.size #[.slice a8 1 c8] 35) := by rw [hW9]; exact Blk.new _ _ _
  have F9 : Hid (FrsIn (fun _ => True) W9 (.slice a8 1 c8) shelfO) := by rw [hW9]; exact F8.alloc _
  have B9 : Hid (Below w.heap.size w W9) := B7.out.trans (bb9.mono B7.out.size)
  clear b8 bb9 K7 B7 A7 G7 O7 F8
  go_wp2_with fail
  rw [← hW9]
  clear hW9
  refine (HSH.out _).mono ?_
  rintro e w10 ⟨g10, o10, rfl, G10, O10, b10⟩
  have A10 := storeGet_any 3 (.slice (some ⟨g10, 0, none⟩) 2 2) (.slice (some ⟨o10, 0, none⟩) 1 1) shelfL shelfO 6 w10 G10.out O10.out (by omega)
  rw [shelf_get6E, shelf_get6G, show ([] : List Fr).length = 0 from rfl] at A10
  have K10 : Hid (Blk w10 w3.heap.size #[.int .i64 F, .slice va 3 vc, .slice qa nq qc] 51) := K9.out.below b10 K9.out.lt
  have J10 : Hid (Blk w10 w8.heap.size #[.slice a8 1 c8] 35) := J9.out.below b10 J9.out.lt
  have F10 : Hid (FrsIn (fun _ => True) w10 (.slice a8 1 c8) shelfO) := F9.out.below b10
  have B10 : Hid (Below w.heap.size w w10) := B9.out.trans (b10.mono B9.out.size)
  clear b10 K9 J9 F9 B9
  go_wp2_with fail
  refine A10.mono ?_
  rintro e w11 ⟨a11, c11, rfl, _, b11⟩
  obtain ⟨W, hW⟩ : ∃ W, W = w11.alloc (.cells #[.slice a11 0 c11] 35) := ⟨_, rfl⟩
  have bW : Below w10.heap.size w10 W := by rw [hW]; exact b11.alloc b11.size _
  have KW : Hid (Blk W w3.heap.size #[.int .i64 F, .slice va 3 vc, .slice qa nq qc] 51) := K10.out.below bW K10.out.lt
  have JW : Hid (Blk W w8.heap.size #[.slice a8 1 c8] 35) := J10.out.below bW J10.out.lt
  have FW : Hid (FrsIn (fun _ => True) W (.slice a8 1 c8) shelfO) := F10.out.below bW
  have BW : Hid (Below w.heap.size w W) := B10.out.trans (bW.mono B10.out.size)
  clear b11 bW K10 J10 F10 B10 A10 G10 O10
  go_wp2_with fail
  rw [← hW]
  clear hW
  obtain ⟨k0, k1, k2⟩ := KW.out.three
  have j0 := JW.out.one
  have HCK : Hid (∀ (U : World) (gb ob : Nat), GrsIn (fun _ => True) U (.slice (some ⟨gb, 0, none⟩) 2 2) shelfL → FrsIn (fun _ => True) U (.slice (some ⟨ob, 0, none⟩) 1 1) shelfO → Calls Try.prog 30 #[.agg #[.int .i64 3, .slice (some ⟨gb, 0, none⟩) 2 2, .slice (some ⟨ob, 0, none⟩) 1 1]] U fun e w' => e = .returned (.int .i64 0) ∧ Below U.heap.size U w') := fun U gb ob h1 h2 => by
    have := storeCheck_any _ 3 _ _ shelfL shelfO U h1 h2
    rw [shelf_chk] at this
    exact this
  have hfd : ∀ (g o : Nat) (U : World), (Instr.field 51 (.agg #[.int .i64 3, .slice (some ⟨g, 0, none⟩) 2 2, .slice (some ⟨o, 0, none⟩) 1 1]) 2).run Try.prog U = .ok (.agg #[.slice (some ⟨o, 0, none⟩) 1 1]) U := fun g o U => by kernel_rfl
  have hfe : ∀ (o : Nat) (U : World), (Instr.field 35 (.agg #[.slice (some ⟨o, 0, none⟩) 1 1]) 0).run Try.prog U = .ok (.slice (some ⟨o, 0, none⟩) 1 1) U := fun o U => by kernel_rfl
  have HSF : Hid (∀ (U : World) (o : Nat), (U.cell? ⟨w3.heap.size, 1, none⟩ = some (.slice va 3 vc) ∧ U.cell? ⟨w8.heap.size, 0, none⟩ = some (.slice a8 1 c8) ∧ Below W.heap.size W U) → FrsIn (fun _ => True) U (.slice (some ⟨o, 0, none⟩) 1 1) shelfO → Calls Try.prog 11 #[.slice a8 1 c8, .slice (some ⟨o, 0, none⟩) 1 1] U fun e w' => e = .returned (.bool true) ∧ Below U.heap.size U w') := fun U o h1 h2 => by
    have := sameFrames_any _ _ _ _ U (FW.out.below h1.2.2).frs h2.frs (by show 1 ≤ _; omega)
    rw [show sameFs shelfO shelfO = true from decide_eq_true rfl] at this
    exact this
  go_region_held3 (fun w' => w'.cell? ⟨w3.heap.size, 1, none⟩ = some (.slice va 3 vc) ∧ w'.cell? ⟨w8.heap.size, 0, none⟩ = some (.slice a8 1 c8) ∧ Below W.heap.size W w') (first | exact ⟨k1, j0, Below.drew (Below.refl _ _)⟩ | exact heldB (by assumption) (by assumption) | (refine heldB ?_ ?_ <;> assumption))
    (first
      | (go_at_call 49; refine (HSH.out _).mono ?_; rintro e w12 ⟨g12, o12, rfl, G12, O12, b12⟩)
      | (go_at_call 30; refine (HCK.out _ _ _ G12.out O12.out).mono ?_; rintro e w13 ⟨rfl, b13⟩)
      | (go_at_call 11; refine (HSF.out _ _ (by assumption) O12.out).mono ?_; rintro e w14 ⟨rfl, b14⟩))
  have hS : w14.cell? ⟨w3.heap.size, 1, none⟩ = some (.slice va 3 vc) ∧ w14.cell? ⟨w8.heap.size, 0, none⟩ = some (.slice a8 1 c8) ∧ Below W.heap.size W w14 := by assumption
  have B14 : Hid (Below w.heap.size w w14) := BW.out.trans (hS.2.2.mono BW.out.size)
  clear hS
  go_wp2_with fail
  go_ret
  exact ⟨rfl, B14.out⟩

end Go.Proofs.Ytgmnhbmjnllhhac
