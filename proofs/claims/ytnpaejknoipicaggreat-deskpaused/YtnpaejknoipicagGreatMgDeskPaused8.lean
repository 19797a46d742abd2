/-
 Contracts: the walker's start and mayHave.
-/
import Derived.Test.YtnpaejknoipicagGreatMgDeskPaused7
import Derived.Test.YtnpaejknoipicagGreatMgDeskPaused4
import Derived.Test.YtnpaejknoipicagGreatMgDeskPaused2
import Derived.Test.YtnpaejknoipicagGreatMgDeskPaused1
import Derived.Test.YtnpaejknoipicagGreatMgDeskPaused3
namespace Go.Proofs.YtnpaejknoipicagGreat
open Go.RowKit
def at8 (l : List UInt8) (i : Nat) : Nat := (l[i]?.getD 0).toNat
theorem at8_lt (l : List UInt8) (i : Nat) : at8 l i < 256 := UInt8.toNat_lt _
def formB (l : List UInt8) : Bool := decide (8 ≤ l.length) && decide (l.length = 8 + at8 l 7) && decide (128 ≤ at8 l 0) && decide (at8 l 0 ≤ 135)
def Pk.told (l : List UInt8) : Pk := ⟨num ((l.drop 1).take 2), num ((l.drop 3).take 4), at8 l 0 % 2 == 1, at8 l 0 / 2 % 2 == 1, at8 l 0 / 4 % 2 == 1, ba (l.drop 8)⟩
def Pk.dec (l : List UInt8) : Pk × Int := if formB l then (if (Pk.told l).chk == 0 then (Pk.told l, 0) else (Pk.zero, (Pk.told l).chk)) else (Pk.zero, 1)
theorem num_at (l : List UInt8) (i : Nat) : num ((l.drop i).take 1) = (at8 l i : Int) := by
 rw [num_one, at8, List.getElem?_drop, Nat.add_zero]
theorem bit_facts (h : Nat) (h1 : 128 ≤ h) (h2 : h ≤ 135) :
  (bits .and .i64 (h : Int) 1 != 0) = (h % 2 == 1) ∧ (bits .and .i64 (h : Int) 2 != 0) = (h / 2 % 2 == 1) ∧ (bits .and .i64 (h : Int) 4 != 0) = (h / 4 % 2 == 1) := by
 have : h = 128 ∨ h = 129 ∨ h = 130 ∨ h = 131 ∨ h = 132 ∨ h = 133 ∨ h = 134 ∨ h = 135 := by omega
 rcases this with rfl | rfl | rfl | rfl | rfl | rfl | rfl | rfl <;> exact ⟨by decide, by decide, by decide⟩
theorem Blk.six {w : World} {b : Nat} {x0 x1 x2 x3 x4 x5 : Value} {t : TypeId} (h : Blk w b #[x0, x1, x2, x3, x4, x5] t) :
  w.cell? ⟨b, 0, none⟩ = some x0 ∧ w.cell? ⟨b, 1, none⟩ = some x1 ∧ w.cell? ⟨b, 2, none⟩ = some x2 ∧ w.cell? ⟨b, 3, none⟩ = some x3 ∧ w.cell? ⟨b, 4, none⟩ = some x4 ∧ w.cell? ⟨b, 5, none⟩ = some x5 ∧
  w.frozen? ⟨b, 0, none⟩ = false ∧ w.frozen? ⟨b, 1, none⟩ = false ∧ w.frozen? ⟨b, 2, none⟩ = false ∧ w.frozen? ⟨b, 3, none⟩ = false ∧ w.frozen? ⟨b, 4, none⟩ = false ∧ w.frozen? ⟨b, 5, none⟩ = false :=
 ⟨h.cell rfl, h.cell rfl, h.cell rfl, h.cell rfl, h.cell rfl, h.cell rfl, h.free 0, h.free 1, h.free 2, h.free 3, h.free 4, h.free 5⟩
theorem dec_start (w : World) (z : Array Value) (t : TypeId) : ∀ W0, W0 = ((w.alloc (.cells z t)).alloc (.cells z t)).alloc (.cells #[.int .i64 0] 3) →
  Blk W0 w.heap.size z t ∧ Blk W0 (w.heap.size + 1) z t ∧ Blk W0 (w.heap.size + 1 + 1) #[.int .i64 0] 3 ∧ Below w.heap.size w W0 ∧ W0.heap.size = w.heap.size + 3 := by
 intro W0 h
 subst h
 refine ⟨((Blk.new w z t).alloc _).alloc _, ?_, ?_, by go_grown, by simp⟩
 ·have := Blk.new (w.alloc (.cells z t)) z t
  rw [World.size_alloc] at this
  exact this.alloc _
 ·have := Blk.new ((w.alloc (.cells z t)).alloc (.cells z t)) #[.int .i64 0] 3
  rw [World.size_alloc, World.size_alloc] at this
  exact this
set_option maxHeartbeats 2000000 in
theorem decode_no (l : List UInt8) (w : World) (hform : formB l = false) :
  Calls Tryz.prog 104 #[.string (ba l)] w fun e w' => e = .returned (.tuple #[Pk.zero.val, .int .i64 1]) ∧ Below w.heap.size w w' := by
 have hmf : ∀ (fn : Fn) (first cap : Array Value) (w : World), (Instr.makeFunc fn first cap).run Tryz.prog w = .ok (.func fn first cap) w := fun _ _ _ _ => rfl
 simp only [Pk.zero, Pk.val]
 have hlt7 := at8_lt l 7
 have HF : Hid (formB l = false) := hform
 clear hform
 go_enter Tryz.func104, Tryz.ntmps104
 go_wp2_with fail
 obtain ⟨W0, hW0⟩ : ∃ W0, W0 = ((w.alloc (.cells #[.int .i64 0, .int .i64 0, .bool false, .bool false, .bool false, .string ⟨#[]⟩] 63)).alloc (.cells #[.int .i64 0, .int .i64 0, .bool false, .bool false, .bool false, .string ⟨#[]⟩] 63)).alloc (.cells #[.int .i64 0] 3) := ⟨_, rfl⟩
 obtain ⟨bN0, bP0, bH0, hb0, hs0⟩ := dec_start w _ _ W0 hW0
 rw [← hW0]
 clear hW0
 by_cases hfew : l.length < 8 ∨ l.length < 8 + at8 l 7
 ·refine (whole_few (w.heap.size + 1 + 1) (w.heap.size + 1) l _ _ _ _ _ _ _ W0 bH0 bP0 (by omega) ?_).mono ?_
  ·rcases hfew with h | h
   ·exact .inl h
   ·exact .inr ⟨at8 l 7, num_at l 7, h⟩
  rintro e w1 ⟨rfl, k1⟩
  have bN1 := bN0.kept k1 (by simp; omega)
  obtain ⟨c0, c1, c2, c3, c4, c5, f0, f1, f2, f3, f4, f5⟩ := bN1.six
  have hb1 : Below w.heap.size w w1 := hb0.trans (k1.toBelow (by omega) (by intro k hk; simp at hk; omega))
  go_wp2
  exact bodyPost_ret (v := .tuple #[.agg #[.int .i64 0, .int .i64 0, .bool false, .bool false, .bool false, .string ByteArray.empty], .int .i64 1]) (by simp [results, Tryz.results104, go_sem, c0, c1, c2, c3, c4, c5]; rfl) rfl ⟨rfl, by go_grown⟩
 ·have h8 : 8 ≤ l.length := by omega
  have hcl : 8 + at8 l 7 ≤ l.length := by omega
  obtain ⟨hd, hhd⟩ : ∃ hd, hd = at8 l 0 := ⟨_, rfl⟩
  have hno : ¬ (l.length = 8 + at8 l 7) ∨ hd < 128 ∨ 135 < hd := by
   have := HF.out
   rw [hhd]
   simp only [formB, Bool.and_eq_false_iff, decide_eq_false_iff_not] at this
   omega
  have hn0 : num (l.take 1) = (hd : Int) := by have := num_at l 0; rw [List.drop_zero] at this; rw [this, hhd]
  clear hhd hfew
  refine (whole_ok (w.heap.size + 1 + 1) (w.heap.size + 1) (at8 l 7) l _ _ _ _ _ _ _ W0 bH0 bP0 (by omega) h8 (num_at l 7) hcl (by omega)).mono ?_
  rintro e w1 ⟨rfl, bH1, _, k1⟩
  rw [hn0] at bH1
  have bN1 := bN0.kept k1 (by simp; omega)
  obtain ⟨c0, c1, c2, c3, c4, c5, f0, f1, f2, f3, f4, f5⟩ := bN1.six
  have cH := bH1.cell (j := 0) (u := .int .i64 hd) rfl
  have hb1 : Below w.heap.size w w1 := hb0.trans (k1.toBelow (by omega) (by intro k hk; simp at hk; omega))
  clear hn0 bN0 bP0 bH0 bH1 hb0 hs0 k1 bN1
  by_cases hA : l.length = 8 + at8 l 7
  ·have hdA : ba (l.drop (8 + at8 l 7)) = ⟨#[]⟩ := by rw [List.drop_of_length_le (by omega)]; rfl
   rw [hdA]
   by_cases hB : hd < 128
   ·clear hdA hA hno hcl
    have hB' : (hd : Int) < 128 := by omega
    go_wp2
    exact bodyPost_ret (v := .tuple #[.agg #[.int .i64 0, .int .i64 0, .bool false, .bool false, .bool false, .string ByteArray.empty], .int .i64 1]) (by simp [results, Tryz.results104, go_sem, c0, c1, c2, c3, c4, c5]; rfl) rfl ⟨rfl, by go_grown⟩
   ·have hC : (135 : Int) < hd := by omega
    have hB' : ¬ (hd : Int) < 128 := by omega
    clear hdA hA hno hcl
    go_wp2
    exact bodyPost_ret (v := .tuple #[.agg #[.int .i64 0, .int .i64 0, .bool false, .bool false, .bool false, .string ByteArray.empty], .int .i64 1]) (by simp [results, Tryz.results104, go_sem, c0, c1, c2, c3, c4, c5]; rfl) rfl ⟨rfl, by go_grown⟩
  ·obtain ⟨r, hr⟩ : ∃ r, r = l.drop (8 + at8 l 7) := ⟨_, rfl⟩
   have hr0 : (ba r).toList.isEmpty = false := by
    rw [ByteArray.toList_eq, ba_data]
    cases r with
    | nil => have := congrArg List.length hr; simp at this; omega
    | cons x t => rfl
   rw [← hr]
   clear hr hA hno hcl
   go_wp2
   exact bodyPost_ret (v := .tuple #[.agg #[.int .i64 0, .int .i64 0, .bool false, .bool false, .bool false, .string ByteArray.empty], .int .i64 1]) (by simp [results, Tryz.results104, go_sem, c0, c1, c2, c3, c4, c5]; rfl) rfl ⟨rfl, by go_grown⟩
set_option maxHeartbeats 2000000 in
theorem decode_form (l : List UInt8) (w : World) (hform : formB l = true) :
  Calls Tryz.prog 104 #[.string (ba l)] w fun e w' => e = .returned (.tuple #[(if (Pk.told l).chk == 0 then Pk.told l else Pk.zero).val, .int .i64 (Pk.told l).chk]) ∧ Below w.heap.size w w' := by
 have hmf : ∀ (fn : Fn) (first cap : Array Value) (w : World), (Instr.makeFunc fn first cap).run Tryz.prog w = .ok (.func fn first cap) w := fun _ _ _ _ => rfl
 have hlt7 := at8_lt l 7
 have hf4 : ((8 ≤ l.length ∧ l.length = 8 + at8 l 7) ∧ 128 ≤ at8 l 0) ∧ at8 l 0 ≤ 135 := by simpa [formB] using hform
 obtain ⟨⟨⟨h8, hl⟩, hh1⟩, hh2⟩ := hf4
 obtain ⟨q1, q2, q3⟩ := bit_facts (at8 l 0) hh1 hh2
 have htk : (l.drop 8).take (at8 l 7) = l.drop 8 := List.take_of_length_le (by simp; omega)
 obtain ⟨p, hp⟩ : ∃ p, p = Pk.told l := ⟨_, rfl⟩
 have hseq : num ((l.drop 1).take 2) = p.seq := by rw [hp]; rfl
 have htime : num ((l.drop 3).take 4) = p.time := by rw [hp]; rfl
 have ht : ba (l.drop 8) = p.t := by rw [hp]; rfl
 have hpf : (at8 l 0 % 2 == 1) = p.f := by rw [hp]; rfl
 have hpe : (at8 l 0 / 2 % 2 == 1) = p.e := by rw [hp]; rfl
 have hpk : (at8 l 0 / 4 % 2 == 1) = p.k := by rw [hp]; rfl
 rw [hpf] at q1
 rw [hpe] at q2
 rw [hpk] at q3
 have hn0 : num (l.take 1) = ((at8 l 0 : Nat) : Int) := by have := num_at l 0; rw [List.drop_zero] at this; exact this
 have hwk := fun (H P : Nat) (hv s0 t0 f0 e0 k0 x0 : Value) (w : World) (bH : Blk w H #[hv] 3) (bP : Blk w P #[s0, t0, f0, e0, k0, x0] 63) (hHP : H ≠ P) =>
  whole_ok H P (at8 l 7) l hv s0 t0 f0 e0 k0 x0 w bH bP hHP h8 (num_at l 7) (by omega) (by omega)
 have hdr : ba (l.drop (8 + at8 l 7)) = ⟨#[]⟩ := by rw [List.drop_of_length_le (by omega)]; rfl
 rw [hseq, htime, htk, ht, hn0, hdr] at hwk
 rw [← hp]
 obtain ⟨hd, hhd⟩ : ∃ hd : Nat, hd = at8 l 0 := ⟨_, rfl⟩
 rw [← hhd] at hwk q1 q2 q3 hh1 hh2
 have HW := @id (Hid _) hwk
 clear hwk hp hseq htime ht hpf hpe hpk hn0 htk hhd hl h8 hform hlt7 hdr
 have g1 : ¬ (hd : Int) < 128 := by omega
 have g2 : ¬ (135 : Int) < hd := by omega
 clear hh1 hh2
 obtain ⟨c, hc⟩ : ∃ c, c = p.chk := ⟨_, rfl⟩
 have HCK := @id (Hid (∀ w : World, Calls Tryz.prog 35 #[p.val] w fun e w' => e = .returned (.int .i64 c) ∧ w' = w.alloc (.cells p.cells 63))) (fun w => by rw [hc]; exact check_any p w)
 rw [← hc]
 clear hc
 obtain ⟨seq, time, f, e, k, t⟩ := p
 simp only [Pk.val, Pk.cells] at HCK HW q1 q2 q3
 cases hcz : (c == 0)
 ·simp only [Bool.false_eq_true, if_false, Pk.zero]
  have hne : (c != 0) = true := by simp at hcz; simp [hcz]
  go_enter Tryz.func104, Tryz.ntmps104
  go_wp2_with fail
  obtain ⟨W0, hW0⟩ : ∃ W0, W0 = ((w.alloc (.cells #[.int .i64 0, .int .i64 0, .bool false, .bool false, .bool false, .string ⟨#[]⟩] 63)).alloc (.cells #[.int .i64 0, .int .i64 0, .bool false, .bool false, .bool false, .string ⟨#[]⟩] 63)).alloc (.cells #[.int .i64 0] 3) := ⟨_, rfl⟩
  obtain ⟨bN0, bP0, bH0, hb0, hs0⟩ := dec_start w _ _ W0 hW0
  rw [← hW0]
  clear hW0
  refine (HW.out (w.heap.size + 1 + 1) (w.heap.size + 1) _ _ _ _ _ _ _ W0 bH0 bP0 (by omega)).mono ?_
  rintro r w1 ⟨rfl, bH1, bP1, k1⟩
  have bN1 := bN0.kept k1 (by simp; omega)
  obtain ⟨d0, d1, d2, d3, d4, d5, _, _, g2', g3', g4', _⟩ := bP1.six
  have cH := bH1.cell (j := 0) (u := .int .i64 hd) rfl
  have hb1 : Below w.heap.size w w1 := hb0.trans (k1.toBelow (by omega) (by intro k hk; simp at hk; omega))
  clear bN0 bP0 bH0 bH1 hb0 hs0 k1 HW
  go_wp2_with fail
  obtain ⟨W2, hW2⟩ : ∃ W2, W2 = ((w1.setCell ⟨w.heap.size + 1, 2, none⟩ (.bool f)).setCell ⟨w.heap.size + 1, 3, none⟩ (.bool e)).setCell ⟨w.heap.size + 1, 4, none⟩ (.bool k) := ⟨_, rfl⟩
  have bN2 : Blk W2 w.heap.size #[.int .i64 0, .int .i64 0, .bool false, .bool false, .bool false, .string ⟨#[]⟩] 63 := by
   rw [hW2]
   exact ((bN1.other (a := ⟨w.heap.size + 1, 2, none⟩) (by show w.heap.size ≠ w.heap.size + 1; omega) _).other (a := ⟨w.heap.size + 1, 3, none⟩) (by show w.heap.size ≠ w.heap.size + 1; omega) _).other (a := ⟨w.heap.size + 1, 4, none⟩) (by show w.heap.size ≠ w.heap.size + 1; omega) _
  have bP2 : Blk W2 (w.heap.size + 1) #[.int .i64 seq, .int .i64 time, .bool f, .bool e, .bool k, .string t] 63 := by
   rw [hW2]
   exact ((bP1.set 2 (.bool f)).set 3 (.bool e)).set 4 (.bool k)
  have hb2 : Below w.heap.size w W2 := by
   rw [hW2]
   exact ((hb1.setCell (p := ⟨w.heap.size + 1, 2, none⟩) (by show w.heap.size ≤ w.heap.size + 1; omega) _).setCell (p := ⟨w.heap.size + 1, 3, none⟩) (by show w.heap.size ≤ w.heap.size + 1; omega) _).setCell (p := ⟨w.heap.size + 1, 4, none⟩) (by show w.heap.size ≤ w.heap.size + 1; omega) _
  rw [← hW2]
  clear hW2 d0 d1 d2 d3 d4 d5 g2' g3' g4' cH hb1 bN1 bP1
  refine (HCK.out W2).mono ?_
  rintro r w3 ⟨rfl, hw3⟩
  have bN3 := bN2.alloc (.cells #[.int .i64 seq, .int .i64 time, .bool f, .bool e, .bool k, .string t] 63)
  have bP3 := bP2.alloc (.cells #[.int .i64 seq, .int .i64 time, .bool f, .bool e, .bool k, .string t] 63)
  have hb3 := hb2.alloc hb2.size (.cells #[.int .i64 seq, .int .i64 time, .bool f, .bool e, .bool k, .string t] 63)
  rw [← hw3] at bN3 bP3 hb3
  clear hw3
  obtain ⟨c0, c1, c2, c3, c4, c5, f0, f1, f2, f3, f4, f5⟩ := bN3.six
  obtain ⟨d0, d1, d2, d3, d4, d5, _⟩ := bP3.six
  go_wp2
  exact bodyPost_ret (v := .tuple #[.agg #[.int .i64 0, .int .i64 0, .bool false, .bool false, .bool false, .string ByteArray.empty], .int .i64 c]) (by simp [results, Tryz.results104, go_sem, c0, c1, c2, c3, c4, c5]; rfl) rfl ⟨rfl, by go_grown⟩
 ·have hc0 : c = 0 := by simpa using hcz
  subst hc0
  simp only [if_true]
  clear hcz
  go_enter Tryz.func104, Tryz.ntmps104
  go_wp2_with fail
  obtain ⟨W0, hW0⟩ : ∃ W0, W0 = ((w.alloc (.cells #[.int .i64 0, .int .i64 0, .bool false, .bool false, .bool false, .string ⟨#[]⟩] 63)).alloc (.cells #[.int .i64 0, .int .i64 0, .bool false, .bool false, .bool false, .string ⟨#[]⟩] 63)).alloc (.cells #[.int .i64 0] 3) := ⟨_, rfl⟩
  obtain ⟨bN0, bP0, bH0, hb0, hs0⟩ := dec_start w _ _ W0 hW0
  rw [← hW0]
  clear hW0
  refine (HW.out (w.heap.size + 1 + 1) (w.heap.size + 1) _ _ _ _ _ _ _ W0 bH0 bP0 (by omega)).mono ?_
  rintro r w1 ⟨rfl, bH1, bP1, k1⟩
  have bN1 := bN0.kept k1 (by simp; omega)
  obtain ⟨d0, d1, d2, d3, d4, d5, _, _, g2', g3', g4', _⟩ := bP1.six
  have cH := bH1.cell (j := 0) (u := .int .i64 hd) rfl
  have hb1 : Below w.heap.size w w1 := hb0.trans (k1.toBelow (by omega) (by intro k hk; simp at hk; omega))
  clear bN0 bP0 bH0 bH1 hb0 hs0 k1 HW
  go_wp2_with fail
  obtain ⟨W2, hW2⟩ : ∃ W2, W2 = ((w1.setCell ⟨w.heap.size + 1, 2, none⟩ (.bool f)).setCell ⟨w.heap.size + 1, 3, none⟩ (.bool e)).setCell ⟨w.heap.size + 1, 4, none⟩ (.bool k) := ⟨_, rfl⟩
  have bN2 : Blk W2 w.heap.size #[.int .i64 0, .int .i64 0, .bool false, .bool false, .bool false, .string ⟨#[]⟩] 63 := by
   rw [hW2]
   exact ((bN1.other (a := ⟨w.heap.size + 1, 2, none⟩) (by show w.heap.size ≠ w.heap.size + 1; omega) _).other (a := ⟨w.heap.size + 1, 3, none⟩) (by show w.heap.size ≠ w.heap.size + 1; omega) _).other (a := ⟨w.heap.size + 1, 4, none⟩) (by show w.heap.size ≠ w.heap.size + 1; omega) _
  have bP2 : Blk W2 (w.heap.size + 1) #[.int .i64 seq, .int .i64 time, .bool f, .bool e, .bool k, .string t] 63 := by
   rw [hW2]
   exact ((bP1.set 2 (.bool f)).set 3 (.bool e)).set 4 (.bool k)
  have hb2 : Below w.heap.size w W2 := by
   rw [hW2]
   exact ((hb1.setCell (p := ⟨w.heap.size + 1, 2, none⟩) (by show w.heap.size ≤ w.heap.size + 1; omega) _).setCell (p := ⟨w.heap.size + 1, 3, none⟩) (by show w.heap.size ≤ w.heap.size + 1; omega) _).setCell (p := ⟨w.heap.size + 1, 4, none⟩) (by show w.heap.size ≤ w.heap.size + 1; omega) _
  rw [← hW2]
  clear hW2 d0 d1 d2 d3 d4 d5 g2' g3' g4' cH hb1 bN1 bP1
  refine (HCK.out W2).mono ?_
  rintro r w3 ⟨rfl, hw3⟩
  have bN3 := bN2.alloc (.cells #[.int .i64 seq, .int .i64 time, .bool f, .bool e, .bool k, .string t] 63)
  have bP3 := bP2.alloc (.cells #[.int .i64 seq, .int .i64 time, .bool f, .bool e, .bool k, .string t] 63)
  have hb3 := hb2.alloc hb2.size (.cells #[.int .i64 seq, .int .i64 time, .bool f, .bool e, .bool k, .string t] 63)
  rw [← hw3] at bN3 bP3 hb3
  clear hw3
  obtain ⟨c0, c1, c2, c3, c4, c5, f0, f1, f2, f3, f4, f5⟩ := bN3.six
  obtain ⟨d0, d1, d2, d3, d4, d5, _⟩ := bP3.six
  go_wp2
  exact bodyPost_ret (v := .tuple #[.agg #[.int .i64 seq, .int .i64 time, .bool f, .bool e, .bool k, .string t], .int .i64 0]) (by simp [results, Tryz.results104, go_sem, c0, c1, c2, c3, c4, c5]) rfl ⟨rfl, by go_grown⟩
theorem decode_any (l : List UInt8) (w : World) :
  Calls Tryz.prog 104 #[.string (ba l)] w fun e w' => e = .returned (.tuple #[(Pk.dec l).1.val, .int .i64 (Pk.dec l).2]) ∧ Below w.heap.size w w' := by
 unfold Pk.dec
 cases hform : formB l
 ·exact decode_no l w hform
 ·have h := decode_form l w hform
  cases hc : ((Pk.told l).chk == 0)
  ·rw [hc] at h
   simpa using h
  ·rw [hc] at h
   have : (Pk.told l).chk = 0 := by simpa using hc
   rw [this] at h
   simpa using h
theorem u8_ext {a b : UInt8} (h : (a.toNat : Int) = (b.toNat : Int)) : a = b := by
 apply UInt8.toNat_inj.1; omega
theorem be1 (n : Int) : be n 1 = [byteU n 0] := rfl
theorem be2 (n : Int) : be n 2 = [byteU n 1, byteU n 0] := rfl
theorem be4 (n : Int) : be n 4 = [byteU n 3, byteU n 2, byteU n 1, byteU n 0] := rfl
theorem b0 (n : Int) : ((byteU n 0).toNat : Int) = n % 256 := by rw [byteU_toNat]; simp
theorem b1 (n : Int) : ((byteU n 1).toNat : Int) = n / 256 % 256 := by rw [byteU_toNat]; rfl
theorem b2 (n : Int) : ((byteU n 2).toNat : Int) = n / 65536 % 256 := by rw [byteU_toNat]; rfl
theorem b3 (n : Int) : ((byteU n 3).toNat : Int) = n / 16777216 % 256 := by rw [byteU_toNat]; rfl
theorem num2 (a b : UInt8) : num [a, b] = a.toNat * 256 + b.toNat := by simp [num]
theorem num4 (a b c d : UInt8) : num [a, b, c, d] = ((a.toNat * 256 + b.toNat) * 256 + c.toNat) * 256 + d.toNat := by simp [num]
theorem be_num2 (a b : UInt8) : byteU (num [a, b]) 1 = a ∧ byteU (num [a, b]) 0 = b := by
 have ha := a.toNat_lt
 have hb := b.toNat_lt
 refine ⟨u8_ext ?_, u8_ext ?_⟩
 ·rw [b1, num2]; omega
 ·rw [b0, num2]; omega
theorem be_num4 (a b c d : UInt8) : byteU (num [a, b, c, d]) 3 = a ∧ byteU (num [a, b, c, d]) 2 = b ∧ byteU (num [a, b, c, d]) 1 = c ∧ byteU (num [a, b, c, d]) 0 = d := by
 have ha := a.toNat_lt
 have hb := b.toNat_lt
 have hc := c.toNat_lt
 have hd := d.toNat_lt
 refine ⟨u8_ext ?_, u8_ext ?_, u8_ext ?_, u8_ext ?_⟩
 ·rw [b3, num4]; omega
 ·rw [b2, num4]; omega
 ·rw [b1, num4]; omega
 ·rw [b0, num4]; omega
theorem Pk.enc_eq (p : Pk) : p.enc = byteU (128 + Pk.flags p.f p.e p.k) 0 :: byteU p.seq 1 :: byteU p.seq 0 :: byteU p.time 3 :: byteU p.time 2 :: byteU p.time 1 :: byteU p.time 0 :: byteU p.t.size 0 :: p.t.data.toList := by
 simp [Pk.enc, be1, be2, be4]
theorem form_eq (a0 a1 a2 a3 a4 a5 a6 a7 : UInt8) (r : List UInt8) : formB (a0 :: a1 :: a2 :: a3 :: a4 :: a5 :: a6 :: a7 :: r) = (decide (r.length = a7.toNat) && decide (128 ≤ a0.toNat) && decide (a0.toNat ≤ 135)) := by
 have e1 : (8 ≤ (a0 :: a1 :: a2 :: a3 :: a4 :: a5 :: a6 :: a7 :: r).length) = True := by simp
 have e2 : ((a0 :: a1 :: a2 :: a3 :: a4 :: a5 :: a6 :: a7 :: r).length = 8 + a7.toNat) = (r.length = a7.toNat) := by simp; omega
 simp only [formB, at8]
 show (decide (8 ≤ (a0 :: a1 :: a2 :: a3 :: a4 :: a5 :: a6 :: a7 :: r).length) && decide ((a0 :: a1 :: a2 :: a3 :: a4 :: a5 :: a6 :: a7 :: r).length = 8 + a7.toNat) && decide (128 ≤ a0.toNat) && decide (a0.toNat ≤ 135)) = _
 simp only [e1, e2, decide_true, Bool.true_and]
theorem told_eq (a0 a1 a2 a3 a4 a5 a6 a7 : UInt8) (r : List UInt8) : Pk.told (a0 :: a1 :: a2 :: a3 :: a4 :: a5 :: a6 :: a7 :: r) = ⟨num [a1, a2], num [a3, a4, a5, a6], a0.toNat % 2 == 1, a0.toNat / 2 % 2 == 1, a0.toNat / 4 % 2 == 1, ba r⟩ := rfl
theorem bits_flags (a : UInt8) (h1 : 128 ≤ a.toNat) (h2 : a.toNat ≤ 135) : byteU (128 + Pk.flags (a.toNat % 2 == 1) (a.toNat / 2 % 2 == 1) (a.toNat / 4 % 2 == 1)) 0 = a := by
 apply u8_ext
 rw [b0]
 have : a.toNat = 128 ∨ a.toNat = 129 ∨ a.toNat = 130 ∨ a.toNat = 131 ∨ a.toNat = 132 ∨ a.toNat = 133 ∨ a.toNat = 134 ∨ a.toNat = 135 := by omega
 rcases this with h | h | h | h | h | h | h | h <;> rw [h] <;> decide
theorem Pk.enc_dec (l : List UInt8) (hf : formB l = true) : (Pk.told l).enc = l := by
 match l, hf with
 | [], hf => exact absurd hf (by decide)
 | [_], hf => simp [formB] at hf
 | [_, _], hf => simp [formB] at hf
 | [_, _, _], hf => simp [formB] at hf
 | [_, _, _, _], hf => simp [formB] at hf
 | [_, _, _, _, _], hf => simp [formB] at hf
 | [_, _, _, _, _, _], hf => simp [formB] at hf
 | [_, _, _, _, _, _, _], hf => simp [formB] at hf
 | a0 :: a1 :: a2 :: a3 :: a4 :: a5 :: a6 :: a7 :: r, hf =>
  rw [form_eq] at hf
  have hh : (r.length = a7.toNat ∧ 128 ≤ a0.toNat) ∧ a0.toNat ≤ 135 := by simpa using hf
  rw [told_eq, Pk.enc_eq]
  simp only
  rw [bits_flags a0 hh.1.2 hh.2, (be_num2 a1 a2).1, (be_num2 a1 a2).2, (be_num4 a3 a4 a5 a6).1, (be_num4 a3 a4 a5 a6).2.1, (be_num4 a3 a4 a5 a6).2.2.1, (be_num4 a3 a4 a5 a6).2.2.2, ba_data, ba_size, hh.1.1]
  have : byteU (a7.toNat : Int) 0 = a7 := u8_ext (by rw [b0]; have := a7.toNat_lt; omega)
  rw [this]
theorem Pk.dec_or (l : List UInt8) : ((Pk.dec l).1 = Pk.zero ∧ ((Pk.dec l).2 == 0) = false) ∨ ((Pk.dec l).2 = 0 ∧ (Pk.dec l).1.chk = 0 ∧ (Pk.dec l).1.enc = l) := by
 unfold Pk.dec
 cases hf : formB l
 ·exact .inl ⟨rfl, rfl⟩
 ·cases hc : ((Pk.told l).chk == 0)
  ·exact .inl ⟨by simp, by simpa using hc⟩
  ·exact .inr ⟨by simp, by simpa using hc, by simpa using Pk.enc_dec l hf⟩
end Go.Proofs.YtnpaejknoipicagGreat
namespace Go.Proofs.YtnpaejknoipicagGreat
def addF (l : List Sk) (x : Sk) : Fr := ⟨addT l x, addK l x, addP l x⟩
theorem takeF_chk {l : List Sk} {x : Sk} (hl : ∀ y ∈ l, y.chk = 0) (hx : x.chk = 0) : ∀ y ∈ takeF l x, y.chk = 0 := fun y hy => by
 rcases takeF_mem hy with h | h
 ·exact hl y h
 ·rw [h]; exact hx
theorem ochk_len {l : List Sk} (h : ochk l = 0) : l.length ≤ 3 ∧ ogo none l = 0 ∧ ∀ y ∈ l, y.chk = 0 := by
 unfold ochk at h
 by_cases h4 : 4 ≤ l.length
 ·rw [if_pos h4] at h; cases h
 ·rw [if_neg h4] at h
  exact ⟨by omega, h, ogo_all l none h⟩
theorem ochk_add {l : List Sk} {x : Sk} (h : ochk l = 0) (hx : x.chk = 0) : ochk (addO l x) = 0 := by
 obtain ⟨h1, h2, h3⟩ := ochk_len h
 unfold addO
 cases hw : addW l x
 ·rw [if_neg (by simp)]
  by_cases h4 : (takeF l x).length = 4
  ·rw [if_pos h4]; rfl
  ·rw [if_neg h4]
   unfold addW at hw
   unfold takeF at h4 hw ⊢
   by_cases hf : x.p.f = true
   ·rw [if_pos hf] at hw ⊢
    have he : x.p.e = false := by simpa using hw
    unfold ochk
    rw [if_neg (by simp)]
    simp [ogo, hx, badO, hf, he]
   ·rw [if_neg hf] at h4 hw ⊢
    have hff : x.p.f = false := by simpa using hf
    by_cases hc : 0 < l.length ∧ folB (lastSk l) x = true
    ·rw [if_pos hc] at h4 hw ⊢
     have he : x.p.e = false := by simpa using hw
     rw [List.length_append, List.length_singleton] at h4
     unfold ochk
     rw [if_neg (by rw [List.length_append, List.length_singleton]; omega), ogo_split _ _ _ _ h2]
     have hlast : l.foldl (fun _ y => some y) none = some (lastSk l) := by
      have := olast_at l none l.length (Nat.le_refl _)
      rw [List.take_length, if_neg (by omega)] at this
      exact this
     rw [hlast]
     simp [ogo, hx, badO, he, nextB, hff, hc.2]
    ·rw [if_neg hc]; rfl
 ·rw [if_pos rfl]; rfl
theorem addF_right {l : List Sk} {x : Sk} (h : ochk l = 0) (hx : x.chk = 0) (hw : addW l x = true) : (addF l x).chk = 0 := by
 obtain ⟨h1, _, h3⟩ := ochk_len h
 have ht := takeF_chk h3 hx
 have hlen := takeF_len l x
 have hw0 := hw
 unfold addW at hw0
 simp only [Bool.and_eq_true, decide_eq_true_eq] at hw0
 unfold addF Fr.chk chkF
 simp only
 unfold addT addP
 rw [if_pos hw, if_pos hw]
 have h0 : (takeF l x)[0]?.getD Sk.zero ∈ takeF l x := by
  rw [List.getElem?_eq_getElem hw0.1, Option.getD_some]; exact List.getElem_mem _
 obtain ⟨_, _, c3, c4, _⟩ := Pk.chk_ok (Sk.chk_zero (ht _ h0)).2.2.1
 have hp : (texts (takeF l x)).length = (takeF l x).length := by unfold texts; rw [List.length_map]
 rw [if_neg (by omega), if_neg (by omega), if_neg (by omega), if_neg]
 intro hany
 obtain ⟨s, hs, hl⟩ := List.any_eq_true.1 hany
 unfold texts at hs
 obtain ⟨y, hy, e⟩ := List.mem_map.1 hs
 have := Sk.chk_short (ht y hy)
 rw [e] at this
 unfold longB at hl
 have := of_decide_eq_true hl
 omega
structure Tr where
 last : Int
 next : Int
 h : List Sk
 o : List Sk
 first : Int
 L : List (List Fr)
 O : List Fr
def Tr.zero : Tr := ⟨0, 0, [], [], 0, [], []⟩
def Tr.chk (t : Tr) : Int :=
 if ¬ t.last = 0 ∧ Cn.isNB t.last = false then 3 else
  if bchk t.next t.h = 0 then
   (if ochk t.o = 0 then (if stchk t.first t.L t.O = 0 then (if (t.last == 0) = (t.next == 0) then 0 else 4) else stchk t.first t.L t.O) else ochk t.o)
  else bchk t.next t.h
theorem Tr.chk_zero {t : Tr} : t.chk = 0 ↔ (t.last = 0 ∨ Cn.isNB t.last = true) ∧ Right t.next t.h ∧ ochk t.o = 0 ∧ stchk t.first t.L t.O = 0 ∧ (t.last = 0 ↔ t.next = 0) := by
 unfold Tr.chk
 rw [← bchk_right]
 have hbe : ((t.last == 0) = (t.next == 0)) ↔ (t.last = 0 ↔ t.next = 0) := by
  by_cases h1 : t.last = 0 <;> by_cases h2 : t.next = 0
  ·simp [h1, h2]
  ·simp [h1, h2]
  ·simp [h1, h2]
  ·have e1 : (t.last == 0) = false := by simpa using h1
   have e2 : (t.next == 0) = false := by simpa using h2
   rw [e1, e2]; simp [h1, h2]
 by_cases h1 : ¬ t.last = 0 ∧ Cn.isNB t.last = false
 ·rw [if_pos h1]
  refine ⟨fun h => (by cases h), fun h => ?_⟩
  rcases h.1 with h | h
  ·exact absurd h h1.1
  ·rw [h] at h1; cases h1.2
 rw [if_neg h1]
 have h1' : t.last = 0 ∨ Cn.isNB t.last = true := by
  by_cases h : t.last = 0
  ·exact .inl h
  ·right
   cases hb : Cn.isNB t.last
   ·exact absurd ⟨h, hb⟩ h1
   ·rfl
 by_cases h2 : bchk t.next t.h = 0
 ·rw [if_pos h2]
  by_cases h3 : ochk t.o = 0
  ·rw [if_pos h3]
   by_cases h4 : stchk t.first t.L t.O = 0
   ·rw [if_pos h4]
    by_cases h5 : (t.last == 0) = (t.next == 0)
    ·rw [if_pos h5]; exact ⟨fun _ => ⟨h1', h2, h3, h4, hbe.1 h5⟩, fun _ => rfl⟩
    ·rw [if_neg h5]; exact ⟨fun h => (by cases h), fun h => absurd (hbe.2 h.2.2.2.2) h5⟩
   ·rw [if_neg h4]; exact ⟨fun h => absurd h h4, fun h => absurd h.2.2.2.1 h4⟩
  ·rw [if_neg h3]; exact ⟨fun h => absurd h h3, fun h => absurd h.2.2.1 h3⟩
 ·rw [if_neg h2]; exact ⟨fun h => absurd h h2, fun h => absurd h.2.1 h2⟩
def Tr.buf (t : Tr) (l n : Int) (h : List Sk) : Tr := ⟨l, n, h, t.o, t.first, t.L, t.O⟩
def tk1 (t : Tr) (x : Sk) : Tr × Nat × Int :=
 if addW t.o x then (⟨t.last, t.next, t.h, addO t.o x, addsF t.first t.L t.O (addF t.o x), addsL t.first t.L t.O (addF t.o x), addsO t.first t.L t.O (addF t.o x)⟩, if addsB t.first t.L t.O (addF t.o x) then 1 else 0, addsE t.first t.L t.O (addF t.o x))
 else (⟨t.last, t.next, t.h, addO t.o x, t.first, t.L, t.O⟩, 0, 0)
def tkN : List Sk → Tr × Nat → Tr × Nat × Int
 | [], s => (s.1, s.2, 0)
 | x :: r, s => if (tk1 s.1 x).2.2 = 0 then tkN r ((tk1 s.1 x).1, s.2 + (tk1 s.1 x).2.1) else (Tr.zero, 0, (tk1 s.1 x).2.2)
def numE (last : Int) (p : Pk) : Int := if last = 0 then 0 else Cn.uwE last p.seq
def numN (last : Int) (p : Pk) : Int := if last = 0 then p.seq + 65536 else Cn.uwN last p.seq
def feedP (t : Tr) (n : Int) (p : Pk) : Tr × Nat × Int := tkN (putF t.next t.h ⟨n, p⟩).2.2 (t.buf (max t.last n) (putF t.next t.h ⟨n, p⟩).1 (putF t.next t.h ⟨n, p⟩).2.1, 0)
def feedR (t : Tr) (s : List UInt8) : Tr × Nat × Int :=
 if (Pk.dec s).2 = 0 then (if numE t.last (Pk.dec s).1 = 0 then feedP t (numN t.last (Pk.dec s).1) (Pk.dec s).1 else (Tr.zero, 0, numE t.last (Pk.dec s).1)) else (Tr.zero, 0, (Pk.dec s).2)
def feedA (t : Tr) (s : List UInt8) : Tr × Nat × Int := if t.chk = 0 then feedR t s else (Tr.zero, 0, t.chk)
theorem tk1_keep (t : Tr) (x : Sk) : (tk1 t x).1.last = t.last ∧ (tk1 t x).1.next = t.next ∧ (tk1 t x).1.h = t.h := by
 unfold tk1
 cases addW t.o x <;> exact ⟨rfl, rfl, rfl⟩
def TkOk (t : Tr) : Prop := ochk t.o = 0 ∧ stchk t.first t.L t.O = 0
theorem tk1_ok {t : Tr} {x : Sk} (h : TkOk t) (hx : x.chk = 0) : ((tk1 t x).2.2 = 0 ∧ TkOk (tk1 t x).1) ∨ (tk1 t x).2.2 = 2 := by
 obtain ⟨h1, h2⟩ := h
 have ho := ochk_add h1 hx
 unfold tk1
 cases hw : addW t.o x
 ·left; exact ⟨rfl, ho, h2⟩
 ·have hf := addF_right h1 hx hw
  simp only [if_true]
  by_cases hE : addsE t.first t.L t.O (addF t.o x) = 0
  ·left
   exact ⟨hE, ho, adds_right hE⟩
  ·right
   unfold addsE at hE ⊢
   rw [if_pos h2, if_pos hf] at hE ⊢
   split
   ·rfl
   ·rename_i h; rw [if_neg h] at hE; exact absurd rfl hE
theorem tkN_ok : ∀ (l : List Sk) (s : Tr × Nat), TkOk s.1 → (∀ x ∈ l, x.chk = 0) → ((tkN l s).2.2 = 0 ∧ TkOk (tkN l s).1 ∧ (tkN l s).1.last = s.1.last ∧ (tkN l s).1.next = s.1.next ∧ (tkN l s).1.h = s.1.h) ∨ ((tkN l s).2.2 = 2 ∧ (tkN l s).1 = Tr.zero ∧ (tkN l s).2.1 = 0)
 | [], s, h, _ => .inl ⟨rfl, h, rfl, rfl, rfl⟩
 | x :: r, s, h, hl => by
  simp only [tkN]
  rcases tk1_ok h (hl x List.mem_cons_self) with ⟨e, h'⟩ | e
  ·rw [if_pos e]
   have hk := tk1_keep s.1 x
   rcases tkN_ok r ((tk1 s.1 x).1, s.2 + (tk1 s.1 x).2.1) h' (fun y hy => hl y (List.mem_cons_of_mem _ hy)) with h3 | h3
   ·left
    obtain ⟨a1, a2, a3, a4, a5⟩ := h3
    exact ⟨a1, a2, by rw [a3]; exact hk.1, by rw [a4]; exact hk.2.1, by rw [a5]; exact hk.2.2⟩
   ·exact .inr h3
  ·rw [if_neg (by omega)]
   exact .inr ⟨e, rfl, rfl⟩
theorem tkN_bad : ∀ (l : List Sk) (s : Tr × Nat), ¬ (tkN l s).2.2 = 0 → (tkN l s).1 = Tr.zero ∧ (tkN l s).2.1 = 0
 | [], _, h => absurd rfl h
 | x :: r, s, h => by
  simp only [tkN] at h ⊢
  by_cases e : (tk1 s.1 x).2.2 = 0
  ·rw [if_pos e] at h ⊢
   exact tkN_bad r _ h
  ·rw [if_neg e]; exact ⟨rfl, rfl⟩
theorem feedA_bad {t : Tr} {s : List UInt8} (h : ¬ (feedA t s).2.2 = 0) : (feedA t s).1 = Tr.zero ∧ (feedA t s).2.1 = 0 := by
 unfold feedA at h ⊢
 by_cases h1 : t.chk = 0
 ·rw [if_pos h1] at h ⊢
  unfold feedR at h ⊢
  by_cases h2 : (Pk.dec s).2 = 0
  ·rw [if_pos h2] at h ⊢
   by_cases h3 : numE t.last (Pk.dec s).1 = 0
   ·rw [if_pos h3] at h ⊢; exact tkN_bad _ _ h
   ·rw [if_neg h3]; exact ⟨rfl, rfl⟩
  ·rw [if_neg h2]; exact ⟨rfl, rfl⟩
 ·rw [if_neg h1]; exact ⟨rfl, rfl⟩
theorem num_ok {last : Int} {p : Pk} (hp : p.chk = 0) (hl : last = 0 ∨ Cn.isNB last = true) (h : numE last p = 0) : Cn.isNB (numN last p) = true ∧ numN last p % 65536 = p.seq ∧ numE (max last (numN last p)) p = 0 ∧ numN (max last (numN last p)) p = numN last p ∧ Cn.isNB (max last (numN last p)) = true := by
 obtain ⟨p1, p2, _⟩ := Pk.chk_ok hp
 obtain ⟨n, hn⟩ : ∃ n, n = numN last p := ⟨_, rfl⟩
 have key : Cn.isNB n = true ∧ n % 65536 = p.seq ∧ (last = 0 ∨ (last - 32767 ≤ n ∧ n ≤ last + 32768)) := by
  unfold numE at h
  unfold numN at hn
  by_cases h0 : last = 0
  ·rw [if_pos h0] at hn
   subst hn
   exact ⟨Cn.isNB_true (by omega) (by omega), by omega, .inl h0⟩
  ·rw [if_neg h0] at h hn
   cases ho : Cn.okB last p.seq
   ·rw [(Cn.uw_no ho).1] at h; cases h
   ·rw [(Cn.uw_ok ho).2] at hn
    obtain ⟨_, _, _, b1, b2⟩ := Cn.okB_iff.1 ho
    obtain ⟨r1, r2, r3⟩ := Cn.raw_near last p.seq p1 p2
    subst hn
    exact ⟨Cn.isNB_true b1 b2, r1, .inr ⟨r2, r3⟩⟩
 obtain ⟨k1, k2, k3⟩ := key
 rw [← hn]
 obtain ⟨n1, n2⟩ := Cn.isNB_iff.1 k1
 obtain ⟨m, hm⟩ : ∃ m, m = max last n := ⟨_, rfl⟩
 rw [← hm]
 have hlb : last = 0 ∨ 65536 ≤ last ∧ last ≤ 1000000000 := hl.imp id Cn.isNB_iff.1
 have hm1 : 65536 ≤ m ∧ m ≤ 1000000000 ∧ m - 32767 ≤ n ∧ n ≤ m + 32768 := by omega
 have hm0 : ¬ m = 0 := by omega
 have hraw := Cn.raw_uniq m p.seq n k2 hm1.2.2.1 hm1.2.2.2
 have hok : Cn.okB m p.seq = true := Cn.okB_iff.2 ⟨⟨hm1.1, hm1.2.1⟩, p1, p2, by omega, by omega⟩
 refine ⟨k1, k2, ?_, ?_, Cn.isNB_true hm1.1 hm1.2.1⟩
 ·unfold numE; rw [if_neg hm0]; exact (Cn.uw_ok hok).1
 ·unfold numN; rw [if_neg hm0, (Cn.uw_ok hok).2]; exact hraw
theorem num_slot {last : Int} {p : Pk} (hp : p.chk = 0) (hl : last = 0 ∨ Cn.isNB last = true) (h : numE last p = 0) : (Sk.mk (numN last p) p).chk = 0 := by
 obtain ⟨h1, h2, _⟩ := num_ok hp hl h
 exact Sk.chk_ok h1 hp h2
theorem feed_right {t : Tr} {s : List UInt8} (h : (feedA t s).2.2 = 0) : (feedA t s).1.chk = 0 ∧ feedA (feedA t s).1 s = ((feedA t s).1, 0, 0) ∧ t.chk = 0 := by
 have hc : t.chk = 0 := by
  by_cases h1 : t.chk = 0
  ·exact h1
  ·unfold feedA at h; rw [if_neg h1] at h; exact h
 obtain ⟨c1, c2, c3, c4, c5⟩ := Tr.chk_zero.1 hc
 have e0 : feedA t s = feedR t s := by unfold feedA; rw [if_pos hc]
 have hd : (Pk.dec s).2 = 0 := by
  by_cases h1 : (Pk.dec s).2 = 0
  ·exact h1
  ·rw [e0] at h; unfold feedR at h; rw [if_neg h1] at h; exact absurd h h1
 have hp : (Pk.dec s).1.chk = 0 := by
  rcases Pk.dec_or s with ⟨_, h2⟩ | ⟨_, h2, _⟩
  ·rw [hd] at h2; cases h2
  ·exact h2
 have hn : numE t.last (Pk.dec s).1 = 0 := by
  by_cases h1 : numE t.last (Pk.dec s).1 = 0
  ·exact h1
  ·rw [e0] at h; unfold feedR at h; rw [if_pos hd, if_neg h1] at h; exact absurd h h1
 have e1 : feedA t s = feedP t (numN t.last (Pk.dec s).1) (Pk.dec s).1 := by rw [e0]; unfold feedR; rw [if_pos hd, if_pos hn]
 obtain ⟨n1, n2, n3, n4, n5⟩ := num_ok hp c1 hn
 have hx := num_slot hp c1 hn
 obtain ⟨i1, i2, i3, i4, i5, i6, i7⟩ := put_inv c2 hx
 rw [e1] at h ⊢
 have hall : ∀ y ∈ (putF t.next t.h ⟨numN t.last (Pk.dec s).1, (Pk.dec s).1⟩).2.2, y.chk = 0 := fun y hy => by
  rcases (i3 y hy).1 with e | e
  ·rw [e]; exact hx
  ·exact c2.2.2.1 y e
 obtain ⟨B, hB⟩ : ∃ B, B = t.buf (max t.last (numN t.last (Pk.dec s).1)) (putF t.next t.h ⟨numN t.last (Pk.dec s).1, (Pk.dec s).1⟩).1 (putF t.next t.h ⟨numN t.last (Pk.dec s).1, (Pk.dec s).1⟩).2.1 := ⟨_, rfl⟩
 have hBok : TkOk B := by rw [hB]; exact ⟨c3, c4⟩
 have hF : feedP t (numN t.last (Pk.dec s).1) (Pk.dec s).1 = tkN (putF t.next t.h ⟨numN t.last (Pk.dec s).1, (Pk.dec s).1⟩).2.2 (B, 0) := by rw [hB]; rfl
 rcases tkN_ok _ (B, 0) hBok hall with ⟨_, r2, r3, r4, r5⟩ | ⟨r1, _⟩
 ·rw [← hF] at r2 r3 r4 r5
  rw [hB] at r3 r4 r5
  obtain ⟨A, hA⟩ : ∃ A, A = (feedP t (numN t.last (Pk.dec s).1) (Pk.dec s).1).1 := ⟨_, rfl⟩
  rw [← hA] at r2 r3 r4 r5 ⊢
  have r3' : A.last = max t.last (numN t.last (Pk.dec s).1) := r3
  have r4' : A.next = (putF t.next t.h ⟨numN t.last (Pk.dec s).1, (Pk.dec s).1⟩).1 := r4
  have r5' : A.h = (putF t.next t.h ⟨numN t.last (Pk.dec s).1, (Pk.dec s).1⟩).2.1 := r5
  have hAlast : ¬ A.last = 0 := by rw [r3']; have := Cn.isNB_iff.1 n5; omega
  have hchk : A.chk = 0 := by
   refine Tr.chk_zero.2 ⟨.inr (by rw [r3']; exact n5), by rw [r4', r5']; exact i1, r2.1, r2.2, ⟨fun e => absurd e hAlast, fun e => absurd (r4'.symm.trans e) i7⟩⟩
  refine ⟨hchk, ?_, hc⟩
  unfold feedA
  rw [if_pos hchk]
  unfold feedR
  rw [if_pos hd, r3', if_pos n3, n4]
  unfold feedP
  have hag : putF A.next A.h ⟨numN t.last (Pk.dec s).1, (Pk.dec s).1⟩ = (A.next, A.h, []) := put_again (by rw [r4']; exact i7) (by rw [r4', r5']; exact i6)
  rw [hag]
  have hmm : max A.last (numN t.last (Pk.dec s).1) = A.last := by rw [r3']; omega
  rw [hmm]
  rfl
 ·rw [hF] at h; rw [h] at r1; cases r1
end Go.Proofs.YtnpaejknoipicagGreat
namespace Go.Proofs.YtnpaejknoipicagGreat
open Go.RowKit
def Stay (w : World) (P : World → Prop) : Prop := ∀ w', Below w.heap.size w w' → P w'
theorem Stay.now {w : World} {P : World → Prop} (h : Stay w P) : P w := h w (Below.refl _ _)
theorem Stay.step {w w' : World} {P : World → Prop} (h : Stay w P) (hb : Below w.heap.size w w') : Stay w' P := fun w'' h2 => h w'' (hb.trans (h2.mono hb.size))
theorem Stay.alloc {w : World} {P : World → Prop} (h : Stay w P) (o : Obj) : Stay (w.alloc o) P := h.step ((Below.refl _ w).alloc (Nat.le_refl _) _)
theorem Stay.and {w : World} {P Q : World → Prop} (h : Stay w P) (k : Stay w Q) : Stay w (fun U => P U ∧ Q U) := fun w' hb => ⟨h w' hb, k w' hb⟩
theorem Stay.imp {w : World} {P Q : World → Prop} (h : Stay w P) (k : ∀ U, P U → Q U) : Stay w Q := fun w' hb => k w' (h w' hb)
theorem Blk.stay {w : World} {b : Nat} {C : Array Value} {t : TypeId} (h : Blk w b C t) : Stay w (fun U => Blk U b C t) := fun _ hb => h.below hb h.lt
theorem FrsIn.stay {S : Nat → Prop} {w : World} {v : Value} {l : List Fr} (h : FrsIn S w v l) : Stay w (fun U => FrsIn S U v l) := fun _ hb => h.below hb
theorem StrsIn.stay {S : Nat → Prop} {w : World} {v : Value} {l : List ByteArray} (h : StrsIn S w v l) : Stay w (fun U => StrsIn S U v l) := fun _ hb => h.below hb
theorem GrsIn.stay {S : Nat → Prop} {w : World} {v : Value} {L : List (List Fr)} (h : GrsIn S w v L) : Stay w (fun U => GrsIn S U v L) := fun _ hb => h.below hb
theorem below_stay {B : Nat} {a w : World} (h : Below B a w) (hB : B ≤ w.heap.size) : Stay w (fun U => Below B a U) := fun _ hb => h.trans (hb.mono hB)
theorem below_stay0 (w : World) : Stay w (fun U => Below w.heap.size w U) := below_stay (Below.refl _ _) (Nat.le_refl _)
theorem Stay.hid {w : World} {P : World → Prop} (h : Stay w P) : Hid (Stay w P) := h
theorem Stay.go {w w' : World} {P : World → Prop} (h : Hid (Stay w P)) (hb : Below w.heap.size w w') : Hid (Stay w' P) := Stay.step h hb
theorem Stay.allocE {w W : World} {P : World → Prop} {o : Obj} (h : Stay w P) (e : W = w.alloc o) : Hid (Stay W P) := by subst e; exact h.alloc _
theorem Blk.newE {w W : World} {C : Array Value} {t : TypeId} (e : W = w.alloc (.cells C t)) : Blk W w.heap.size C t := by subst e; exact Blk.new _ _ _
theorem FrsIn.allocE {S : Nat → Prop} {w W : World} {v : Value} {l : List Fr} {o : Obj} (h : FrsIn S w v l) (e : W = w.alloc o) : FrsIn S W v l := by subst e; exact h.alloc _
theorem GrsIn.allocE {S : Nat → Prop} {w W : World} {v : Value} {L : List (List Fr)} {o : Obj} (h : GrsIn S w v L) (e : W = w.alloc o) : GrsIn S W v L := by subst e; exact h.alloc _
theorem StrsIn.allocE {S : Nat → Prop} {w W : World} {v : Value} {l : List ByteArray} {o : Obj} (h : StrsIn S w v l) (e : W = w.alloc o) : StrsIn S W v l := by subst e; exact h.alloc _
def SlsIn (S : Nat → Prop) (w : World) (v : Value) (l : List Sk) : Prop := Sls w v l ∧ l.length ≤ 9223372036854775807 ∧ ∀ g, v.ownBlock = some g → 0 < l.length → S g ∧ g < w.heap.size
theorem SlsIn.to {S S' : Nat → Prop} {w w' : World} {v : Value} {l : List Sk} (h : SlsIn S w v l) (hs : SameOn S w w') (hm : ∀ g, g < w.heap.size → S g → S' g) : SlsIn S' w' v l := by
 obtain ⟨⟨h1, h2⟩, h3, h4⟩ := h
 refine ⟨⟨h1, ?_⟩, h3, fun g hg h0 => ⟨hm g (h4 g hg h0).2 (h4 g hg h0).1, Nat.lt_of_lt_of_le (h4 g hg h0).2 hs.1⟩⟩
 rcases h2 with h2 | ⟨b, off, c, rfl, hlt, hc⟩
 ·exact .inl h2
 ·by_cases h0 : 0 < l.length
  ·exact .inr ⟨b, off, c, rfl, Nat.lt_of_lt_of_le hlt hs.1, fun j u hj => (World.cell?_of_block (hs.2 b hlt (h4 b rfl h0).1)).trans (hc j u hj)⟩
  ·refine .inl ⟨by omega, some ⟨b, off, none⟩, c, by congr 1; omega⟩
theorem SlsIn.below {S : Nat → Prop} {w w' : World} {v : Value} {l : List Sk} (h : SlsIn S w v l) (hb : Below w.heap.size w w') : SlsIn S w' v l := h.to (SameOn.of_below hb) fun _ _ h => h
theorem SlsIn.mono {S S' : Nat → Prop} {w : World} {v : Value} {l : List Sk} (h : SlsIn S w v l) (hm : ∀ g, g < w.heap.size → S g → S' g) : SlsIn S' w v l := h.to (SameOn.refl _ _) hm
theorem SlsIn.nil (S : Nat → Prop) (w : World) : SlsIn S w (.slice none 0 0) [] := ⟨Sls.nil w, Nat.zero_le _, fun g hg => by simp [Value.ownBlock] at hg⟩
theorem SlsIn.len {S : Nat → Prop} {w : World} {v : Value} {l : List Sk} (h : SlsIn S w v l) : ∃ a c, v = .slice a l.length c := h.1.len
theorem SlsIn.of {S : Nat → Prop} {w : World} {v : Value} {l : List Sk} (h : Sls w v l) (hl : l.length ≤ 9223372036854775807) (hS : ∀ g, v.ownBlock = some g → 0 < l.length → S g) : SlsIn S w v l := by
 refine ⟨h, hl, fun g hg h0 => ⟨hS g hg h0, ?_⟩⟩
 obtain ⟨_, h4 | ⟨b, off, c, rfl, hb, _⟩⟩ := h
 ·omega
 ·have : b = g := by simpa [Value.ownBlock] using hg
  subst this; exact hb
def TrIn (S : Nat → Prop) (w : World) (hv bv gv ov : Value) (t : Tr) : Prop := SlsIn S w hv t.h ∧ SlsIn S w bv t.o ∧ GrsIn S w gv t.L ∧ FrsIn S w ov t.O
theorem TrIn.to {S S' : Nat → Prop} {w w' : World} {hv bv gv ov : Value} {t : Tr} (h : TrIn S w hv bv gv ov t) (hs : SameOn S w w') (hm : ∀ g, g < w.heap.size → S g → S' g) : TrIn S' w' hv bv gv ov t :=
 ⟨h.1.to hs hm, h.2.1.to hs hm, h.2.2.1.to hs hm, h.2.2.2.to hs hm⟩
theorem TrIn.below {S : Nat → Prop} {w w' : World} {hv bv gv ov : Value} {t : Tr} (h : TrIn S w hv bv gv ov t) (hb : Below w.heap.size w w') : TrIn S w' hv bv gv ov t := h.to (SameOn.of_below hb) fun _ _ h => h
theorem TrIn.mono {S S' : Nat → Prop} {w : World} {hv bv gv ov : Value} {t : Tr} (h : TrIn S w hv bv gv ov t) (hm : ∀ g, g < w.heap.size → S g → S' g) : TrIn S' w hv bv gv ov t := h.to (SameOn.refl _ _) hm
theorem TrIn.zero (S : Nat → Prop) (w : World) : TrIn S w (.slice none 0 0) (.slice none 0 0) (.slice none 0 0) (.slice none 0 0) Tr.zero := ⟨SlsIn.nil _ _, SlsIn.nil _ _, GrsIn.nil _ _, FrsIn.nil _ _⟩
theorem TrIn.stay {S : Nat → Prop} {w : World} {hv bv gv ov : Value} {t : Tr} (h : TrIn S w hv bv gv ov t) : Stay w (fun U => TrIn S U hv bv gv ov t) := fun _ hb => h.below hb
theorem TrIn.slices {S : Nat → Prop} {w : World} {hv bv gv ov : Value} {t : Tr} (h : TrIn S w hv bv gv ov t) : ∃ ha hc ba bc ga gc oa oc, hv = .slice ha t.h.length hc ∧ bv = .slice ba t.o.length bc ∧ gv = .slice ga t.L.length gc ∧ ov = .slice oa t.O.length oc := by
 obtain ⟨h1, h2, h3, h4⟩ := h
 obtain ⟨a1, c1, e1⟩ := h1.len
 obtain ⟨a2, c2, e2⟩ := h2.len
 obtain ⟨a3, c3, e3, _⟩ := h3.len
 obtain ⟨a4, c4, e4, _⟩ := h4.len
 exact ⟨a1, c1, a2, c2, a3, c3, a4, c4, e1, e2, e3, e4⟩
abbrev Tr.cells (t : Tr) (hv bv gv ov : Value) : Array Value := #[.int .i64 t.last, .int .i64 t.next, hv, bv, .int .i64 t.first, gv, ov]
def TkB (S : Nat → Prop) (M : Nat) (w : World) (t : Tr) (c : Int) : Prop := ∃ hv bv gv ov, Blk w M #[.int .i64 t.last, .int .i64 t.next, hv, bv, .int .i64 t.first, gv, ov, .int .i64 c] 155 ∧ TrIn (fun g => S g ∧ g ≠ M) w hv bv gv ov t
theorem TkB.below {S : Nat → Prop} {M : Nat} {w w' : World} {t : Tr} {c : Int} (h : TkB S M w t c) (hb : Below w.heap.size w w') : TkB S M w' t c := by
 obtain ⟨hv, bv, gv, ov, h1, h2⟩ := h
 exact ⟨hv, bv, gv, ov, h1.below hb h1.lt, h2.below hb⟩
theorem TkB.lt {S : Nat → Prop} {M : Nat} {w : World} {t : Tr} {c : Int} (h : TkB S M w t c) : M < w.heap.size := by
 obtain ⟨_, _, _, _, h1, _⟩ := h
 exact h1.lt
theorem Blk.eight {w : World} {b : Nat} {x0 x1 x2 x3 x4 x5 x6 x7 : Value} {t : TypeId} (h : Blk w b #[x0, x1, x2, x3, x4, x5, x6, x7] t) :
  w.cell? ⟨b, 0, none⟩ = some x0 ∧ w.cell? ⟨b, 1, none⟩ = some x1 ∧ w.cell? ⟨b, 2, none⟩ = some x2 ∧ w.cell? ⟨b, 3, none⟩ = some x3 ∧ w.cell? ⟨b, 4, none⟩ = some x4 ∧ w.cell? ⟨b, 5, none⟩ = some x5 ∧ w.cell? ⟨b, 6, none⟩ = some x6 ∧ w.cell? ⟨b, 7, none⟩ = some x7 :=
 ⟨h.cell rfl, h.cell rfl, h.cell rfl, h.cell rfl, h.cell rfl, h.cell rfl, h.cell rfl, h.cell rfl⟩
theorem Blk.sevenc {w : World} {b : Nat} {x0 x1 x2 x3 x4 x5 x6 : Value} {t : TypeId} (h : Blk w b #[x0, x1, x2, x3, x4, x5, x6] t) :
  w.cell? ⟨b, 0, none⟩ = some x0 ∧ w.cell? ⟨b, 1, none⟩ = some x1 ∧ w.cell? ⟨b, 2, none⟩ = some x2 ∧ w.cell? ⟨b, 3, none⟩ = some x3 ∧ w.cell? ⟨b, 4, none⟩ = some x4 ∧ w.cell? ⟨b, 5, none⟩ = some x5 ∧ w.cell? ⟨b, 6, none⟩ = some x6 :=
 ⟨h.cell rfl, h.cell rfl, h.cell rfl, h.cell rfl, h.cell rfl, h.cell rfl, h.cell rfl⟩
end Go.Proofs.YtnpaejknoipicagGreat
namespace Go.Proofs.YtnpaejknoipicagGreat
open Go.ChangeShapes Go.WideShapes Go.ChangeAt Go.RowKit
section
variable {H : Type} {enc : TypeId × Value → H} {W : World} {r : Reach} {b0 base : Nat} {spare : Nat → Bool} {held : Bool} {v : Value} {d : DataW H} {p : List MemPlace}
theorem Tryz.cellsTrk : Tryz.prog.cellsOf 34 = 7 := by kernel_rfl
theorem Tryz.cellsTkI : Tryz.prog.cellsOf 3 = 1 := by kernel_rfl
theorem Tryz.cellsTkS : Tryz.prog.cellsOf 22 = 1 := by kernel_rfl
theorem Tryz.cellsTkB : Tryz.prog.cellsOf 24 = 2 := by kernel_rfl
theorem Tryz.cellsTkD : Tryz.prog.cellsOf 26 = 1 := by kernel_rfl
theorem Tryz.cellsTkSt : Tryz.prog.cellsOf 32 = 3 := by kernel_rfl
theorem Tryz.cellsTkGs : Tryz.prog.cellsOf 27 = 1 := by kernel_rfl
theorem Tryz.cellsTkG : Tryz.prog.cellsOf 30 = 1 := by kernel_rfl
theorem list7t {α : Type} {l : List α} (h : l.length = 7) : ∃ a b c d e f g, l = [a, b, c, d, e, f, g] := by
 match l, h with
 | [a, b, c, d, e, f, g], _ => exact ⟨a, b, c, d, e, f, g, rfl⟩
theorem list4t {α : Type} {l : List α} (h : l.length = 4) : ∃ a b c d, l = [a, b, c, d] := by
 match l, h with
 | [a, b, c, d], _ => exact ⟨a, b, c, d, rfl⟩
theorem slsIn_of {u : Value} {l : List Sk} (h : Sls W u l) (hl : l.length ≤ maxLen) : SlsIn (fun _ => True) W u l := SlsIn.of h (by unfold maxLen at hl; omega) fun _ _ _ => trivial
set_option maxRecDepth 100000 in
theorem trod_bufC {fuel : Nat} {k0 k1 : Value} {x : DataW H × List MemPlace} (h : DataW.trod enc Tryz.prog W base spare held fuel 24 [k0, k1] = some x) :
  ∃ (a : Int) (l : List Sk), k0 = .int .i64 a ∧ (Lit.int .i64 a).wf = true ∧ SlsIn (fun _ => True) W k1 l ∧ (∀ s ∈ l, s.fits) ∧ ∀ a n c, k1 = .slice a n c → n ≤ c := by
 obtain ⟨xs, n, _, _, _, hxl, hg⟩ := DataW.trod_struct Tryz.underlying24 h
 obtain ⟨x0, x1, rfl⟩ := list2 (show xs.length = 2 from hxl)
 have h0 : DataW.trod enc Tryz.prog W base spare held n 3 (([k0, k1].drop 0).take (Tryz.prog.cellsOf 3)) = some x0 := hg 0 _ rfl
 have h1 : DataW.trod enc Tryz.prog W base spare held n 22 (([k0, k1].drop 1).take (Tryz.prog.cellsOf 22)) = some x1 := hg 1 _ rfl
 rw [Tryz.cellsTkI] at h0
 rw [Tryz.cellsTkS] at h1
 obtain ⟨a, ea, _, wa⟩ := DataW.trod_int Tryz.underlying3 h0
 obtain ⟨u, l, eu, hS, hfit, hlen, hcap, _⟩ := trod_slots h1
 simp at ea eu
 subst ea eu
 exact ⟨a, l, rfl, wa, slsIn_of hS hlen, hfit, hcap⟩
set_option maxRecDepth 100000 in
theorem trod_bldC {fuel : Nat} {k0 : Value} {x : DataW H × List MemPlace} (h : DataW.trod enc Tryz.prog W base spare held fuel 26 [k0] = some x) :
  ∃ (l : List Sk), SlsIn (fun _ => True) W k0 l ∧ ∀ s ∈ l, s.fits := by
 obtain ⟨xs, n, _, _, _, hxl, hg⟩ := DataW.trod_struct Tryz.underlying26 h
 obtain ⟨x0, rfl⟩ := list1 (show xs.length = 1 from hxl)
 have h1 : DataW.trod enc Tryz.prog W base spare held n 22 (([k0].drop 0).take (Tryz.prog.cellsOf 22)) = some x0 := hg 0 _ rfl
 rw [Tryz.cellsTkS] at h1
 obtain ⟨u, l, eu, hS, hfit, hlen, _⟩ := trod_slots h1
 simp at eu
 subst eu
 exact ⟨l, slsIn_of hS hlen, hfit⟩
set_option maxRecDepth 100000 in
theorem trod_storeC {fuel : Nat} {k0 k1 k2 : Value} {x : DataW H × List MemPlace} (h : DataW.trod enc Tryz.prog W base spare held fuel 32 [k0, k1, k2] = some x) :
  ∃ (a : Int) (L : List (List Fr)) (O : List Fr), k0 = .int .i64 a ∧ (Lit.int .i64 a).wf = true ∧ GrsIn (fun _ => True) W k1 L ∧ FrsIn (fun _ => True) W k2 O := by
 obtain ⟨xs, n, _, _, _, hxl, hg⟩ := DataW.trod_struct Tryz.underlying32 h
 obtain ⟨x0, x1, x2, rfl⟩ := list3 (show xs.length = 3 from hxl)
 have h0 : DataW.trod enc Tryz.prog W base spare held n 3 (([k0, k1, k2].drop 0).take (Tryz.prog.cellsOf 3)) = some x0 := hg 0 _ rfl
 have h1 : DataW.trod enc Tryz.prog W base spare held n 27 (([k0, k1, k2].drop 1).take (Tryz.prog.cellsOf 27)) = some x1 := hg 1 _ rfl
 have h2 : DataW.trod enc Tryz.prog W base spare held n 30 (([k0, k1, k2].drop 2).take (Tryz.prog.cellsOf 30)) = some x2 := hg 2 _ rfl
 rw [Tryz.cellsTkI] at h0
 rw [Tryz.cellsTkGs] at h1
 rw [Tryz.cellsTkG] at h2
 obtain ⟨a, ea, _, wa⟩ := DataW.trod_int Tryz.underlying3 h0
 obtain ⟨u1, L, eu1, hL⟩ := trod_grs h1
 obtain ⟨u2, O, eu2, hO⟩ := trod_grp h2
 simp at ea eu1 eu2
 subst ea eu1 eu2
 exact ⟨a, L, O, rfl, wa, hL, hO⟩
set_option maxRecDepth 100000 in
theorem op_track (hval : Value.okWide Tryz.prog W r b0 34 v) (h : DataW.Trod enc Tryz.prog W base spare held 34 v d p) :
  ∃ (t : Tr) (hv bv gv ov : Value), v = .agg #[.int .i64 t.last, .int .i64 t.next, hv, bv, .int .i64 t.first, gv, ov] ∧ TrIn (fun _ => True) W hv bv gv ov t ∧ (Lit.int .i64 t.last).wf = true ∧ (Lit.int .i64 t.next).wf = true ∧ (Lit.int .i64 t.first).wf = true ∧ (∀ s ∈ t.h, s.fits) ∧ (∀ s ∈ t.o, s.fits) ∧ ∀ a n c, hv = .slice a n c → n ≤ c := by
 obtain ⟨cs, rfl, _⟩ := okWide_struct Tryz.underlying34 hval
 obtain ⟨fuel, hf⟩ := h
 obtain ⟨xs, n, _, _, hl, hxl, hg⟩ := DataW.trod_struct Tryz.underlying34 hf
 rw [Tryz.cellsTrk] at hl
 obtain ⟨c0, c1, c2, c3, c4, c5, c6, hcs⟩ := list7t hl
 obtain ⟨x0, x1, x2, x3, rfl⟩ := list4t (show xs.length = 4 from hxl)
 rw [hcs] at hg
 have h0 : DataW.trod enc Tryz.prog W base spare held n 3 (([c0, c1, c2, c3, c4, c5, c6].drop 0).take (Tryz.prog.cellsOf 3)) = some x0 := hg 0 _ rfl
 have h1 : DataW.trod enc Tryz.prog W base spare held n 24 (([c0, c1, c2, c3, c4, c5, c6].drop 1).take (Tryz.prog.cellsOf 24)) = some x1 := hg 1 _ rfl
 have h2 : DataW.trod enc Tryz.prog W base spare held n 26 (([c0, c1, c2, c3, c4, c5, c6].drop 3).take (Tryz.prog.cellsOf 26)) = some x2 := hg 2 _ rfl
 have h3 : DataW.trod enc Tryz.prog W base spare held n 32 (([c0, c1, c2, c3, c4, c5, c6].drop 4).take (Tryz.prog.cellsOf 32)) = some x3 := hg 3 _ rfl
 rw [Tryz.cellsTkI] at h0
 rw [Tryz.cellsTkB] at h1
 rw [Tryz.cellsTkD] at h2
 rw [Tryz.cellsTkSt] at h3
 obtain ⟨a, ea, _, wa⟩ := DataW.trod_int Tryz.underlying3 h0
 obtain ⟨b, lh, rfl, wb, hh, fh, hcp⟩ := trod_bufC (k0 := c1) (k1 := c2) h1
 obtain ⟨lo, ho, fo⟩ := trod_bldC (k0 := c3) h2
 obtain ⟨f, L, O, rfl, wf, hL, hO⟩ := trod_storeC (k0 := c4) (k1 := c5) (k2 := c6) h3
 simp at ea
 subst ea
 refine ⟨⟨a, b, lh, lo, f, L, O⟩, c2, c3, c5, c6, ?_, ⟨hh, ho, hL, hO⟩, wa, wb, wf, fh, fo, hcp⟩
 have : cs = #[.int .i64 a, .int .i64 b, c2, c3, .int .i64 f, c5, c6] := by
  apply Array.ext'
  simpa [Value.cells] using hcs
 rw [this]
end
end Go.Proofs.YtnpaejknoipicagGreat
namespace Go.Proofs.YtnpaejknoipicagGreat
open Go.ChangeShapes Go.WideShapes Go.ChangeAt Go.RowKit
open Go.ChangeMaps (open_string shut_string)
section
variable {H : Type} {enc : TypeId × Value → H} {W : World} {r : Reach} {b0 base : Nat} {spare : Nat → Bool} {held : Bool} {v : Value} {d : DataW H} {p : List MemPlace}
theorem Tryz.cellsVw : Tryz.prog.cellsOf 40 = 6 := by kernel_rfl
theorem Tryz.cellsCu : Tryz.prog.cellsOf 36 = 3 := by kernel_rfl
theorem Tryz.cellsOu : Tryz.prog.cellsOf 38 = 3 := by kernel_rfl
theorem list3v {α : Type} {l : List α} (h : l.length = 3) : ∃ c0 c1 c2, l = [c0, c1, c2] := by
 match l, h with
 | [c0, c1, c2], _ => exact ⟨c0, c1, c2, rfl⟩
theorem list2v {α : Type} {l : List α} (h : l.length = 2) : ∃ c0 c1, l = [c0, c1] := by
 match l, h with
 | [c0, c1], _ => exact ⟨c0, c1, rfl⟩
theorem list6v {α : Type} {l : List α} (h : l.length = 6) : ∃ c0 c1 c2 c3 c4 c5, l = [c0, c1, c2, c3, c4, c5] := by
 match l, h with
 | [c0, c1, c2, c3, c4, c5], _ => exact ⟨c0, c1, c2, c3, c4, c5, rfl⟩
theorem trod_cuV {fuel : Nat} {k0 k1 k2 : Value} {x : DataW H × List MemPlace} (h : DataW.trod enc Tryz.prog W base spare held fuel 36 [k0, k1, k2] = some x) : ∃ a b c : Int, k0 = .int .i64 a ∧ k1 = .int .i64 b ∧ k2 = .int .i64 c := by
 obtain ⟨xs, n, _, _, hl, hxl, hf⟩ := DataW.trod_struct Tryz.underlying36 h
 obtain ⟨x0, x1, x2, rfl⟩ := list3v (show xs.length = 3 from hxl)
 have h0 : DataW.trod enc Tryz.prog W base spare held n 3 (([k0, k1, k2].drop 0).take (Tryz.prog.cellsOf 3)) = some x0 := hf 0 _ rfl
 have h1 : DataW.trod enc Tryz.prog W base spare held n 3 (([k0, k1, k2].drop 1).take (Tryz.prog.cellsOf 3)) = some x1 := hf 1 _ rfl
 have h2 : DataW.trod enc Tryz.prog W base spare held n 3 (([k0, k1, k2].drop 2).take (Tryz.prog.cellsOf 3)) = some x2 := hf 2 _ rfl
 rw [Tryz.cellsInt] at h0 h1 h2
 obtain ⟨a0, e0, _, _⟩ := DataW.trod_int Tryz.underlying3 h0
 obtain ⟨a1, e1, _, _⟩ := DataW.trod_int Tryz.underlying3 h1
 obtain ⟨a2, e2, _, _⟩ := DataW.trod_int Tryz.underlying3 h2
 simp at e0 e1 e2
 exact ⟨a0, a1, a2, e0, e1, e2⟩
theorem trod_ouV {fuel : Nat} {k0 k1 k2 : Value} {x : DataW H × List MemPlace} (h : DataW.trod enc Tryz.prog W base spare held fuel 38 [k0, k1, k2] = some x) : ∃ a b c : Int, k0 = .int .i64 a ∧ k1 = .int .i64 b ∧ k2 = .int .i64 c := by
 obtain ⟨xs, n, _, _, hl, hxl, hf⟩ := DataW.trod_struct Tryz.underlying38 h
 obtain ⟨x0, x1, x2, rfl⟩ := list3v (show xs.length = 3 from hxl)
 have h0 : DataW.trod enc Tryz.prog W base spare held n 3 (([k0, k1, k2].drop 0).take (Tryz.prog.cellsOf 3)) = some x0 := hf 0 _ rfl
 have h1 : DataW.trod enc Tryz.prog W base spare held n 3 (([k0, k1, k2].drop 1).take (Tryz.prog.cellsOf 3)) = some x1 := hf 1 _ rfl
 have h2 : DataW.trod enc Tryz.prog W base spare held n 3 (([k0, k1, k2].drop 2).take (Tryz.prog.cellsOf 3)) = some x2 := hf 2 _ rfl
 rw [Tryz.cellsInt] at h0 h1 h2
 obtain ⟨a0, e0, _, _⟩ := DataW.trod_int Tryz.underlying3 h0
 obtain ⟨a1, e1, _, _⟩ := DataW.trod_int Tryz.underlying3 h1
 obtain ⟨a2, e2, _, _⟩ := DataW.trod_int Tryz.underlying3 h2
 simp at e0 e1 e2
 exact ⟨a0, a1, a2, e0, e1, e2⟩
set_option maxRecDepth 100000 in
theorem op_vw (hval : Value.okWide Tryz.prog W r b0 40 v) (h : DataW.Trod enc Tryz.prog W base spare held 40 v d p) :
  ∃ m g f l t s : Int, v = .agg #[.int .i64 m, .int .i64 g, .int .i64 f, .int .i64 l, .int .i64 t, .int .i64 s] := by
 obtain ⟨cs, rfl, _⟩ := okWide_struct Tryz.underlying40 hval
 obtain ⟨fuel, hf⟩ := h
 obtain ⟨xs, n, _, _, hl, hxl, hg⟩ := DataW.trod_struct Tryz.underlying40 hf
 rw [Tryz.cellsVw] at hl
 have hl' : cs.toList.length = 6 := by simpa [Value.cells] using hl
 obtain ⟨c0, c1, c2, c3, c4, c5, e6⟩ := list6v hl'
 obtain ⟨x0, x1, rfl⟩ := list2v (show xs.length = 2 from hxl)
 have h0 : DataW.trod enc Tryz.prog W base spare held n 36 ((cs.toList.drop 0).take (Tryz.prog.cellsOf 36)) = some x0 := hg 0 _ rfl
 have h1 : DataW.trod enc Tryz.prog W base spare held n 38 ((cs.toList.drop 3).take (Tryz.prog.cellsOf 38)) = some x1 := hg 1 _ rfl
 rw [Tryz.cellsCu, e6] at h0
 rw [Tryz.cellsOu, e6] at h1
 obtain ⟨m, g, f, rfl, rfl, rfl⟩ := trod_cuV h0
 obtain ⟨l, t, s, rfl, rfl, rfl⟩ := trod_ouV h1
 refine ⟨m, g, f, l, t, s, ?_⟩
 congr 1
 apply Array.ext'
 exact e6
end
end Go.Proofs.YtnpaejknoipicagGreat
namespace Go.Proofs.YtnpaejknoipicagGreat
open Go.RowKit
theorem gchk_first {l : List Fr} (h : gchk l = 0) : 0 < l.length ∧ l.length ≤ 6 ∧ (frAt l 0).key = true := by
 obtain ⟨h1, h2, h3⟩ := gchk_zero.1 h
 refine ⟨h1, h2, ?_⟩
 have := (h3 0 h1).2
 simpa [inPl] using this
theorem FrsIn.first {S : Nat → Prop} {w : World} {ao : Option Addr} {n c : Nat} {l : List Fr} (h : FrsIn S w (.slice ao n c) l) (h0 : 0 < l.length) : ∃ b off, ao = some ⟨b, off, none⟩ ∧ w.cell? ⟨b, off, none⟩ = some (.int .i64 (frAt l 0).time) ∧ w.cell? ⟨b, off + 1, none⟩ = some (.bool (frAt l 0).key) := by
 obtain ⟨ao', c', e, _, _, hc⟩ := h
 injection e with e1 _ _
 subst e1
 obtain ⟨b, off, e, _, _, pv, c0, c1, _⟩ := hc 0 h0
 exact ⟨b, off, e, by simpa using c0, by simpa using c1⟩
theorem grAt_mem {L : List (List Fr)} {k : Nat} (h : k < L.length) : grAt L k ∈ L := by
 unfold grAt; rw [List.getElem?_eq_getElem h]; exact List.getElem_mem _
end Go.Proofs.YtnpaejknoipicagGreat
namespace Go.Proofs.YtnpaejknoipicagGreat
def curE (m g f : Int) : Int := if m < 1 then 6 else if 3 < m then 6 else if g < 0 then 3 else if 100006 < g then 3 else if f < 0 then 3 else if 6 < f then 3 else 0
theorem curE_zero {m g f : Int} : curE m g f = 0 ↔ 1 ≤ m ∧ m ≤ 3 ∧ 0 ≤ g ∧ g ≤ 100006 ∧ 0 ≤ f ∧ f ≤ 6 := by
 unfold curE
 repeat' split
 all_goals first | omega | (constructor <;> intro h <;> omega)
def nxE (first : Int) (L : List (List Fr)) (O : List Fr) (m g f upto : Int) : Int := if stchk first L O = 0 then (if curE m g f = 0 then (if upto < 0 then 3 else if 1000000 < upto then 3 else 0) else curE m g f) else stchk first L O
theorem nxE_zero {first : Int} {L : List (List Fr)} {O : List Fr} {m g f upto : Int} : nxE first L O m g f upto = 0 ↔ stchk first L O = 0 ∧ curE m g f = 0 ∧ 0 ≤ upto ∧ upto ≤ 1000000 := by
 unfold nxE
 by_cases h1 : stchk first L O = 0
 ·rw [if_pos h1]
  by_cases h2 : curE m g f = 0
  ·rw [if_pos h2]
   repeat' split
   all_goals (constructor <;> intro h <;> first | omega | (refine ⟨h1, h2, ?_, ?_⟩ <;> omega))
  ·rw [if_neg h2]; exact ⟨fun h => absurd h h2, fun h => absurd h.2.1 h2⟩
 ·rw [if_neg h1]; exact ⟨fun h => absurd h h1, fun h => absurd h.1 h1⟩
def plT (first : Int) (L : List (List Fr)) (O : List Fr) (g f : Int) : Bool := decide (¬ getE first L O g = 0 ∨ ((getG first L O g).length : Int) < f)
def plS (first : Int) (L : List (List Fr)) (O : List Fr) (m : Int) : Int := if m = 3 then first else seekN first L O 1000000
def plG (first : Int) (L : List (List Fr)) (O : List Fr) (m g f : Int) : Int := if plT first L O g f then plS first L O m else if f = (getG first L O g).length then g + 1 else g
def plF (first : Int) (L : List (List Fr)) (O : List Fr) (g f : Int) : Int := if plT first L O g f then 0 else if f = (getG first L O g).length then 0 else f
def mayB (m t upto : Int) : Bool := decide (m = 1) || (decide (m = 3) && decide (t ≤ upto))
def okB (first : Int) (L : List (List Fr)) (O : List Fr) (m g f upto : Int) : Bool := decide (getE first L O g = 0) && mayB m (frAt (getG first L O g) f.toNat).time upto
def tryAt (m upto : Int) (A : List (List Fr)) (k j : Nat) (t : Bool) : Option (Nat × Nat × Bool) := if m = 3 ∧ upto < (frAt (grAt A k) j).time then none else some (k, j, t)
def nxt (m : Int) (A : List (List Fr)) (d f upto : Int) : Option (Nat × Nat × Bool) :=
 if m = 2 ∨ A.length = 0 then none else
  if d < 0 ∨ (A.length : Int) ≤ d ∨ ((grAt A d.toNat).length : Int) < f then tryAt m upto A (if m = 1 then A.length - 1 else 0) 0 true
  else if f = (grAt A d.toNat).length then (if d.toNat + 1 = A.length then none else tryAt m upto A (d.toNat + 1) 0 false)
  else tryAt m upto A d.toNat f.toNat false
theorem seek_last {first : Int} {L : List (List Fr)} {O : List Fr} (h : stchk first L O = 0) : seekN first L O 1000000 = if (allG L O).length = 0 then 0 else first + ((allG L O).length - 1 : Nat) := by
 by_cases h0 : (allG L O).length = 0
 ·rw [if_pos h0]
  have he : seekE first L O 1000000 = 5 := by unfold seekE; rw [if_pos h, if_neg (by omega), if_neg (by omega), if_pos h0]
  unfold seekN
  rw [he, if_neg (by decide)]
 ·rw [if_neg h0]
  have he : seekE first L O 1000000 = 0 := by unfold seekE; rw [if_pos h, if_neg (by omega), if_neg (by omega), if_neg h0]
  obtain ⟨_, _, _, _, e⟩ := seekE_zero he
  rw [e]
  obtain ⟨n, hn⟩ : ∃ n, (allG L O).length = n + 1 := ⟨(allG L O).length - 1, by omega⟩
  rw [hn, Nat.add_sub_cancel]
  cases n with
  | zero => rfl
  | succ n =>
   rw [seekI_hit rfl]
   have hr := allG_right h _ (grAt_mem (L := allG L O) (k := n + 1) (by omega))
   have := ((gchk_zero.1 hr).2.2 0 (gchk_zero.1 hr).1).1
   exact (chkF_zero this).2.1
theorem next_spec {first : Int} {L : List (List Fr)} {O : List Fr} {m g f : Int} (upto : Int) (hs : stchk first L O = 0) (hc : curE m g f = 0) :
  (getE first L O (plG first L O m g f) = 0 → ∃ k j : Nat, plG first L O m g f = first + k ∧ k < (allG L O).length ∧ plF first L O g f = j ∧ j < (grAt (allG L O) k).length) ∧
  (okB first L O m (plG first L O m g f) (plF first L O g f) upto = true → ∃ k j : Nat, plG first L O m g f = first + k ∧ k < (allG L O).length ∧ plF first L O g f = j ∧ j < (grAt (allG L O) k).length ∧ nxt m (allG L O) (g - first) f upto = some (k, j, plT first L O g f)) ∧
  (okB first L O m (plG first L O m g f) (plF first L O g f) upto = false → nxt m (allG L O) (g - first) f upto = none) := by
 obtain ⟨c1, c2, c3, c4, c5, c6⟩ := curE_zero.1 hc
 obtain ⟨A, hA⟩ : ∃ A, A = allG L O := ⟨_, rfl⟩
 have hAR : ∀ k, k < A.length → 0 < (grAt A k).length := fun k hk => (gchk_first (by rw [hA]; exact allG_right hs _ (grAt_mem (by rw [← hA]; exact hk)))).1
 have hin : ∀ k : Nat, k < A.length → getE first L O (first + k) = 0 ∧ getG first L O (first + k) = grAt A k := fun k hk => by
  have := getE_in hs (n := first + k) (d := k) rfl (by rw [← hA]; exact hk)
  rw [← hA] at this; exact this
 have hout : ∀ n : Int, n < first ∨ first + A.length ≤ n → getE first L O n = 5 := fun n hn => (getE_out hs (by rw [← hA]; exact hn)).1
 have hlast := seek_last hs
 rw [← hA] at hlast ⊢
 have key : ∀ (G F : Int) (T : Bool), plG first L O m g f = G → plF first L O g f = F → plT first L O g f = T →
   ((∃ k j : Nat, G = first + k ∧ k < A.length ∧ F = j ∧ j < (grAt A k).length ∧ (m = 2 ∨ nxt m A (g - first) f upto = tryAt m upto A k j T) ∧ (m = 2 → nxt m A (g - first) f upto = none)) ∨ (getE first L O G = 5 ∧ nxt m A (g - first) f upto = none)) →
   (getE first L O G = 0 → ∃ k j : Nat, G = first + k ∧ k < A.length ∧ F = j ∧ j < (grAt A k).length) ∧
   (okB first L O m G F upto = true → ∃ k j : Nat, G = first + k ∧ k < A.length ∧ F = j ∧ j < (grAt A k).length ∧ nxt m A (g - first) f upto = some (k, j, T)) ∧
   (okB first L O m G F upto = false → nxt m A (g - first) f upto = none) := by
  intro G F T _ _ _ h
  rcases h with ⟨k, j, h1, h2, h3, h4, h5, h6⟩ | ⟨h1, h2⟩
  ·obtain ⟨e1, e2⟩ := hin k h2
   subst h1 h3
   have hok : okB first L O m (first + k) j upto = mayB m (frAt (grAt A k) j).time upto := by
    unfold okB; rw [e1, e2]; simp
   refine ⟨fun _ => ⟨k, j, rfl, h2, rfl, h4⟩, fun h => ⟨k, j, rfl, h2, rfl, h4, ?_⟩, fun h => ?_⟩
   ·rw [hok] at h
    unfold mayB at h
    simp at h
    rcases h5 with h5 | h5
    ·omega
    ·rw [h5]; unfold tryAt; rw [if_neg (by omega)]
   ·rw [hok] at h
    unfold mayB at h
    simp at h
    rcases h5 with h5 | h5
    ·exact h6 h5
    ·by_cases h2' : m = 2
     ·exact h6 h2'
     ·rw [h5]; unfold tryAt; rw [if_pos (by omega)]
  ·refine ⟨fun h => (by rw [h1] at h; cases h), fun h => ?_, fun _ => h2⟩
   unfold okB at h; rw [h1] at h; simp at h
 by_cases hT : ¬ getE first L O g = 0 ∨ ((getG first L O g).length : Int) < f
 ·have eT : plT first L O g f = true := decide_eq_true hT
  have eG : plG first L O m g f = plS first L O m := by unfold plG; rw [eT]; rfl
  have eF : plF first L O g f = 0 := by unfold plF; rw [eT]; rfl
  have hd : A.length = 0 ∨ (g - first < 0 ∨ (A.length : Int) ≤ g - first ∨ ((grAt A (g - first).toNat).length : Int) < f) := by
   by_cases h1 : g - first < 0 ∨ (A.length : Int) ≤ g - first
   ·omega
   ·obtain ⟨e1, e2⟩ := hin (g - first).toNat (by omega)
    rw [show first + ((g - first).toNat : Int) = g by omega] at e1 e2
    rw [e2] at hT
    rcases hT with hT | hT
    ·exact absurd e1 hT
    ·exact .inr (.inr (.inr hT))
  rw [eG, eF, eT]
  refine key _ _ _ eG eF eT ?_
  by_cases h0 : A.length = 0
  ·refine .inr ⟨hout _ ?_, by unfold nxt; rw [if_pos (.inr h0)]⟩
   unfold plS; rw [hlast, if_pos h0, h0]
   obtain ⟨q1, _⟩ := stchk_zero.1 hs
   split <;> omega
  ·left
   have hd2 := hd.resolve_left h0
   have hn : ¬ m = 2 → nxt m A (g - first) f upto = tryAt m upto A (if m = 1 then A.length - 1 else 0) 0 true := fun h => by
    unfold nxt; rw [if_neg (by omega), if_pos hd2]
   have hn2 : m = 2 → nxt m A (g - first) f upto = none := fun h => by unfold nxt; rw [if_pos (.inl h)]
   unfold plS
   by_cases h3 : m = 3
   ·rw [if_pos h3]
    refine ⟨0, 0, by simp, by omega, rfl, hAR 0 (by omega), .inr ?_, hn2⟩
    rw [hn (by omega), if_neg (by omega)]
   ·rw [if_neg h3, hlast, if_neg h0]
    refine ⟨A.length - 1, 0, rfl, by omega, rfl, hAR _ (by omega), ?_, hn2⟩
    by_cases h2 : m = 2
    ·exact .inl h2
    ·right; rw [hn h2, if_pos (by omega)]
 ·have eT : plT first L O g f = false := decide_eq_false hT
  have h1 : getE first L O g = 0 := by by_cases h : getE first L O g = 0 <;> omega
  have hg1 : ¬ (g < first ∨ first + (A.length : Int) ≤ g) := fun h => by rw [hout g h] at h1; cases h1
  obtain ⟨d, hd⟩ : ∃ d : Nat, g = first + d := ⟨(g - first).toNat, by omega⟩
  have hdA : d < A.length := by omega
  obtain ⟨_, e2⟩ := hin d hdA
  rw [← hd] at e2
  have hgd : (g - first).toNat = d := by omega
  have hfl : f ≤ (grAt A d).length := by rw [e2] at hT; omega
  have hnd : ¬ (g - first < 0 ∨ (A.length : Int) ≤ g - first ∨ ((grAt A (g - first).toNat).length : Int) < f) := by rw [hgd]; omega
  have hn2 : m = 2 → nxt m A (g - first) f upto = none := fun h => by unfold nxt; rw [if_pos (.inl h)]
  by_cases hf : f = (grAt A d).length
  ·have eG : plG first L O m g f = g + 1 := by unfold plG; rw [eT, e2, if_pos hf]; rfl
   have eF : plF first L O g f = 0 := by unfold plF; rw [eT, e2, if_pos hf]; rfl
   rw [eG, eF, eT]
   refine key _ _ _ eG eF eT ?_
   have hn : ¬ m = 2 → nxt m A (g - first) f upto = if d + 1 = A.length then none else tryAt m upto A (d + 1) 0 false := fun h => by
    unfold nxt; rw [if_neg (by omega), if_neg hnd, hgd, if_pos hf]
   by_cases hl : d + 1 = A.length
   ·right
    refine ⟨hout _ (by omega), ?_⟩
    by_cases h2 : m = 2
    ·exact hn2 h2
    ·rw [hn h2, if_pos hl]
   ·left
    refine ⟨d + 1, 0, by omega, by omega, rfl, hAR _ (by omega), ?_, hn2⟩
    by_cases h2 : m = 2
    ·exact .inl h2
    ·right; rw [hn h2, if_neg hl]
  ·have eG : plG first L O m g f = g := by unfold plG; rw [eT, e2, if_neg hf]; rfl
   have eF : plF first L O g f = f := by unfold plF; rw [eT, e2, if_neg hf]; rfl
   rw [eG, eF, eT]
   refine key _ _ _ eG eF eT (.inl ⟨d, f.toNat, hd, hdA, by omega, by omega, ?_, hn2⟩)
   by_cases h2 : m = 2
   ·exact .inl h2
   ·right; unfold nxt; rw [if_neg (by omega), if_neg hnd, hgd, if_neg hf]
end Go.Proofs.YtnpaejknoipicagGreat
namespace Go.Proofs.YtnpaejknoipicagGreat
open Go.RowKit
set_option maxHeartbeats 2000000 in
set_option maxRecDepth 100000 in
theorem curCheck_any (m g f : Int) (w : World) :
  Calls Tryz.prog 109 #[.agg #[.int .i64 m, .int .i64 g, .int .i64 f]] w fun e w' => e = .returned (.int .i64 (curE m g f)) ∧ Below w.heap.size w w' := by
 obtain ⟨E, hE⟩ : ∃ E, E = curE m g f := ⟨_, rfl⟩
 have HE : Hid (E = if m < 1 then 6 else if 3 < m then 6 else if g < 0 then 3 else if 100006 < g then 3 else if f < 0 then 3 else if 6 < f then 3 else 0) := hE
 have HB : Hid (Below w.heap.size w (w.alloc (.cells #[.int .i64 m, .int .i64 g, .int .i64 f] 36))) := (Below.refl _ _).alloc (Nat.le_refl _) _
 rw [← hE]
 clear hE
 by_cases h1 : m < 1
 ·have e : E = 6 := by rw [HE.out, if_pos h1]
  subst e
  go_enter Tryz.func109, Tryz.ntmps109
  go_wp2
  go_ret
  exact ⟨rfl, HB.out⟩
 by_cases h2 : 3 < m
 ·have e : E = 6 := by rw [HE.out, if_neg h1, if_pos h2]
  subst e
  go_enter Tryz.func109, Tryz.ntmps109
  go_wp2
  go_ret
  exact ⟨rfl, HB.out⟩
 by_cases h3 : g < 0
 ·have e : E = 3 := by rw [HE.out, if_neg h1, if_neg h2, if_pos h3]
  subst e
  go_enter Tryz.func109, Tryz.ntmps109
  go_wp2
  go_ret
  exact ⟨rfl, HB.out⟩
 by_cases h4 : 100006 < g
 ·have e : E = 3 := by rw [HE.out, if_neg h1, if_neg h2, if_neg h3, if_pos h4]
  subst e
  go_enter Tryz.func109, Tryz.ntmps109
  go_wp2
  go_ret
  exact ⟨rfl, HB.out⟩
 by_cases h5 : f < 0
 ·have e : E = 3 := by rw [HE.out, if_neg h1, if_neg h2, if_neg h3, if_neg h4, if_pos h5]
  subst e
  go_enter Tryz.func109, Tryz.ntmps109
  go_wp2
  go_ret
  exact ⟨rfl, HB.out⟩
 by_cases h6 : 6 < f
 ·have e : E = 3 := by rw [HE.out, if_neg h1, if_neg h2, if_neg h3, if_neg h4, if_neg h5, if_pos h6]
  subst e
  go_enter Tryz.func109, Tryz.ntmps109
  go_wp2
  go_ret
  exact ⟨rfl, HB.out⟩
 ·have e : E = 0 := by rw [HE.out, if_neg h1, if_neg h2, if_neg h3, if_neg h4, if_neg h5, if_neg h6]
  subst e
  go_enter Tryz.func109, Tryz.ntmps109
  go_wp2
  go_ret
  exact ⟨rfl, HB.out⟩
def begM (first : Int) (L : List (List Fr)) (O : List Fr) (mode t : Int) : Int := if seekE first L O t = 0 then mode else 0
set_option maxHeartbeats 2000000 in
set_option maxRecDepth 100000 in
theorem begin_any (mode first : Int) (gv ov : Value) (L : List (List Fr)) (O : List Fr) (t : Int) (w : World) (hg : GrsIn (fun _ => True) w gv L) (ho : FrsIn (fun _ => True) w ov O) :
  Calls Tryz.prog 113 #[.int .i64 mode, .agg #[.int .i64 first, gv, ov], .int .i64 t] w fun e w' => e = .returned (.tuple #[.agg #[.int .i64 (begM first L O mode t), .int .i64 (seekN first L O t), .int .i64 0], .int .i64 (seekE first L O t)]) ∧ Below w.heap.size w w' := by
 obtain ⟨ga, gc, eg, _, _⟩ := hg.len
 obtain ⟨oa, oc, eo, _, _⟩ := ho.len
 obtain ⟨ln, hln⟩ : ∃ n, n = L.length := ⟨_, rfl⟩
 obtain ⟨lo, hlo⟩ : ∃ n, n = O.length := ⟨_, rfl⟩
 rw [← hln] at eg
 rw [← hlo] at eo
 obtain ⟨E, hE⟩ : ∃ E, E = seekE first L O t := ⟨_, rfl⟩
 obtain ⟨N, hN⟩ : ∃ E, E = seekN first L O t := ⟨_, rfl⟩
 obtain ⟨M, hM⟩ : ∃ E, E = begM first L O mode t := ⟨_, rfl⟩
 have HSK : Hid (∀ U : World, Below w.heap.size w U → Calls Tryz.prog 146 #[.agg #[.int .i64 first, gv, ov], .int .i64 t] U fun e w' => e = .returned (.tuple #[.int .i64 N, .int .i64 E]) ∧ Below U.heap.size U w') := fun U hU => by
  rw [hN, hE]; exact storeSeek_any first gv ov L O t U (hg.below hU) (ho.below hU)
 have HMM : Hid ((E = 0 → M = mode) ∧ (¬ E = 0 → M = 0 ∧ N = 0)) := by
  rw [hM, hE, hN]; unfold begM seekN
  exact ⟨fun h => if_pos h, fun h => ⟨if_neg h, if_neg h⟩⟩
 rw [← hE, ← hN, ← hM]
 clear hE hN hM hg ho hln hlo
 subst eg eo
 obtain ⟨W0, hW0⟩ : ∃ W0, W0 = (w.alloc (.cells #[.int .i64 first, .slice ga ln gc, .slice oa lo oc] 32)).alloc (.cells #[.int .i64 0, .int .i64 0, .int .i64 0] 36) := ⟨_, rfl⟩
 have HS0 : Hid (Stay W0 (fun U => Blk U (w.heap.size + 1) #[.int .i64 0, .int .i64 0, .int .i64 0] 36 ∧ Below w.heap.size w U)) := by
  have k2 := Blk.newE hW0
  simp only [World.size_alloc] at k2
  have hb : Below w.heap.size w W0 := by rw [hW0]; exact ((Below.refl _ _).alloc (Nat.le_refl _) _).alloc (by simp) _
  exact k2.stay.and (below_stay hb hb.size)
 go_enter Tryz.func113, Tryz.ntmps113
 go_wp2_with fail
 rw [← hW0]
 clear hW0
 refine (HSK.out _ HS0.out.now.2).mono ?_
 rintro e w1 ⟨rfl, b1⟩
 have HS1 := Stay.go HS0 b1
 clear b1 HS0 HSK
 have K := HS1.out.now.1
 obtain ⟨k0, k1, k2⟩ := K.three
 have fr := K.free
 have hl := K.lt
 obtain ⟨A, B, hA⟩ : ∃ A B : Int, (E = 0 → A = mode ∧ B = N) ∧ (¬ E = 0 → A = 0 ∧ B = 0) := by
  by_cases h : E = 0
  ·exact ⟨mode, N, fun _ => ⟨rfl, rfl⟩, fun h' => absurd h h'⟩
  ·exact ⟨0, 0, fun h' => absurd h' h, fun _ => ⟨rfl, rfl⟩⟩
 obtain ⟨W2, hW2⟩ : ∃ W2, W2 = ((w1.setCell ⟨w.heap.size + 1, 0, none⟩ (.int .i64 M)).setCell ⟨w.heap.size + 1, 1, none⟩ (.int .i64 N)).setCell ⟨w.heap.size + 1, 2, none⟩ (.int .i64 0) := ⟨_, rfl⟩
 have K2 : Hid (Blk W2 (w.heap.size + 1) #[.int .i64 M, .int .i64 N, .int .i64 0] 36) := by
  rw [hW2]; exact ((K.set 0 (.int .i64 M)).set 1 (.int .i64 N)).set 2 (.int .i64 0)
 have B2 : Hid (Below w.heap.size w W2) := by rw [hW2]; exact ((HS1.out.now.2.setCell (by simp) _).setCell (by simp) _).setCell (by simp) _
 clear hA K HS1
 by_cases h0 : E = 0
 ·have hM := HMM.out.1 h0
  subst h0 hM
  go_wp2_with fail
  rw [← hW2]
  obtain ⟨u0, u1, u2⟩ := K2.out.three
  exact bodyPost_ret (v := .tuple #[.agg #[.int .i64 M, .int .i64 N, .int .i64 0], .int .i64 0]) (by simp [results, Tryz.results113, go_sem, u0, u1, u2]) rfl ⟨rfl, B2.out⟩
 ·obtain ⟨hM, hN⟩ := HMM.out.2 h0
  subst hM hN
  go_wp2_with fail
  rw [← hW2]
  obtain ⟨u0, u1, u2⟩ := K2.out.three
  exact bodyPost_ret (v := .tuple #[.agg #[.int .i64 0, .int .i64 0, .int .i64 0], .int .i64 E]) (by simp [results, Tryz.results113, go_sem, u0, u1, u2]) rfl ⟨rfl, B2.out⟩
set_option maxHeartbeats 2000000 in
set_option maxRecDepth 100000 in
theorem live_any (first : Int) (gv ov : Value) (L : List (List Fr)) (O : List Fr) (w : World) (hg : GrsIn (fun _ => True) w gv L) (ho : FrsIn (fun _ => True) w ov O) :
  Calls Tryz.prog 74 #[.agg #[.int .i64 first, gv, ov]] w fun e w' => e = .returned (.tuple #[.agg #[.int .i64 (begM first L O 1 1000000), .int .i64 (seekN first L O 1000000), .int .i64 0], .int .i64 (seekE first L O 1000000)]) ∧ Below w.heap.size w w' := by
 obtain ⟨ga, gc, eg, _, _⟩ := hg.len
 obtain ⟨oa, oc, eo, _, _⟩ := ho.len
 obtain ⟨ln, hln⟩ : ∃ n, n = L.length := ⟨_, rfl⟩
 obtain ⟨lo, hlo⟩ : ∃ n, n = O.length := ⟨_, rfl⟩
 rw [← hln] at eg
 rw [← hlo] at eo
 obtain ⟨E, hE⟩ : ∃ E, E = seekE first L O 1000000 := ⟨_, rfl⟩
 obtain ⟨N, hN⟩ : ∃ E, E = seekN first L O 1000000 := ⟨_, rfl⟩
 obtain ⟨M, hM⟩ : ∃ E, E = begM first L O 1 1000000 := ⟨_, rfl⟩
 have HSK : Hid (∀ U : World, Below w.heap.size w U → Calls Tryz.prog 113 #[.int .i64 1, .agg #[.int .i64 first, gv, ov], .int .i64 1000000] U fun e w' => e = .returned (.tuple #[.agg #[.int .i64 M, .int .i64 N, .int .i64 0], .int .i64 E]) ∧ Below U.heap.size U w') := fun U hU => by
  rw [hN, hE, hM]; exact begin_any 1 first gv ov L O 1000000 U (hg.below hU) (ho.below hU)
 rw [← hE, ← hN, ← hM]
 clear hE hN hM hg ho hln hlo
 subst eg eo
 obtain ⟨W0, hW0⟩ : ∃ W0, W0 = (w.alloc (.cells #[.int .i64 first, .slice ga ln gc, .slice oa lo oc] 32)).alloc (.cells #[.int .i64 0, .int .i64 0, .int .i64 0] 36) := ⟨_, rfl⟩
 have HS0 : Hid (Stay W0 (fun U => Blk U (w.heap.size + 1) #[.int .i64 0, .int .i64 0, .int .i64 0] 36 ∧ Below w.heap.size w U)) := by
  have k2 := Blk.newE hW0
  simp only [World.size_alloc] at k2
  have hb : Below w.heap.size w W0 := by rw [hW0]; exact ((Below.refl _ _).alloc (Nat.le_refl _) _).alloc (by simp) _
  exact k2.stay.and (below_stay hb hb.size)
 go_enter Tryz.func74, Tryz.ntmps74
 go_wp2_with fail
 rw [← hW0]
 clear hW0
 refine (HSK.out _ HS0.out.now.2).mono ?_
 rintro e w1 ⟨rfl, b1⟩
 have HS1 := Stay.go HS0 b1
 clear b1 HS0 HSK
 have K := HS1.out.now.1
 obtain ⟨k0, k1, k2⟩ := K.three
 have fr := K.free
 have hl := K.lt
 obtain ⟨W2, hW2⟩ : ∃ W2, W2 = ((w1.setCell ⟨w.heap.size + 1, 0, none⟩ (.int .i64 M)).setCell ⟨w.heap.size + 1, 1, none⟩ (.int .i64 N)).setCell ⟨w.heap.size + 1, 2, none⟩ (.int .i64 0) := ⟨_, rfl⟩
 have K2 : Hid (Blk W2 (w.heap.size + 1) #[.int .i64 M, .int .i64 N, .int .i64 0] 36) := by
  rw [hW2]; exact ((K.set 0 (.int .i64 M)).set 1 (.int .i64 N)).set 2 (.int .i64 0)
 have B2 : Hid (Below w.heap.size w W2) := by rw [hW2]; exact ((HS1.out.now.2.setCell (by simp) _).setCell (by simp) _).setCell (by simp) _
 clear K HS1
 go_wp2_with fail
 rw [← hW2]
 obtain ⟨u0, u1, u2⟩ := K2.out.three
 exact bodyPost_ret (v := .tuple #[.agg #[.int .i64 M, .int .i64 N, .int .i64 0], .int .i64 E]) (by simp [results, Tryz.results74, go_sem, u0, u1, u2]) rfl ⟨rfl, B2.out⟩
set_option maxHeartbeats 2000000 in
set_option maxRecDepth 100000 in
theorem curSeek_any (first : Int) (gv ov : Value) (L : List (List Fr)) (O : List Fr) (t : Int) (w : World) (hg : GrsIn (fun _ => True) w gv L) (ho : FrsIn (fun _ => True) w ov O) :
  Calls Tryz.prog 76 #[.agg #[.int .i64 first, gv, ov], .int .i64 t] w fun e w' => e = .returned (.tuple #[.agg #[.int .i64 (begM first L O 3 t), .int .i64 (seekN first L O t), .int .i64 0], .int .i64 (seekE first L O t)]) ∧ Below w.heap.size w w' := by
 obtain ⟨ga, gc, eg, _, _⟩ := hg.len
 obtain ⟨oa, oc, eo, _, _⟩ := ho.len
 obtain ⟨ln, hln⟩ : ∃ n, n = L.length := ⟨_, rfl⟩
 obtain ⟨lo, hlo⟩ : ∃ n, n = O.length := ⟨_, rfl⟩
 rw [← hln] at eg
 rw [← hlo] at eo
 obtain ⟨E, hE⟩ : ∃ E, E = seekE first L O t := ⟨_, rfl⟩
 obtain ⟨N, hN⟩ : ∃ E, E = seekN first L O t := ⟨_, rfl⟩
 obtain ⟨M, hM⟩ : ∃ E, E = begM first L O 3 t := ⟨_, rfl⟩
 have HSK : Hid (∀ U : World, Below w.heap.size w U → Calls Tryz.prog 113 #[.int .i64 3, .agg #[.int .i64 first, gv, ov], .int .i64 t] U fun e w' => e = .returned (.tuple #[.agg #[.int .i64 M, .int .i64 N, .int .i64 0], .int .i64 E]) ∧ Below U.heap.size U w') := fun U hU => by
  rw [hN, hE, hM]; exact begin_any 3 first gv ov L O t U (hg.below hU) (ho.below hU)
 rw [← hE, ← hN, ← hM]
 clear hE hN hM hg ho hln hlo
 subst eg eo
 obtain ⟨W0, hW0⟩ : ∃ W0, W0 = (w.alloc (.cells #[.int .i64 first, .slice ga ln gc, .slice oa lo oc] 32)).alloc (.cells #[.int .i64 0, .int .i64 0, .int .i64 0] 36) := ⟨_, rfl⟩
 have HS0 : Hid (Stay W0 (fun U => Blk U (w.heap.size + 1) #[.int .i64 0, .int .i64 0, .int .i64 0] 36 ∧ Below w.heap.size w U)) := by
  have k2 := Blk.newE hW0
  simp only [World.size_alloc] at k2
  have hb : Below w.heap.size w W0 := by rw [hW0]; exact ((Below.refl _ _).alloc (Nat.le_refl _) _).alloc (by simp) _
  exact k2.stay.and (below_stay hb hb.size)
 go_enter Tryz.func76, Tryz.ntmps76
 go_wp2_with fail
 rw [← hW0]
 clear hW0
 refine (HSK.out _ HS0.out.now.2).mono ?_
 rintro e w1 ⟨rfl, b1⟩
 have HS1 := Stay.go HS0 b1
 clear b1 HS0 HSK
 have K := HS1.out.now.1
 obtain ⟨k0, k1, k2⟩ := K.three
 have fr := K.free
 have hl := K.lt
 obtain ⟨W2, hW2⟩ : ∃ W2, W2 = ((w1.setCell ⟨w.heap.size + 1, 0, none⟩ (.int .i64 M)).setCell ⟨w.heap.size + 1, 1, none⟩ (.int .i64 N)).setCell ⟨w.heap.size + 1, 2, none⟩ (.int .i64 0) := ⟨_, rfl⟩
 have K2 : Hid (Blk W2 (w.heap.size + 1) #[.int .i64 M, .int .i64 N, .int .i64 0] 36) := by
  rw [hW2]; exact ((K.set 0 (.int .i64 M)).set 1 (.int .i64 N)).set 2 (.int .i64 0)
 have B2 : Hid (Below w.heap.size w W2) := by rw [hW2]; exact ((HS1.out.now.2.setCell (by simp) _).setCell (by simp) _).setCell (by simp) _
 clear K HS1
 go_wp2_with fail
 rw [← hW2]
 obtain ⟨u0, u1, u2⟩ := K2.out.three
 exact bodyPost_ret (v := .tuple #[.agg #[.int .i64 M, .int .i64 N, .int .i64 0], .int .i64 E]) (by simp [results, Tryz.results76, go_sem, u0, u1, u2]) rfl ⟨rfl, B2.out⟩
def pauN (m g f x : Int) : Int := if curE m g f = 0 then x else 0
set_option maxHeartbeats 2000000 in
set_option maxRecDepth 100000 in
theorem pause_any (m g f : Int) (w : World) :
  Calls Tryz.prog 79 #[.agg #[.int .i64 m, .int .i64 g, .int .i64 f]] w fun e w' => e = .returned (.tuple #[.agg #[.int .i64 (pauN m g f 2), .int .i64 (pauN m g f g), .int .i64 (pauN m g f f)], .int .i64 (curE m g f)]) ∧ Below w.heap.size w w' := by
 obtain ⟨E, hE⟩ : ∃ E, E = curE m g f := ⟨_, rfl⟩
 have HP : Hid (∀ x, pauN m g f x = if E = 0 then x else 0) := fun x => by rw [hE]; rfl
 have HC : Hid (∀ U : World, Calls Tryz.prog 109 #[.agg #[.int .i64 m, .int .i64 g, .int .i64 f]] U fun e w' => e = .returned (.int .i64 E) ∧ Below U.heap.size U w') := fun U => by rw [hE]; exact curCheck_any m g f U
 rw [← hE]
 clear hE
 obtain ⟨W0, hW0⟩ : ∃ W0, W0 = (w.alloc (.cells #[.int .i64 m, .int .i64 g, .int .i64 f] 36)).alloc (.cells #[.int .i64 0, .int .i64 0, .int .i64 0] 36) := ⟨_, rfl⟩
 have HS0 : Hid (Stay W0 (fun U => Blk U w.heap.size #[.int .i64 m, .int .i64 g, .int .i64 f] 36 ∧ Blk U (w.heap.size + 1) #[.int .i64 0, .int .i64 0, .int .i64 0] 36 ∧ Below w.heap.size w U)) := by
  have k2 := Blk.newE hW0
  simp only [World.size_alloc] at k2
  have hb : Below w.heap.size w W0 := by rw [hW0]; exact ((Below.refl _ _).alloc (Nat.le_refl _) _).alloc (by simp) _
  exact (show Blk W0 w.heap.size _ _ by rw [hW0]; exact (Blk.new _ _ _).alloc _).stay.and (k2.stay.and (below_stay hb hb.size))
 go_enter Tryz.func79, Tryz.ntmps79
 go_wp2_with fail
 rw [← hW0]
 clear hW0
 refine (HC.out _).mono ?_
 rintro e w1 ⟨rfl, b1⟩
 have HS1 := Stay.go HS0 b1
 clear b1 HS0 HC
 have K := HS1.out.now.1
 have J := HS1.out.now.2.1
 obtain ⟨k0, k1, k2⟩ := K.three
 obtain ⟨j0, j1, j2⟩ := J.three
 have fk := K.free
 have fj := J.free
 have hl := K.lt
 have hj := J.lt
 by_cases h0 : E = 0
 ·obtain ⟨W2, hW2⟩ : ∃ W2, W2 = (((w1.setCell ⟨w.heap.size, 0, none⟩ (.int .i64 2)).setCell ⟨w.heap.size + 1, 0, none⟩ (.int .i64 2)).setCell ⟨w.heap.size + 1, 1, none⟩ (.int .i64 g)).setCell ⟨w.heap.size + 1, 2, none⟩ (.int .i64 f) := ⟨_, rfl⟩
  have K2 : Hid (Blk W2 (w.heap.size + 1) #[.int .i64 2, .int .i64 g, .int .i64 f] 36) := by
   rw [hW2]; exact (((J.other (a := ⟨w.heap.size, 0, none⟩) (by simp) (.int .i64 2)).set 0 (.int .i64 2)).set 1 (.int .i64 g)).set 2 (.int .i64 f)
  have B2 : Hid (Below w.heap.size w W2) := by rw [hW2]; exact (((HS1.out.now.2.2.setCell (by simp) _).setCell (by simp) _).setCell (by simp) _).setCell (by simp) _
  have HP2 : Hid (∀ x, pauN m g f x = x) := fun x => by rw [HP.out, if_pos h0]
  clear K J HS1 HP
  subst h0
  go_wp2_with fail
  rw [← hW2]
  obtain ⟨u0, u1, u2⟩ := K2.out.three
  rw [HP2.out, HP2.out, HP2.out]
  exact bodyPost_ret (v := .tuple #[.agg #[.int .i64 2, .int .i64 g, .int .i64 f], .int .i64 0]) (by simp [results, Tryz.results79, go_sem, u0, u1, u2]) rfl ⟨rfl, B2.out⟩
 ·obtain ⟨W2, hW2⟩ : ∃ W2, W2 = ((w1.setCell ⟨w.heap.size + 1, 0, none⟩ (.int .i64 0)).setCell ⟨w.heap.size + 1, 1, none⟩ (.int .i64 0)).setCell ⟨w.heap.size + 1, 2, none⟩ (.int .i64 0) := ⟨_, rfl⟩
  have K2 : Hid (Blk W2 (w.heap.size + 1) #[.int .i64 0, .int .i64 0, .int .i64 0] 36) := by
   rw [hW2]; exact ((J.set 0 (.int .i64 0)).set 1 (.int .i64 0)).set 2 (.int .i64 0)
  have B2 : Hid (Below w.heap.size w W2) := by rw [hW2]; exact ((HS1.out.now.2.2.setCell (by simp) _).setCell (by simp) _).setCell (by simp) _
  have HP2 : Hid (∀ x, pauN m g f x = 0) := fun x => by rw [HP.out, if_neg h0]
  clear K J HS1 HP
  go_wp2_with fail
  rw [← hW2]
  obtain ⟨u0, u1, u2⟩ := K2.out.three
  rw [HP2.out, HP2.out, HP2.out]
  exact bodyPost_ret (v := .tuple #[.agg #[.int .i64 0, .int .i64 0, .int .i64 0], .int .i64 E]) (by simp [results, Tryz.results79, go_sem, u0, u1, u2]) rfl ⟨rfl, B2.out⟩
set_option maxHeartbeats 2000000 in
set_option maxRecDepth 100000 in
theorem checkNext_any (first : Int) (gv ov : Value) (L : List (List Fr)) (O : List Fr) (m g f upto : Int) (w : World) (hg : GrsIn (fun _ => True) w gv L) (ho : FrsIn (fun _ => True) w ov O) :
  Calls Tryz.prog 147 #[.agg #[.int .i64 first, gv, ov], .agg #[.int .i64 m, .int .i64 g, .int .i64 f], .int .i64 upto] w fun e w' => e = .returned (.int .i64 (nxE first L O m g f upto)) ∧ Below w.heap.size w w' := by
 obtain ⟨ga, gc, eg, _, _⟩ := hg.len
 obtain ⟨oa, oc, eo, _, _⟩ := ho.len
 obtain ⟨ln, hln⟩ : ∃ n, n = L.length := ⟨_, rfl⟩
 obtain ⟨lo, hlo⟩ : ∃ n, n = O.length := ⟨_, rfl⟩
 rw [← hln] at eg
 rw [← hlo] at eo
 obtain ⟨U, hU⟩ : ∃ E, E = stchk first L O := ⟨_, rfl⟩
 obtain ⟨E, hE⟩ : ∃ E, E = curE m g f := ⟨_, rfl⟩
 obtain ⟨R, hR⟩ : ∃ E, E = nxE first L O m g f upto := ⟨_, rfl⟩
 have HR : Hid (R = if U = 0 then (if E = 0 then (if upto < 0 then 3 else if 1000000 < upto then 3 else 0) else E) else U) := by show _ = _; rw [hR, hU, hE]; rfl
 have HC : Hid (∀ U : World, Calls Tryz.prog 109 #[.agg #[.int .i64 m, .int .i64 g, .int .i64 f]] U fun e w' => e = .returned (.int .i64 E) ∧ Below U.heap.size U w') := fun U => by rw [hE]; exact curCheck_any m g f U
 have HS : Hid (∀ W : World, Below w.heap.size w W → Calls Tryz.prog 103 #[.agg #[.int .i64 first, gv, ov]] W fun e w' => e = .returned (.int .i64 U) ∧ Below W.heap.size W w') := fun W hW => by
  rw [hU]; exact storeCheck_any _ first gv ov L O W (hg.below hW) (ho.below hW)
 rw [← hR]
 clear hU hE hR hg ho hln hlo
 subst eg eo
 obtain ⟨W0, hW0⟩ : ∃ W0, W0 = (w.alloc (.cells #[.int .i64 first, .slice ga ln gc, .slice oa lo oc] 32)).alloc (.cells #[.int .i64 m, .int .i64 g, .int .i64 f] 36) := ⟨_, rfl⟩
 have HS0 : Hid (Stay W0 (fun U => Blk U (w.heap.size + 1) #[.int .i64 m, .int .i64 g, .int .i64 f] 36 ∧ Below w.heap.size w U)) := by
  have k2 := Blk.newE hW0
  simp only [World.size_alloc] at k2
  have hb : Below w.heap.size w W0 := by rw [hW0]; exact ((Below.refl _ _).alloc (Nat.le_refl _) _).alloc (by simp) _
  exact k2.stay.and (below_stay hb hb.size)
 go_enter Tryz.func147, Tryz.ntmps147
 go_wp2_with fail
 rw [← hW0]
 clear hW0
 refine (HS.out _ HS0.out.now.2).mono ?_
 rintro e w1 ⟨rfl, b1⟩
 have HS1 := Stay.go HS0 b1
 clear b1 HS0 HS
 obtain ⟨k0, k1, k2⟩ := HS1.out.now.1.three
 by_cases h0 : U = 0
 case neg =>
  have hr : R = U := by rw [HR.out, if_neg h0]
  subst hr
  go_wp2_with fail
  go_ret
  exact ⟨rfl, HS1.out.now.2⟩
 have HR2 : Hid (R = if E = 0 then (if upto < 0 then 3 else if 1000000 < upto then 3 else 0) else E) := by show _ = _; rw [HR.out, if_pos h0]
 clear HR
 subst h0
 go_wp2_with fail
 refine (HC.out _).mono ?_
 rintro e w2 ⟨rfl, b2⟩
 have HS2 := Stay.go HS1 b2
 clear b2 HS1 HC k0 k1 k2
 by_cases h1 : E = 0
 case neg =>
  have hr : R = E := by rw [HR2.out, if_neg h1]
  subst hr
  go_wp2_with fail
  go_ret
  exact ⟨rfl, HS2.out.now.2⟩
 have HR3 : Hid (R = if upto < 0 then 3 else if 1000000 < upto then 3 else 0) := by show _ = _; rw [HR2.out, if_pos h1]
 clear HR2
 subst h1
 by_cases h2 : upto < 0
 ·have hr : R = 3 := by rw [HR3.out, if_pos h2]
  subst hr
  go_wp2_with fail
  go_ret
  exact ⟨rfl, HS2.out.now.2⟩
 by_cases h3 : 1000000 < upto
 ·have hr : R = 3 := by rw [HR3.out, if_neg h2, if_pos h3]
  subst hr
  go_wp2_with fail
  go_ret
  exact ⟨rfl, HS2.out.now.2⟩
 ·have hr : R = 0 := by rw [HR3.out, if_neg h2, if_neg h3]
  subst hr
  go_wp2_with fail
  go_ret
  exact ⟨rfl, HS2.out.now.2⟩
theorem Blk.sixw {w : World} {b : Nat} {x0 x1 x2 x3 x4 x5 : Value} {t : TypeId} (h : Blk w b #[x0, x1, x2, x3, x4, x5] t) :
  w.cell? ⟨b, 0, none⟩ = some x0 ∧ w.cell? ⟨b, 1, none⟩ = some x1 ∧ w.cell? ⟨b, 2, none⟩ = some x2 ∧ w.cell? ⟨b, 3, none⟩ = some x3 ∧ w.cell? ⟨b, 4, none⟩ = some x4 ∧ w.cell? ⟨b, 5, none⟩ = some x5 :=
 ⟨h.cell rfl, h.cell rfl, h.cell rfl, h.cell rfl, h.cell rfl, h.cell rfl⟩
set_option maxHeartbeats 2000000 in
set_option maxRecDepth 100000 in
theorem start_any (M : Nat) (m g f first : Int) (gv ov : Value) (L : List (List Fr)) (O : List Fr) (w : World) (hM : Blk w M #[.int .i64 m, .int .i64 g, .int .i64 f, .int .i64 first, gv, ov] 201) (hg : GrsIn (fun _ => True) w gv L) (ho : FrsIn (fun _ => True) w ov O) :
  Calls Tryz.prog 167 #[.pointer (some ⟨M, 0, none⟩)] w fun e w' => e = .returned (.int .i64 (plS first L O m)) ∧ Below w.heap.size w w' := by
 obtain ⟨ga, gc, eg, _, _⟩ := hg.len
 obtain ⟨oa, oc, eo, _, _⟩ := ho.len
 obtain ⟨ln, hln⟩ : ∃ n, n = L.length := ⟨_, rfl⟩
 obtain ⟨lo, hlo⟩ : ∃ n, n = O.length := ⟨_, rfl⟩
 rw [← hln] at eg
 rw [← hlo] at eo
 obtain ⟨R, hR⟩ : ∃ R, R = plS first L O m := ⟨_, rfl⟩
 obtain ⟨N, hN⟩ : ∃ N, N = seekN first L O 1000000 := ⟨_, rfl⟩
 obtain ⟨E, hE⟩ : ∃ N, N = seekE first L O 1000000 := ⟨_, rfl⟩
 obtain ⟨B, hB⟩ : ∃ N, N = begM first L O 1 1000000 := ⟨_, rfl⟩
 have HR : Hid ((m = 3 → R = first) ∧ (¬ m = 3 → R = N)) := by rw [hR, hN]; exact ⟨fun h => if_pos h, fun h => if_neg h⟩
 have HL : Hid (∀ U : World, Below w.heap.size w U → Calls Tryz.prog 74 #[.agg #[.int .i64 first, gv, ov]] U fun e w' => e = .returned (.tuple #[.agg #[.int .i64 B, .int .i64 N, .int .i64 0], .int .i64 E]) ∧ Below U.heap.size U w') := fun U hU => by
  rw [hN, hE, hB]; exact live_any first gv ov L O U (hg.below hU) (ho.below hU)
 rw [← hR]
 clear hR hN hE hB hg ho hln hlo
 subst eg eo
 obtain ⟨k0, k1, k2, k3, k4, k5⟩ := hM.sixw
 by_cases h3 : m = 3
 ·have hr := HR.out.1 h3
  subst h3 hr
  go_enter Tryz.func167, Tryz.ntmps167
  go_wp2_with fail
  go_ret
  exact ⟨rfl, Below.refl _ _⟩
 ·have hr := HR.out.2 h3
  subst hr
  go_enter Tryz.func167, Tryz.ntmps167
  go_wp2_with fail
  refine (HL.out _ (Below.refl _ _)).mono ?_
  rintro e w1 ⟨rfl, b1⟩
  have HB : Hid (Below w.heap.size w (w1.alloc (.cells #[.int .i64 B, .int .i64 R, .int .i64 0] 36))) := b1.alloc b1.size _
  clear b1
  go_wp2_with fail
  go_ret
  exact ⟨rfl, HB.out⟩
set_option maxHeartbeats 2000000 in
set_option maxRecDepth 100000 in
theorem mayHave_any (M : Nat) (m g f first : Int) (gv ov : Value) (t : Int) (k : Bool) (pv : Value) (upto : Int) (w : World) (hp : ∃ a n c, pv = .slice a n c) (hM : Blk w M #[.int .i64 m, .int .i64 g, .int .i64 f, .int .i64 first, gv, ov] 201) :
  Calls Tryz.prog 168 #[.pointer (some ⟨M, 0, none⟩), .agg #[.int .i64 t, .bool k, pv], .int .i64 upto] w fun e w' => e = .returned (.bool (mayB m t upto)) ∧ Below w.heap.size w w' := by
 obtain ⟨a, n, c, rfl⟩ := hp
 obtain ⟨k0, k1, k2, k3, k4, k5⟩ := hM.sixw
 have hl := hM.lt
 have HB : Hid (Below w.heap.size w (w.alloc (.cells #[.int .i64 t, .bool k, .slice a n c] 98))) := (Below.refl _ _).alloc (Nat.le_refl _) _
 obtain ⟨R, hR⟩ : ∃ R, R = mayB m t upto := ⟨_, rfl⟩
 have HR : Hid (R = (decide (m = 1) || (decide (m = 3) && decide (t ≤ upto)))) := hR
 rw [← hR]
 clear hR
 by_cases h1 : m = 1
 ·have hr : R = true := by rw [HR.out]; simp [h1]
  subst hr h1
  go_enter Tryz.func168, Tryz.ntmps168
  go_wp2_with fail
  go_ret
  exact ⟨rfl, HB.out⟩
 by_cases h3 : m = 3
 ·by_cases ht : t ≤ upto
  ·have hr : R = true := by rw [HR.out]; simp [h3, ht]
   subst hr h3
   go_enter Tryz.func168, Tryz.ntmps168
   go_wp2_with fail
   go_ret
   exact ⟨by simp, HB.out⟩
  ·have hr : R = false := by rw [HR.out]; simp [h3]; omega
   subst hr h3
   go_enter Tryz.func168, Tryz.ntmps168
   go_wp2_with fail
   go_ret
   exact ⟨by simp, HB.out⟩
 ·have hr : R = false := by rw [HR.out]; simp [h1, h3]
  have e1 : (m == 1) = false := by simpa using h1
  have e3 : (m == 3) = false := by simpa using h3
  subst hr
  clear h1 h3 HR
  go_enter Tryz.func168, Tryz.ntmps168
  go_wp2_with fail
  go_ret
  exact ⟨rfl, HB.out⟩
end Go.Proofs.YtnpaejknoipicagGreat
