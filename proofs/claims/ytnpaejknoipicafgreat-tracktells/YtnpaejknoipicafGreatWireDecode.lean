/-
  Contract: wire.Decode.
-/
import Derived.Test.YtnpaejknoipicafGreatWireWhole
namespace Go.Proofs.YtnpaejknoipicafGreat
open Go.RowKit

/-- a byte of a list -/
def at8 (l : List UInt8) (i : Nat) : Nat := (l[i]?.getD 0).toNat
theorem at8_lt (l : List UInt8) (i : Nat) : at8 l i < 256 := UInt8.toNat_lt _
/-- are they of a packet's form? -/
def formB (l : List UInt8) : Bool := decide (8 ≤ l.length) && decide (l.length = 8 + at8 l 7) && decide (128 ≤ at8 l 0) && decide (at8 l 0 ≤ 135)
/-- the packet that bytes of that form tell -/
def Pk.told (l : List UInt8) : Pk := ⟨num ((l.drop 1).take 2), num ((l.drop 3).take 4), at8 l 0 % 2 == 1, at8 l 0 / 2 % 2 == 1, at8 l 0 / 4 % 2 == 1, ba (l.drop 8)⟩
def Pk.dec (l : List UInt8) : Pk × Int := if formB l then (if (Pk.told l).chk == 0 then (Pk.told l, 0) else (Pk.zero, (Pk.told l).chk)) else (Pk.zero, 1)

theorem num_at (l : List UInt8) (i : Nat) : num ((l.drop i).take 1) = (at8 l i : Int) := by
  rw [num_one, at8, List.getElem?_drop, Nat.add_zero]

theorem bit_facts (h : Nat) (h1 : 128 ≤ h) (h2 : h ≤ 135) :
    (bits .and .i64 (h : Int) 1 != 0) = (h % 2 == 1) ∧ (bits .and .i64 (h : Int) 2 != 0) = (h / 2 % 2 == 1) ∧ (bits .and .i64 (h : Int) 4 != 0) = (h / 4 % 2 == 1) := by
  have : h = 128 ∨ h = 129 ∨ h = 130 ∨ h = 131 ∨ h = 132 ∨ h = 133 ∨ h = 134 ∨ h = 135 := by omega
  rcases this with rfl | rfl | rfl | rfl | rfl | rfl | rfl | rfl <;> exact ⟨by decide, by decide, by decide⟩

theorem Blk.six {w : World} {b : Nat} {x0 x1 x2 x3 x4 x5 : Value} {t : TypeId} (h : Blk w b #[x0, x1, x2, x3, x4, x5] t) :
    w.cell? ⟨b, 0, none⟩ = some x0 ∧ w.cell? ⟨b, 1, none⟩ = some x1 ∧ w.cell? ⟨b, 2, none⟩ = some x2 ∧ w.cell? ⟨b, 3, none⟩ = some x3 ∧ w.cell? ⟨b, 4, none⟩ = some x4 ∧ w.cell? ⟨b, 5, none⟩ = some x5 ∧
    w.frozen? ⟨b, 0, none⟩ = false ∧ w.frozen? ⟨b, 1, none⟩ = false ∧ w.frozen? ⟨b, 2, none⟩ = false ∧ w.frozen? ⟨b, 3, none⟩ = false ∧ w.frozen? ⟨b, 4, none⟩ = false ∧ w.frozen? ⟨b, 5, none⟩ = false :=
  ⟨h.cell rfl, h.cell rfl, h.cell rfl, h.cell rfl, h.cell rfl, h.cell rfl, h.free 0, h.free 1, h.free 2, h.free 3, h.free 4, h.free 5⟩

/-- the memory as Decode's reading begins -/
theorem dec_start (w : World) (z : Array Value) (t : TypeId) : ∀ W0, W0 = ((w.alloc (.cells z t)).alloc (.cells z t)).alloc (.cells #[.int .i64 0] 3) →
    Blk W0 w.heap.size z t ∧ Blk W0 (w.heap.size + 1) z t ∧ Blk W0 (w.heap.size + 1 + 1) #[.int .i64 0] 3 ∧ Below w.heap.size w W0 ∧ W0.heap.size = w.heap.size + 3 := by
  intro W0 h
  subst h
  refine ⟨((Blk.new w z t).alloc _).alloc _, ?_, ?_, by go_grown, by simp⟩
  · have := Blk.new (w.alloc (.cells z t)) z t
    rw [World.size_alloc] at this
    exact this.alloc _
  · have := Blk.new ((w.alloc (.cells z t)).alloc (.cells z t)) #[.int .i64 0] 3
    rw [World.size_alloc, World.size_alloc] at this
    exact this

set_option maxHeartbeats 2000000 in
theorem decode_no (l : List UInt8) (w : World) (hform : formB l = false) :
    Calls Tryz.prog 110 #[.string (ba l)] w fun e w' => e = .returned (.tuple #[Pk.zero.val, .int .i64 1]) ∧ Below w.heap.size w w' := by
  have hmf : ∀ (fn : Fn) (first cap : Array Value) (w : World), (Instr.makeFunc fn first cap).run Tryz.prog w = .ok (.func fn first cap) w := fun _ _ _ _ => rfl
  simp only [Pk.zero, Pk.val]
  have hlt7 := at8_lt l 7
  have HF : Hid (formB l = false) := hform
  clear hform
  go_enter Tryz.func110, Tryz.ntmps110
  go_wp2_with fail
  obtain ⟨W0, hW0⟩ : ∃ W0, W0 = ((w.alloc (.cells #[.int .i64 0, .int .i64 0, .bool false, .bool false, .bool false, .string ⟨#[]⟩] 89)).alloc (.cells #[.int .i64 0, .int .i64 0, .bool false, .bool false, .bool false, .string ⟨#[]⟩] 89)).alloc (.cells #[.int .i64 0] 3) := ⟨_, rfl⟩
  obtain ⟨bN0, bP0, bH0, hb0, hs0⟩ := dec_start w _ _ W0 hW0
  rw [← hW0]
  clear hW0
  by_cases hfew : l.length < 8 ∨ l.length < 8 + at8 l 7
  · refine (whole_few (w.heap.size + 1 + 1) (w.heap.size + 1) l _ _ _ _ _ _ _ W0 bH0 bP0 (by omega) ?_).mono ?_
    · rcases hfew with h | h
      · exact .inl h
      · exact .inr ⟨at8 l 7, num_at l 7, h⟩
    rintro e w1 ⟨rfl, k1⟩
    have bN1 := bN0.kept k1 (by simp; omega)
    obtain ⟨c0, c1, c2, c3, c4, c5, f0, f1, f2, f3, f4, f5⟩ := bN1.six
    have hb1 : Below w.heap.size w w1 := hb0.trans (k1.toBelow (by omega) (by intro k hk; simp at hk; omega))
    go_wp2
    exact bodyPost_ret (v := .tuple #[.agg #[.int .i64 0, .int .i64 0, .bool false, .bool false, .bool false, .string ByteArray.empty], .int .i64 1]) (by simp [results, Tryz.results110, go_sem, c0, c1, c2, c3, c4, c5]; rfl) rfl ⟨rfl, by go_grown⟩
  · have h8 : 8 ≤ l.length := by omega
    have hcl : 8 + at8 l 7 ≤ l.length := by omega
    obtain ⟨hd, hhd⟩ : ∃ hd, hd = at8 l 0 := ⟨_, rfl⟩
    have hno : ¬ (l.length = 8 + at8 l 7) ∨ hd < 128 ∨ 135 < hd := by
      have := HF.out
      rw [hhd]
      simp only [formB, Bool.and_eq_false_iff, decide_eq_false_iff_not] at this
      omega
    have hn0 : num (l.take 1) = (hd : Int) := by have := num_at l 0; rw [List.drop_zero] at this; rw [this, hhd]
    clear hhd hfew
    refine (whole_ok (w.heap.size + 1 + 1) (w.heap.size + 1) (at8 l 7) l _ _ _ _ _ _ _ W0 bH0 bP0 (by omega) h8 (num_at l 7) hcl (by omega)).mono ?_
    rintro e w1 ⟨rfl, bH1, _, k1⟩
    rw [hn0] at bH1
    have bN1 := bN0.kept k1 (by simp; omega)
    obtain ⟨c0, c1, c2, c3, c4, c5, f0, f1, f2, f3, f4, f5⟩ := bN1.six
    have cH := bH1.cell (j := 0) (u := .int .i64 hd) rfl
    have hb1 : Below w.heap.size w w1 := hb0.trans (k1.toBelow (by omega) (by intro k hk; simp at hk; omega))
    clear hn0 bN0 bP0 bH0 bH1 hb0 hs0 k1 bN1
    by_cases hA : l.length = 8 + at8 l 7
    · have hdA : ba (l.drop (8 + at8 l 7)) = ⟨#[]⟩ := by rw [List.drop_of_length_le (by omega)]; rfl
      rw [hdA]
      by_cases hB : hd < 128
      · clear hdA hA hno hcl
        have hB' : (hd : Int) < 128 := by omega
        go_wp2
        exact bodyPost_ret (v := .tuple #[.agg #[.int .i64 0, .int .i64 0, .bool false, .bool false, .bool false, .string ByteArray.empty], .int .i64 1]) (by simp [results, Tryz.results110, go_sem, c0, c1, c2, c3, c4, c5]; rfl) rfl ⟨rfl, by go_grown⟩
      · have hC : (135 : Int) < hd := by omega
        have hB' : ¬ (hd : Int) < 128 := by omega
        clear hdA hA hno hcl
        go_wp2
        exact bodyPost_ret (v := .tuple #[.agg #[.int .i64 0, .int .i64 0, .bool false, .bool false, .bool false, .string ByteArray.empty], .int .i64 1]) (by simp [results, Tryz.results110, go_sem, c0, c1, c2, c3, c4, c5]; rfl) rfl ⟨rfl, by go_grown⟩
    · obtain ⟨r, hr⟩ : ∃ r, r = l.drop (8 + at8 l 7) := ⟨_, rfl⟩
      have hr0 : (ba r).toList.isEmpty = false := by
        rw [ByteArray.toList_eq, ba_data]
        cases r with
        | nil => have := congrArg List.length hr; simp at this; omega
        | cons x t => rfl
      rw [← hr]
      clear hr hA hno hcl
      go_wp2
      exact bodyPost_ret (v := .tuple #[.agg #[.int .i64 0, .int .i64 0, .bool false, .bool false, .bool false, .string ByteArray.empty], .int .i64 1]) (by simp [results, Tryz.results110, go_sem, c0, c1, c2, c3, c4, c5]; rfl) rfl ⟨rfl, by go_grown⟩

set_option maxHeartbeats 2000000 in
theorem decode_form (l : List UInt8) (w : World) (hform : formB l = true) :
    Calls Tryz.prog 110 #[.string (ba l)] w fun e w' => e = .returned (.tuple #[(if (Pk.told l).chk == 0 then Pk.told l else Pk.zero).val, .int .i64 (Pk.told l).chk]) ∧ Below w.heap.size w w' := by
  have hmf : ∀ (fn : Fn) (first cap : Array Value) (w : World), (Instr.makeFunc fn first cap).run Tryz.prog w = .ok (.func fn first cap) w := fun _ _ _ _ => rfl
  have hlt7 := at8_lt l 7
  have hf4 : ((8 ≤ l.length ∧ l.length = 8 + at8 l 7) ∧ 128 ≤ at8 l 0) ∧ at8 l 0 ≤ 135 := by simpa [formB] using hform
  obtain ⟨⟨⟨h8, hl⟩, hh1⟩, hh2⟩ := hf4
  obtain ⟨q1, q2, q3⟩ := bit_facts (at8 l 0) hh1 hh2
  have htk : (l.drop 8).take (at8 l 7) = l.drop 8 := List.take_of_length_le (by simp; omega)
  obtain ⟨p, hp⟩ : ∃ p, p = Pk.told l := ⟨_, rfl⟩
  have hseq : num ((l.drop 1).take 2) = p.seq := by rw [hp]; rfl
  have htime : num ((l.drop 3).take 4) = p.time := by rw [hp]; rfl
  have ht : ba (l.drop 8) = p.t := by rw [hp]; rfl
  have hpf : (at8 l 0 % 2 == 1) = p.f := by rw [hp]; rfl
  have hpe : (at8 l 0 / 2 % 2 == 1) = p.e := by rw [hp]; rfl
  have hpk : (at8 l 0 / 4 % 2 == 1) = p.k := by rw [hp]; rfl
  rw [hpf] at q1
  rw [hpe] at q2
  rw [hpk] at q3
  have hn0 : num (l.take 1) = ((at8 l 0 : Nat) : Int) := by have := num_at l 0; rw [List.drop_zero] at this; exact this
  have hwk := fun (H P : Nat) (hv s0 t0 f0 e0 k0 x0 : Value) (w : World) (bH : Blk w H #[hv] 3) (bP : Blk w P #[s0, t0, f0, e0, k0, x0] 89) (hHP : H ≠ P) =>
    whole_ok H P (at8 l 7) l hv s0 t0 f0 e0 k0 x0 w bH bP hHP h8 (num_at l 7) (by omega) (by omega)
  have hdr : ba (l.drop (8 + at8 l 7)) = ⟨#[]⟩ := by rw [List.drop_of_length_le (by omega)]; rfl
  rw [hseq, htime, htk, ht, hn0, hdr] at hwk
  rw [← hp]
  obtain ⟨hd, hhd⟩ : ∃ hd : Nat, hd = at8 l 0 := ⟨_, rfl⟩
  rw [← hhd] at hwk q1 q2 q3 hh1 hh2
  have HW := @id (Hid _) hwk
  clear hwk hp hseq htime ht hpf hpe hpk hn0 htk hhd hl h8 hform hlt7 hdr
  have g1 : ¬ (hd : Int) < 128 := by omega
  have g2 : ¬ (135 : Int) < hd := by omega
  clear hh1 hh2
  obtain ⟨c, hc⟩ : ∃ c, c = p.chk := ⟨_, rfl⟩
  have HCK := @id (Hid (∀ w : World, Calls Tryz.prog 137 #[p.val] w fun e w' => e = .returned (.int .i64 c) ∧ w' = w.alloc (.cells p.cells 89))) (fun w => by rw [hc]; exact check_any p w)
  rw [← hc]
  clear hc
  obtain ⟨seq, time, f, e, k, t⟩ := p
  simp only [Pk.val, Pk.cells] at HCK HW q1 q2 q3
  cases hcz : (c == 0)
  · simp only [Bool.false_eq_true, if_false, Pk.zero]
    have hne : (c != 0) = true := by simp at hcz; simp [hcz]
    go_enter Tryz.func110, Tryz.ntmps110
    go_wp2_with fail
    obtain ⟨W0, hW0⟩ : ∃ W0, W0 = ((w.alloc (.cells #[.int .i64 0, .int .i64 0, .bool false, .bool false, .bool false, .string ⟨#[]⟩] 89)).alloc (.cells #[.int .i64 0, .int .i64 0, .bool false, .bool false, .bool false, .string ⟨#[]⟩] 89)).alloc (.cells #[.int .i64 0] 3) := ⟨_, rfl⟩
    obtain ⟨bN0, bP0, bH0, hb0, hs0⟩ := dec_start w _ _ W0 hW0
    rw [← hW0]
    clear hW0
    refine (HW.out (w.heap.size + 1 + 1) (w.heap.size + 1) _ _ _ _ _ _ _ W0 bH0 bP0 (by omega)).mono ?_
    rintro r w1 ⟨rfl, bH1, bP1, k1⟩
    have bN1 := bN0.kept k1 (by simp; omega)
    obtain ⟨d0, d1, d2, d3, d4, d5, _, _, g2', g3', g4', _⟩ := bP1.six
    have cH := bH1.cell (j := 0) (u := .int .i64 hd) rfl
    have hb1 : Below w.heap.size w w1 := hb0.trans (k1.toBelow (by omega) (by intro k hk; simp at hk; omega))
    clear bN0 bP0 bH0 bH1 hb0 hs0 k1 HW
    go_wp2_with fail
    obtain ⟨W2, hW2⟩ : ∃ W2, W2 = ((w1.setCell ⟨w.heap.size + 1, 2, none⟩ (.bool f)).setCell ⟨w.heap.size + 1, 3, none⟩ (.bool e)).setCell ⟨w.heap.size + 1, 4, none⟩ (.bool k) := ⟨_, rfl⟩
    have bN2 : Blk W2 w.heap.size #[.int .i64 0, .int .i64 0, .bool false, .bool false, .bool false, .string ⟨#[]⟩] 89 := by
      rw [hW2]
      exact ((bN1.other (a := ⟨w.heap.size + 1, 2, none⟩) (by show w.heap.size ≠ w.heap.size + 1; omega) _).other (a := ⟨w.heap.size + 1, 3, none⟩) (by show w.heap.size ≠ w.heap.size + 1; omega) _).other (a := ⟨w.heap.size + 1, 4, none⟩) (by show w.heap.size ≠ w.heap.size + 1; omega) _
    have bP2 : Blk W2 (w.heap.size + 1) #[.int .i64 seq, .int .i64 time, .bool f, .bool e, .bool k, .string t] 89 := by
      rw [hW2]
      exact ((bP1.set 2 (.bool f)).set 3 (.bool e)).set 4 (.bool k)
    have hb2 : Below w.heap.size w W2 := by
      rw [hW2]
      exact ((hb1.setCell (p := ⟨w.heap.size + 1, 2, none⟩) (by show w.heap.size ≤ w.heap.size + 1; omega) _).setCell (p := ⟨w.heap.size + 1, 3, none⟩) (by show w.heap.size ≤ w.heap.size + 1; omega) _).setCell (p := ⟨w.heap.size + 1, 4, none⟩) (by show w.heap.size ≤ w.heap.size + 1; omega) _
    rw [← hW2]
    clear hW2 d0 d1 d2 d3 d4 d5 g2' g3' g4' cH hb1 bN1 bP1
    refine (HCK.out W2).mono ?_
    rintro r w3 ⟨rfl, hw3⟩
    have bN3 := bN2.alloc (.cells #[.int .i64 seq, .int .i64 time, .bool f, .bool e, .bool k, .string t] 89)
    have bP3 := bP2.alloc (.cells #[.int .i64 seq, .int .i64 time, .bool f, .bool e, .bool k, .string t] 89)
    have hb3 := hb2.alloc hb2.size (.cells #[.int .i64 seq, .int .i64 time, .bool f, .bool e, .bool k, .string t] 89)
    rw [← hw3] at bN3 bP3 hb3
    clear hw3
    obtain ⟨c0, c1, c2, c3, c4, c5, f0, f1, f2, f3, f4, f5⟩ := bN3.six
    obtain ⟨d0, d1, d2, d3, d4, d5, _⟩ := bP3.six
    go_wp2
    exact bodyPost_ret (v := .tuple #[.agg #[.int .i64 0, .int .i64 0, .bool false, .bool false, .bool false, .string ByteArray.empty], .int .i64 c]) (by simp [results, Tryz.results110, go_sem, c0, c1, c2, c3, c4, c5]; rfl) rfl ⟨rfl, by go_grown⟩
  · have hc0 : c = 0 := by simpa using hcz
    subst hc0
    simp only [if_true]
    clear hcz
    go_enter Tryz.func110, Tryz.ntmps110
    go_wp2_with fail
    obtain ⟨W0, hW0⟩ : ∃ W0, W0 = ((w.alloc (.cells #[.int .i64 0, .int .i64 0, .bool false, .bool false, .bool false, .string ⟨#[]⟩] 89)).alloc (.cells #[.int .i64 0, .int .i64 0, .bool false, .bool false, .bool false, .string ⟨#[]⟩] 89)).alloc (.cells #[.int .i64 0] 3) := ⟨_, rfl⟩
    obtain ⟨bN0, bP0, bH0, hb0, hs0⟩ := dec_start w _ _ W0 hW0
    rw [← hW0]
    clear hW0
    refine (HW.out (w.heap.size + 1 + 1) (w.heap.size + 1) _ _ _ _ _ _ _ W0 bH0 bP0 (by omega)).mono ?_
    rintro r w1 ⟨rfl, bH1, bP1, k1⟩
    have bN1 := bN0.kept k1 (by simp; omega)
    obtain ⟨d0, d1, d2, d3, d4, d5, _, _, g2', g3', g4', _⟩ := bP1.six
    have cH := bH1.cell (j := 0) (u := .int .i64 hd) rfl
    have hb1 : Below w.heap.size w w1 := hb0.trans (k1.toBelow (by omega) (by intro k hk; simp at hk; omega))
    clear bN0 bP0 bH0 bH1 hb0 hs0 k1 HW
    go_wp2_with fail
    obtain ⟨W2, hW2⟩ : ∃ W2, W2 = ((w1.setCell ⟨w.heap.size + 1, 2, none⟩ (.bool f)).setCell ⟨w.heap.size + 1, 3, none⟩ (.bool e)).setCell ⟨w.heap.size + 1, 4, none⟩ (.bool k) := ⟨_, rfl⟩
    have bN2 : Blk W2 w.heap.size #[.int .i64 0, .int .i64 0, .bool false, .bool false, .bool false, .string ⟨#[]⟩] 89 := by
      rw [hW2]
      exact ((bN1.other (a := ⟨w.heap.size + 1, 2, none⟩) (by show w.heap.size ≠ w.heap.size + 1; omega) _).other (a := ⟨w.heap.size + 1, 3, none⟩) (by show w.heap.size ≠ w.heap.size + 1; omega) _).other (a := ⟨w.heap.size + 1, 4, none⟩) (by show w.heap.size ≠ w.heap.size + 1; omega) _
    have bP2 : Blk W2 (w.heap.size + 1) #[.int .i64 seq, .int .i64 time, .bool f, .bool e, .bool k, .string t] 89 := by
      rw [hW2]
      exact ((bP1.set 2 (.bool f)).set 3 (.bool e)).set 4 (.bool k)
    have hb2 : Below w.heap.size w W2 := by
      rw [hW2]
      exact ((hb1.setCell (p := ⟨w.heap.size + 1, 2, none⟩) (by show w.heap.size ≤ w.heap.size + 1; omega) _).setCell (p := ⟨w.heap.size + 1, 3, none⟩) (by show w.heap.size ≤ w.heap.size + 1; omega) _).setCell (p := ⟨w.heap.size + 1, 4, none⟩) (by show w.heap.size ≤ w.heap.size + 1; omega) _
    rw [← hW2]
    clear hW2 d0 d1 d2 d3 d4 d5 g2' g3' g4' cH hb1 bN1 bP1
    refine (HCK.out W2).mono ?_
    rintro r w3 ⟨rfl, hw3⟩
    have bN3 := bN2.alloc (.cells #[.int .i64 seq, .int .i64 time, .bool f, .bool e, .bool k, .string t] 89)
    have bP3 := bP2.alloc (.cells #[.int .i64 seq, .int .i64 time, .bool f, .bool e, .bool k, .string t] 89)
    have hb3 := hb2.alloc hb2.size (.cells #[.int .i64 seq, .int .i64 time, .bool f, .bool e, .bool k, .string t] 89)
    rw [← hw3] at bN3 bP3 hb3
    clear hw3
    obtain ⟨c0, c1, c2, c3, c4, c5, f0, f1, f2, f3, f4, f5⟩ := bN3.six
    obtain ⟨d0, d1, d2, d3, d4, d5, _⟩ := bP3.six
    go_wp2
    exact bodyPost_ret (v := .tuple #[.agg #[.int .i64 seq, .int .i64 time, .bool f, .bool e, .bool k, .string t], .int .i64 0]) (by simp [results, Tryz.results110, go_sem, c0, c1, c2, c3, c4, c5]) rfl ⟨rfl, by go_grown⟩

theorem decode_any (l : List UInt8) (w : World) :
    Calls Tryz.prog 110 #[.string (ba l)] w fun e w' => e = .returned (.tuple #[(Pk.dec l).1.val, .int .i64 (Pk.dec l).2]) ∧ Below w.heap.size w w' := by
  unfold Pk.dec
  cases hform : formB l
  · exact decode_no l w hform
  · have h := decode_form l w hform
    cases hc : ((Pk.told l).chk == 0)
    · rw [hc] at h
      simpa using h
    · rw [hc] at h
      have : (Pk.told l).chk = 0 := by simpa using hc
      rw [this] at h
      simpa using h

end Go.Proofs.YtnpaejknoipicafGreat
