/-
  Contract: wire.Encode.
-/
import Derived.Test.YtnpaejknoipicaaRawWrite
namespace Go.Proofs.Ytnpaejknoipicaa
open Go.RowKit

/-- the bytes of a packet -/
def Pk.enc (p : Pk) : List UInt8 := be (128 + Pk.flags p.f p.e p.k) 1 ++ be p.seq 2 ++ be p.time 4 ++ be p.t.size 1 ++ p.t.data.toList

theorem Pk.chk_ok {p : Pk} (h : p.chk = 0) : 0 ≤ p.seq ∧ p.seq ≤ 65535 ∧ 0 ≤ p.time ∧ p.time ≤ 1000000 ∧ (p.t.size : Int) ≤ 8 ∧ (p.k && !p.f) = false := by
  unfold Pk.chk at h
  by_cases h1 : p.seq < 0
  · rw [if_pos h1] at h; exact absurd h (by decide)
  rw [if_neg h1] at h
  by_cases h2 : 65535 < p.seq
  · rw [if_pos h2] at h; exact absurd h (by decide)
  rw [if_neg h2] at h
  by_cases h3 : p.time < 0
  · rw [if_pos h3] at h; exact absurd h (by decide)
  rw [if_neg h3] at h
  by_cases h4 : 1000000 < p.time
  · rw [if_pos h4] at h; exact absurd h (by decide)
  rw [if_neg h4] at h
  by_cases h5 : 8 < (p.t.size : Int)
  · rw [if_pos h5] at h; exact absurd h (by decide)
  rw [if_neg h5] at h
  cases h6 : (p.k && !p.f)
  · exact ⟨by omega, by omega, by omega, by omega, by omega, rfl⟩
  · rw [h6] at h; exact absurd h (by decide)

theorem Pk.flags_le (f e k : Bool) : 0 ≤ Pk.flags f e k ∧ Pk.flags f e k ≤ 7 := by cases f <;> cases e <;> cases k <;> decide

/-- 'string(b)', b a row of the call's own -/
theorem convert_own {w : World} {base : Nat} {v : Value} {l : List UInt8} (hown : w.ownsRow base 5 1 v l.length (bcells l)) (hne : 0 < l.length) :
    (convert 45 9 v).run Try.prog w = .ok (.string ⟨l.toArray⟩) w := by
  obtain ⟨_, ⟨_, h0⟩ | ⟨b, off, c, rfl, _, hc⟩⟩ := Sl.of_owns hown
  · rename_i h1
    omega
  · refine run_convert_bytes_back w 45 9 5 ⟨b, off, none⟩ c l Try.underlying45 Try.underlying5 Try.underlying9 (fun j hj => ?_)
    rw [Addr.add_lit]
    exact hc j _ (by simp [bcells, List.getElem?_eq_getElem hj])
theorem convert_own2 {w : World} {base : Nat} {v : Value} {l : List UInt8} {t : ByteArray} (hown : w.ownsRow base 5 1 v (l.length + t.size) (bcells l ++ Lib.strCells t)) (hne : l.length = 8) :
    (convert 45 9 v).run Try.prog w = .ok (.string ⟨(l ++ t.data.toList).toArray⟩) w := by
  have e1 : (l ++ t.data.toList).length = l.length + t.size := by rw [List.length_append]; rfl
  have e2 : bcells (l ++ t.data.toList) = bcells l ++ Lib.strCells t := by rw [bcells_append]; rfl
  rw [← e1, ← e2] at hown
  exact convert_own hown (by rw [e1]; omega)

set_option maxHeartbeats 1000000 in
theorem encode_no (p : Pk) (w : World) (h : (p.chk == 0) = false) :
    Calls Try.prog 9 #[p.val] w fun e w' => e = .returned (.tuple #[.string ByteArray.empty, .int .i64 p.chk]) ∧ Below w.heap.size w w' := by
  have hne : (p.chk != 0) = true := by simp at h; simp [h]
  obtain ⟨c, hc⟩ : ∃ c, c = p.chk := ⟨_, rfl⟩
  have HC := hc
  rw [← hc] at hne h ⊢
  have hck : ∀ w : World, Calls Try.prog 15 #[p.val] w fun e w' => e = .returned (.int .i64 c) ∧ w' = w.alloc (.cells p.cells 23) := fun w => by rw [hc]; exact check_any p w
  clear HC hc
  have HCK := @id (Hid (∀ w : World, Calls Try.prog 15 #[p.val] w fun e w' => e = .returned (.int .i64 c) ∧ w' = w.alloc (.cells p.cells 23))) hck
  clear hck
  obtain ⟨seq, time, f, e, k, t⟩ := p
  simp only [Pk.val, Pk.cells] at HCK ⊢
  go_enter Try.func9, Try.ntmps9
  go_wp2_with (go_at_call 15; refine (HCK.out _).mono ?_; rintro e w' ⟨rfl, rfl⟩)
  go_ret2
  exact ⟨rfl, by go_grown⟩

set_option maxHeartbeats 1000000 in
set_option maxRecDepth 1000000 in
theorem encode_ok (p : Pk) (w : World) (h : p.chk = 0) :
    Calls Try.prog 9 #[p.val] w fun e w' => e = .returned (.tuple #[.string ⟨p.enc.toArray⟩, .int .i64 0]) ∧ Below w.heap.size w w' := by
  obtain ⟨h1, h2, h3, h4, h5, _⟩ := Pk.chk_ok h
  obtain ⟨hf1, hf2⟩ := Pk.flags_le p.f p.e p.k
  have hck : ∀ w : World, Calls Try.prog 15 #[p.val] w fun e w' => e = .returned (.int .i64 0) ∧ w' = w.alloc (.cells p.cells 23) := fun w => by rw [← h]; exact check_any p w
  have HCK := @id (Hid (∀ w : World, Calls Try.prog 15 #[p.val] w fun e w' => e = .returned (.int .i64 0) ∧ w' = w.alloc (.cells p.cells 23))) hck
  clear hck h
  obtain ⟨seq, time, f, e, k, t⟩ := p
  simp only [Pk.val, Pk.cells] at HCK h1 h2 h3 h4 h5 hf1 hf2 ⊢
  go_enter Try.func9, Try.ntmps9
  go_wp2_with (first
    | (go_at_call 15; refine (HCK.out _).mono ?_; rintro e w' ⟨rfl, rfl⟩)
    | (go_at_call 24; refine (sumOf_any f e k _ _ _ (by simp [go_sem]) (by simp [go_sem]) (by simp [go_sem])).mono ?_; rintro r w' ⟨rfl, rfl⟩))
  obtain ⟨W0, hW0⟩ : ∃ W0, W0 = ((((w.alloc (.cells #[.int .i64 seq, .int .i64 time, .bool f, .bool e, .bool k, .string t] 23)).alloc (.cells #[.int .i64 seq, .int .i64 time, .bool f, .bool e, .bool k, .string t] 23)).alloc (.cells #[.slice none 0 0] 47)).alloc (.cells #[.bool f, .bool e, .bool k] 4)) := ⟨_, rfl⟩
  have x0 : Boxed W0 w.heap.size #[.int .i64 seq, .int .i64 time, .bool f, .bool e, .bool k, .string t] := by rw [hW0]; exact (((Boxed.new w _ _).alloc _).alloc _).alloc _
  have b0 : Wr (w.heap.size + 1 + 1) (w.heap.size + 3) W0 [] := by
    rw [hW0]
    have := Blk.new ((w.alloc (.cells #[.int .i64 seq, .int .i64 time, .bool f, .bool e, .bool k, .string t] 23)).alloc (.cells #[.int .i64 seq, .int .i64 time, .bool f, .bool e, .bool k, .string t] 23)) #[.slice none 0 0] 47
    rw [World.size_alloc, World.size_alloc] at this
    exact ⟨none, 0, this.alloc _, World.ownsRow_nil _ _ _ _⟩
  have hb0 : Below w.heap.size w W0 := by rw [hW0]; go_grown
  have hs0 : W0.heap.size = w.heap.size + 4 := by rw [hW0]; simp
  have hle0 : w.heap.size + 3 ≤ W0.heap.size := by omega
  rw [← hW0]
  clear hW0 HCK hs0
  refine (rawNumber_any (w.heap.size + 1 + 1) (w.heap.size + 3) 1 [] (128 + Pk.flags f e k) 1 W0 rfl (by omega) (by omega) (by decide) (by decide) (by omega) hle0 b0).mono ?_
  rintro r w1 ⟨rfl, b1, hb1⟩
  have x1 := x0.below (hb1.toBelow (c := w.heap.size + 1) (by omega) (by omega)) (by omega)
  have y1 := x1.six.1
  have hs1 := hb1.size
  go_wp2_with fail
  refine (rawNumber_any (w.heap.size + 1 + 1) (w.heap.size + 3) 2 _ seq 2 w1 rfl (by omega) (by omega) (by decide) (by simp [be, beK_len]) (by omega) (by omega) b1).mono ?_
  rintro r w2 ⟨rfl, b2, hb2⟩
  have x2 := x1.below (hb2.toBelow (c := w.heap.size + 1) (by omega) (by omega)) (by omega)
  have y2 := x2.six.2.1
  have hs2 := hb2.size
  clear y1
  go_wp2_with fail
  refine (rawNumber_any (w.heap.size + 1 + 1) (w.heap.size + 3) 4 _ time 4 w2 rfl (by omega) (by omega) (by decide) (by simp [be, beK_len]) (by omega) (by omega) b2).mono ?_
  rintro r w3 ⟨rfl, b3, hb3⟩
  have x3 := x2.below (hb3.toBelow (c := w.heap.size + 1) (by omega) (by omega)) (by omega)
  have y3 := x3.six.2.2.2.2.2
  have hs3 := hb3.size
  clear y2
  go_wp2_with fail
  refine (rawNumber_any (w.heap.size + 1 + 1) (w.heap.size + 3) 1 _ (t.size : Int) 1 w3 rfl (by omega) (by omega) (by decide) (by simp [be, beK_len]) (by omega) (by omega) b3).mono ?_
  rintro r w4 ⟨rfl, b4, hb4⟩
  have x4 := x3.below (hb4.toBelow (c := w.heap.size + 1) (by omega) (by omega)) (by omega)
  have y4 := x4.six.2.2.2.2.2
  have hs4 := hb4.size
  have hfin4 : Below w.heap.size w w4 := hb0.trans ((((hb1.trans hb2).trans hb3).trans hb4).toBelow (by omega) (by omega))
  obtain ⟨L, hL⟩ : ∃ L, L = [] ++ be (128 + Pk.flags f e k) 1 ++ be seq 2 ++ be time 4 ++ be (t.size : Int) 1 := ⟨_, rfl⟩
  rw [← hL] at b4
  have HL : Hid (L = [] ++ be (128 + Pk.flags f e k) 1 ++ be seq 2 ++ be time 4 ++ be (t.size : Int) 1) := hL
  have hLl : L.length = 8 := by rw [hL]; simp [be, beK_len]
  have HL8 : Hid (L.length = 8) := hLl
  clear y3 x0 x1 x2 x3 b0 b1 b2 b3 hb0 hb1 hb2 hb3 hb4
  clear hL hLl
  go_wp2_with fail
  refine (rawText_any (w.heap.size + 1 + 1) (w.heap.size + 3) L t w4 (by rw [HL8.out]; omega) (by omega) (by omega) b4).mono ?_
  rintro r w5 ⟨rfl, b5, hb5⟩
  have hfin5 : Below w.heap.size w w5 := hfin4.trans (hb5.toBelow (by omega) (by omega))
  clear hb5 b4 y4 x4 hfin4
  go_wp2_with fail
  refine (rawAll_any (w.heap.size + 1 + 1) (w.heap.size + 3) (L ++ t.data.toList) w5 (by rw [List.length_append, HL8.out]; omega) b5).mono ?_
  rintro r w6 ⟨rfl, rfl⟩
  have HE : Hid (ba (L ++ t.data.toList) = ⟨(Pk.enc ⟨seq, time, f, e, k, t⟩).toArray⟩) := by
    show _ = _
    rw [show L ++ t.data.toList = Pk.enc ⟨seq, time, f, e, k, t⟩ by rw [HL.out]; simp [Pk.enc]]; rfl
  obtain ⟨R, hR⟩ : ∃ R, R = ba (L ++ t.data.toList) := ⟨_, rfl⟩
  rw [← hR] at HE ⊢
  clear hR b5 HL HL8
  go_wp2
  go_ret2
  exact ⟨by rw [HE.out]; rfl, hfin5⟩

end Go.Proofs.Ytnpaejknoipicaa
