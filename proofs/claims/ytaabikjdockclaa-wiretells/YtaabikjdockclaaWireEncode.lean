/-
  Contract: wire.Encode.
-/
import Derived.Test.YtaabikjdockclaaWireNum
import Derived.Lib.AppendStr
namespace Go.Proofs.Ytaabikjdockclaa
open Go.RowKit

/-- the bytes of a packet -/
def Pk.enc (p : Pk) : List UInt8 := be (128 + Pk.flags p.f p.e p.k) 1 ++ be p.seq 2 ++ be p.time 4 ++ be p.t.size 1 ++ p.t.data.toList

theorem Pk.chk_ok {p : Pk} (h : p.chk = 0) : 0 ≤ p.seq ∧ p.seq ≤ 65535 ∧ 0 ≤ p.time ∧ p.time ≤ 1000000 ∧ (p.t.size : Int) ≤ 8 ∧ (p.k && !p.f) = false := by
  unfold Pk.chk at h
  by_cases h1 : p.seq < 0
  · rw [if_pos h1] at h; exact absurd h (by decide)
  rw [if_neg h1] at h
  by_cases h2 : 65535 < p.seq
  · rw [if_pos h2] at h; exact absurd h (by decide)
  rw [if_neg h2] at h
  by_cases h3 : p.time < 0
  · rw [if_pos h3] at h; exact absurd h (by decide)
  rw [if_neg h3] at h
  by_cases h4 : 1000000 < p.time
  · rw [if_pos h4] at h; exact absurd h (by decide)
  rw [if_neg h4] at h
  by_cases h5 : 8 < (p.t.size : Int)
  · rw [if_pos h5] at h; exact absurd h (by decide)
  rw [if_neg h5] at h
  cases h6 : (p.k && !p.f)
  · exact ⟨by omega, by omega, by omega, by omega, by omega, rfl⟩
  · rw [h6] at h; exact absurd h (by decide)

theorem Pk.flags_le (f e k : Bool) : 0 ≤ Pk.flags f e k ∧ Pk.flags f e k ≤ 7 := by cases f <;> cases e <;> cases k <;> decide

/-- 'string(b)', b a row of the call's own -/
theorem convert_own {w : World} {base : Nat} {v : Value} {l : List UInt8} (hown : w.ownsRow base 5 1 v l.length (bcells l)) (hne : 0 < l.length) :
    (convert 45 9 v).run Try.prog w = .ok (.string ⟨l.toArray⟩) w := by
  obtain ⟨_, ⟨_, h0⟩ | ⟨b, off, c, rfl, _, hc⟩⟩ := Sl.of_owns hown
  · rename_i h1
    omega
  · refine run_convert_bytes_back w 45 9 5 ⟨b, off, none⟩ c l Try.underlying45 Try.underlying5 Try.underlying9 (fun j hj => ?_)
    rw [Addr.add_lit]
    exact hc j _ (by simp [bcells, List.getElem?_eq_getElem hj])
theorem convert_own2 {w : World} {base : Nat} {v : Value} {l : List UInt8} {t : ByteArray} (hown : w.ownsRow base 5 1 v (l.length + t.size) (bcells l ++ Lib.strCells t)) (hne : l.length = 8) :
    (convert 45 9 v).run Try.prog w = .ok (.string ⟨(l ++ t.data.toList).toArray⟩) w := by
  have e1 : (l ++ t.data.toList).length = l.length + t.size := by rw [List.length_append]; rfl
  have e2 : bcells (l ++ t.data.toList) = bcells l ++ Lib.strCells t := by rw [bcells_append]; rfl
  rw [← e1, ← e2] at hown
  exact convert_own hown (by rw [e1]; omega)

set_option maxHeartbeats 1000000 in
theorem encode_no (p : Pk) (w : World) (h : (p.chk == 0) = false) :
    Calls Try.prog 9 #[p.val] w fun e w' => e = .returned (.tuple #[.string ByteArray.empty, .int .i64 p.chk]) ∧ Below w.heap.size w w' := by
  have hne : (p.chk != 0) = true := by simp at h; simp [h]
  obtain ⟨c, hc⟩ : ∃ c, c = p.chk := ⟨_, rfl⟩
  have HC := hc
  rw [← hc] at hne h ⊢
  have hck : ∀ w : World, Calls Try.prog 15 #[p.val] w fun e w' => e = .returned (.int .i64 c) ∧ w' = w.alloc (.cells p.cells 23) := fun w => by rw [hc]; exact check_any p w
  clear HC hc
  have HCK := @id (Hid (∀ w : World, Calls Try.prog 15 #[p.val] w fun e w' => e = .returned (.int .i64 c) ∧ w' = w.alloc (.cells p.cells 23))) hck
  clear hck
  obtain ⟨seq, time, f, e, k, t⟩ := p
  simp only [Pk.val, Pk.cells] at HCK ⊢
  go_enter Try.func9, Try.ntmps9
  go_wp2_with (go_at_call 15; refine (HCK.out _).mono ?_; rintro e w' ⟨rfl, rfl⟩)
  go_ret2
  exact ⟨rfl, by go_grown⟩

set_option maxHeartbeats 1000000 in
set_option maxRecDepth 1000000 in
theorem encode_ok (p : Pk) (w : World) (h : p.chk = 0) :
    Calls Try.prog 9 #[p.val] w fun e w' => e = .returned (.tuple #[.string ⟨p.enc.toArray⟩, .int .i64 0]) ∧ Below w.heap.size w w' := by
  obtain ⟨i0, hi, hz0, hz1, hz2⟩ := info_parts Try.infoU8
  obtain ⟨h1, h2, h3, h4, h5, _⟩ := Pk.chk_ok h
  obtain ⟨hf1, hf2⟩ := Pk.flags_le p.f p.e p.k
  have hck : ∀ w : World, Calls Try.prog 15 #[p.val] w fun e w' => e = .returned (.int .i64 0) ∧ w' = w.alloc (.cells p.cells 23) := fun w => by rw [← h]; exact check_any p w
  have HCK := @id (Hid (∀ w : World, Calls Try.prog 15 #[p.val] w fun e w' => e = .returned (.int .i64 0) ∧ w' = w.alloc (.cells p.cells 23))) hck
  clear hck h
  obtain ⟨seq, time, f, e, k, t⟩ := p
  simp only [Pk.val, Pk.cells] at HCK h1 h2 h3 h4 h5 hf1 hf2 ⊢
  go_enter Try.func9, Try.ntmps9
  go_wp2_with (first
    | (go_at_call 15; refine (HCK.out _).mono ?_; rintro e w' ⟨rfl, rfl⟩)
    | (go_at_call 24; refine (sumOf_any f e k _ _ _ (by simp [go_sem]) (by simp [go_sem]) (by simp [go_sem])).mono ?_; rintro r w' ⟨rfl, rfl⟩))
  obtain ⟨W0, hW0⟩ : ∃ W0, W0 = (((w.alloc (.cells #[.int .i64 seq, .int .i64 time, .bool f, .bool e, .bool k, .string t] 23)).alloc (.cells #[.int .i64 seq, .int .i64 time, .bool f, .bool e, .bool k, .string t] 23)).alloc (.cells #[.bool f, .bool e, .bool k] 4)) := ⟨_, rfl⟩
  have x0 : Boxed W0 w.heap.size #[.int .i64 seq, .int .i64 time, .bool f, .bool e, .bool k, .string t] := by rw [hW0]; exact ((Boxed.new w _ _).alloc _).alloc _
  have hb0 : Below w.heap.size w W0 := by rw [hW0]; go_grown
  have hs0 : W0.heap.size = w.heap.size + 3 := by rw [hW0]; simp
  have hle0 : w.heap.size + 3 ≤ W0.heap.size := by omega
  rw [← hW0]
  clear hW0 HCK hs0
  refine (appendNumber_any (w.heap.size + 3) 1 _ [] (128 + Pk.flags f e k) 1 W0 rfl (by omega) (by omega) (by decide) (by decide) hle0 (World.ownsRow_nil _ _ _ _)).mono ?_
  rintro r w1 ⟨v1, rfl, ho1, hb1⟩
  have x1 := x0.below hb1 (by omega)
  have y1 := x1.six.1
  go_wp2_with fail
  refine (appendNumber_any (w.heap.size + 3) 2 _ _ seq 2 w1 rfl (by omega) (by omega) (by decide) (by simp [be, beK_len]) (by have := hb1.size; omega) ho1).mono ?_
  rintro r w2 ⟨v2, rfl, ho2, hb2⟩
  have x2 := x1.below hb2 (by omega)
  have y2 := x2.six.2.1
  clear y1
  go_wp2_with fail
  refine (appendNumber_any (w.heap.size + 3) 4 _ _ time 4 w2 rfl (by omega) (by omega) (by decide) (by simp [be, beK_len]) (by have := hb1.size; have := hb2.size; omega) ho2).mono ?_
  rintro r w3 ⟨v3, rfl, ho3, hb3⟩
  have x3 := x2.below hb3 (by omega)
  have y3 := x3.six.2.2.2.2.2
  clear y2
  go_wp2_with fail
  refine (appendNumber_any (w.heap.size + 3) 1 _ _ (t.size : Int) 1 w3 rfl (by omega) (by omega) (by decide) (by simp [be, beK_len]) (by have := hb1.size; have := hb2.size; have := hb3.size; omega) ho3).mono ?_
  rintro r w4 ⟨v4, rfl, ho4, hb4⟩
  have x4 := x3.below hb4 (by omega)
  have y4 := x4.six.2.2.2.2.2
  have hle4 : w.heap.size + 3 ≤ w4.heap.size := by have := hb1.size; have := hb2.size; have := hb3.size; have := hb4.size; omega
  have hfin4 : Below w.heap.size w w4 := (((hb0.trans (hb1.mono (by omega))).trans (hb2.mono (by omega))).trans (hb3.mono (by omega))).trans (hb4.mono (by omega))
  clear y3 x0 x1 x2 x3 ho1 ho2 ho3 hb0 hb1 hb2 hb3 hb4
  obtain ⟨L, hL⟩ : ∃ L, L = [] ++ be (128 + Pk.flags f e k) 1 ++ be seq 2 ++ be time 4 ++ be (t.size : Int) 1 := ⟨_, rfl⟩
  rw [← hL] at ho4
  have HL : Hid (L = [] ++ be (128 + Pk.flags f e k) 1 ++ be seq 2 ++ be time 4 ++ be (t.size : Int) 1) := hL
  have hLl : L.length = 8 := by rw [hL]; simp [be, beK_len]
  have hL8 : L.length ≤ 8 := by omega
  have HL8 : Hid (L.length = 8) := hLl
  clear hL hLl
  go_wp2_with (at_builtin; refine Lib.wpList_append_own_string _ rfl _ _ 45 9 rfl (w.heap.size + 3) 5 i0 Try.underlying45 Try.underlying9 hi hz0 hz1 hz2 v4 _ _ rfl ho4 t rfl (by unfold maxLen; omega) (by omega) (by omega) ?_; intro v5 w5 ho5 hg5 _; have hcv := convert_own2 ho5 HL8.out)
  go_ret2
  refine ⟨?_, hfin4.grown hg5 (by omega) (fun j hj => by have := (ho4.lt j hj).1; omega)⟩
  show Ending.returned (.tuple #[.string ⟨(L ++ t.data.toList).toArray⟩, .int .i64 0]) = _
  rw [show L ++ t.data.toList = Pk.enc ⟨seq, time, f, e, k, t⟩ by rw [HL.out]; simp [Pk.enc]]

end Go.Proofs.Ytaabikjdockclaa
