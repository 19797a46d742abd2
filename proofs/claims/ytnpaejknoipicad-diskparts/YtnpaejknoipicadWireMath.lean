/-
  Plain mathematics: what is encoded is decoded as it was, and nothing else is.
-/
import Derived.Test.YtnpaejknoipicadWireDecode
namespace Go.Proofs.Ytnpaejknoipicad
open Go.RowKit

theorem u8_ext {a b : UInt8} (h : (a.toNat : Int) = (b.toNat : Int)) : a = b := by
  apply UInt8.toNat_inj.1; omega

theorem be1 (n : Int) : be n 1 = [byteU n 0] := rfl
theorem be2 (n : Int) : be n 2 = [byteU n 1, byteU n 0] := rfl
theorem be4 (n : Int) : be n 4 = [byteU n 3, byteU n 2, byteU n 1, byteU n 0] := rfl
theorem b0 (n : Int) : ((byteU n 0).toNat : Int) = n % 256 := by rw [byteU_toNat]; simp
theorem b1 (n : Int) : ((byteU n 1).toNat : Int) = n / 256 % 256 := by rw [byteU_toNat]; rfl
theorem b2 (n : Int) : ((byteU n 2).toNat : Int) = n / 65536 % 256 := by rw [byteU_toNat]; rfl
theorem b3 (n : Int) : ((byteU n 3).toNat : Int) = n / 16777216 % 256 := by rw [byteU_toNat]; rfl
theorem num2 (a b : UInt8) : num [a, b] = a.toNat * 256 + b.toNat := by simp [num]
theorem num4 (a b c d : UInt8) : num [a, b, c, d] = ((a.toNat * 256 + b.toNat) * 256 + c.toNat) * 256 + d.toNat := by simp [num]

theorem num_be2 (n : Int) (h0 : 0 ≤ n) (h1 : n ≤ 65535) : num [byteU n 1, byteU n 0] = n := by
  rw [num2, b0, b1]; omega
theorem num_be4 (n : Int) (h0 : 0 ≤ n) (h1 : n ≤ 4294967295) : num [byteU n 3, byteU n 2, byteU n 1, byteU n 0] = n := by
  rw [num4, b0, b1, b2, b3]; omega
theorem be_num2 (a b : UInt8) : byteU (num [a, b]) 1 = a ∧ byteU (num [a, b]) 0 = b := by
  have ha := a.toNat_lt
  have hb := b.toNat_lt
  refine ⟨u8_ext ?_, u8_ext ?_⟩
  · rw [b1, num2]; omega
  · rw [b0, num2]; omega
theorem be_num4 (a b c d : UInt8) : byteU (num [a, b, c, d]) 3 = a ∧ byteU (num [a, b, c, d]) 2 = b ∧ byteU (num [a, b, c, d]) 1 = c ∧ byteU (num [a, b, c, d]) 0 = d := by
  have ha := a.toNat_lt
  have hb := b.toNat_lt
  have hc := c.toNat_lt
  have hd := d.toNat_lt
  refine ⟨u8_ext ?_, u8_ext ?_, u8_ext ?_, u8_ext ?_⟩
  · rw [b3, num4]; omega
  · rw [b2, num4]; omega
  · rw [b1, num4]; omega
  · rw [b0, num4]; omega

/-- the bytes of a packet, one by one -/
theorem Pk.enc_eq (p : Pk) : p.enc = byteU (128 + Pk.flags p.f p.e p.k) 0 :: byteU p.seq 1 :: byteU p.seq 0 :: byteU p.time 3 :: byteU p.time 2 :: byteU p.time 1 :: byteU p.time 0 :: byteU p.t.size 0 :: p.t.data.toList := by
  simp [Pk.enc, be1, be2, be4]

theorem form_eq (a0 a1 a2 a3 a4 a5 a6 a7 : UInt8) (r : List UInt8) : formB (a0 :: a1 :: a2 :: a3 :: a4 :: a5 :: a6 :: a7 :: r) = (decide (r.length = a7.toNat) && decide (128 ≤ a0.toNat) && decide (a0.toNat ≤ 135)) := by
  have e1 : (8 ≤ (a0 :: a1 :: a2 :: a3 :: a4 :: a5 :: a6 :: a7 :: r).length) = True := by simp
  have e2 : ((a0 :: a1 :: a2 :: a3 :: a4 :: a5 :: a6 :: a7 :: r).length = 8 + a7.toNat) = (r.length = a7.toNat) := by simp; omega
  simp only [formB, at8]
  show (decide (8 ≤ (a0 :: a1 :: a2 :: a3 :: a4 :: a5 :: a6 :: a7 :: r).length) && decide ((a0 :: a1 :: a2 :: a3 :: a4 :: a5 :: a6 :: a7 :: r).length = 8 + a7.toNat) && decide (128 ≤ a0.toNat) && decide (a0.toNat ≤ 135)) = _
  simp only [e1, e2, decide_true, Bool.true_and]
theorem told_eq (a0 a1 a2 a3 a4 a5 a6 a7 : UInt8) (r : List UInt8) : Pk.told (a0 :: a1 :: a2 :: a3 :: a4 :: a5 :: a6 :: a7 :: r) = ⟨num [a1, a2], num [a3, a4, a5, a6], a0.toNat % 2 == 1, a0.toNat / 2 % 2 == 1, a0.toNat / 4 % 2 == 1, ba r⟩ := rfl

theorem flags_bits (f e k : Bool) : ((byteU (128 + Pk.flags f e k) 0).toNat % 2 == 1) = f ∧ ((byteU (128 + Pk.flags f e k) 0).toNat / 2 % 2 == 1) = e ∧ ((byteU (128 + Pk.flags f e k) 0).toNat / 4 % 2 == 1) = k ∧ 128 ≤ (byteU (128 + Pk.flags f e k) 0).toNat ∧ (byteU (128 + Pk.flags f e k) 0).toNat ≤ 135 := by
  cases f <;> cases e <;> cases k <;> decide
theorem bits_flags (a : UInt8) (h1 : 128 ≤ a.toNat) (h2 : a.toNat ≤ 135) : byteU (128 + Pk.flags (a.toNat % 2 == 1) (a.toNat / 2 % 2 == 1) (a.toNat / 4 % 2 == 1)) 0 = a := by
  apply u8_ext
  rw [b0]
  have : a.toNat = 128 ∨ a.toNat = 129 ∨ a.toNat = 130 ∨ a.toNat = 131 ∨ a.toNat = 132 ∨ a.toNat = 133 ∨ a.toNat = 134 ∨ a.toNat = 135 := by omega
  rcases this with h | h | h | h | h | h | h | h <;> rw [h] <;> decide

theorem Pk.dec_enc (p : Pk) (h : p.chk = 0) : Pk.dec p.enc = (p, 0) := by
  obtain ⟨h1, h2, h3, h4, h5, h6⟩ := Pk.chk_ok h
  obtain ⟨g1, g2, g3, g4, g5⟩ := flags_bits p.f p.e p.k
  have hs : (byteU p.t.size 0).toNat = p.t.size := by have := b0 p.t.size; omega
  have hf : formB p.enc = true := by
    rw [Pk.enc_eq, form_eq, hs]
    simp [g4, g5]
  have ht : Pk.told p.enc = p := by
    rw [Pk.enc_eq, told_eq, g1, g2, g3, num_be2 _ h1 h2, num_be4 _ h3 (by omega), ba_of]
  rw [Pk.dec, hf, ht, h]
  rfl

theorem Pk.enc_dec (l : List UInt8) (hf : formB l = true) : (Pk.told l).enc = l := by
  match l, hf with
  | [], hf => exact absurd hf (by decide)
  | [_], hf => simp [formB] at hf
  | [_, _], hf => simp [formB] at hf
  | [_, _, _], hf => simp [formB] at hf
  | [_, _, _, _], hf => simp [formB] at hf
  | [_, _, _, _, _], hf => simp [formB] at hf
  | [_, _, _, _, _, _], hf => simp [formB] at hf
  | [_, _, _, _, _, _, _], hf => simp [formB] at hf
  | a0 :: a1 :: a2 :: a3 :: a4 :: a5 :: a6 :: a7 :: r, hf =>
    rw [form_eq] at hf
    have hh : (r.length = a7.toNat ∧ 128 ≤ a0.toNat) ∧ a0.toNat ≤ 135 := by simpa using hf
    rw [told_eq, Pk.enc_eq]
    simp only
    rw [bits_flags a0 hh.1.2 hh.2, (be_num2 a1 a2).1, (be_num2 a1 a2).2, (be_num4 a3 a4 a5 a6).1, (be_num4 a3 a4 a5 a6).2.1, (be_num4 a3 a4 a5 a6).2.2.1, (be_num4 a3 a4 a5 a6).2.2.2, ba_data, ba_size, hh.1.1]
    have : byteU (a7.toNat : Int) 0 = a7 := u8_ext (by rw [b0]; have := a7.toNat_lt; omega)
    rw [this]

/-- what is decoded: nothing, beside an error; else what is encoded so -/
theorem Pk.dec_or (l : List UInt8) : ((Pk.dec l).1 = Pk.zero ∧ ((Pk.dec l).2 == 0) = false) ∨ ((Pk.dec l).2 = 0 ∧ (Pk.dec l).1.chk = 0 ∧ (Pk.dec l).1.enc = l) := by
  unfold Pk.dec
  cases hf : formB l
  · exact .inl ⟨rfl, rfl⟩
  · cases hc : ((Pk.told l).chk == 0)
    · exact .inl ⟨by simp, by simpa using hc⟩
    · exact .inr ⟨by simp, by simpa using hc, by simpa using Pk.enc_dec l hf⟩

end Go.Proofs.Ytnpaejknoipicad
