/-
  Plain mathematics of packets: no Go in sight.
-/
import Derived.WalkKit
namespace Go.Proofs.Ytnpaejknoipicad

/-- a packet, as its six fields -/
structure Pk where
  seq : Int
  time : Int
  f : Bool
  e : Bool
  k : Bool
  t : ByteArray

namespace Pk
def cells (p : Pk) : Array Value := #[.int .i64 p.seq, .int .i64 p.time, .bool p.f, .bool p.e, .bool p.k, .string p.t]
def val (p : Pk) : Value := .agg #[.int .i64 p.seq, .int .i64 p.time, .bool p.f, .bool p.e, .bool p.k, .string p.t]
def zero : Pk := ⟨0, 0, false, false, false, ByteArray.empty⟩
/-- what Check says -/
def chk (p : Pk) : Int :=
  if p.seq < 0 then 3 else if 65535 < p.seq then 3 else if p.time < 0 then 3 else if 1000000 < p.time then 3 else if 8 < (p.t.size : Int) then 2 else if p.k && !p.f then 4 else 0
end Pk
/-- byte i of a number, the lowest is 0 -/
def byteU (n : Int) (i : Nat) : UInt8 := UInt8.ofNat (n / 2 ^ (8 * i) % 256).toNat
theorem byteU_toNat (n : Int) (i : Nat) : ((byteU n i).toNat : Int) = n / 2 ^ (8 * i) % 256 := by
  have h1 : 0 ≤ n / 2 ^ (8 * i) % 256 := Int.emod_nonneg _ (by decide)
  have h2 : n / 2 ^ (8 * i) % 256 < 256 := Int.emod_lt_of_pos _ (by decide)
  unfold byteU
  rw [UInt8.toNat_ofNat', Nat.mod_eq_of_lt (by omega)]
  omega
/-- the k first bytes of so many, the greatest first -/
def beK (n : Int) (size k : Nat) : List UInt8 := (List.range k).map fun j => byteU n (size - 1 - j)
def be (n : Int) (size : Nat) : List UInt8 := beK n size size
theorem beK_succ (n : Int) (size k : Nat) : beK n size (k + 1) = beK n size k ++ [byteU n (size - 1 - k)] := by simp [beK, List.range_succ]
theorem beK_len (n : Int) (size k : Nat) : (beK n size k).length = k := by simp [beK]
/-- bytes as cells -/
def bcells (l : List UInt8) : List Value := l.map fun b => Value.int .u8 b.toNat
theorem bcells_len (l : List UInt8) : (bcells l).length = l.length := by simp [bcells]
theorem bcells_append (l m : List UInt8) : bcells (l ++ m) = bcells l ++ bcells m := by simp [bcells]
theorem bcells_one (n : Int) (i : Nat) : bcells [byteU n i] = [.int .u8 (n / 2 ^ (8 * i) % 256)] := by simp [bcells, byteU_toNat]
/-- a list of bytes as a text -/
def ba (l : List UInt8) : ByteArray := ⟨l.toArray⟩
theorem ba_size (l : List UInt8) : (ba l).size = l.length := by simp [ba, ByteArray.size]
theorem ba_data (l : List UInt8) : (ba l).data.toList = l := by simp [ba]
theorem ba_take (l : List UInt8) (n : Nat) : (ba l).extract 0 n = ba (l.take n) := by
  apply ByteArray.ext; simp [ba]
theorem ba_drop (l : List UInt8) (n : Nat) : (ba l).extract n (ba l).size = ba (l.drop n) := by
  rw [ba_size]; apply ByteArray.ext; simp [ba, List.take_of_length_le]
theorem ba_of (s : ByteArray) : ba s.data.toList = s := by cases s; simp [ba]
end Go.Proofs.Ytnpaejknoipicad
