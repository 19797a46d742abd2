/-
  Contract: wire.Encode.
-/
import Derived.Test.YtnpaejknoipicadRawWrite
namespace Go.Proofs.Ytnpaejknoipicad
open Go.RowKit

/-- the bytes of a packet -/
def Pk.enc (p : Pk) : List UInt8 := be (128 + Pk.flags p.f p.e p.k) 1 ++ be p.seq 2 ++ be p.time 4 ++ be p.t.size 1 ++ p.t.data.toList

theorem Pk.chk_ok {p : Pk} (h : p.chk = 0) : 0 ≤ p.seq ∧ p.seq ≤ 65535 ∧ 0 ≤ p.time ∧ p.time ≤ 1000000 ∧ (p.t.size : Int) ≤ 8 ∧ (p.k && !p.f) = false := by
  unfold Pk.chk at h
  by_cases h1 : p.seq < 0
  · rw [if_pos h1] at h; exact absurd h (by decide)
  rw [if_neg h1] at h
  by_cases h2 : 65535 < p.seq
  · rw [if_pos h2] at h; exact absurd h (by decide)
  rw [if_neg h2] at h
  by_cases h3 : p.time < 0
  · rw [if_pos h3] at h; exact absurd h (by decide)
  rw [if_neg h3] at h
  by_cases h4 : 1000000 < p.time
  · rw [if_pos h4] at h; exact absurd h (by decide)
  rw [if_neg h4] at h
  by_cases h5 : 8 < (p.t.size : Int)
  · rw [if_pos h5] at h; exact absurd h (by decide)
  rw [if_neg h5] at h
  cases h6 : (p.k && !p.f)
  · exact ⟨by omega, by omega, by omega, by omega, by omega, rfl⟩
  · rw [h6] at h; exact absurd h (by decide)

theorem Pk.flags_le (f e k : Bool) : 0 ≤ Pk.flags f e k ∧ Pk.flags f e k ≤ 7 := by cases f <;> cases e <;> cases k <;> decide

/-- 'string(b)', b a row of the call's own -/
theorem convert_own {w : World} {base : Nat} {v : Value} {l : List UInt8} (hown : w.ownsRow base 5 1 v l.length (bcells l)) (hne : 0 < l.length) :
    (convert 116 9 v).run Try.prog w = .ok (.string ⟨l.toArray⟩) w := by
  obtain ⟨_, ⟨_, h0⟩ | ⟨b, off, c, rfl, _, hc⟩⟩ := Sl.of_owns hown
  · rename_i h1
    omega
  · refine run_convert_bytes_back w 116 9 5 ⟨b, off, none⟩ c l Try.underlying116 Try.underlying5 Try.underlying9 (fun j hj => ?_)
    rw [Addr.add_lit]
    exact hc j _ (by simp [bcells, List.getElem?_eq_getElem hj])
theorem convert_own2 {w : World} {base : Nat} {v : Value} {l : List UInt8} {t : ByteArray} (hown : w.ownsRow base 5 1 v (l.length + t.size) (bcells l ++ Lib.strCells t)) (hne : l.length = 8) :
    (convert 116 9 v).run Try.prog w = .ok (.string ⟨(l ++ t.data.toList).toArray⟩) w := by
  have e1 : (l ++ t.data.toList).length = l.length + t.size := by rw [List.length_append]; rfl
  have e2 : bcells (l ++ t.data.toList) = bcells l ++ Lib.strCells t := by rw [bcells_append]; rfl
  rw [← e1, ← e2] at hown
  exact convert_own hown (by rw [e1]; omega)

end Go.Proofs.Ytnpaejknoipicad
