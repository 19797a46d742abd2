/-
  Contracts: the reader that takes bytes off the front of a text.
-/
import Derived.Test.YtnpaejknoipicadWireEncode
import Derived.Recover
import Derived.Defers
namespace Go.Proofs.Ytnpaejknoipicad
open Go.RowKit

set_option maxHeartbeats 1000000 in
theorem take_few (B : Nat) (s : ByteArray) (n : Int) (w : World) (hc : w.cell? ⟨B, 0, none⟩ = some (.string s)) (hn : (s.size : Int) < n) :
    Calls Try.prog 94 #[.pointer (some ⟨B, 0, none⟩), .int .i64 n] w fun e w' =>
      e = .panicked [{ v := .iface 155 (.agg #[]), recovered := false }] ∧ w = w' := by
  go_enter Try.func94, Try.ntmps94
  go_wp2
  exact ⟨rfl, rfl, rfl⟩

set_option maxHeartbeats 1000000 in
theorem take_some (B n : Nat) (s : ByteArray) (w : World) (hc : w.cell? ⟨B, 0, none⟩ = some (.string s)) (hf : w.frozen? ⟨B, 0, none⟩ = false) (hn : n ≤ s.size) :
    Calls Try.prog 94 #[.pointer (some ⟨B, 0, none⟩), .int .i64 n] w fun e w' =>
      e = .returned (.string (s.extract 0 n)) ∧ w' = w.setCell ⟨B, 0, none⟩ (.string (s.extract n s.size)) := by
  have hn' : ¬ (s.size : Int) < (n : Int) := by omega
  go_enter Try.func94, Try.ntmps94
  go_wp2
  go_ret
  exact ⟨rfl, rfl⟩

/-- the number of bytes, the greatest first -/
def num (l : List UInt8) : Int := l.foldl (fun a b => a * 256 + b.toNat) 0
theorem num_snoc (l : List UInt8) (b : UInt8) : num (l ++ [b]) = num l * 256 + b.toNat := by simp [num]
theorem num_bd (l : List UInt8) : 0 ≤ num l ∧ num l < 256 ^ l.length := by
  have : ∀ (l : List UInt8) (a : Int) (k : Nat), 0 ≤ a → a < 256 ^ k → 0 ≤ l.foldl (fun a b => a * 256 + (b.toNat : Int)) a ∧ l.foldl (fun a b => a * 256 + (b.toNat : Int)) a < 256 ^ (k + l.length) := by
    intro l
    induction l with
    | nil => intro a k h1 h2; exact ⟨h1, h2⟩
    | cons x r ih =>
      intro a k h1 h2
      have hx : x.toNat < 256 := x.toNat_lt
      have := ih (a * 256 + x.toNat) (k + 1) (by omega) (by rw [Int.pow_succ]; omega)
      rw [List.length_cons, show k + (r.length + 1) = k + 1 + r.length by omega]
      exact this
  have h := this l 0 0 (by decide) (by decide)
  rw [Nat.zero_add] at h
  exact h

theorem wrap_small (n : Int) (h0 : 0 ≤ n) (h1 : n < 2 ^ 40) : IntKind.i64.wrap n = n := by
  rw [IntKind.wrap_i64]; omega
theorem or_byte (a c : Int) (h0 : 0 ≤ a) (h1 : a < 256 ^ 3) (h2 : 0 ≤ c) (h3 : c < 256) : bits .or .i64 (wrap64 (a * 256)) c = a * 256 + c := by
  have e : wrap64 (a * 256) = a * 256 := by unfold wrap64; omega
  rw [e]
  exact bits_join .i64 40 (by decide) wrap_small 8 (a * 256) c (by omega) (by omega) (by omega) h2 (by omega) (by omega)
theorem pow_le3 (k : Nat) (h : k < 4) : (256 : Int) ^ k ≤ 256 ^ 3 := by
  match k, h with
  | 0, _ => decide
  | 1, _ => decide
  | 2, _ => decide
  | 3, _ => decide
theorem u8_snoc (l : List UInt8) (k : Nat) (h : k < l.length) : l.take (k + 1) = l.take k ++ [l[k]?.getD 0] := by
  rw [List.take_add_one, List.getElem?_eq_getElem h]; rfl

set_option maxHeartbeats 1000000 in
theorem number_few (B : Nat) (s : ByteArray) (n : Int) (w : World) (hc : w.cell? ⟨B, 0, none⟩ = some (.string s)) (hn : (s.size : Int) < n) :
    Calls Try.prog 95 #[.pointer (some ⟨B, 0, none⟩), .int .i64 n] w fun e w' =>
      e = .panicked [{ v := .iface 155 (.agg #[]), recovered := false }] ∧ w = w' := by
  go_enter Try.func95, Try.ntmps95
  go_wp2_with (go_at_call 94; refine (take_few B s n _ hc hn).mono ?_; rintro e w' ⟨rfl, rfl⟩)
  exact ⟨rfl, rfl, rfl⟩

theorem bytesRow_at (s : ByteArray) (cap j : Nat) (h : j < s.size) : (bytesRow s cap)[j]? = some (.int .u8 (s.data.toList[j]?.getD 0).toNat) := by
  have h' : j < s.data.size := h
  unfold bytesRow
  rw [Array.getElem?_append_left (by simpa using h'), Array.getElem?_map, Array.getElem?_eq_getElem h', Array.getElem?_toList, Array.getElem?_eq_getElem h']
  rfl

theorem new_marked {w : World} {a : Addr} {v : Value} {s : ByteArray} {cap : Nat} {t : TypeId} {mk : Nat × Nat} (j : Nat) (h : j < s.size) :
    ((w.setCell a v).alloc (.cells (bytesRow s cap) t mk)).drew.cell? ⟨w.heap.size, j, none⟩ = some (.int .u8 (s.data.toList[j]?.getD 0).toNat) := by
  have h1 := World.cell?_alloc_mark (w.setCell a v) (bytesRow s cap) t mk j
  rw [World.size_setCell] at h1
  exact h1.trans (bytesRow_at s cap j h)

theorem extract_len (s : ByteArray) (n : Nat) (h : n ≤ s.size) : (s.extract 0 n).size = n := by
  rw [ByteArray.size_extract]; omega

set_option maxHeartbeats 1000000 in
theorem number_some (B n : Nat) (s : ByteArray) (w : World) (hc : w.cell? ⟨B, 0, none⟩ = some (.string s)) (hf : w.frozen? ⟨B, 0, none⟩ = false) (hn : n ≤ s.size) (h4 : n ≤ 4) :
    Calls Try.prog 95 #[.pointer (some ⟨B, 0, none⟩), .int .i64 n] w fun e w' =>
      e = .returned (.int .i64 (num (s.data.toList.take n))) ∧ Below w.heap.size (w.setCell ⟨B, 0, none⟩ (.string (s.extract n s.size))) w' := by
  have hbs := fun (wx : World) (s : ByteArray) => run_bytes_of_string (P := Try.prog) wx 9 116 5 s Try.underlying9 Try.underlying116 Try.underlying5
  go_enter Try.func95, Try.ntmps95
  go_wp2_with (go_at_call 94; refine (take_some B n s _ hc hf hn).mono ?_; rintro e w' ⟨rfl, rfl⟩)
  have hxl := extract_len s n hn
  obtain ⟨l, hl⟩ : ∃ l, l = (s.extract 0 n).data.toList := ⟨_, rfl⟩
  have hll : l.length = n := by rw [hl]; exact hxl
  have HL : Hid (l = (s.extract 0 n).data.toList) := hl
  have HLL : Hid (l.length = n) := hll
  clear hbs
  go_loopw [5, 13] (fun v i wr => ∃ (k : Nat), k ≤ n ∧ i = .int .i64 k ∧ v = .int .i64 (num (l.take k)) ∧ (∀ j, j < n → wr.cell? ⟨w.heap.size, j, none⟩ = some (.int .u8 (l[j]?.getD 0).toNat)) ∧ Below w.heap.size (w.setCell ⟨B, 0, none⟩ (.string (s.extract n s.size))) wr) (fun _ i _ => n - (intOf i).toNat)
  case atStart =>
    refine ⟨0, Nat.zero_le _, rfl, rfl, fun j hj => ?_, ?_⟩
    · rw [HL.out]; exact new_marked j (by rw [hxl]; exact hj)
    · exact (((Below.refl _ _).alloc (by simp) _)).drew
  case round =>
    obtain ⟨k, hk, rfl, rfl, hcl, hnx⟩ := hrel
    by_cases hlt : k < n
    · have hck := hcl k hlt
      have hlt' : (k : Int) < (n : Int) := by omega
      obtain ⟨x, hx⟩ : ∃ x, x = l[k]?.getD 0 := ⟨_, rfl⟩
      rw [← hx] at hck
      have HX : Hid (x = l[k]?.getD 0) := hx
      have hxb : (x.toNat : Int) < 256 := by have := x.toNat_lt; omega
      have hnb := num_bd (l.take k)
      have hnb1 := hnb.1
      have hor : bits .or .i64 (wrap64 (num (l.take k) * 256)) (x.toNat : Int) = num (l.take (k + 1)) := by
        rw [u8_snoc l k (by omega), num_snoc, ← hx]
        refine or_byte _ _ hnb.1 ?_ (by omega) hxb
        have h3 := hnb.2
        rw [List.length_take, Nat.min_eq_left (by omega)] at h3
        have := pow_le3 k (by omega)
        omega
      have HOR : Hid (bits .or .i64 (wrap64 (num (l.take k) * 256)) (x.toNat : Int) = num (l.take (k + 1))) := hor
      have HCL : Hid (∀ j, j < n → wr.cell? ⟨w.heap.size, j, none⟩ = some (.int .u8 (l[j]?.getD 0).toNat)) := hcl
      clear hx hcl hl hll hnb hor
      go_wp2
      exact ⟨⟨k + 1, by omega, by go_num, by rw [HOR.out], HCL.out, hnx⟩, by simp [intOf]; omega⟩
    · have hkn : k = n := by omega
      have hfin : num (l.take k) = num (s.data.toList.take n) := by rw [List.take_of_length_le (by omega), hl]; simp
      have HF : Hid (num (l.take k) = num (s.data.toList.take n)) := hfin
      have hge : ¬ (k : Int) < (n : Int) := by omega
      clear hcl hl hll hfin hkn
      go_wp2
      go_ret
      refine ⟨?_, hnx⟩
      show Ending.returned (.int .i64 (num (l.take k))) = _
      rw [HF.out]

end Go.Proofs.Ytnpaejknoipicad
