/-
  Contracts: the reader that takes bytes off the front of a text.
-/
import Derived.Test.YtaabikjdockclaaWireEncode
import Derived.Recover
import Derived.Defers
import Derived.Lib.Strings
import Derived.Lib.Walk
import Derived.Lib.BufferWrite
import Derived.Lib.UnsafeStr
import Derived.Laws.MakeOwn
namespace Go.Proofs.Ytaabikjdockclaa
open Go.RowKit

set_option maxHeartbeats 1000000 in
theorem take_few (B : Nat) (s : ByteArray) (n : Int) (w : World) (hc : w.cell? ⟨B, 0, none⟩ = some (.string s)) (hn : (s.size : Int) < n) :
    Calls Try.prog 37 #[.pointer (some ⟨B, 0, none⟩), .int .i64 n] w fun e w' =>
      e = .panicked [{ v := .iface 62 (.agg #[]), recovered := false }] ∧ w = w' := by
  go_enter Try.func37, Try.ntmps37
  go_wp2
  exact ⟨rfl, rfl, rfl⟩

set_option maxHeartbeats 1000000 in
theorem take_some (B n : Nat) (s : ByteArray) (w : World) (hc : w.cell? ⟨B, 0, none⟩ = some (.string s)) (hf : w.frozen? ⟨B, 0, none⟩ = false) (hn : n ≤ s.size) :
    Calls Try.prog 37 #[.pointer (some ⟨B, 0, none⟩), .int .i64 n] w fun e w' =>
      e = .returned (.string (s.extract 0 n)) ∧ w' = w.setCell ⟨B, 0, none⟩ (.string (s.extract n s.size)) := by
  have hn' : ¬ (s.size : Int) < (n : Int) := by omega
  go_enter Try.func37, Try.ntmps37
  go_wp2
  go_ret
  exact ⟨rfl, rfl⟩

/-- the number of bytes, the greatest first -/
def num (l : List UInt8) : Int := l.foldl (fun a b => a * 256 + b.toNat) 0
theorem num_snoc (l : List UInt8) (b : UInt8) : num (l ++ [b]) = num l * 256 + b.toNat := by simp [num]
theorem num_bd (l : List UInt8) : 0 ≤ num l ∧ num l < 256 ^ l.length := by
  have : ∀ (l : List UInt8) (a : Int) (k : Nat), 0 ≤ a → a < 256 ^ k → 0 ≤ l.foldl (fun a b => a * 256 + (b.toNat : Int)) a ∧ l.foldl (fun a b => a * 256 + (b.toNat : Int)) a < 256 ^ (k + l.length) := by
    intro l
    induction l with
    | nil => intro a k h1 h2; exact ⟨h1, h2⟩
    | cons x r ih =>
      intro a k h1 h2
      have hx : x.toNat < 256 := x.toNat_lt
      have := ih (a * 256 + x.toNat) (k + 1) (by omega) (by rw [Int.pow_succ]; omega)
      rw [List.length_cons, show k + (r.length + 1) = k + 1 + r.length by omega]
      exact this
  have h := this l 0 0 (by decide) (by decide)
  rw [Nat.zero_add] at h
  exact h

theorem wrap_small (n : Int) (h0 : 0 ≤ n) (h1 : n < 2 ^ 40) : IntKind.i64.wrap n = n := by
  rw [IntKind.wrap_i64]; omega
theorem or_byte (a c : Int) (h0 : 0 ≤ a) (h1 : a < 256 ^ 3) (h2 : 0 ≤ c) (h3 : c < 256) : bits .or .i64 (wrap64 (a * 256)) c = a * 256 + c := by
  have e : wrap64 (a * 256) = a * 256 := by unfold wrap64; omega
  rw [e]
  exact bits_join .i64 40 (by decide) wrap_small 8 (a * 256) c (by omega) (by omega) (by omega) h2 (by omega) (by omega)
theorem pow_le3 (k : Nat) (h : k < 4) : (256 : Int) ^ k ≤ 256 ^ 3 := by
  match k, h with
  | 0, _ => decide
  | 1, _ => decide
  | 2, _ => decide
  | 3, _ => decide
theorem u8_snoc (l : List UInt8) (k : Nat) (h : k < l.length) : l.take (k + 1) = l.take k ++ [l[k]?.getD 0] := by
  rw [List.take_add_one, List.getElem?_eq_getElem h]; rfl

set_option maxHeartbeats 1000000 in
theorem number_few (B : Nat) (s : ByteArray) (n : Int) (w : World) (hc : w.cell? ⟨B, 0, none⟩ = some (.string s)) (hn : (s.size : Int) < n) :
    Calls Try.prog 27 #[.pointer (some ⟨B, 0, none⟩), .int .i64 n] w fun e w' =>
      e = .panicked [{ v := .iface 62 (.agg #[]), recovered := false }] ∧ w = w' := by
  go_enter Try.func27, Try.ntmps27
  go_wp2_with (go_at_call 37; refine (take_few B s n _ hc hn).mono ?_; rintro e w' ⟨rfl, rfl⟩)
  exact ⟨rfl, rfl, rfl⟩

theorem bytesRow_at (s : ByteArray) (cap j : Nat) (h : j < s.size) : (bytesRow s cap)[j]? = some (.int .u8 (s.data.toList[j]?.getD 0).toNat) := by
  have h' : j < s.data.size := h
  unfold bytesRow
  rw [Array.getElem?_append_left (by simpa using h'), Array.getElem?_map, Array.getElem?_eq_getElem h', Array.getElem?_toList, Array.getElem?_eq_getElem h']
  rfl

theorem new_marked {w : World} {a : Addr} {v : Value} {s : ByteArray} {cap : Nat} {t : TypeId} {mk : Nat × Nat} (j : Nat) (h : j < s.size) :
    ((w.setCell a v).alloc (.cells (bytesRow s cap) t mk)).drew.cell? ⟨w.heap.size, j, none⟩ = some (.int .u8 (s.data.toList[j]?.getD 0).toNat) := by
  have h1 := World.cell?_alloc_mark (w.setCell a v) (bytesRow s cap) t mk j
  rw [World.size_setCell] at h1
  exact h1.trans (bytesRow_at s cap j h)

theorem extract_len (s : ByteArray) (n : Nat) (h : n ≤ s.size) : (s.extract 0 n).size = n := by
  rw [ByteArray.size_extract]; omega

set_option maxHeartbeats 1000000 in
theorem number_some (B n : Nat) (s : ByteArray) (w : World) (hc : w.cell? ⟨B, 0, none⟩ = some (.string s)) (hf : w.frozen? ⟨B, 0, none⟩ = false) (hn : n ≤ s.size) (h4 : n ≤ 4) :
    Calls Try.prog 27 #[.pointer (some ⟨B, 0, none⟩), .int .i64 n] w fun e w' =>
      e = .returned (.int .i64 (num (s.data.toList.take n))) ∧ Below w.heap.size (w.setCell ⟨B, 0, none⟩ (.string (s.extract n s.size))) w' := by
  have hbs := fun (wx : World) (s : ByteArray) => run_bytes_of_string (P := Try.prog) wx 9 45 5 s Try.underlying9 Try.underlying45 Try.underlying5
  go_enter Try.func27, Try.ntmps27
  go_wp2_with (go_at_call 37; refine (take_some B n s _ hc hf hn).mono ?_; rintro e w' ⟨rfl, rfl⟩)
  have hxl := extract_len s n hn
  obtain ⟨l, hl⟩ : ∃ l, l = (s.extract 0 n).data.toList := ⟨_, rfl⟩
  have hll : l.length = n := by rw [hl]; exact hxl
  have HL : Hid (l = (s.extract 0 n).data.toList) := hl
  have HLL : Hid (l.length = n) := hll
  clear hbs
  go_loopw [5, 13] (fun v i wr => ∃ (k : Nat), k ≤ n ∧ i = .int .i64 k ∧ v = .int .i64 (num (l.take k)) ∧ (∀ j, j < n → wr.cell? ⟨w.heap.size, j, none⟩ = some (.int .u8 (l[j]?.getD 0).toNat)) ∧ Below w.heap.size (w.setCell ⟨B, 0, none⟩ (.string (s.extract n s.size))) wr) (fun _ i _ => n - (intOf i).toNat)
  case atStart =>
    refine ⟨0, Nat.zero_le _, rfl, rfl, fun j hj => ?_, ?_⟩
    · rw [HL.out]; exact new_marked j (by rw [hxl]; exact hj)
    · exact (((Below.refl _ _).alloc (by simp) _)).drew
  case round =>
    obtain ⟨k, hk, rfl, rfl, hcl, hnx⟩ := hrel
    by_cases hlt : k < n
    · have hck := hcl k hlt
      have hlt' : (k : Int) < (n : Int) := by omega
      obtain ⟨x, hx⟩ : ∃ x, x = l[k]?.getD 0 := ⟨_, rfl⟩
      rw [← hx] at hck
      have HX : Hid (x = l[k]?.getD 0) := hx
      have hxb : (x.toNat : Int) < 256 := by have := x.toNat_lt; omega
      have hnb := num_bd (l.take k)
      have hnb1 := hnb.1
      have hor : bits .or .i64 (wrap64 (num (l.take k) * 256)) (x.toNat : Int) = num (l.take (k + 1)) := by
        rw [u8_snoc l k (by omega), num_snoc, ← hx]
        refine or_byte _ _ hnb.1 ?_ (by omega) hxb
        have h3 := hnb.2
        rw [List.length_take, Nat.min_eq_left (by omega)] at h3
        have := pow_le3 k (by omega)
        omega
      have HOR : Hid (bits .or .i64 (wrap64 (num (l.take k) * 256)) (x.toNat : Int) = num (l.take (k + 1))) := hor
      have HCL : Hid (∀ j, j < n → wr.cell? ⟨w.heap.size, j, none⟩ = some (.int .u8 (l[j]?.getD 0).toNat)) := hcl
      clear hx hcl hl hll hnb hor
      go_wp2
      exact ⟨⟨k + 1, by omega, by go_num, by rw [HOR.out], HCL.out, hnx⟩, by simp [intOf]; omega⟩
    · have hkn : k = n := by omega
      have hfin : num (l.take k) = num (s.data.toList.take n) := by rw [List.take_of_length_le (by omega), hl]; simp
      have HF : Hid (num (l.take k) = num (s.data.toList.take n)) := hfin
      have hge : ¬ (k : Int) < (n : Int) := by omega
      clear hcl hl hll hfin hkn
      go_wp2
      go_ret
      refine ⟨?_, hnx⟩
      show Ending.returned (.int .i64 (num (l.take k))) = _
      rw [HF.out]

set_option maxHeartbeats 4000000 in
set_option maxRecDepth 100000 in
/-- what strings.Clone hands back: the same bytes -/
theorem clone_any (s : ByteArray) (w : World) (hlim : s.size ≤ 281474976710656) :
    Calls Try.prog 39 #[.string s] w fun e w' => e = .returned (.string s) ∧ Below w.heap.size w w' := by
  by_cases h0 : s.size = 0
  · have hs : s = ⟨#[]⟩ := by
      apply ByteArray.ext
      exact Array.eq_empty_of_size_eq_zero h0
    subst hs
    go_enter Try.func39, Try.ntmps39
    go_wp2
    go_ret
    exact ⟨rfl, Below.refl _ _⟩
  · obtain ⟨i0, hi, hz0, hz1, hz2⟩ := info_parts Try.infoU8
    have hinfo : (Try.prog.info? 5).map (·.size) = some 1 := by rw [hi]; simp [hz1]
    have hco : Try.prog.cellsOf 5 = 1 := by simp [Program.cellsOf, hi, hz1]
    obtain ⟨M, hM⟩ : ∃ M, M = madeCells (Value.int .u8 0).cells (((s.size : Nat) : Int).toNat * i0.size) := ⟨_, rfl⟩
    have hMs : M.size = s.size := by rw [hM, size_madeCells, hz1]; simp
    have hmk : ∀ W : World, (Instr.makeSlice 45 (.int .i64 (s.size : Int)) (.int .i64 (s.size : Int))).run Try.prog W = .ok (.slice (some ⟨W.heap.size, 0, none⟩) s.size s.size) (W.alloc (.cells M 5)) := fun W => by
      have h := run_make (P := Try.prog) W 45 5 i0 (.int .u8 0) Try.underlying45 hi hz0 .i64 .i64 (s.size : Int) (s.size : Int) (by omega) (by omega) (by rw [hz2]; omega) (by omega)
      rw [← hM] at h
      simpa using h
    clear hM
    have hcp := Lib.run_copy_row_string (P := Try.prog) (w.alloc (.cells M 5)) 45 9 3 5 w.heap.size 0 s.size s.size s M 5 Try.underlying45 hinfo (heap_alloc_new w _) (Nat.le_refl _) (by omega)
    obtain ⟨Y, hY⟩ : ∃ Y, Y = (M.toList.take 0 ++ Lib.byteCells s.data.toList ++ M.toList.drop (0 + s.size)).toArray := ⟨_, rfl⟩
    rw [← hY] at hcp
    have hYl : Y.toList = Lib.byteCells s.data.toList := by
      rw [hY, List.toList_toArray, List.take_zero, List.nil_append, List.drop_of_length_le (by rw [Array.length_toList]; omega), List.append_nil]
    have hYs : Y.size = s.size := by rw [← Array.length_toList, hYl, Lib.byteCells_length, ← Lib.size_eq]
    have hgY : ((w.alloc (.cells M 5)).setRow w.heap.size Y).heap[w.heap.size]? = some (.cells Y 5 (0, 0)) := setRow_heap _ _ M _ 5 (0, 0) (heap_alloc_new w _)
    have hne : s.data.toList ≠ [] := fun e => h0 (by rw [Lib.size_eq, e]; rfl)
    have hUS := Lib.run_unsafeString_row (P := Try.prog) ((w.alloc (.cells M 5)).setRow w.heap.size Y) 69 3 9 5 Try.underlying69 hco w.heap.size Y.size (by unfold World.shape?; rw [hgY]) s.data.toList hne (by rw [← Lib.size_eq]; omega) (by rw [← Lib.size_eq]; omega)
      (fun j x hx => Lib.cells_of_row hgY Y.size j _ (by rw [List.take_of_length_le (by rw [Array.length_toList]; exact Nat.le_refl _), hYl]; simp [Lib.byteCells, hx]))
    rw [← Lib.size_eq] at hUS
    clear hY
    go_enter Try.func39, Try.ntmps39
    go_wp2
    go_ret
    have hb1 : Below w.heap.size w (w.alloc (.cells M 5)) := (Below.refl _ w).alloc (Nat.le_refl _) _
    have hb2 : Below w.heap.size (w.alloc (.cells M 5)) ((w.alloc (.cells M 5)).setRow w.heap.size Y) := ⟨rfl, rfl, rfl, by simp, fun k hk => setRow_other _ _ _ _ (by omega)⟩
    exact ⟨rfl, Lib.below_freeze (hb1.trans hb2) (p := ⟨w.heap.size, 0, none⟩) (Nat.le_refl _) _⟩

end Go.Proofs.Ytaabikjdockclaa
