/-
  Contracts: the writer of package raw: Put, Number, Text, All.
-/
import Derived.Test.YtnpaejknoipicadWireNum
import Derived.Test.YtnpaejknoipicadAppAny
import Derived.Test.YtnpaejknoipicadButB
import Derived.Lib.AppendStr
namespace Go.Proofs.Ytnpaejknoipicad
open Go.RowKit

/-- a writer in block B that has put these bytes -/
def Wr (B base : Nat) (w : World) (xs : List UInt8) : Prop := ∃ a c, Blk w B #[.slice a xs.length c] 118 ∧ w.ownsRow base 5 1 (.slice a xs.length c) xs.length (bcells xs)
theorem Wr.alloc {B base : Nat} {w : World} {xs : List UInt8} (h : Wr B base w xs) (o : Obj) : Wr B base (w.alloc o) xs := by
  obtain ⟨a, c, h1, h2⟩ := h
  exact ⟨a, c, h1.alloc o, h2.alloc o⟩
theorem owns_slice {w : World} {base : Nat} {e : TypeId} {size n : Nat} {v : Value} {xs : List Value} (h : w.ownsRow base e size v n xs) : ∃ a c, v = .slice a n c := by
  obtain ⟨_, ⟨rfl, rfl⟩ | ⟨g, cap, cur, rfl, _⟩⟩ := h
  · exact ⟨_, _, rfl⟩
  · exact ⟨_, _, rfl⟩
theorem bcells_one2 (l : List UInt8) : ∀ y ∈ bcells l, y.oneCell' = true := fun y hy => by
  obtain ⟨b, _, rfl⟩ := List.mem_map.1 hy
  rfl

set_option maxHeartbeats 1000000 in
theorem rawPut_any (B base : Nat) (xs ys : List UInt8) (ua : Option Addr) (uc : Nat) (w : World) (hB : B < base) (hb : base ≤ w.heap.size) (hw : Wr B base w xs) (hu : Sl w (.slice ua ys.length uc) ys.length 1 (bcells ys)) (hm : xs.length + ys.length ≤ 1000000) :
    Calls Try.prog 98 #[.pointer (some ⟨B, 0, none⟩), .slice ua ys.length uc] w fun r w' => r = .returned (.tuple #[]) ∧ Wr B base w' (xs ++ ys) ∧ But B base w w' := by
  obtain ⟨i0, hi, hz0, hz1, hz2⟩ := info_parts Try.infoU8
  obtain ⟨a, c, hblk, hown⟩ := hw
  obtain ⟨v', w1, hr, ho1, hg1, _⟩ := run_append_any (P := Try.prog) w base 116 116 5 i0 (.int .u8 0) 1 1 Try.underlying116 hi hz0 hz1 hz2 rfl (by decide) _ _ _ hown _ _ _ hu (bcells_one2 _) (by unfold maxLen; omega) (by omega) hb
  have hn : xs.length + ys.length = (xs ++ ys).length := by simp
  rw [hn, ← bcells_append] at ho1
  obtain ⟨va, vc, ev⟩ := owns_slice ho1
  subst ev
  have hblk1 : Blk w1 B #[.slice a xs.length c] 118 := by
    refine (hg1.block B hblk.lt (fun e => ?_)).trans hblk
    have := (hown.lt B e.symm).1
    omega
  have hbe1 : But B base w w1 := .of_below ((Below.refl base w).grown hg1 hb (fun j hj => (hown.lt j hj).1))
  obtain ⟨m, hmm⟩ : ∃ m, m = (xs ++ ys).length := ⟨_, rfl⟩
  have HM : Hid (m = (xs ++ ys).length) := hmm
  rw [← hmm] at ho1 hr
  have HO : Hid (w1.ownsRow base 5 1 (.slice va m vc) m (bcells (xs ++ ys))) := ho1
  have HB1 : Hid (But B base w w1) := hbe1
  have hc := hblk.cell (j := 0) (u := .slice a xs.length c) rfl
  have HK : Hid (Blk w1 B #[.slice a xs.length c] 118) := hblk1
  have hc1 := hblk1.cell (j := 0) (u := .slice a xs.length c) rfl
  have hf1 := hblk1.free 0
  clear hown hblk hg1 ho1 hbe1 hblk1 hmm hn hm hu
  go_enter Try.func98, Try.ntmps98
  go_wp2_with (at_builtin; refine wpList_append_run rfl (.tmp 8) (.tmp 9) 116 116 rfl _ _ rfl rfl hr ?_)
  go_end0
  refine ⟨rfl, ⟨va, vc, ?_, ?_⟩, HB1.out.set 0 _⟩
  · rw [← HM.out]; exact HK.out.set 0 _
  · rw [← HM.out]
    exact ownsRow_setCell_below HO.out hB _

set_option maxHeartbeats 1000000 in
set_option maxRecDepth 1000000 in
theorem rawNumber_any (B base size : Nat) (xs : List UInt8) (n sz : Int) (w : World) (hsz : sz = (size : Int)) (_hn : 0 ≤ n) (_hn2 : n ≤ 4294967295) (hs : size ≤ 8) (hm : xs.length ≤ 900000) (hB : B < base) (hb : base ≤ w.heap.size) (hw : Wr B base w xs) :
    Calls Try.prog 73 #[.pointer (some ⟨B, 0, none⟩), .int .i64 n, .int .i64 sz] w fun r w' => r = .returned (.tuple #[]) ∧ Wr B base w' (xs ++ be n size) ∧ But B base w w' := by
  subst hsz
  go_enter Try.func73, Try.ntmps73
  go_wp2
  go_loopw [6] (fun i wr => ∃ (k : Nat), k ≤ size ∧ i = .int .i64 ((size : Int) - 1 - k) ∧ Hid (Wr B base wr (xs ++ beK n size k)) ∧ Hid (But B base w wr)) (fun i _ => (intOf i + 1).toNat)
  case atStart => exact ⟨0, Nat.zero_le _, by simp, (by show Wr B base w (xs ++ beK n size 0); rw [show beK n size 0 = [] from rfl, List.append_nil]; exact hw), But.refl _ _ _⟩
  case round =>
    obtain ⟨k, hk, rfl, HW, HB⟩ := hrel
    by_cases hlt : k < size
    · have h1 : 0 ≤ (size : Int) - 1 - k := by omega
      have h2 : (size : Int) - 1 - k ≤ 7 := by omega
      obtain ⟨x, hx⟩ : ∃ x, x = byteU n (size - 1 - k) := ⟨_, rfl⟩
      have hxs := byteU_toNat n (size - 1 - k)
      rw [← hx] at hxs
      have HXS : Hid ((x.toNat : Int) = n / 2 ^ (8 * (size - 1 - k)) % 256) := hxs
      have HX : Hid (x = byteU n (size - 1 - k)) := hx
      clear hx hxs
      go_wp2_with fail
      rw [← HXS.out]
      have hSl := Sl.new wr #[Value.int .u8 x.toNat] 5 1 1 1 rfl
      have hbs := HB.out.size
      refine (rawPut_any B base (xs ++ beK n size k) [x] (some ⟨wr.heap.size, 0, none⟩) 1 _ hB (by simp; omega) (HW.out.alloc _) hSl (by rw [List.length_append, beK_len]; simp; omega)).mono ?_
      rintro r w2 ⟨rfl, W2, B2⟩
      have HB2 : Hid (But B base w w2) := (HB.out.trans (But.of_below ((Below.refl base wr).alloc (by omega) _))).trans B2
      have HW2 : Hid (Wr B base w2 (xs ++ beK n size (k + 1))) := by
        rw [beK_succ, ← List.append_assoc, ← HX.out]; exact W2
      clear hSl W2 B2 HW HB
      go_wp2
      exact ⟨⟨k + 1, by omega, by go_num, HW2, HB2⟩, by simp [intOf]; omega⟩
    · have hkl : k = size := by omega
      subst hkl
      go_wp2
      go_end0
      exact ⟨rfl, HW.out, HB.out⟩

theorem Sl.marked (w : World) (s : ByteArray) (cap : Nat) (t : TypeId) (mk : Nat × Nat) (c : Nat) : Sl ((w.alloc (.cells (bytesRow s cap) t mk)).drew) (.slice (some ⟨w.heap.size, 0, none⟩) s.size c) s.size 1 (bcells s.data.toList) := by
  refine ⟨by rw [bcells_len, Nat.mul_one]; exact Array.length_toList, .inr ⟨w.heap.size, 0, c, rfl, by simp, fun j u hj => ?_⟩⟩
  have h1 := World.cell?_alloc_mark w (bytesRow s cap) t mk j
  rw [Nat.zero_add]
  refine h1.trans ?_
  rw [bcells, List.getElem?_map] at hj
  have hlt : j < s.data.size := by
    cases h : decide (j < s.data.size)
    · simp at h
      rw [List.getElem?_eq_none (by simpa using h)] at hj; cases hj
    · exact of_decide_eq_true h
  unfold bytesRow
  rw [Array.getElem?_append_left (by simpa using hlt), Array.getElem?_map, Array.getElem?_eq_getElem hlt]
  rw [Array.getElem?_toList, Array.getElem?_eq_getElem hlt] at hj
  exact hj

set_option maxHeartbeats 1000000 in
theorem rawText_any (B base : Nat) (xs : List UInt8) (s : ByteArray) (w : World) (hm : xs.length + s.size ≤ 1000000) (hB : B < base) (hb : base ≤ w.heap.size) (hw : Wr B base w xs) :
    Calls Try.prog 76 #[.pointer (some ⟨B, 0, none⟩), .string s] w fun r w' => r = .returned (.tuple #[]) ∧ Wr B base w' (xs ++ s.data.toList) ∧ But B base w w' := by
  have hbs := fun (wx : World) (s : ByteArray) => run_bytes_of_string (P := Try.prog) wx 9 116 5 s Try.underlying9 Try.underlying116 Try.underlying5
  have HW : Hid (Wr B base w xs) := hw
  clear hw
  go_enter Try.func76, Try.ntmps76
  go_wp2_with fail
  have hSl := Sl.marked w s (grownCap w s.size 0 5) 5 ((bytesRow s (grownCap w s.size 0 5)).size, (bytesRow s (grownCap w s.size 0 5)).size + 1) (grownCap w s.size 0 5)
  obtain ⟨c, hc⟩ : ∃ c, c = grownCap w s.size 0 5 := ⟨_, rfl⟩
  rw [← hc] at hSl ⊢
  obtain ⟨W1, hW1⟩ : ∃ W1, W1 = (w.alloc (Obj.cells (bytesRow s c) 5 ((bytesRow s c).size, (bytesRow s c).size + 1))).drew := ⟨_, rfl⟩
  rw [← hW1] at hSl ⊢
  have hW : Wr B base W1 xs := by
    obtain ⟨a, c, h1, h2⟩ := HW.out.alloc (Obj.cells (bytesRow s c) 5 ((bytesRow s c).size, (bytesRow s c).size + 1))
    rw [hW1]; exact ⟨a, c, h1.drew, h2.drew⟩
  have hB1 : Below base w W1 := by rw [hW1]; exact ((Below.refl base w).alloc hb _).drew
  have hsz : s.size = s.data.toList.length := Array.length_toList.symm
  rw [hsz] at hSl hm ⊢
  refine (rawPut_any B base xs s.data.toList (some ⟨w.heap.size, 0, none⟩) c W1 hB (Nat.le_trans hb hB1.size) hW hSl hm).mono ?_
  rintro r w2 ⟨rfl, W2, B2⟩
  have HB2 : Hid (But B base w w2) := (But.of_below hB1).trans B2
  have HW2 : Hid (Wr B base w2 (xs ++ s.data.toList)) := W2
  clear hSl hW hB1 W2 B2 hW1 hbs hsz hm
  go_wp2
  go_end0
  exact ⟨rfl, HW2.out, HB2.out⟩

set_option maxHeartbeats 1000000 in
theorem rawAll_any (B base : Nat) (xs : List UInt8) (w : World) (h0 : 0 < xs.length) (hw : Wr B base w xs) :
    Calls Try.prog 75 #[.pointer (some ⟨B, 0, none⟩)] w fun r w' => r = .returned (.string (ba xs)) ∧ w = w' := by
  obtain ⟨a, c, hblk, hown⟩ := hw
  have hcv : (convert 116 9 (.slice a xs.length c)).run Try.prog w = .ok (.string (ba xs)) w := by
    obtain ⟨_, ⟨h1, _⟩ | ⟨b, off, c', e, _, hc⟩⟩ := Sl.of_owns hown
    · omega
    · rw [e]
      refine run_convert_bytes_back w 116 9 5 ⟨b, off, none⟩ c' xs Try.underlying116 Try.underlying5 Try.underlying9 (fun j hj => ?_)
      rw [Addr.add_lit]
      exact hc j _ (by simp [bcells, List.getElem?_eq_getElem hj])
  have hc := hblk.cell (j := 0) (u := .slice a xs.length c) rfl
  clear hown hblk
  go_enter Try.func75, Try.ntmps75
  go_wp2
  go_ret
  exact ⟨rfl, rfl⟩

end Go.Proofs.Ytnpaejknoipicad
