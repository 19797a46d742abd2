/-
  Contracts: the document's SameFrame.
-/
import Derived.Test.YtnpaejknoipicadRefFrame
namespace Go.Proofs.Ytnpaejknoipicad
open Go.RowKit

def strB (a b : ByteArray) : Bool := a.toList == b.toList
theorem strB_iff (a b : ByteArray) : strB a b = true ↔ a = b := by
  unfold strB
  rw [beq_iff_eq, ByteArray.toList_eq, ByteArray.toList_eq]
  constructor
  · intro h; exact ByteArray.ext (Array.ext' h)
  · intro h; rw [h]
def sameS : List ByteArray → List ByteArray → Bool
  | [], [] => true
  | x :: r, y :: s => strB x y && sameS r s
  | _, _ => false
theorem sameS_iff : ∀ (l m : List ByteArray), sameS l m = true ↔ l = m
  | [], [] => by simp [sameS]
  | x :: r, y :: s => by simp [sameS, strB_iff, sameS_iff r s]
  | [], _ :: _ => by simp [sameS]
  | _ :: _, [] => by simp [sameS]
theorem sameS_len {l m : List ByteArray} (h : ¬ l.length = m.length) : sameS l m = false := by
  cases hb : sameS l m
  · rfl
  · rw [sameS_iff] at hb; exact absurd (by rw [hb]) h
theorem sameS_at {l m : List ByteArray} {k : Nat} (hx : ¬ (l[k]?.getD ByteArray.empty) = (m[k]?.getD ByteArray.empty)) : sameS l m = false := by
  cases hb : sameS l m
  · rfl
  · rw [sameS_iff] at hb
    subst hb
    exact absurd rfl hx
theorem sameS_ext {l m : List ByteArray} (hl : l.length = m.length) (h : ∀ k, k < l.length → (l[k]?.getD ByteArray.empty) = (m[k]?.getD ByteArray.empty)) : sameS l m = true := by
  rw [sameS_iff]
  refine List.ext_getElem hl fun k h1 h2 => ?_
  have := h k h1
  rw [List.getElem?_eq_getElem h1, List.getElem?_eq_getElem h2] at this
  exact this
/-- are two frames the same? -/
def sameFB (t1 t2 : Int) (k1 k2 : Bool) (l m : List ByteArray) : Bool := t1 == t2 && (k1 == k2 && sameS l m)

set_option maxHeartbeats 1600000 in
theorem sameFrame_any (t1 t2 : Int) (k1 k2 : Bool) (u v : Value) (l m : List ByteArray) (w : World) (hu : Strs w u l) (hv : Strs w v m) (hlen : l.length ≤ 9223372036854775807) :
    Calls Try.prog 46 #[.agg #[.int .i64 t1, .bool k1, u], .agg #[.int .i64 t2, .bool k2, v]] w fun e w' => e = .returned (.bool (sameFB t1 t2 k1 k2 l m)) ∧ Below w.heap.size w w' := by
  obtain ⟨ao, c, hua, hc⟩ := hu.parts
  obtain ⟨bo, d, hva, hd⟩ := hv.parts
  have HC : Hid (∀ k, k < l.length → ∃ b off, ao = some ⟨b, off, none⟩ ∧ b < w.heap.size ∧ w.cell? ⟨b, off + k, none⟩ = some (.string (l[k]?.getD ByteArray.empty))) := hc
  have HD : Hid (∀ k, k < m.length → ∃ b off, bo = some ⟨b, off, none⟩ ∧ b < w.heap.size ∧ w.cell? ⟨b, off + k, none⟩ = some (.string (m[k]?.getD ByteArray.empty))) := hd
  obtain ⟨n, hn⟩ : ∃ n, n = l.length := ⟨_, rfl⟩
  obtain ⟨p, hp⟩ : ∃ p, p = m.length := ⟨_, rfl⟩
  have HN : Hid (n = l.length) := hn
  have HP : Hid (p = m.length) := hp
  rw [← hn] at hua hlen
  rw [← hp] at hva
  obtain ⟨R, hR⟩ : ∃ R, R = sameFB t1 t2 k1 k2 l m := ⟨_, rfl⟩
  rw [← hR]
  have HR : Hid (R = sameFB t1 t2 k1 k2 l m) := hR
  clear hu hv hn hp hc hd hR
  subst hua hva

  by_cases ht : ¬ t1 = t2
  · have h1 : (t1 != t2) = true := by simpa using ht
    have HRR : Hid (R = false) := by show R = false; rw [HR.out]; unfold sameFB; simp [ht]
    clear ht
    go_enter Try.func46, Try.ntmps46
    go_wp2
    go_ret
    exact ⟨by rw [HRR.out]; rfl, by go_grown⟩
  replace ht : t1 = t2 := Decidable.not_not.1 ht
  subst ht
  by_cases hk : ¬ k1 = k2
  · have HRR : Hid (R = false) := by show R = false; rw [HR.out]; unfold sameFB; simp [hk]
    have h1 : (k1 == k2) = false := by simpa using hk
    clear hk
    go_enter Try.func46, Try.ntmps46
    go_wp2
    go_ret
    exact ⟨by rw [HRR.out]; rfl, by go_grown⟩
  replace hk : k1 = k2 := Decidable.not_not.1 hk
  subst hk
  have HR2 : Hid (R = sameS l m) := by show R = _; rw [HR.out]; unfold sameFB; simp
  clear HR
  by_cases hnp : ¬ n = p
  · have h1 : ((n : Int) != (p : Int)) = true := by simp; omega
    have HRR : Hid (R = false) := by show R = false; rw [HR2.out]; exact sameS_len (by rw [← HN.out, ← HP.out]; exact hnp)
    clear hnp
    go_enter Try.func46, Try.ntmps46
    go_wp2
    go_ret
    exact ⟨by rw [HRR.out]; rfl, by go_grown⟩
  replace hnp : n = p := Decidable.not_not.1 hnp
  subst hnp
  go_enter Try.func46, Try.ntmps46
  go_wp2
  go_loopw [5] (fun i wr => ∃ (k q : Nat), k ≤ n ∧ i = .int .i64 k ∧ Hid (∀ j, j < k → (l[j]?.getD ByteArray.empty) = (m[j]?.getD ByteArray.empty)) ∧ wr = ((w.alloc (.cells #[.int .i64 t1, .bool k1, .slice ao n c] 36)).alloc (.cells #[.int .i64 t1, .bool k1, .slice bo n d] 36)).drewN q)
    (fun i _ => n - (intOf i).toNat)
  case atStart => exact ⟨0, 0, Nat.zero_le _, rfl, (show ∀ j, j < 0 → _ from fun j hj => absurd hj (Nat.not_lt_zero _)), rfl⟩
  case round =>
    obtain ⟨k, q, hk, rfl, HK, rfl⟩ := hrel
    by_cases hlt : k < n
    · obtain ⟨b, off, rfl, hbb, hat⟩ := HC.out k (by rw [← HN.out]; exact hlt)
      obtain ⟨b2, off2, rfl, hbb2, hat2⟩ := HD.out k (by rw [← HP.out]; exact hlt)
      obtain ⟨x, hx⟩ : ∃ x, x = l[k]?.getD ByteArray.empty := ⟨_, rfl⟩
      obtain ⟨y, hy⟩ : ∃ y, y = m[k]?.getD ByteArray.empty := ⟨_, rfl⟩
      rw [← hx] at hat
      rw [← hy] at hat2
      have HX : Hid (x = l[k]?.getD ByteArray.empty) := hx
      have HY : Hid (y = m[k]?.getD ByteArray.empty) := hy
      obtain ⟨t, ht⟩ : ∃ t, t = strB x y := ⟨_, rfl⟩
      have HT : Hid (t = strB x y) := ht
      have hne : (x.toList == y.toList) = t := by rw [ht]; rfl
      have hlti : (k : Int) < (n : Int) := by omega
      have hq1 : b < w.heap.size + 1 := by omega
      have hq2 : b2 < w.heap.size + 1 := by omega
      clear hx hy ht
      cases t
      · go_wp2
        go_quiet (fail)
        go_wp2
        go_ret
        refine ⟨?_, below_drewN (below_drewN (((Below.refl _ w).alloc (Nat.le_refl _) _).alloc (by simp) _) _) _⟩
        rw [HR2.out, sameS_at (k := k) (fun e => by rw [← HX.out, ← HY.out, ← strB_iff, ← HT.out] at e; cases e)]
        rfl
      · go_wp2
        go_quiet (fail)
        go_wp2
        go_roundw
        case rel =>
          refine ⟨k + 1, _, by omega, by go_num, (show ∀ j, j < k + 1 → _ from fun j hj => ?_), rfl⟩
          by_cases e : j = k
          · subst e
            rw [← HX.out, ← HY.out, ← strB_iff]; exact HT.out.symm
          · exact HK.out j (by omega)
        case measure => simp [intOf]; omega
    · have hkl : k = n := by omega
      subst hkl
      go_wp2
      go_ret
      refine ⟨?_, below_drewN (((Below.refl _ w).alloc (Nat.le_refl _) _).alloc (by simp) _) _⟩
      rw [HR2.out, sameS_ext (HN.out.symm.trans HP.out) (fun j hj => HK.out j (by rw [HN.out]; exact hj))]
      rfl

end Go.Proofs.Ytnpaejknoipicad
