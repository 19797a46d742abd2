/-
  Contracts: slices.IndexFunc and slices.ContainsFunc over slots, whatever closure they are handed.
-/
import Derived.Test.YtnpaejknoipicafGreatSlotRows
import Derived.Shelf.Abstract
namespace Go.Proofs.YtnpaejknoipicafGreat
open Go.RowKit

/-- the place of the first one, or -1 -/
def idxOf (p : Sk → Bool) (l : List Sk) : Int := match l.findIdx? p with
  | some i => i
  | none => -1

/-- a closure that tells p of a slot, and changes nothing that was there -/
def Tells (g : Nat) (lb : Array Value) (p : Sk → Bool) (w : World) : Prop :=
  ∀ (W : World) (x : Sk), Below w.heap.size w W → Calls Tryz.prog g (#[x.val] ++ lb) W fun e w' => e = .returned (.bool (p x)) ∧ Below W.heap.size W w'

theorem idxOf_hit {p : Sk → Bool} {l : List Sk} {k : Nat} (hk : k < l.length) (hno : ∀ j, j < k → p (l[j]?.getD Sk.zero) = false) (hp : p (l[k]?.getD Sk.zero) = true) : idxOf p l = k := by
  have : l.findIdx? p = some k := by
    rw [List.findIdx?_eq_some_iff_getElem]
    refine ⟨hk, by rw [List.getElem?_eq_getElem hk] at hp; exact hp, fun j hj => ?_⟩
    have := hno j hj
    rw [List.getElem?_eq_getElem (by omega), Option.getD_some] at this
    rw [this]; simp
  simp [idxOf, this]
theorem idxOf_miss {p : Sk → Bool} {l : List Sk} (hno : ∀ j, j < l.length → p (l[j]?.getD Sk.zero) = false) : idxOf p l = -1 := by
  have : l.findIdx? p = none := by
    rw [List.findIdx?_eq_none_iff]
    intro x hx
    obtain ⟨j, hj, rfl⟩ := List.getElem_of_mem hx
    have := hno j hj
    rw [List.getElem?_eq_getElem hj] at this
    exact this
  simp [idxOf, this]
theorem idxOf_any (p : Sk → Bool) (l : List Sk) : decide (0 ≤ idxOf p l) = l.any p := by
  unfold idxOf
  cases h : l.findIdx? p with
  | none =>
    have h2 : l.any p = false := by rw [List.findIdx?_eq_none_iff] at h; simpa using h
    simp [h2]
  | some i =>
    have h2 : l.any p = true := by
      rw [List.findIdx?_eq_some_iff_getElem] at h
      obtain ⟨h1, h2, _⟩ := h
      exact List.any_eq_true.2 ⟨l[i], List.getElem_mem h1, h2⟩
    simp [h2]

set_option maxHeartbeats 1600000 in
theorem indexFunc_any (g : Nat) (lb : Array Value) (p : Sk → Bool) (eg : Enters Tryz.prog g) (v : Value) (l : List Sk) (w : World) (hv : Sls w v l) (hlen : l.length ≤ 9223372036854775807) (hp : Tells g lb p w) :
    Calls Tryz.prog 175 #[v, .func (.func g) #[] lb] w fun e w' => e = .returned (.int .i64 (idxOf p l)) ∧ Below w.heap.size w w' := by
  obtain ⟨ao, c, rfl, hc⟩ := hv.parts
  have HC : Hid (∀ k, k < l.length → ∃ b off, ao = some ⟨b, off, none⟩ ∧ b < w.heap.size ∧ At7 w b (off + k * 7) (l[k]?.getD Sk.zero)) := hc
  have HP : Hid (Tells g lb p w) := hp
  obtain ⟨n, hn⟩ : ∃ n, n = l.length := ⟨_, rfl⟩
  have HN : Hid (n = l.length) := hn
  have eg' : ∀ (args : Array Value) (w : World), (callFunc g args).run Tryz.prog w = .ok (.enter g args) w := eg
  rw [← hn] at hlen ⊢
  clear hc hv hn hp eg
  go_enter Tryz.func175, Tryz.ntmps175
  go_wp2
  go_loopw [8] (fun i wr => ∃ k : Nat, k ≤ n ∧ i = .int .i64 k ∧ Hid (∀ j, j < k → p (l[j]?.getD Sk.zero) = false) ∧ Below w.heap.size w wr)
    (fun i _ => n - (intOf i).toNat)
  case atStart => exact ⟨0, Nat.zero_le _, rfl, (show ∀ j, j < 0 → _ from fun j hj => absurd hj (Nat.not_lt_zero _)), Below.refl _ _⟩
  case round =>
    obtain ⟨k, hk, rfl, HK, hbel⟩ := hrel
    by_cases hlt : k < n
    · obtain ⟨b, off, rfl, hb, hat⟩ := HC.out k (by rw [← HN.out]; exact hlt)
      obtain ⟨c0, c1, c2, c3, c4, c5, c6⟩ := hat.below hbel hb
      obtain ⟨x, hx⟩ : ∃ x, x = l[k]?.getD Sk.zero := ⟨_, rfl⟩
      rw [← hx] at c0 c1 c2 c3 c4 c5 c6
      have HX : Hid (x = l[k]?.getD Sk.zero) := hx
      obtain ⟨t, ht⟩ : ∃ t, t = p x := ⟨_, rfl⟩
      have HT : Hid (t = p x) := ht
      have hcall := HP.out wr x hbel
      rw [← ht] at hcall
      clear hx hat ht
      obtain ⟨xn, seq, time, xf, xe, xk, xt⟩ := x
      simp only [Sk.val] at hcall c0 c1 c2 c3 c4 c5 c6
      have HB : Hid (Below w.heap.size w wr) := hbel
      clear hbel
      cases t
      · go_wp2_with (go_at_fn g; refine hcall.mono ?_; rintro e w1 ⟨rfl, hbw⟩)
        go_roundw
        case rel =>
          refine ⟨k + 1, by omega, by go_num, (show ∀ j, j < k + 1 → _ from fun j hj => ?_), HB.out.trans (hbw.mono HB.out.size)⟩
          by_cases e : j = k
          · subst e
            rw [← HX.out]; exact HT.out.symm
          · exact HK.out j (by omega)
        case measure => simp [intOf]; omega
      · go_wp2_with (go_at_fn g; refine hcall.mono ?_; rintro e w1 ⟨rfl, hbw⟩)
        go_ret
        exact ⟨by rw [idxOf_hit (by rw [← HN.out]; exact hlt) HK.out (by rw [← HX.out]; exact HT.out.symm)]; rfl, HB.out.trans (hbw.mono HB.out.size)⟩
    · have hkl : k = n := by omega
      subst hkl
      go_wp2
      go_ret
      exact ⟨by rw [idxOf_miss (fun j hj => HK.out j (by rw [HN.out]; exact hj))]; rfl, hbel⟩

theorem containsFunc_any (g : Nat) (lb : Array Value) (p : Sk → Bool) (eg : Enters Tryz.prog g) (v : Value) (l : List Sk) (w : World) (hv : Sls w v l) (hlen : l.length ≤ 9223372036854775807) (hp : Tells g lb p w) :
    Calls Tryz.prog 173 #[v, .func (.func g) #[] lb] w fun e w' => e = .returned (.bool (l.any p)) ∧ Below w.heap.size w w' := by
  rw [← idxOf_any]
  have hix := indexFunc_any g lb p eg v l w hv hlen hp
  obtain ⟨r, hr⟩ : ∃ r, r = idxOf p l := ⟨_, rfl⟩
  rw [← hr] at hix ⊢
  clear hr
  obtain ⟨a, c, rfl⟩ := hv.len
  go_enter Tryz.func173, Tryz.ntmps173
  go_wp2_with (go_at_call 175; refine hix.mono ?_; rintro e w1 ⟨rfl, hbw⟩)
  go_ret
  exact ⟨rfl, hbw⟩

end Go.Proofs.YtnpaejknoipicafGreat
