/-
  Contract: slot.CheckAll: slots one by one, each by itself and in its place, whatever closure tells the place.
-/
import Derived.Test.YtnpaejknoipicafGreatSlotFind
namespace Go.Proofs.YtnpaejknoipicafGreat
open Go.RowKit

/-- the first error of slots, one by one: by itself, then in its place -/
def chkFit (q : Nat → Bool) : Nat → List Sk → Int
  | _, [] => 0
  | i, x :: r => if x.chk = 0 then (if q i then chkFit q (i + 1) r else 4) else x.chk
theorem chkFit_append (q : Nat → Bool) (m : List Sk) : ∀ (l : List Sk) (i : Nat), chkFit q i l = 0 → chkFit q i (l ++ m) = chkFit q (i + l.length) m
  | [], i, _ => rfl
  | x :: r, i, h => by
    simp only [List.cons_append, chkFit] at h ⊢
    by_cases hx : x.chk = 0
    · rw [if_pos hx] at h ⊢
      cases hq : q i
      · rw [hq] at h; simp at h
      · rw [hq, if_pos rfl] at h
        rw [if_pos rfl, chkFit_append q m r (i + 1) h]
        congr 1
        simp only [List.length_cons]; omega
    · rw [if_neg hx] at h; exact absurd h hx
theorem split_at {l : List Sk} {k : Nat} (hk : k < l.length) : l = l.take k ++ (l[k]?.getD Sk.zero) :: l.drop (k + 1) := by
  rw [List.getElem?_eq_getElem hk, Option.getD_some, ← List.drop_eq_getElem_cons hk, List.take_append_drop]
theorem chkFit_no1 {q : Nat → Bool} {l : List Sk} {k : Nat} (hk : k < l.length) (h : chkFit q 0 (l.take k) = 0) (hx : ¬ (l[k]?.getD Sk.zero).chk = 0) : chkFit q 0 l = (l[k]?.getD Sk.zero).chk := by
  rw [split_at hk, chkFit_append q _ _ _ h, ← split_at hk]
  simp only [chkFit, if_neg hx]
theorem chkFit_no2 {q : Nat → Bool} {l : List Sk} {k : Nat} (hk : k < l.length) (h : chkFit q 0 (l.take k) = 0) (hx : (l[k]?.getD Sk.zero).chk = 0) (hq : q k = false) : chkFit q 0 l = 4 := by
  have hl : 0 + (l.take k).length = k := by simp; omega
  rw [split_at hk, chkFit_append q _ _ _ h, hl]
  simp only [chkFit, if_pos hx, hq]; simp
theorem chkFit_ok {q : Nat → Bool} {l : List Sk} {k : Nat} (hk : k < l.length) (h : chkFit q 0 (l.take k) = 0) (hx : (l[k]?.getD Sk.zero).chk = 0) (hq : q k = true) : chkFit q 0 (l.take (k + 1)) = 0 := by
  have hl : 0 + (l.take k).length = k := by simp; omega
  rw [take_one hk Sk.zero, chkFit_append q _ _ _ h, hl]
  simp only [chkFit, if_pos hx, hq]; simp

/-- a closure that tells q of a place below n, and changes nothing that was there -/
def Fits (g : Nat) (lb : Array Value) (q : Nat → Bool) (n : Nat) (w : World) : Prop :=
  ∀ (W : World) (k : Nat), k < n → Below w.heap.size w W → Calls Tryz.prog g (#[.int .i64 k] ++ lb) W fun e w' => e = .returned (.bool (q k)) ∧ Below W.heap.size W w'

set_option maxHeartbeats 1600000 in
theorem checkAll_any (g : Nat) (lb : Array Value) (q : Nat → Bool) (eg : Enters Tryz.prog g) (v : Value) (l : List Sk) (w : World) (hv : Sls w v l) (hlen : l.length ≤ 9223372036854775807) (hq : Fits g lb q l.length w) :
    Calls Tryz.prog 123 #[v, .func (.func g) #[] lb] w fun e w' => e = .returned (.int .i64 (chkFit q 0 l)) ∧ Below w.heap.size w w' := by
  obtain ⟨ao, c, rfl, hc⟩ := hv.parts
  have HC : Hid (∀ k, k < l.length → ∃ b off, ao = some ⟨b, off, none⟩ ∧ b < w.heap.size ∧ At7 w b (off + k * 7) (l[k]?.getD Sk.zero)) := hc
  have HQ : Hid (Fits g lb q l.length w) := hq
  obtain ⟨n, hn⟩ : ∃ n, n = l.length := ⟨_, rfl⟩
  have HN : Hid (n = l.length) := hn
  have eg' : ∀ (args : Array Value) (w : World), (callFunc g args).run Tryz.prog w = .ok (.enter g args) w := eg
  rw [← hn] at hlen ⊢
  clear hc hv hn hq eg
  go_enter Tryz.func123, Tryz.ntmps123
  go_wp2
  go_loopw [10] (fun i wr => ∃ k : Nat, k ≤ n ∧ i = .int .i64 k ∧ Hid (chkFit q 0 (l.take k) = 0) ∧ Below w.heap.size w wr)
    (fun i _ => n - (intOf i).toNat)
  case atStart => exact ⟨0, Nat.zero_le _, rfl, (show chkFit q 0 (l.take 0) = 0 from rfl), Below.refl _ _⟩
  case round =>
    obtain ⟨k, hk, rfl, HK, hbel⟩ := hrel
    by_cases hlt : k < n
    · obtain ⟨b, off, rfl, hb, hat⟩ := HC.out k (by rw [← HN.out]; exact hlt)
      obtain ⟨c0, c1, c2, c3, c4, c5, c6⟩ := hat.below hbel hb
      obtain ⟨x, hx⟩ : ∃ x, x = l[k]?.getD Sk.zero := ⟨_, rfl⟩
      rw [← hx] at c0 c1 c2 c3 c4 c5 c6
      have HX : Hid (x = l[k]?.getD Sk.zero) := hx
      clear hx hat
      obtain ⟨ch, hch⟩ : ∃ ch, ch = x.chk := ⟨_, rfl⟩
      have HCH : Hid (ch = x.chk) := hch
      have hck : ∀ w : World, Calls Tryz.prog 91 #[x.val] w fun e w' => e = .returned (.int .i64 ch) ∧ Below w.heap.size w w' := fun w => by rw [hch]; exact slotCheck_any x w
      clear hch
      obtain ⟨qk, hqk⟩ : ∃ qk, qk = q k := ⟨_, rfl⟩
      have HQK : Hid (qk = q k) := hqk
      have hfit : ∀ W : World, Below w.heap.size w W → Calls Tryz.prog g (#[.int .i64 k] ++ lb) W fun e w' => e = .returned (.bool qk) ∧ Below W.heap.size W w' := fun W hW => by rw [hqk]; exact HQ.out W k (by rw [← HN.out]; exact hlt) hW
      have HF : Hid (∀ W : World, Below w.heap.size w W → Calls Tryz.prog g (#[.int .i64 k] ++ lb) W fun e w' => e = .returned (.bool qk) ∧ Below W.heap.size W w') := hfit
      clear hqk hfit
      obtain ⟨xn, seq, time, xf, xe, xk, xt⟩ := x
      simp only [Sk.val] at hck c0 c1 c2 c3 c4 c5 c6
      have HB : Hid (Below w.heap.size w wr) := hbel
      clear hbel
      by_cases h0 : ch = 0
      · subst h0
        cases qk
        · go_wp2_with (first
            | (go_at_call 91; refine (hck _).mono ?_; rintro e w1 ⟨rfl, hbw⟩; have HB1 : Hid (Below w.heap.size w w1) := HB.out.trans (((Below.refl _ _).alloc HB.out.size _).trans (hbw.mono (by have := HB.out.size; simp; omega))))
            | (go_at_fn g; refine (HF.out _ HB1.out).mono ?_; rintro e w2 ⟨rfl, hbw2⟩))
          go_ret
          exact ⟨by rw [chkFit_no2 (by rw [← HN.out]; exact hlt) HK.out (by rw [← HX.out]; exact HCH.out.symm) HQK.out.symm]; rfl, HB1.out.trans (hbw2.mono HB1.out.size)⟩
        · go_wp2_with (first
            | (go_at_call 91; refine (hck _).mono ?_; rintro e w1 ⟨rfl, hbw⟩; have HB1 : Hid (Below w.heap.size w w1) := HB.out.trans (((Below.refl _ _).alloc HB.out.size _).trans (hbw.mono (by have := HB.out.size; simp; omega))))
            | (go_at_fn g; refine (HF.out _ HB1.out).mono ?_; rintro e w2 ⟨rfl, hbw2⟩))
          go_roundw
          case rel => exact ⟨k + 1, by omega, by go_num, (show chkFit q 0 (l.take (k + 1)) = 0 from chkFit_ok (by rw [← HN.out]; exact hlt) HK.out (by rw [← HX.out]; exact HCH.out.symm) HQK.out.symm), HB1.out.trans (hbw2.mono HB1.out.size)⟩
          case measure => simp [intOf]; omega
      · go_wp2_with (go_at_call 91; refine (hck _).mono ?_; rintro e w' ⟨rfl, hbw⟩)
        go_ret
        exact ⟨by rw [chkFit_no1 (by rw [← HN.out]; exact hlt) HK.out (by rw [← HX.out, ← HCH.out]; exact h0), ← HX.out, ← HCH.out]; rfl, HB.out.trans (((Below.refl _ _).alloc HB.out.size _).trans (hbw.mono (by have := HB.out.size; simp; omega)))⟩
    · have hkl : k = n := by omega
      subst hkl
      go_wp2
      go_ret
      have hk0 := HK.out
      rw [HN.out, List.take_length] at hk0
      rw [hk0]
      exact ⟨rfl, hbel⟩

end Go.Proofs.YtnpaejknoipicafGreat
