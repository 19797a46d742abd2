/-
  Contract: buffer.Check.
-/
import Derived.Test.YthhahfdjgjglfabSlotRows
import Derived.Test.YthhahfdjgjglfabBufPlain
namespace Go.Proofs.Ythhahfdjgjglfab
open Go.RowKit

/-- what the program's Check answers -/
def pchk (next : Int) (l : List Sk) : Int :=
  if nextBad next then 3 else if 4 < l.length then 2 else if chkAll l = 0 then (if upB next l then (if next = 0 ∧ 0 < l.length then 4 else 0) else 4) else chkAll l

theorem pchk_right (next : Int) (l : List Sk) : pchk next l = 0 ↔ Right next l := by
  unfold pchk Right
  cases hb : nextBad next
  · have hn := nextBad_false.1 hb
    rw [if_neg (by simp)]
    by_cases h4 : 4 < l.length
    · rw [if_pos h4]; simp; omega
    · rw [if_neg h4]
      by_cases hg : chkAll l = 0
      · rw [if_pos hg]
        have h := (chkAll_zero l).1 hg
        cases hu : upB next l
        · simp
        · rw [if_pos rfl]
          by_cases h0 : next = 0 ∧ 0 < l.length
          · rw [if_pos h0]
            constructor
            · intro h; omega
            · rintro ⟨h1, _⟩
              rcases h1 with ⟨_, h1⟩ | h1
              · rw [h1] at h0; simp at h0
              · omega
          · rw [if_neg h0]
            refine ⟨fun _ => ⟨?_, by omega, h, rfl⟩, fun _ => rfl⟩
            rcases hn with hn | hn
            · left; exact ⟨hn, List.eq_nil_of_length_eq_zero (by omega)⟩
            · right; exact hn
      · rw [if_neg hg]
        constructor
        · intro h; exact absurd h hg
        · rintro ⟨_, _, h1, h2⟩
          exact absurd ((chkAll_zero l).2 h1) hg
  · rw [if_pos rfl]
    constructor
    · intro h; omega
    · rintro ⟨h1, _⟩
      have : nextBad next = false := nextBad_false.2 (by rcases h1 with ⟨h, _⟩ | h <;> omega)
      rw [this] at hb; cases hb

theorem upB_take_no {l : List Sk} {n : Int} {k : Nat} (hk : k < l.length) : ∀ (last : Int), (∀ j, j < k → True) → upB n (l.take k) = true → last = (if k = 0 then n else (l[k - 1]?.getD Sk.zero).n) → ¬ last < (l[k]?.getD Sk.zero).n → upB n l = false := by
  induction l generalizing n k with
  | nil => simp at hk
  | cons x r ih =>
    intro last _ hu hl hn
    cases k with
    | zero =>
      simp at hl hn
      subst hl
      have : decide (last < x.n) = false := decide_eq_false (by omega)
      simp [upB, this]
    | succ k =>
      simp only [List.take_succ_cons, upB, Bool.and_eq_true] at hu
      have := ih (n := x.n) (k := k) (by simpa using hk) last (fun _ _ => trivial) hu.2 (by
        rw [hl]
        cases k with
        | zero => simp
        | succ k => simp) (by simpa using hn)
      simp [upB, this]
theorem upB_take_ok {l : List Sk} {n : Int} {k : Nat} (hk : k < l.length) : ∀ (last : Int), upB n (l.take k) = true → last = (if k = 0 then n else (l[k - 1]?.getD Sk.zero).n) → last < (l[k]?.getD Sk.zero).n → upB n (l.take (k + 1)) = true := by
  induction l generalizing n k with
  | nil => simp at hk
  | cons x r ih =>
    intro last hu hl hn
    cases k with
    | zero =>
      simp at hl hn
      subst hl
      simp [upB, hn]
    | succ k =>
      simp only [List.take_succ_cons, upB, Bool.and_eq_true] at hu ⊢
      exact ⟨hu.1, ih (n := x.n) (k := k) (by simpa using hk) last hu.2 (by
        rw [hl]
        cases k with
        | zero => simp
        | succ k => simp) (by simpa using hn)⟩

set_option maxHeartbeats 1600000 in
theorem risesFrom_any (n0 : Int) (v : Value) (l : List Sk) (w : World) (hv : Sls w v l) (hlen : l.length ≤ 9223372036854775807) :
    Calls Try.prog 46 #[.int .i64 n0, v] w fun e w' => e = .returned (.bool (upB n0 l)) ∧ Below w.heap.size w w' := by
  obtain ⟨ao, c, rfl, hc⟩ := hv.parts
  have HC : Hid (∀ k, k < l.length → ∃ b off, ao = some ⟨b, off, none⟩ ∧ b < w.heap.size ∧ At7 w b (off + k * 7) (l[k]?.getD Sk.zero)) := hc
  obtain ⟨n, hn⟩ : ∃ n, n = l.length := ⟨_, rfl⟩
  have HN : Hid (n = l.length) := hn
  rw [← hn] at hlen ⊢
  clear hc hv hn
  go_enter Try.func46, Try.ntmps46
  go_wp2
  go_loopw [0, 9] (fun u i wr => ∃ (k : Nat) (last : Int), k ≤ n ∧ i = .int .i64 k ∧ u = .int .i64 last ∧ Hid (last = (if k = 0 then n0 else (l[k - 1]?.getD Sk.zero).n)) ∧ Hid (upB n0 (l.take k) = true) ∧ Below w.heap.size w wr)
    (fun _ i _ => n - (intOf i).toNat)
  case atStart => exact ⟨0, n0, Nat.zero_le _, rfl, rfl, rfl, rfl, Below.refl _ _⟩
  case round =>
    obtain ⟨k, last, hk, rfl, rfl, HL, HK, hbel⟩ := hrel
    by_cases hlt : k < n
    · obtain ⟨b, off, rfl, hb, hat⟩ := HC.out k (by rw [← HN.out]; exact hlt)
      obtain ⟨c0, c1, c2, c3, c4, c5, c6⟩ := hat.below hbel hb
      obtain ⟨x, hx⟩ : ∃ x, x = l[k]?.getD Sk.zero := ⟨_, rfl⟩
      rw [← hx] at c0 c1 c2 c3 c4 c5 c6
      have HX : Hid (x = l[k]?.getD Sk.zero) := hx
      clear hx hat
      have HB : Hid (Below w.heap.size w wr) := hbel
      clear hbel
      by_cases h0 : x.n ≤ last
      · go_wp2
        go_ret
        exact ⟨by rw [upB_take_no (by rw [← HN.out]; exact hlt) last (fun _ _ => trivial) HK.out HL.out (by rw [← HX.out]; omega)]; rfl, HB.out.alloc HB.out.size _⟩
      · go_wp2
        go_roundw
        case rel => exact ⟨k + 1, x.n, by omega, by go_num, rfl, (show x.n = _ by rw [HX.out]; simp), (show _ = true from upB_take_ok (by rw [← HN.out]; exact hlt) last HK.out HL.out (by rw [← HX.out]; omega)), HB.out.alloc HB.out.size _⟩
        case measure => simp [intOf]; omega
    · have hkl : k = n := by omega
      subst hkl
      go_wp2
      go_ret
      have hk0 := HK.out
      rw [HN.out, List.take_length] at hk0
      rw [hk0]
      exact ⟨rfl, hbel⟩

end Go.Proofs.Ythhahfdjgjglfab
