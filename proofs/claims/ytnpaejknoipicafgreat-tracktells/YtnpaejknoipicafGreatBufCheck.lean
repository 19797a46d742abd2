/-
  Contract: buffer.rises, and the closure that buffer.Check hands on.
-/
import Derived.Test.YtnpaejknoipicafGreatSlotFits
import Derived.Test.YtnpaejknoipicafGreatBufPlain
import Derived.Test.YtnpaejknoipicafGreatRefSlot
import Derived.Test.YtnpaejknoipicafGreatKeeper1
import Derived.Deep.QuietTactic
import Derived.BigQuiet
namespace Go.Proofs.YtnpaejknoipicafGreat
open Go.RowKit

/-- what the program's Check answers: as the document has it -/
def pchk (next : Int) (l : List Sk) : Int := bchk next l
theorem pchk_right (next : Int) (l : List Sk) : pchk next l = 0 ↔ Right next l := bchk_right next l

/-- the number ahead of a place -/
def aheadN (next : Int) (l : List Sk) (k : Nat) : Int := if k = 0 then next else (l[k - 1]?.getD Sk.zero).n
def qB (next : Int) (l : List Sk) (k : Nat) : Bool := decide (aheadN next l k < (l[k]?.getD Sk.zero).n)

theorem fit_bgo (next : Int) (l : List Sk) : ∀ (m : List Sk) (k : Nat) (last : Int), l.drop k = m → next ≤ last → aheadN next l k = last → chkFit (qB next l) k m = bgo next last m
  | [], _, _, _, _, _ => rfl
  | x :: r, k, last, hd, hle, hl => by
    have hk : k < l.length := by
      by_cases h : k < l.length
      · exact h
      · rw [List.drop_eq_nil_of_le (by omega)] at hd; cases hd
    have hx : l[k]?.getD Sk.zero = x := by
      rw [List.drop_eq_getElem_cons hk] at hd
      injection hd with h1 h2
      rw [List.getElem?_eq_getElem hk, Option.getD_some, h1]
    have hr : l.drop (k + 1) = r := by
      rw [List.drop_eq_getElem_cons hk] at hd
      injection hd
    simp only [chkFit, bgo]
    by_cases hc : x.chk = 0
    · rw [if_pos hc, if_pos hc]
      by_cases h2 : x.n ≤ next ∨ x.n ≤ last
      · have hq : qB next l k = false := by unfold qB; rw [hl, hx]; exact decide_eq_false (by omega)
        rw [hq, if_pos h2]; simp
      · have hq : qB next l k = true := by unfold qB; rw [hl, hx]; exact decide_eq_true (by omega)
        rw [hq, if_neg h2, if_pos rfl]
        exact fit_bgo next l r (k + 1) x.n hr (by omega) (by unfold aheadN; rw [if_neg (by omega), show k + 1 - 1 = k by omega, hx])
    · rw [if_neg hc, if_neg hc]
theorem fit_all (next : Int) (l : List Sk) : chkFit (qB next l) 0 l = bgo next next l := fit_bgo next l l 0 next rfl (Int.le_refl _) rfl

set_option maxHeartbeats 1600000 in
theorem rises_any (next : Int) (v : Value) (l : List Sk) (k : Nat) (w : World) (hv : Sls w v l) (hk : k < l.length) (hlen : l.length ≤ 9223372036854775807) :
    Calls Tryz.prog 125 #[.agg #[.int .i64 next, v], .int .i64 k] w fun e w' => e = .returned (.bool (qB next l k)) ∧ Below w.heap.size w w' := by
  obtain ⟨ao, c, rfl, hc⟩ := (hv.alloc (.cells #[.int .i64 next, v] 57)).parts
  obtain ⟨n, hn⟩ : ∃ n, n = l.length := ⟨_, rfl⟩
  have hkn : k < n := by omega
  have hki : (k : Int) < (n : Int) := by omega
  have hln : n ≤ 9223372036854775807 := by omega
  rw [← hn] at hc ⊢
  obtain ⟨b, off, rfl, hb, hat⟩ := hc k hkn
  have hb' : b < w.heap.size := by
    obtain ⟨_, ⟨h0, _⟩ | ⟨b1, off1, c1, h1, h2, _⟩⟩ := hv
    · omega
    · simp only [Value.slice.injEq, Option.some.injEq, Addr.mk.injEq] at h1
      omega
  have c0 := hat.1
  obtain ⟨xn, hxn⟩ : ∃ xn, xn = (l[k]?.getD Sk.zero).n := ⟨_, rfl⟩
  rw [← hxn] at c0
  obtain ⟨q, hq⟩ : ∃ q, q = qB next l k := ⟨_, rfl⟩
  rw [← hq]
  cases k with
  | zero =>
    have hq' : q = decide (next < xn) := by rw [hq, hxn]; rfl
    have hn0 : (0 : Int) < (n : Int) := by omega
    have c0' : (w.alloc (.cells #[.int .i64 next, .slice (some ⟨b, off, none⟩) n c] 57)).cell? ⟨b, off, none⟩ = some (.int .i64 xn) := by simpa using c0
    rw [hq']
    clear hq hq' hxn hat hc c0 hn hv hk hki
    go_enter Tryz.func125, Tryz.ntmps125
    go_wp2
    go_quiet (fail)
    go_wp2
    go_ret
    exact ⟨rfl, below_drewN ((Below.refl _ _).alloc (Nat.le_refl _) _) _⟩
  | succ j =>
    obtain ⟨b2, off2, e2, hb2, hat2⟩ := hc j (by omega)
    simp only [Option.some.injEq, Addr.mk.injEq, and_true] at e2
    obtain ⟨rfl, rfl⟩ := e2
    have d0 := hat2.1
    obtain ⟨yn, hyn⟩ : ∃ yn, yn = (l[j]?.getD Sk.zero).n := ⟨_, rfl⟩
    rw [← hyn] at d0
    have hq' : q = decide (yn < xn) := by rw [hq, hxn, hyn]; unfold qB aheadN; rw [if_neg (by omega)]; simp
    have hji : (j : Int) < (n : Int) := by omega
    have hj1 : ((j + 1 : Nat) : Int) - 1 = (j : Int) := by omega
    rw [hq']
    clear hq hq' hxn hyn hat hat2 hc hn hv hk
    go_enter Tryz.func125, Tryz.ntmps125
    go_wp2
    go_quiet (fail)
    go_wp2
    go_ret
    exact ⟨rfl, below_drewN ((Below.refl _ _).alloc (Nat.le_refl _) _) _⟩

end Go.Proofs.YtnpaejknoipicafGreat
