/-
  Plain facts of what Send says; '==' of streams; a row of packets as a block.
-/
import Derived.Test.YtnpaejknoipicafOutSend2
namespace Go.Proofs.Ytnpaejknoipicaf
open Go.RowKit

theorem eql_out (a b c a' b' c' : Int) (w : World) : (binOp .eql 23 (.agg #[.int .i64 a, .int .i64 b, .int .i64 c]) (.agg #[.int .i64 a', .int .i64 b', .int .i64 c'])).run Try.prog w = .ok (.bool ((a == a') && ((b == b') && (c == c')))) w := by
  rw [run_eql_struct, run_equalIn_agg w 9999 23 _ _ (by kernel_rfl) (by kernel_rfl)]
  rw [show (Try.prog.fieldsOf 23) = _ by unfold Program.fieldsOf; rw [Try.underlying23]]
  cases h0 : (a == a')
  · simp [go_sem, h0]
  cases h1 : (b == b')
  · simp [go_sem, h0, h1]
  cases h2 : (c == c')
  · simp [go_sem, h0, h1, h2]
  · simp [go_sem, h0, h1, h2]
theorem roomE_zero {l t s ft : Int} {n : Nat} : roomE l t s ft n = 0 ↔ t ≤ ft + s ∧ ft + s ≤ 1000000 ∧ l + n ≤ 1000000000 := by
  unfold roomE
  repeat' split
  all_goals first | omega | (constructor <;> intro h <;> omega)
theorem roomE_four {l t s ft : Int} {n : Nat} : roomE l t s ft n = 4 ↔ ft + s < t := by
  unfold roomE
  repeat' split
  all_goals first | omega | (constructor <;> intro h <;> omega)
theorem chk_not4 (f : Fr) : ¬ f.chk = 4 := by
  unfold Fr.chk chkF
  repeat' split
  all_goals decide
theorem sd_zero {l t s : Int} {f : Fr} {turn : Bool} (h : sdE l t s f turn = 0) : sdO l t s f turn = (l + f.parts.length, f.time + sdS l t s f.time turn, sdS l t s f.time turn) ∧ sdP l t s f turn = pksOf l (f.time + sdS l t s f.time turn) f.key f.parts ∧ 0 ≤ l ∧ 0 ≤ t ∧ t ≤ f.time + sdS l t s f.time turn ∧ f.time + sdS l t s f.time turn ≤ 1000000 ∧ l + f.parts.length ≤ 1000000000 ∧ 0 < f.parts.length ∧ f.parts.length ≤ 4 ∧ 0 ≤ f.time ∧ f.time ≤ 1000000 ∧ f.chk = 0 := by
  obtain ⟨h1, h2, h3⟩ := sdE_zero.1 h
  obtain ⟨a1, a2, a3, a4, a5, a6⟩ := outE_zero.1 h1
  obtain ⟨r1, r2, r3⟩ := roomE_zero.1 h3
  obtain ⟨c1, c2, c3, c4, _⟩ := chkF_zero h2
  exact ⟨if_pos h, if_pos h, a1, a3, r1, r2, r3, c3, c4, c1, c2, h2⟩
theorem sd_bad {l t s : Int} {f : Fr} {turn : Bool} (h : ¬ sdE l t s f turn = 0) : sdO l t s f turn = (0, 0, 0) ∧ sdP l t s f turn = [] := ⟨if_neg h, if_neg h⟩
theorem sd_four {l t s : Int} {f : Fr} {turn : Bool} (h : sdE l t s f turn = 4) : f.time + sdS l t s f.time turn < t := by
  unfold sdE at h
  by_cases h1 : outE l t s = 0
  · rw [if_pos h1] at h
    by_cases h2 : f.chk = 0
    · rw [if_pos h2] at h; exact roomE_four.1 h
    · rw [if_neg h2] at h; exact absurd h (chk_not4 f)
  · rw [if_neg h1] at h
    exfalso
    revert h
    unfold outE
    repeat' split
    all_goals decide
/-- a row of packets, as its block -/
theorem owns_row6 {w : World} {base n : Nat} {v : Value} {l : List Pk} (h : w.ownsRow base 38 6 v n (pkCells l)) (hl : l.length = n) (hn : 0 < n) : ∃ g c cur, v = .slice (some ⟨g, 0, none⟩) n c ∧ base ≤ g ∧ Blk w g cur 38 ∧ ∀ i j u, i < n → (l[i]?.getD Pk.zero).cells[j]? = some u → cur[i * 6 + j]? = some u := by
  have hs : Pks w v l := by unfold Pks; rw [hl]; exact Sl.of_owns h
  obtain ⟨_, ⟨_, rfl⟩ | ⟨g, cap, cur, rfl, hb, hh, hn', hm, hsz, ht⟩⟩ := h
  · omega
  · refine ⟨g, cap, cur, rfl, hb, hh, fun i j u hi hj => ?_⟩
    obtain ⟨b, off, e, _, hc⟩ := hs.at (k := i) (by omega)
    injection e with e
    injection e with e1 e2 e3
    rw [List.getElem?_eq_getElem (by omega), Option.getD_some] at hj
    have := hc j u hj
    rw [← e1, ← e2, Nat.zero_add] at this
    simp [World.cell?, hh] at this
    simpa using this

theorem Stay.toKb {S : List Nat} {w W : World} {P : World → Prop} (h : Stay w P) (hb : Below w.heap.size w W) (hS : ∀ k ∈ S, w.heap.size ≤ k) : StayK S W P := fun U hk => h U (hb.trans (hk.toBelow hb.size hS))
theorem pkCells_at : ∀ (l : List Pk) (j : Nat) (u : Value), (pkCells l)[j]? = some u → ∃ i r, j = i * 6 + r ∧ i < l.length ∧ (l[i]?.getD Pk.zero).cells[r]? = some u
  | [], j, u, h => by simp [pkCells] at h
  | p :: r, j, u, h => by
    rw [show p :: r = [p] ++ r from rfl, pkCells_append, pkCells_one] at h
    by_cases hj : j < 6
    · rw [List.getElem?_append_left (by simpa [Pk.cells] using hj)] at h
      exact ⟨0, j, by omega, by simp, by simpa using h⟩
    · rw [List.getElem?_append_right (by simp [Pk.cells]; omega)] at h
      obtain ⟨i, q, e1, e2, e3⟩ := pkCells_at r (j - 6) u (by simpa [Pk.cells] using h)
      exact ⟨i + 1, q, by omega, by simpa using e2, by simpa using e3⟩
/-- a block that shows packets -/
theorem Pks.of_blk {w : World} {g n c : Nat} {cur : Array Value} {t : TypeId} {l : List Pk} (hb : Blk w g cur t) (hl : l.length = n) (h : ∀ i j u, i < n → (l[i]?.getD Pk.zero).cells[j]? = some u → cur[i * 6 + j]? = some u) : Pks w (.slice (some ⟨g, 0, none⟩) n c) l := by
  subst hl
  refine ⟨pkCells_len l, .inr ⟨g, 0, c, rfl, hb.lt, fun j u hj => ?_⟩⟩
  obtain ⟨i, r, e1, e2, e3⟩ := pkCells_at l j u hj
  rw [Nat.zero_add, e1]
  exact hb.cell (h i r u e2 e3)
/-- the packets of one time, up to a place, and of another one from there on -/
def pkMix (last t2 t3 : Int) (key : Bool) (ps : List ByteArray) (k i : Nat) : Pk := if i < k then pkAt last t2 key ps i else pkAt last t3 key ps i
theorem pksOf_at {last t : Int} {key : Bool} {ps : List ByteArray} {i : Nat} (h : i < ps.length) : (pksOf last t key ps)[i]?.getD Pk.zero = pkAt last t key ps i := by
  unfold pksOf pksK
  rw [List.getElem?_map, List.getElem?_range h]; rfl
theorem pkMix_step {last t2 t3 : Int} {key : Bool} {ps : List ByteArray} {n k : Nat} {cur : Array Value} (h : ∀ i j u, i < n → (pkMix last t2 t3 key ps k i).cells[j]? = some u → cur[i * 6 + j]? = some u) (hk : k < n) : ∀ i j u, i < n → (pkMix last t2 t3 key ps (k + 1) i).cells[j]? = some u → (cur.setIfInBounds (k * 6 + 1) (.int .i64 t2))[i * 6 + j]? = some u := by
  intro i j u hi hj
  have hj6 : j < 6 := by
    have := (Array.getElem?_eq_some_iff.1 hj).1
    simpa [Pk.cells] using this
  have hsz : k * 6 + 1 < cur.size := by
    have := h k 1 (.int .i64 (pkMix last t2 t3 key ps k k).time) hk rfl
    exact (Array.getElem?_eq_some_iff.1 this).1
  by_cases he : i * 6 + j = k * 6 + 1
  · have e1 : i = k := by omega
    have e2 : j = 1 := by omega
    subst e1 e2
    rw [Array.getElem?_setIfInBounds_self_of_lt hsz]
    rw [pkMix, if_pos (by omega)] at hj
    simpa [pkAt, Pk.cells] using hj
  · rw [Array.getElem?_setIfInBounds_ne (by omega)]
    refine h i j u hi ?_
    by_cases hik : i = k
    · subst hik
      rw [pkMix, if_pos (by omega)] at hj
      rw [pkMix, if_neg (by omega)]
      have hj1 : j ≠ 1 := fun e => he (by omega)
      match j, hj6, hj1, hj with
      | 0, _, _, hj => exact hj
      | 2, _, _, hj => exact hj
      | 3, _, _, hj => exact hj
      | 4, _, _, hj => exact hj
      | 5, _, _, hj => exact hj
    · have : pkMix last t2 t3 key ps (k + 1) i = pkMix last t2 t3 key ps k i := by
        unfold pkMix
        by_cases h1 : i < k
        · rw [if_pos (by omega), if_pos h1]
        · rw [if_neg (by omega), if_neg h1]
      rw [← this]; exact hj

end Go.Proofs.Ytnpaejknoipicaf
