/-
  Contracts: frame.checkBuilder, frame.Add.
-/
import Derived.Test.YtnpaejknoipicafFrameChk
import Derived.Test.YtnpaejknoipicafSlotFits2
import Derived.Test.YtnpaejknoipicafFrameAdd
import Derived.Test.YtnpaejknoipicafRowAux
namespace Go.Proofs.Ytnpaejknoipicaf
open Go.RowKit

set_option maxHeartbeats 400000 in
theorem begunLit_fits (v : Value) (l : List Sk) (B : Nat) (w : World) (hB : Blk w B #[v] 50) (hv : Sls w v l) (hlen : l.length ≤ 9223372036854775807) :
    FitsR 74 #[.pointer (some ⟨B, 0, none⟩)] (qO l) l w := fun W k hk hok hb => by
  have hBW := hB.below hb hB.lt
  have c0 := hBW.one
  have hcall := isBegun_any v l k W (hv.below hb) hk hlen (fun h0 => by
    have hk1 : k - 1 < l.length := by omega
    rw [List.getElem?_eq_getElem hk1, Option.getD_some]
    have := Sk.chk_zero (hok l[k - 1] (by
      rw [List.mem_iff_getElem]
      exact ⟨k - 1, by simp; omega, by simp⟩))
    omega)
  obtain ⟨q, hq⟩ : ∃ q, q = qO l k := ⟨_, rfl⟩
  rw [← hq] at hcall ⊢
  obtain ⟨a, c, rfl⟩ := hv.len
  clear hq hBW hB hv hok
  show Calls Try.prog 74 #[.int .i64 k, .pointer (some ⟨B, 0, none⟩)] W _
  go_enter Try.func74, Try.ntmps74
  go_wp2_with (go_at_call 75; refine hcall.mono ?_; rintro e w1 ⟨rfl, hbw⟩)
  go_ret
  exact ⟨rfl, hbw⟩

set_option maxHeartbeats 1000000 in
theorem checkBuilder_any (v : Value) (l : List Sk) (w : World) (hv : Sls w v l) (hlen : l.length ≤ 9223372036854775807) :
    Calls Try.prog 52 #[.agg #[v]] w fun e w' => e = .returned (.int .i64 (ochk l)) ∧ Below w.heap.size w w' := by
  obtain ⟨a, c, hva⟩ := hv.len
  obtain ⟨n, hn⟩ : ∃ n, n = l.length := ⟨_, rfl⟩
  rw [← hn] at hva
  have hr : ochk l = if 4 ≤ n then 2 else ogo none l := by rw [hn]; rfl
  rw [hr]
  have hln : n ≤ 9223372036854775807 := by omega
  have hcA : Calls Try.prog 66 #[v, .func (.func 74) #[] #[.pointer (some ⟨w.heap.size, 0, none⟩)]] (w.alloc (.cells #[v] 50)) fun e w' => e = .returned (.int .i64 (ogo none l)) ∧ Below (w.alloc (.cells #[v] 50)).heap.size (w.alloc (.cells #[v] 50)) w' := by
    rw [← fit_open]
    exact checkAllR_any 74 #[.pointer (some ⟨w.heap.size, 0, none⟩)] (qO l) (enters_of Try.func74 (by kernel_rfl) rfl) v l _ (hv.alloc _) hlen (begunLit_fits v l w.heap.size _ (Blk.new w _ _) (hv.alloc _) hlen)
  obtain ⟨r, hrr⟩ : ∃ r, r = ogo none l := ⟨_, rfl⟩
  rw [← hrr] at hcA ⊢
  have HA : Hid (Calls Try.prog 66 #[v, .func (.func 74) #[] #[.pointer (some ⟨w.heap.size, 0, none⟩)]] (w.alloc (.cells #[v] 50)) fun e w' => e = .returned (.int .i64 r) ∧ Below (w.alloc (.cells #[v] 50)).heap.size (w.alloc (.cells #[v] 50)) w') := hcA
  clear hr hrr hcA hv hn hlen
  subst hva
  by_cases h4 : 4 ≤ n
  · rw [if_pos h4]
    go_enter Try.func52, Try.ntmps52
    go_wp2
    go_ret
    exact ⟨rfl, by go_grown⟩
  · rw [if_neg h4]
    go_enter Try.func52, Try.ntmps52
    go_wp2_with fail
    refine HA.out.mono ?_
    rintro e w1 ⟨rfl, hb1⟩
    have B1 : Hid (Below w.heap.size w w1) := ((Below.refl _ w).alloc (Nat.le_refl _) _).trans (hb1.mono (by simp))
    clear hb1
    go_wp2
    go_ret
    exact ⟨rfl, B1.out⟩

/-- the errno of Add, and what comes of it -/
def addE (l : List Sk) (x : Sk) : Int := if ochk l = 0 then x.chk else ochk l
theorem frameAdd_bad (v : Value) (l : List Sk) (x : Sk) (w : World) (hv : Sls w v l) (hlen : l.length ≤ 9223372036854775807) (hE : ¬ addE l x = 0) :
    Calls Try.prog 30 #[.agg #[v], x.val] w fun e w' => e = .returned (.tuple #[.agg #[.slice none 0 0], .agg #[.int .i64 0, .bool false, .slice none 0 0], .bool false, .int .i64 (addE l x)]) ∧ Below w.heap.size w w' :=
  frameAdd_no (ochk l) v l x w hv (fun w' hs => checkBuilder_any v l w' hs hlen) (addE l x) rfl hE
theorem addE_zero {l : List Sk} {x : Sk} (h : addE l x = 0) : ochk l = 0 ∧ x.chk = 0 ∧ l.length ≤ 3 ∧ ∀ y ∈ l, y.chk = 0 := by
  unfold addE at h
  by_cases h0 : ochk l = 0
  · rw [if_pos h0] at h
    have h1 := h0
    unfold ochk at h1
    by_cases h4 : 4 ≤ l.length
    · rw [if_pos h4] at h1; omega
    · rw [if_neg h4] at h1
      exact ⟨h0, h, by omega, ogo_all l none h1⟩
  · rw [if_neg h0] at h; exact absurd h h0
theorem frameAdd_good (v : Value) (l : List Sk) (x : Sk) (w : World) (hv : Sls w v l) (hE : addE l x = 0) :
    Calls Try.prog 30 #[.agg #[v], x.val] w fun e w' => ∃ ov pv, e = .returned (.tuple #[.agg #[ov], .agg #[.int .i64 (addT l x), .bool (addK l x), pv], .bool (addW l x), .int .i64 0]) ∧
      (Sls w' ov (addO l x) ∧ Strs w' pv (addP l x) ∧ (∀ g, ov.ownBlock = some g → w.heap.size ≤ g ∧ g < w'.heap.size) ∧ ∀ g, pv.ownBlock = some g → w.heap.size ≤ g ∧ g < w'.heap.size) ∧ Below w.heap.size w w' := by
  obtain ⟨h0, hx, h3, hl⟩ := addE_zero hE
  exact frameAdd_ok v l x w hv (fun w' hs => by rw [← h0]; exact checkBuilder_any v l w' hs (by omega)) h3 hl hx

/-- what Add answers: nothing beside an errno -/
structure AddR where
  o : List Sk
  t : Int
  k : Bool
  p : List ByteArray
  b : Bool
def addR (l : List Sk) (x : Sk) : AddR := if addE l x = 0 then ⟨addO l x, addT l x, addK l x, addP l x, addW l x⟩ else ⟨[], 0, false, [], false⟩
theorem frameAdd_any (v : Value) (l : List Sk) (x : Sk) (w : World) (hv : Sls w v l) (hlen : l.length ≤ 9223372036854775807) :
    Calls Try.prog 30 #[.agg #[v], x.val] w fun e w' => ∃ ov pv, e = .returned (.tuple #[.agg #[ov], .agg #[.int .i64 (addR l x).t, .bool (addR l x).k, pv], .bool (addR l x).b, .int .i64 (addE l x)]) ∧
      (Sls w' ov (addR l x).o ∧ Strs w' pv (addR l x).p ∧ (∀ g, ov.ownBlock = some g → w.heap.size ≤ g ∧ g < w'.heap.size) ∧ ∀ g, pv.ownBlock = some g → w.heap.size ≤ g ∧ g < w'.heap.size) ∧ Below w.heap.size w w' := by
  by_cases hE : addE l x = 0
  · have hr : addR l x = ⟨addO l x, addT l x, addK l x, addP l x, addW l x⟩ := by unfold addR; rw [if_pos hE]
    rw [hr, hE]
    exact frameAdd_good v l x w hv hE
  · have hr : addR l x = ⟨[], 0, false, [], false⟩ := by unfold addR; rw [if_neg hE]
    rw [hr]
    refine (frameAdd_bad v l x w hv hlen hE).mono ?_
    rintro e w' ⟨rfl, hb⟩
    exact ⟨_, _, rfl, ⟨Sls.nil _, Strs.nil _, fun g hg => by simp [Value.ownBlock] at hg, fun g hg => by simp [Value.ownBlock] at hg⟩, hb⟩

end Go.Proofs.Ytnpaejknoipicaf
