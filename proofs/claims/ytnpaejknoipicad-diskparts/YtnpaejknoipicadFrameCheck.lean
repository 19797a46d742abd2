/-
  Contracts: frame.Check and the document's CheckFrame; follows and isNext.
-/
import Derived.Test.YtnpaejknoipicadSlotFind
import Derived.Test.YtnpaejknoipicadRefBetween
namespace Go.Proofs.Ytnpaejknoipicad
open Go.RowKit

/-- v shows these texts in world w -/
def Strs (w : World) (v : Value) (l : List ByteArray) : Prop := Sl w v l.length 1 (l.map Value.string)
theorem Strs.below {w w' : World} {v : Value} {l : List ByteArray} (h : Strs w v l) (hb : Below w.heap.size w w') : Strs w' v l := Sl.below h hb
theorem Strs.alloc {w : World} {v : Value} {l : List ByteArray} (h : Strs w v l) (o : Obj) : Strs (w.alloc o) v l := h.below ((Below.refl _ w).alloc (Nat.le_refl _) _)
theorem Strs.len {w : World} {v : Value} {l : List ByteArray} (h : Strs w v l) : ∃ a c, v = .slice a l.length c := Sl.len h
theorem Strs.nil (w : World) : Strs w (.slice none 0 0) [] := ⟨rfl, .inl ⟨rfl, none, 0, rfl⟩⟩
theorem Strs.parts {w : World} {v : Value} {l : List ByteArray} (h : Strs w v l) :
    ∃ ao c, v = .slice ao l.length c ∧ ∀ k, k < l.length → ∃ b off, ao = some ⟨b, off, none⟩ ∧ b < w.heap.size ∧ w.cell? ⟨b, off + k, none⟩ = some (.string (l[k]?.getD ByteArray.empty)) := by
  obtain ⟨ao, c, hv, hc⟩ := Sl.parts h
  exact ⟨ao, c, hv, fun k hk => hc k _ (by simp [List.getElem?_eq_getElem hk])⟩

def longB (s : ByteArray) : Bool := decide (8 < s.size)
/-- what Check says of a frame -/
def chkF (time : Int) (l : List ByteArray) : Int := if time < 0 ∨ 1000000 < time then 3 else if l.length = 0 then 5 else if 4 < l.length then 2 else if l.any longB then 2 else 0

theorem any_hit {l : List ByteArray} {k : Nat} (hk : k < l.length) (h : longB (l[k]?.getD ByteArray.empty) = true) : l.any longB = true := by
  rw [List.getElem?_eq_getElem hk] at h
  exact List.any_eq_true.2 ⟨_, List.getElem_mem hk, h⟩
theorem any_miss {l : List ByteArray} (h : ∀ k, k < l.length → longB (l[k]?.getD ByteArray.empty) = false) : l.any longB = false := by
  rw [List.any_eq_false]
  intro x hx
  obtain ⟨k, hk, rfl⟩ := List.getElem_of_mem hx
  have := h k hk
  rw [List.getElem?_eq_getElem hk] at this
  simpa using this

theorem hasLongLit_any (s : ByteArray) (w : World) : Calls Try.prog 101 #[.string s] w fun e w' => e = .returned (.bool (longB s)) ∧ w = w' := by
  unfold longB
  go_enter Try.func101, Try.ntmps101
  go_wp2
  go_ret
  exact ⟨by simp; omega, rfl⟩

/-- the place of the first long one, or -1 -/
def idxS (l : List ByteArray) : Int := match l.findIdx? longB with
  | some i => i
  | none => -1
theorem idxS_any (l : List ByteArray) : decide (0 ≤ idxS l) = l.any longB := by
  unfold idxS
  cases h : l.findIdx? longB with
  | none =>
    have h2 : l.any longB = false := by rw [List.findIdx?_eq_none_iff] at h; rw [List.any_eq_false]; intro x hx; simpa using h x hx
    simp [h2]
  | some i =>
    have h2 : l.any longB = true := by
      rw [List.findIdx?_eq_some_iff_getElem] at h
      obtain ⟨h1, h2, _⟩ := h
      exact List.any_eq_true.2 ⟨l[i], List.getElem_mem h1, h2⟩
    simp [h2]
theorem idxS_hit {l : List ByteArray} {k : Nat} (hk : k < l.length) (hno : ∀ j, j < k → longB (l[j]?.getD ByteArray.empty) = false) (hp : longB (l[k]?.getD ByteArray.empty) = true) : idxS l = k := by
  have : l.findIdx? longB = some k := by
    rw [List.findIdx?_eq_some_iff_getElem]
    refine ⟨hk, by rw [List.getElem?_eq_getElem hk] at hp; exact hp, fun j hj => ?_⟩
    have := hno j hj
    rw [List.getElem?_eq_getElem (by omega), Option.getD_some] at this
    rw [this]; simp
  simp [idxS, this]
theorem idxS_miss {l : List ByteArray} (hno : ∀ j, j < l.length → longB (l[j]?.getD ByteArray.empty) = false) : idxS l = -1 := by
  have : l.findIdx? longB = none := by
    rw [List.findIdx?_eq_none_iff]
    intro x hx
    obtain ⟨j, hj, rfl⟩ := List.getElem_of_mem hx
    have := hno j hj
    rw [List.getElem?_eq_getElem hj] at this
    exact this
  simp [idxS, this]

set_option maxHeartbeats 1600000 in
theorem indexStr_any (v : Value) (l : List ByteArray) (w : World) (hv : Strs w v l) (hlen : l.length ≤ 9223372036854775807) :
    Calls Try.prog 108 #[v, .func (.func 101) #[] #[]] w fun e w' => e = .returned (.int .i64 (idxS l)) ∧ w = w' := by
  obtain ⟨ao, c, rfl, hc⟩ := hv.parts
  have HC : Hid (∀ k, k < l.length → ∃ b off, ao = some ⟨b, off, none⟩ ∧ b < w.heap.size ∧ w.cell? ⟨b, off + k, none⟩ = some (.string (l[k]?.getD ByteArray.empty))) := hc
  obtain ⟨n, hn⟩ : ∃ n, n = l.length := ⟨_, rfl⟩
  have HN : Hid (n = l.length) := hn
  rw [← hn] at hlen ⊢
  clear hc hv hn
  go_enter Try.func108, Try.ntmps108
  go_wp2
  go_loopw [8] (fun i wr => ∃ k : Nat, k ≤ n ∧ i = .int .i64 k ∧ Hid (∀ j, j < k → longB (l[j]?.getD ByteArray.empty) = false) ∧ w = wr)
    (fun i _ => n - (intOf i).toNat)
  case atStart => exact ⟨0, Nat.zero_le _, rfl, (show ∀ j, j < 0 → _ from fun j hj => absurd hj (Nat.not_lt_zero _)), rfl⟩
  case round =>
    obtain ⟨k, hk, rfl, HK, rfl⟩ := hrel
    by_cases hlt : k < n
    · obtain ⟨b, off, rfl, hb, hat⟩ := HC.out k (by rw [← HN.out]; exact hlt)
      obtain ⟨x, hx⟩ : ∃ x, x = l[k]?.getD ByteArray.empty := ⟨_, rfl⟩
      rw [← hx] at hat
      have HX : Hid (x = l[k]?.getD ByteArray.empty) := hx
      obtain ⟨t, ht⟩ : ∃ t, t = longB x := ⟨_, rfl⟩
      have HT : Hid (t = longB x) := ht
      have hcall := hasLongLit_any x w
      rw [← ht] at hcall
      clear hx ht
      cases t
      · go_wp2_with (go_at_call 101; refine hcall.mono ?_; rintro e w1 ⟨rfl, rfl⟩)
        go_roundw
        case rel =>
          refine ⟨k + 1, by omega, by go_num, (show ∀ j, j < k + 1 → _ from fun j hj => ?_), by first | rfl | trivial⟩
          by_cases e : j = k
          · subst e
            rw [← HX.out]; exact HT.out.symm
          · exact HK.out j (by omega)
        case measure => simp [intOf]; omega
      · go_wp2_with (go_at_call 101; refine hcall.mono ?_; rintro e w1 ⟨rfl, rfl⟩)
        go_ret
        exact ⟨by rw [idxS_hit (by rw [← HN.out]; exact hlt) HK.out (by rw [← HX.out]; exact HT.out.symm)]; rfl, rfl⟩
    · have hkl : k = n := by omega
      subst hkl
      go_wp2
      go_ret
      exact ⟨by rw [idxS_miss (fun j hj => HK.out j (by rw [HN.out]; exact hj))]; rfl, rfl⟩

theorem hasLong_any (v : Value) (l : List ByteArray) (w : World) (hv : Strs w v l) (hlen : l.length ≤ 9223372036854775807) :
    Calls Try.prog 85 #[v] w fun e w' => e = .returned (.bool (l.any longB)) ∧ w = w' := by
  rw [← idxS_any]
  have hix := indexStr_any v l w hv hlen
  obtain ⟨r, hr⟩ : ∃ r, r = idxS l := ⟨_, rfl⟩
  rw [← hr] at hix ⊢
  clear hr
  obtain ⟨a, c, rfl⟩ := hv.len
  have hcf : Calls Try.prog 100 #[.slice a l.length c, .func (.func 101) #[] #[]] w fun e w' => e = .returned (.bool (decide (0 ≤ r))) ∧ w = w' := by
    go_enter Try.func100, Try.ntmps100
    go_wp2_with (go_at_call 108; refine hix.mono ?_; rintro e w1 ⟨rfl, rfl⟩)
    go_ret
    exact ⟨rfl, rfl⟩
  go_enter Try.func85, Try.ntmps85
  go_wp2_with (go_at_call 100; refine hcf.mono ?_; rintro e w1 ⟨rfl, rfl⟩)
  go_ret
  exact ⟨rfl, rfl⟩

set_option maxHeartbeats 1000000 in
theorem frameCheck_any (time : Int) (key : Bool) (v : Value) (l : List ByteArray) (w : World) (hv : Strs w v l) (hlen : l.length ≤ 9223372036854775807) :
    Calls Try.prog 65 #[.agg #[.int .i64 time, .bool key, v]] w fun e w' => e = .returned (.int .i64 (chkF time l)) ∧ Below w.heap.size w w' := by
  obtain ⟨a, c, hva⟩ := hv.len
  have HL : Hid (∀ w', Strs w' v l → Calls Try.prog 85 #[v] w' fun e w'' => e = .returned (.bool (l.any longB)) ∧ w' = w'') := fun w' hs => hasLong_any v l w' hs hlen
  have HV : Hid (Strs w v l) := hv
  obtain ⟨n, hn⟩ : ∃ n, n = l.length := ⟨_, rfl⟩
  obtain ⟨t, ht⟩ : ∃ t, t = l.any longB := ⟨_, rfl⟩
  rw [← ht] at HL
  rw [← hn] at hva hlen
  have hr : chkF time l = if time < 0 ∨ 1000000 < time then 3 else if n = 0 then 5 else if 4 < n then 2 else if t then 2 else 0 := by unfold chkF; rw [ht, hn]
  rw [hr]
  clear hv hn ht hr
  subst hva
  by_cases h1 : time < 0
  · rw [if_pos (.inl h1)]
    go_enter Try.func65, Try.ntmps65
    go_wp2
    go_ret
    exact ⟨rfl, by go_grown⟩
  by_cases h2 : 1000000 < time
  · rw [if_pos (.inr h2)]
    go_enter Try.func65, Try.ntmps65
    go_wp2
    go_ret
    exact ⟨rfl, by go_grown⟩
  rw [if_neg (by omega)]
  by_cases h3 : n = 0
  · rw [if_pos h3]
    subst h3
    go_enter Try.func65, Try.ntmps65
    go_wp2
    go_ret
    exact ⟨rfl, by go_grown⟩
  rw [if_neg h3]
  have h3' : ((n : Int) == 0) = false := by simpa using h3
  by_cases h4 : 4 < n
  · rw [if_pos h4]
    go_enter Try.func65, Try.ntmps65
    go_wp2
    go_ret
    exact ⟨rfl, by go_grown⟩
  rw [if_neg h4]
  cases t
  all_goals
    go_enter Try.func65, Try.ntmps65
    go_wp2_with (go_at_call 85; refine (HL.out _ (HV.out.alloc _)).mono ?_; rintro e w1 ⟨rfl, rfl⟩)
    go_ret
    exact ⟨rfl, by go_grown⟩

/-- the number behind, and the same time -/
def folB (a x : Sk) : Bool := x.n == a.n + 1 && x.p.time == a.p.time
def nextB (a x : Sk) : Bool := !x.p.f && folB a x

end Go.Proofs.Ytnpaejknoipicad
