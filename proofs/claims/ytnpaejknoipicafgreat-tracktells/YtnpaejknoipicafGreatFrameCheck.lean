/-
  Contracts: frame.Check and the document's CheckFrame; follows and isNext.
-/
import Derived.Test.YtnpaejknoipicafGreatSlotFind
import Derived.Test.YtnpaejknoipicafGreatRefBetween
namespace Go.Proofs.YtnpaejknoipicafGreat
open Go.RowKit

/-- v shows these texts in world w -/
def Strs (w : World) (v : Value) (l : List ByteArray) : Prop := Sl w v l.length 1 (l.map Value.string)
theorem Strs.below {w w' : World} {v : Value} {l : List ByteArray} (h : Strs w v l) (hb : Below w.heap.size w w') : Strs w' v l := Sl.below h hb
theorem Strs.alloc {w : World} {v : Value} {l : List ByteArray} (h : Strs w v l) (o : Obj) : Strs (w.alloc o) v l := h.below ((Below.refl _ w).alloc (Nat.le_refl _) _)
theorem Strs.len {w : World} {v : Value} {l : List ByteArray} (h : Strs w v l) : ∃ a c, v = .slice a l.length c := Sl.len h
theorem Strs.nil (w : World) : Strs w (.slice none 0 0) [] := ⟨rfl, .inl ⟨rfl, none, 0, rfl⟩⟩
theorem Strs.parts {w : World} {v : Value} {l : List ByteArray} (h : Strs w v l) :
    ∃ ao c, v = .slice ao l.length c ∧ ∀ k, k < l.length → ∃ b off, ao = some ⟨b, off, none⟩ ∧ b < w.heap.size ∧ w.cell? ⟨b, off + k, none⟩ = some (.string (l[k]?.getD ByteArray.empty)) := by
  obtain ⟨ao, c, hv, hc⟩ := Sl.parts h
  exact ⟨ao, c, hv, fun k hk => hc k _ (by simp [List.getElem?_eq_getElem hk])⟩

def longB (s : ByteArray) : Bool := decide (8 < s.size)
/-- what Check says of a frame -/
def chkF (time : Int) (l : List ByteArray) : Int := if time < 0 ∨ 1000000 < time then 3 else if l.length = 0 then 5 else if 4 < l.length then 2 else if l.any longB then 2 else 0

theorem any_hit {l : List ByteArray} {k : Nat} (hk : k < l.length) (h : longB (l[k]?.getD ByteArray.empty) = true) : l.any longB = true := by
  rw [List.getElem?_eq_getElem hk] at h
  exact List.any_eq_true.2 ⟨_, List.getElem_mem hk, h⟩
theorem any_miss {l : List ByteArray} (h : ∀ k, k < l.length → longB (l[k]?.getD ByteArray.empty) = false) : l.any longB = false := by
  rw [List.any_eq_false]
  intro x hx
  obtain ⟨k, hk, rfl⟩ := List.getElem_of_mem hx
  have := h k hk
  rw [List.getElem?_eq_getElem hk] at this
  simpa using this

theorem hasLongLit_any (s : ByteArray) (w : World) : Calls Tryz.prog 141 #[.string s] w fun e w' => e = .returned (.bool (longB s)) ∧ w = w' := by
  unfold longB
  go_enter Tryz.func141, Tryz.ntmps141
  go_wp2
  go_ret
  exact ⟨by simp; omega, rfl⟩

/-- the place of the first long one, or -1 -/
def idxS (l : List ByteArray) : Int := match l.findIdx? longB with
  | some i => i
  | none => -1
theorem idxS_any (l : List ByteArray) : decide (0 ≤ idxS l) = l.any longB := by
  unfold idxS
  cases h : l.findIdx? longB with
  | none =>
    have h2 : l.any longB = false := by rw [List.findIdx?_eq_none_iff] at h; rw [List.any_eq_false]; intro x hx; simpa using h x hx
    simp [h2]
  | some i =>
    have h2 : l.any longB = true := by
      rw [List.findIdx?_eq_some_iff_getElem] at h
      obtain ⟨h1, h2, _⟩ := h
      exact List.any_eq_true.2 ⟨l[i], List.getElem_mem h1, h2⟩
    simp [h2]
theorem idxS_hit {l : List ByteArray} {k : Nat} (hk : k < l.length) (hno : ∀ j, j < k → longB (l[j]?.getD ByteArray.empty) = false) (hp : longB (l[k]?.getD ByteArray.empty) = true) : idxS l = k := by
  have : l.findIdx? longB = some k := by
    rw [List.findIdx?_eq_some_iff_getElem]
    refine ⟨hk, by rw [List.getElem?_eq_getElem hk] at hp; exact hp, fun j hj => ?_⟩
    have := hno j hj
    rw [List.getElem?_eq_getElem (by omega), Option.getD_some] at this
    rw [this]; simp
  simp [idxS, this]
theorem idxS_miss {l : List ByteArray} (hno : ∀ j, j < l.length → longB (l[j]?.getD ByteArray.empty) = false) : idxS l = -1 := by
  have : l.findIdx? longB = none := by
    rw [List.findIdx?_eq_none_iff]
    intro x hx
    obtain ⟨j, hj, rfl⟩ := List.getElem_of_mem hx
    have := hno j hj
    rw [List.getElem?_eq_getElem hj] at this
    exact this
  simp [idxS, this]

set_option maxHeartbeats 1600000 in
theorem indexStr_any (v : Value) (l : List ByteArray) (w : World) (hv : Strs w v l) (hlen : l.length ≤ 9223372036854775807) :
    Calls Tryz.prog 165 #[v, .func (.func 141) #[] #[]] w fun e w' => e = .returned (.int .i64 (idxS l)) ∧ w = w' := by
  obtain ⟨ao, c, rfl, hc⟩ := hv.parts
  have HC : Hid (∀ k, k < l.length → ∃ b off, ao = some ⟨b, off, none⟩ ∧ b < w.heap.size ∧ w.cell? ⟨b, off + k, none⟩ = some (.string (l[k]?.getD ByteArray.empty))) := hc
  obtain ⟨n, hn⟩ : ∃ n, n = l.length := ⟨_, rfl⟩
  have HN : Hid (n = l.length) := hn
  rw [← hn] at hlen ⊢
  clear hc hv hn
  go_enter Tryz.func165, Tryz.ntmps165
  go_wp2
  go_loopw [8] (fun i wr => ∃ k : Nat, k ≤ n ∧ i = .int .i64 k ∧ Hid (∀ j, j < k → longB (l[j]?.getD ByteArray.empty) = false) ∧ w = wr)
    (fun i _ => n - (intOf i).toNat)
  case atStart => exact ⟨0, Nat.zero_le _, rfl, (show ∀ j, j < 0 → _ from fun j hj => absurd hj (Nat.not_lt_zero _)), rfl⟩
  case round =>
    obtain ⟨k, hk, rfl, HK, rfl⟩ := hrel
    by_cases hlt : k < n
    · obtain ⟨b, off, rfl, hb, hat⟩ := HC.out k (by rw [← HN.out]; exact hlt)
      obtain ⟨x, hx⟩ : ∃ x, x = l[k]?.getD ByteArray.empty := ⟨_, rfl⟩
      rw [← hx] at hat
      have HX : Hid (x = l[k]?.getD ByteArray.empty) := hx
      obtain ⟨t, ht⟩ : ∃ t, t = longB x := ⟨_, rfl⟩
      have HT : Hid (t = longB x) := ht
      have hcall := hasLongLit_any x w
      rw [← ht] at hcall
      clear hx ht
      cases t
      · go_wp2_with (go_at_call 141; refine hcall.mono ?_; rintro e w1 ⟨rfl, rfl⟩)
        go_roundw
        case rel =>
          refine ⟨k + 1, by omega, by go_num, (show ∀ j, j < k + 1 → _ from fun j hj => ?_), by first | rfl | trivial⟩
          by_cases e : j = k
          · subst e
            rw [← HX.out]; exact HT.out.symm
          · exact HK.out j (by omega)
        case measure => simp [intOf]; omega
      · go_wp2_with (go_at_call 141; refine hcall.mono ?_; rintro e w1 ⟨rfl, rfl⟩)
        go_ret
        exact ⟨by rw [idxS_hit (by rw [← HN.out]; exact hlt) HK.out (by rw [← HX.out]; exact HT.out.symm)]; rfl, rfl⟩
    · have hkl : k = n := by omega
      subst hkl
      go_wp2
      go_ret
      exact ⟨by rw [idxS_miss (fun j hj => HK.out j (by rw [HN.out]; exact hj))]; rfl, rfl⟩

theorem hasLong_any (v : Value) (l : List ByteArray) (w : World) (hv : Strs w v l) (hlen : l.length ≤ 9223372036854775807) :
    Calls Tryz.prog 95 #[v] w fun e w' => e = .returned (.bool (l.any longB)) ∧ w = w' := by
  rw [← idxS_any]
  have hix := indexStr_any v l w hv hlen
  obtain ⟨r, hr⟩ : ∃ r, r = idxS l := ⟨_, rfl⟩
  rw [← hr] at hix ⊢
  clear hr
  obtain ⟨a, c, rfl⟩ := hv.len
  have hcf : Calls Tryz.prog 140 #[.slice a l.length c, .func (.func 141) #[] #[]] w fun e w' => e = .returned (.bool (decide (0 ≤ r))) ∧ w = w' := by
    go_enter Tryz.func140, Tryz.ntmps140
    go_wp2_with (go_at_call 165; refine hix.mono ?_; rintro e w1 ⟨rfl, rfl⟩)
    go_ret
    exact ⟨rfl, rfl⟩
  go_enter Tryz.func95, Tryz.ntmps95
  go_wp2_with (go_at_call 140; refine hcf.mono ?_; rintro e w1 ⟨rfl, rfl⟩)
  go_ret
  exact ⟨rfl, rfl⟩

set_option maxHeartbeats 1000000 in
theorem frameCheck_any (time : Int) (key : Bool) (v : Value) (l : List ByteArray) (w : World) (hv : Strs w v l) (hlen : l.length ≤ 9223372036854775807) :
    Calls Tryz.prog 49 #[.agg #[.int .i64 time, .bool key, v]] w fun e w' => e = .returned (.int .i64 (chkF time l)) ∧ Below w.heap.size w w' := by
  obtain ⟨a, c, hva⟩ := hv.len
  have HL : Hid (∀ w', Strs w' v l → Calls Tryz.prog 95 #[v] w' fun e w'' => e = .returned (.bool (l.any longB)) ∧ w' = w'') := fun w' hs => hasLong_any v l w' hs hlen
  have HV : Hid (Strs w v l) := hv
  obtain ⟨n, hn⟩ : ∃ n, n = l.length := ⟨_, rfl⟩
  obtain ⟨t, ht⟩ : ∃ t, t = l.any longB := ⟨_, rfl⟩
  rw [← ht] at HL
  rw [← hn] at hva hlen
  have hr : chkF time l = if time < 0 ∨ 1000000 < time then 3 else if n = 0 then 5 else if 4 < n then 2 else if t then 2 else 0 := by unfold chkF; rw [ht, hn]
  rw [hr]
  clear hv hn ht hr
  subst hva
  by_cases h1 : time < 0
  · rw [if_pos (.inl h1)]
    go_enter Tryz.func49, Tryz.ntmps49
    go_wp2
    go_ret
    exact ⟨rfl, by go_grown⟩
  by_cases h2 : 1000000 < time
  · rw [if_pos (.inr h2)]
    go_enter Tryz.func49, Tryz.ntmps49
    go_wp2
    go_ret
    exact ⟨rfl, by go_grown⟩
  rw [if_neg (by omega)]
  by_cases h3 : n = 0
  · rw [if_pos h3]
    subst h3
    go_enter Tryz.func49, Tryz.ntmps49
    go_wp2
    go_ret
    exact ⟨rfl, by go_grown⟩
  rw [if_neg h3]
  have h3' : ((n : Int) == 0) = false := by simpa using h3
  by_cases h4 : 4 < n
  · rw [if_pos h4]
    go_enter Tryz.func49, Tryz.ntmps49
    go_wp2
    go_ret
    exact ⟨rfl, by go_grown⟩
  rw [if_neg h4]
  cases t
  all_goals
    go_enter Tryz.func49, Tryz.ntmps49
    go_wp2_with (go_at_call 95; refine (HL.out _ (HV.out.alloc _)).mono ?_; rintro e w1 ⟨rfl, rfl⟩)
    go_ret
    exact ⟨rfl, by go_grown⟩

/-- the number behind, and the same time -/
def folB (a x : Sk) : Bool := x.n == a.n + 1 && x.p.time == a.p.time
def nextB (a x : Sk) : Bool := !x.p.f && folB a x

set_option maxHeartbeats 1000000 in
theorem follows_any (a x : Sk) (w : World) (ha : 0 ≤ a.n ∧ a.n ≤ 1000000001) :
    Calls Tryz.prog 164 #[a.val, x.val] w fun e w' => e = .returned (.bool (folB a x)) ∧ Below w.heap.size w w' := by
  obtain ⟨an, a0, a1, a2, a3, a4, a5⟩ := a
  obtain ⟨xn, x0, x1, x2, x3, x4, x5⟩ := x
  simp only [Sk.val, folB] at ha ⊢
  obtain ⟨h1, h2⟩ := ha
  by_cases hn : xn = an + 1
  · have e1 : (xn == an + 1) = true := by simpa using hn
    rw [e1, Bool.true_and]
    clear hn
    go_enter Tryz.func164, Tryz.ntmps164
    go_wp2
    go_ret
    exact ⟨rfl, by go_grown⟩
  · have e1 : (xn == an + 1) = false := by simpa using hn
    rw [e1, Bool.false_and]
    clear hn
    go_enter Tryz.func164, Tryz.ntmps164
    go_wp2
    go_ret
    exact ⟨rfl, by go_grown⟩

set_option maxHeartbeats 1000000 in
theorem isNext_any (a x : Sk) (w : World) (ha : 0 ≤ a.n ∧ a.n ≤ 1000000001) :
    Calls Tryz.prog 116 #[a.val, x.val] w fun e w' => e = .returned (.bool (nextB a x)) ∧ Below w.heap.size w w' := by
  obtain ⟨an, a0, a1, a2, a3, a4, a5⟩ := a
  obtain ⟨xn, x0, x1, x2, x3, x4, x5⟩ := x
  simp only [Sk.val, nextB, folB] at ha ⊢
  obtain ⟨h1, h2⟩ := ha
  cases x2
  · rw [show (!false && (xn == an + 1 && x1 == a1)) = (an + 1 == xn && a1 == x1) by rw [Bool.not_false, Bool.true_and]; congr 1 <;> exact Bool.eq_iff_iff.2 (by simp only [beq_iff_eq]; exact ⟨Eq.symm, Eq.symm⟩)]
    by_cases hn : an + 1 = xn
    · have e1 : (an + 1 == xn) = true := by simpa using hn
      rw [e1, Bool.true_and]
      clear hn
      go_enter Tryz.func116, Tryz.ntmps116
      go_wp2
      go_ret
      exact ⟨rfl, by go_grown⟩
    · have e1 : (an + 1 == xn) = false := by simpa using hn
      rw [e1, Bool.false_and]
      clear hn
      go_enter Tryz.func116, Tryz.ntmps116
      go_wp2
      go_ret
      exact ⟨rfl, by go_grown⟩
  · rw [show (!true && (xn == an + 1 && x1 == a1)) = false by simp]
    go_enter Tryz.func116, Tryz.ntmps116
    go_wp2
    go_ret
    exact ⟨rfl, by go_grown⟩

end Go.Proofs.YtnpaejknoipicafGreat
