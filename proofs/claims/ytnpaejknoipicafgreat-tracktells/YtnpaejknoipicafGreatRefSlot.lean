/-
  Contracts: the document's CheckSlot; '==' between slots; SameSlots, SameBuffer.
-/
import Derived.Test.YtnpaejknoipicafGreatSlotRows
import Derived.Test.YtnpaejknoipicafGreatWireEq
import Derived.Deep.QuietTactic
import Derived.BigQuiet
namespace Go.Proofs.YtnpaejknoipicafGreat
open Go.RowKit

theorem refNum_any (n : Int) (w : World) :
    Calls Tryz.prog 70 #[.int .i64 n] w fun e w' => e = .returned (.bool (Cn.isNB n)) ∧ w = w' := by
  have e : Cn.isNB n = Cn.betB n 65536 1000000000 := by simp [Cn.betB, Cn.isNB]
  rw [e]
  clear e
  go_enter Tryz.func70, Tryz.ntmps70
  go_wp2_with (go_at_call 50; refine (between_any _ _ _ _).mono ?_; rintro e w' ⟨rfl, rfl⟩)
  go_ret
  exact ⟨rfl, rfl⟩

set_option maxHeartbeats 1000000 in
theorem refSlot_any (x : Sk) (w : World) :
    Calls Tryz.prog 115 #[x.val] w fun e w' => e = .returned (.int .i64 x.chk) ∧ Below w.heap.size w w' := by
  cases hb : Cn.isNB x.n
  · have hw : ∀ w : World, Calls Tryz.prog 70 #[.int .i64 x.n] w fun e w' => e = .returned (.bool false) ∧ w = w' := fun w => by rw [← hb]; exact refNum_any _ _
    rw [Sk.chk_range hb]
    clear hb
    obtain ⟨n, seq, time, f, e, k, t⟩ := x
    simp only [Sk.val] at hw ⊢
    go_enter Tryz.func115, Tryz.ntmps115
    go_wp2_with (go_at_call 70; refine (hw _).mono ?_; rintro e w' ⟨rfl, rfl⟩)
    go_ret
    exact ⟨rfl, by go_grown⟩
  have hw : ∀ w : World, Calls Tryz.prog 70 #[.int .i64 x.n] w fun e w' => e = .returned (.bool true) ∧ w = w' := fun w => by rw [← hb]; exact refNum_any _ _
  obtain ⟨hn1, hn2⟩ := Cn.isNB_iff.1 hb
  by_cases hc : x.p.chk = 0
  · have hp : ∀ w : World, Calls Tryz.prog 118 #[x.p.val] w fun e w' => e = .returned (.int .i64 0) ∧ w' = w.alloc (.cells x.p.cells 89) := fun w => by rw [← hc]; exact refCheck_any _ _
    by_cases hs : x.n % 65536 = x.p.seq
    · rw [Sk.chk_ok hb hc hs]
      clear hb hc
      obtain ⟨n, seq, time, f, e, k, t⟩ := x
      simp only [Sk.val, Pk.val, Pk.cells] at hw hp hs hn1 hn2 ⊢
      subst hs
      go_enter Tryz.func115, Tryz.ntmps115
      go_wp2_with (first | (go_at_call 70; refine (hw _).mono ?_; rintro e w' ⟨rfl, rfl⟩) | (go_at_call 118; refine (hp _).mono ?_; rintro e w' ⟨rfl, rfl⟩))
      go_ret
      exact ⟨rfl, by go_grown⟩
    · rw [Sk.chk_seq hb hc hs]
      clear hb hc
      obtain ⟨n, seq, time, f, e, k, t⟩ := x
      simp only [Sk.val, Pk.val, Pk.cells] at hw hp hs hn1 hn2 ⊢
      go_enter Tryz.func115, Tryz.ntmps115
      go_wp2_with (first | (go_at_call 70; refine (hw _).mono ?_; rintro e w' ⟨rfl, rfl⟩) | (go_at_call 118; refine (hp _).mono ?_; rintro e w' ⟨rfl, rfl⟩))
      go_ret
      exact ⟨rfl, by go_grown⟩
  · rw [Sk.chk_pkt hb hc]
    obtain ⟨c, hcc⟩ : ∃ c, c = x.p.chk := ⟨_, rfl⟩
    have hp : ∀ w : World, Calls Tryz.prog 118 #[x.p.val] w fun e w' => e = .returned (.int .i64 c) ∧ w' = w.alloc (.cells x.p.cells 89) := fun w => by rw [hcc]; exact refCheck_any _ _
    rw [← hcc] at hc ⊢
    clear hb hcc
    obtain ⟨n, seq, time, f, e, k, t⟩ := x
    simp only [Sk.val, Pk.val, Pk.cells] at hw hp ⊢
    go_enter Tryz.func115, Tryz.ntmps115
    go_wp2_with (first | (go_at_call 70; refine (hw _).mono ?_; rintro e w' ⟨rfl, rfl⟩) | (go_at_call 118; refine (hp _).mono ?_; rintro e w' ⟨rfl, rfl⟩))
    go_ret
    exact ⟨rfl, by go_grown⟩

def Sk.eqB (a b : Sk) : Bool := (a.n == b.n) && Pk.eqB a.p b.p
theorem Sk.eqB_iff (a b : Sk) : Sk.eqB a b = true ↔ a = b := by
  obtain ⟨an, ap⟩ := a
  obtain ⟨bn, bp⟩ := b
  simp [Sk.eqB, Pk.eqB_iff]

set_option maxHeartbeats 1000000 in
theorem equalIn_slot (a b : Sk) (w : World) : (Op.equalIn 10000 91 a.val b.val).run Tryz.prog w = .ok (Sk.eqB a b) w := by
  obtain ⟨an, a0, a1, a2, a3, a4, a5⟩ := a
  obtain ⟨bn, b0, b1, b2, b3, b4, b5⟩ := b
  simp only [Sk.val, Sk.eqB, Pk.eqB]
  rw [run_equalIn_agg w 9999 91 _ _ (by kernel_rfl) (by kernel_rfl)]
  rw [show (Tryz.prog.fieldsOf 91) = _ by unfold Program.fieldsOf; rw [Tryz.underlying91]]
  cases hn : (an == bn)
  · simp [go_sem, hn]
  simp [go_sem, hn]
  by_cases h0 : a0 = b0
  · by_cases h1 : a1 = b1
    · by_cases h2 : a2 = b2
      · by_cases h3 : a3 = b3
        · by_cases h4 : a4 = b4
          · by_cases h5 : a5.toList = b5.toList <;> simp [h0, h1, h2, h3, h4, h5]
          · simp [h0, h1, h2, h3, h4]
        · simp [h0, h1, h2, h3]
      · simp [h0, h1, h2]
    · simp [h0, h1]
  · simp [h0]
theorem neq_slot (a b : Sk) (w : World) : (binOp .neq 91 a.val b.val).run Tryz.prog w = .ok (.bool (!(Sk.eqB a b))) w := by
  have h := equalIn_slot a b w
  simp only [Sk.val] at h ⊢
  rw [run_neq_struct, h]
  rfl
theorem eql_slot (a b : Sk) (w : World) : (binOp .eql 91 a.val b.val).run Tryz.prog w = .ok (.bool (Sk.eqB a b)) w := by
  have h := equalIn_slot a b w
  simp only [Sk.val] at h ⊢
  rw [run_eql_struct, h]
  rfl

/-- are they the same? -/
def sameB : List Sk → List Sk → Bool
  | [], [] => true
  | x :: r, y :: s => Sk.eqB x y && sameB r s
  | _, _ => false
theorem sameB_iff : ∀ (l m : List Sk), sameB l m = true ↔ l = m
  | [], [] => by simp [sameB]
  | x :: r, y :: s => by simp [sameB, Sk.eqB_iff, sameB_iff r s]
  | [], _ :: _ => by simp [sameB]
  | _ :: _, [] => by simp [sameB]
theorem sameB_len {l m : List Sk} (h : ¬ l.length = m.length) : sameB l m = false := by
  cases hb : sameB l m
  · rfl
  · rw [sameB_iff] at hb; exact absurd (by rw [hb]) h
theorem sameB_at {l m : List Sk} {k : Nat} (hx : ¬ (l[k]?.getD Sk.zero) = (m[k]?.getD Sk.zero)) : sameB l m = false := by
  cases hb : sameB l m
  · rfl
  · rw [sameB_iff] at hb
    subst hb
    exact absurd rfl hx
theorem same_ext {l m : List Sk} (hl : l.length = m.length) (h : ∀ k, k < l.length → (l[k]?.getD Sk.zero) = (m[k]?.getD Sk.zero)) : sameB l m = true := by
  rw [sameB_iff]
  refine List.ext_getElem hl fun k h1 h2 => ?_
  have := h k h1
  rw [List.getElem?_eq_getElem h1, List.getElem?_eq_getElem h2] at this
  exact this

set_option maxHeartbeats 1600000 in
theorem sameSlots_any (u v : Value) (l m : List Sk) (w : World) (hu : Sls w u l) (hv : Sls w v m) (hlen : l.length ≤ 9223372036854775807) :
    Calls Tryz.prog 127 #[u, v] w fun e w' => e = .returned (.bool (sameB l m)) ∧ Below w.heap.size w w' := by
  obtain ⟨ao, c, rfl, hc⟩ := hu.parts
  obtain ⟨bo, d, rfl, hd⟩ := hv.parts
  by_cases hlm : l.length = m.length
  · have HC : Hid (∀ k, k < l.length → ∃ b off, ao = some ⟨b, off, none⟩ ∧ b < w.heap.size ∧ At7 w b (off + k * 7) (l[k]?.getD Sk.zero)) := hc
    have HD : Hid (∀ k, k < m.length → ∃ b off, bo = some ⟨b, off, none⟩ ∧ b < w.heap.size ∧ At7 w b (off + k * 7) (m[k]?.getD Sk.zero)) := hd
    obtain ⟨n, hn⟩ : ∃ n, n = l.length := ⟨_, rfl⟩
    have HN : Hid (n = l.length) := hn
    have HM : Hid (n = m.length) := hn.trans hlm
    rw [← hlm, ← hn]
    rw [← hn] at hlen
    clear hc hd hu hv hn hlm
    go_enter Tryz.func127, Tryz.ntmps127
    go_wp2
    go_loopw [5] (fun i wr => ∃ k : Nat, k ≤ n ∧ i = .int .i64 k ∧ Hid (∀ j, j < k → (l[j]?.getD Sk.zero) = (m[j]?.getD Sk.zero)) ∧ Hid (Below w.heap.size w wr) ∧ (∀ x, wr.cell? x = w.cell? x))
      (fun i _ => n - (intOf i).toNat)
    case atStart => exact ⟨0, Nat.zero_le _, rfl, (show ∀ j, j < 0 → _ from fun j hj => absurd hj (Nat.not_lt_zero _)), Below.refl _ _, fun _ => rfl⟩
    case round =>
      obtain ⟨k, hk, rfl, HK, HB, hcell⟩ := hrel
      have HCE : Hid (∀ x, wr.cell? x = w.cell? x) := hcell
      clear hcell
      by_cases hlt : k < n
      · obtain ⟨b, off, rfl, hb, hat⟩ := HC.out k (by rw [← HN.out]; exact hlt)
        obtain ⟨b2, off2, rfl, hb2, hat2⟩ := HD.out k (by rw [← HM.out]; exact hlt)
        obtain ⟨c0, c1, c2, c3, c4, c5, c6⟩ := hat
        obtain ⟨d0, d1, d2, d3, d4, d5, d6⟩ := hat2
        rw [← HCE.out] at c0 c1 c2 c3 c4 c5 c6 d0 d1 d2 d3 d4 d5 d6
        obtain ⟨x, hx⟩ : ∃ x, x = l[k]?.getD Sk.zero := ⟨_, rfl⟩
        obtain ⟨y, hy⟩ : ∃ y, y = m[k]?.getD Sk.zero := ⟨_, rfl⟩
        rw [← hx] at c0 c1 c2 c3 c4 c5 c6
        rw [← hy] at d0 d1 d2 d3 d4 d5 d6
        have HX : Hid (x = l[k]?.getD Sk.zero) := hx
        have HY : Hid (y = m[k]?.getD Sk.zero) := hy
        obtain ⟨t, ht⟩ : ∃ t, t = Sk.eqB x y := ⟨_, rfl⟩
        have HT : Hid (t = Sk.eqB x y) := ht
        have hne := neq_slot x y
        rw [← ht] at hne
        clear hx hy ht
        obtain ⟨xn, seq, time, xf, xe, xk, xt⟩ := x
        obtain ⟨yn, seq2, time2, yf, ye, yk, yt⟩ := y
        simp only [Sk.val] at hne
        have hlti : (k : Int) < (n : Int) := by omega
        cases t
        · go_wp2
          go_quiet (fail)
          go_wp2
          go_ret
          exact ⟨by rw [sameB_at (k := k) (fun e => by rw [← HX.out, ← HY.out, ← Sk.eqB_iff, ← HT.out] at e; cases e)]; rfl, HB.out.trans (⟨rfl, rfl, rfl, Nat.le_refl _, fun _ _ => rfl⟩)⟩
        · go_wp2
          go_quiet (fail)
          go_wp2
          go_roundw
          case rel =>
            refine ⟨k + 1, by omega, by go_num, (show ∀ j, j < k + 1 → _ from fun j hj => ?_), HB.out.trans (⟨rfl, rfl, rfl, Nat.le_refl _, fun _ _ => rfl⟩), fun x => HCE.out x⟩
            by_cases e : j = k
            · subst e
              rw [← HX.out, ← HY.out, ← Sk.eqB_iff]; exact HT.out.symm
            · exact HK.out j (by omega)
          case measure => simp [intOf]; omega
      · have hkl : k = n := by omega
        subst hkl
        go_wp2
        go_ret
        exact ⟨by rw [same_ext (HN.out.symm.trans HM.out) (fun j hj => HK.out j (by rw [HN.out]; exact hj))]; rfl, HB.out⟩
  · rw [sameB_len hlm]
    have hne : ¬ ((l.length : Nat) : Int) = ((m.length : Nat) : Int) := by omega
    obtain ⟨n, hn⟩ : ∃ n, n = l.length := ⟨_, rfl⟩
    obtain ⟨k, hk⟩ : ∃ n, n = m.length := ⟨_, rfl⟩
    rw [← hn, ← hk] at hne ⊢
    clear hc hd hu hv hn hk hlm
    go_enter Tryz.func127, Tryz.ntmps127
    go_wp2
    go_ret
    exact ⟨rfl, Below.refl _ _⟩

set_option maxHeartbeats 1000000 in
theorem sameBuffer_any (n1 n2 : Int) (u v : Value) (l m : List Sk) (w : World) (hu : Sls w u l) (hv : Sls w v m) (hlen : l.length ≤ 9223372036854775807) :
    Calls Tryz.prog 126 #[.agg #[.int .i64 n1, u], .agg #[.int .i64 n2, v]] w fun e w' => e = .returned (.bool (n1 == n2 && sameB l m)) ∧ Below w.heap.size w w' := by
  obtain ⟨a, c, hua⟩ := hu.len
  obtain ⟨b, d, hva⟩ := hv.len
  have HS : Hid (∀ w', Below w.heap.size w w' → Calls Tryz.prog 127 #[u, v] w' fun e w'' => e = .returned (.bool (sameB l m)) ∧ Below w'.heap.size w' w'') := fun w' hb => sameSlots_any u v l m w' (hu.below hb) (hv.below hb) hlen
  obtain ⟨t, ht⟩ : ∃ t, t = sameB l m := ⟨_, rfl⟩
  rw [← ht] at HS ⊢
  obtain ⟨k, hk⟩ : ∃ n, n = l.length := ⟨_, rfl⟩
  obtain ⟨j, hj⟩ : ∃ n, n = m.length := ⟨_, rfl⟩
  rw [← hk] at hua
  rw [← hj] at hva
  clear ht hu hv hk hj
  subst hua hva
  by_cases hn : n1 = n2
  · subst hn
    have e : (n1 == n1 && t) = t := by simp
    rw [e]
    go_enter Tryz.func126, Tryz.ntmps126
    go_wp2_with (go_at_call 127; refine (HS.out _ (by go_grown)).mono ?_; rintro e w1 ⟨rfl, hb1⟩)
    go_ret
    exact ⟨rfl, (((Below.refl _ w).alloc (Nat.le_refl _) _).alloc (by simp) _).trans (hb1.mono (by simp; omega))⟩
  · have e : (n1 == n2 && t) = false := by simp [hn]
    have e2 : (n1 == n2) = false := by simpa using hn
    rw [e]
    go_enter Tryz.func126, Tryz.ntmps126
    go_wp2
    go_ret
    exact ⟨rfl, by go_grown⟩

end Go.Proofs.YtnpaejknoipicafGreat
