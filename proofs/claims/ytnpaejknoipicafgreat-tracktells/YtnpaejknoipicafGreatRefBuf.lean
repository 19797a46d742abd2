/-
  Contracts: the document's CheckBuffer.
-/
import Derived.Test.YtnpaejknoipicafGreatRefSlot
import Derived.Test.YtnpaejknoipicafGreatBufPlain
import Derived.Test.YtnpaejknoipicafGreatKeeper4
namespace Go.Proofs.YtnpaejknoipicafGreat
open Go.RowKit

theorem bgo_split (next : Int) (x : Sk) (s : List Sk) : ∀ (r : List Sk) (last : Int), bgo next last r = 0 → bgo next last (r ++ x :: s) = bgo next (r.foldl (fun _ y => y.n) last) (x :: s)
  | [], _, _ => rfl
  | y :: r, last, h => by
    simp only [List.cons_append, List.foldl_cons]
    by_cases hy : y.chk = 0
    · by_cases h2 : y.n ≤ next ∨ y.n ≤ last
      · simp [bgo, hy, h2] at h
      · have h' : bgo next y.n r = 0 := by simpa [bgo, hy, h2] using h
        have := bgo_split next x s r y.n h'
        rw [← this]
        conv => lhs; unfold bgo
        rw [if_pos hy, if_neg h2]
    · simp [bgo, hy] at h
theorem last_at (l : List Sk) (n : Int) (k : Nat) (hk : k ≤ l.length) : (l.take k).foldl (fun _ y => y.n) n = if k = 0 then n else (l[k - 1]?.getD Sk.zero).n := by
  cases k with
  | zero => simp
  | succ k =>
    rw [take_one (by omega) Sk.zero, List.foldl_append]
    simp
theorem bgo_at (next : Int) (l : List Sk) (k : Nat) (hk : k < l.length) (h : bgo next next (l.take k) = 0) :
    bgo next next l = bgo next (if k = 0 then next else (l[k - 1]?.getD Sk.zero).n) ((l[k]?.getD Sk.zero) :: l.drop (k + 1)) := by
  have e : l = l.take k ++ (l[k]?.getD Sk.zero) :: l.drop (k + 1) := by
    rw [List.getElem?_eq_getElem hk, Option.getD_some, ← List.drop_eq_getElem_cons hk, List.take_append_drop]
  conv => lhs; rw [e]
  rw [bgo_split next _ _ _ _ h, last_at l next k (by omega)]
theorem bgo_at1 (next : Int) (l : List Sk) (k : Nat) (hk : k < l.length) (h : bgo next next (l.take k) = 0) :
    bgo next next (l.take (k + 1)) = bgo next (if k = 0 then next else (l[k - 1]?.getD Sk.zero).n) [l[k]?.getD Sk.zero] := by
  rw [take_one hk Sk.zero, bgo_split next _ _ _ _ h, last_at l next k (by omega)]

set_option maxHeartbeats 2000000 in
set_option maxRecDepth 100000 in
theorem refCheckBuffer_any (next : Int) (v : Value) (l : List Sk) (w : World) (hv : Sls w v l) (hlen : l.length ≤ 9223372036854775807) :
    Calls Tryz.prog 71 #[.agg #[.int .i64 next, v]] w fun e w' => e = .returned (.int .i64 (bchk next l)) ∧ Below w.heap.size w w' := by
  obtain ⟨ao, c, hva, hc⟩ := hv.parts
  obtain ⟨n, hn⟩ : ∃ n, n = l.length := ⟨_, rfl⟩
  obtain ⟨r, hr⟩ : ∃ r, r = bchk next l := ⟨_, rfl⟩
  rw [← hn] at hva
  rw [← hr]
  have HR : Hid (r = bchk next l) := hr
  have HN : Hid (n = l.length) := hn
  have HC : Hid (∀ k, k < l.length → ∃ b off, ao = some ⟨b, off, none⟩ ∧ b < w.heap.size ∧ At7 w b (off + k * 7) (l[k]?.getD Sk.zero)) := hc
  have hln : n ≤ 9223372036854775807 := by omega
  clear hr hv hn hlen hc
  subst hva
  cases hb : nextBad next
  · have hnx := nextBad_false.1 hb
    have h0 : next = 0 ∨ ¬ next = 0 ∧ Cn.betB next 65536 1000000001 = true := by
      rcases hnx with h | h
      · exact .inl h
      · exact .inr ⟨by omega, by simp [Cn.betB]; omega⟩
    by_cases h4 : 4 < n
    · have hr : r = 2 := by rw [HR.out]; unfold bchk; rw [hb, if_neg (by simp), if_pos (by rw [← HN.out]; exact h4)]
      rw [hr]
      clear hnx hb hr
      rcases h0 with rfl | ⟨h1, h2⟩
      all_goals
        go_enter Tryz.func71, Tryz.ntmps71
        go_wp2_with (go_at_call 50; refine (between_any _ _ _ _).mono ?_; rintro e w' ⟨rfl, rfl⟩)
        go_ret
        exact ⟨rfl, by go_grown⟩
    · have hr : Hid (bgo next next l = 0 → r = if next = 0 ∧ 0 < n then 4 else 0) := fun h => by rw [HR.out]; unfold bchk; rw [hb, if_neg (by simp), if_neg (by rw [← HN.out]; exact h4), if_pos h, HN.out]
      have hr2 : Hid (¬ bgo next next l = 0 → r = bgo next next l) := fun h => by rw [HR.out]; unfold bchk; rw [hb, if_neg (by simp), if_neg (by rw [← HN.out]; exact h4), if_neg h]
      clear hnx hb HR
      have hq : (next != 0) = false ∧ (next == 0) = true ∧ True ∨ (next != 0) = true ∧ (next == 0) = false ∧ Cn.betB next 65536 1000000001 = true := by
        rcases h0 with rfl | ⟨h1, h2⟩
        · exact .inl ⟨rfl, rfl, trivial⟩
        · exact .inr ⟨by simpa using h1, by simpa using h1, h2⟩
      clear h0
      rcases hq with ⟨hq1, hq2, hq3⟩ | ⟨hq1, hq2, hq3⟩
      all_goals
        go_enter Tryz.func71, Tryz.ntmps71
        go_wp2_with (go_at_call 50; refine (between_any _ _ _ _).mono ?_; rintro e w' ⟨rfl, rfl⟩)
        go_loopw [3] (fun i wr => ∃ k : Nat, k ≤ n ∧ i = .int .i64 k ∧ Hid (bgo next next (l.take k) = 0) ∧ Hid (Blk wr w.heap.size #[.int .i64 next, .slice ao n c] 57) ∧ Hid (Below w.heap.size w wr))
          (fun i _ => n - (intOf i).toNat)
        case atStart => exact ⟨0, Nat.zero_le _, rfl, (show bgo next next (l.take 0) = 0 from rfl), Blk.new w _ _, (Below.refl _ w).alloc (Nat.le_refl _) _⟩
        case round =>
          obtain ⟨k, hk, rfl, HK, HBl, HB⟩ := hrel
          obtain ⟨d0, d1⟩ := Blk.two HBl.out
          by_cases hlt : k < n
          · obtain ⟨b, off, rfl, hbb, hat⟩ := HC.out k (by rw [← HN.out]; exact hlt)
            obtain ⟨c0, c1, c2, c3, c4, c5, c6⟩ := hat.below HB.out hbb
            obtain ⟨x, hx⟩ : ∃ x, x = l[k]?.getD Sk.zero := ⟨_, rfl⟩
            rw [← hx] at c0 c1 c2 c3 c4 c5 c6 hat
            have HX : Hid (x = l[k]?.getD Sk.zero) := hx
            have HAT : Hid (At7 w b (off + k * 7) x) := hat
            clear hx hat
            obtain ⟨ch, hch⟩ : ∃ ch, ch = x.chk := ⟨_, rfl⟩
            have HCH : Hid (ch = x.chk) := hch
            have hck : ∀ w : World, Calls Tryz.prog 115 #[x.val] w fun e w' => e = .returned (.int .i64 ch) ∧ Below w.heap.size w w' := fun w => by rw [hch]; exact refSlot_any x w
            clear hch
            simp only [Sk.val] at hck
            go_wp2_with fail
            refine (hck _).mono ?_
            rintro e w1 ⟨rfl, hb1⟩
            have HB1 : Hid (Below w.heap.size w w1) := HB.out.trans (hb1.mono HB.out.size)
            have HBl1 : Hid (Blk w1 w.heap.size #[.int .i64 next, .slice (some ⟨b, off, none⟩) n c] 57) := Blk.below HBl.out hb1 (Blk.lt HBl.out)
            have g0 := (HAT.out.below HB1.out hbb).1
            obtain ⟨e0, e1⟩ := Blk.two HBl1.out
            clear hb1 hck c0 c1 c2 c3 c4 c5 c6 d0 d1 HBl HB
            by_cases h0 : ch = 0
            · subst h0
              have hlti : (k : Int) < (n : Int) := by omega
              by_cases hle : x.n ≤ next
              · have hres : r = 4 := by
                  have := bgo_at next l k (by rw [← HN.out]; exact hlt) HK.out
                  rw [← HX.out] at this
                  simp only [bgo, ← HCH.out, if_true] at this
                  rw [if_pos (.inl hle)] at this
                  rw [hr2.out (by rw [this]; decide), this]
                have hd : decide (x.n ≤ next) = true := decide_eq_true hle
                go_wp2
                go_quiet (fail)
                go_wp2
                go_ret
                exact ⟨by rw [hres]; rfl, below_drewN HB1.out _⟩
              · have hd : decide (x.n ≤ next) = false := decide_eq_false hle
                by_cases hk0 : k = 0
                · have HK1 : Hid (bgo next next (l.take (k + 1)) = 0) := by
                    show bgo next next (l.take (k + 1)) = 0
                    rw [bgo_at1 next l k (by rw [← HN.out]; exact hlt) HK.out, ← HX.out]
                    simp only [bgo, ← HCH.out, if_true]
                    rw [if_pos hk0, if_neg (by omega)]
                  have hd2 : decide (0 < k) = false := decide_eq_false (by omega)
                  clear hk0
                  go_wp2
                  go_quiet (fail)
                  go_wp2
                  go_roundw
                  case rel => exact ⟨k + 1, by omega, by go_num, HK1, HBl1.out, below_drewN HB1.out _⟩
                  case measure => simp [intOf]; omega
                · have hd2 : decide (0 < k) = true := decide_eq_true (by omega)
                  obtain ⟨b', off', hbo, hbb', hat'⟩ := HC.out (k - 1) (by rw [← HN.out]; omega)
                  cases hbo
                  have p0 := (hat'.below HB1.out hbb).1
                  obtain ⟨y, hy⟩ : ∃ y, y = l[k - 1]?.getD Sk.zero := ⟨_, rfl⟩
                  rw [← hy] at p0
                  have HY : Hid (y = l[k - 1]?.getD Sk.zero) := hy
                  obtain ⟨k1, hk1⟩ : ∃ k1, k1 = k - 1 := ⟨_, rfl⟩
                  rw [← hk1] at p0
                  have hkk : (k : Int) - 1 = (k1 : Int) := by omega
                  have hkn : (k1 : Int) < (n : Int) := by omega
                  have hwr : IntKind.i64.wrap (k1 : Int) = (k1 : Int) := by rw [IntKind.wrap_i64]; omega
                  have HK0 : Hid (¬ k = 0) := hk0
                  clear hy hat' hk0 hk1
                  by_cases hyl : x.n ≤ y.n
                  · have hd3 : decide (x.n ≤ y.n) = true := decide_eq_true hyl
                    have hres : r = 4 := by
                      have := bgo_at next l k (by rw [← HN.out]; exact hlt) HK.out
                      rw [← HX.out, ← HY.out] at this
                      simp only [bgo, ← HCH.out, if_true] at this
                      rw [if_neg HK0.out, if_pos (.inr hyl)] at this
                      rw [hr2.out (by rw [this]; decide), this]
                    go_wp2
                    go_quiet (fail)
                    go_wp2
                    go_ret
                    exact ⟨by rw [hres]; rfl, below_drewN HB1.out _⟩
                  · have hd3 : decide (x.n ≤ y.n) = false := decide_eq_false hyl
                    have HK1 : Hid (bgo next next (l.take (k + 1)) = 0) := by
                      show bgo next next (l.take (k + 1)) = 0
                      rw [bgo_at1 next l k (by rw [← HN.out]; exact hlt) HK.out, ← HX.out, ← HY.out]
                      simp only [bgo, ← HCH.out, if_true]
                      rw [if_neg HK0.out, if_neg (by omega)]
                    go_wp2
                    go_quiet (fail)
                    go_wp2
                    go_roundw
                    case rel => exact ⟨k + 1, by omega, by go_num, HK1, HBl1.out, below_drewN HB1.out _⟩
                    case measure => simp [intOf]; omega
            · have hres : r = ch := by
                have := bgo_at next l k (by rw [← HN.out]; exact hlt) HK.out
                rw [← HX.out] at this
                simp only [bgo, ← HCH.out] at this
                rw [if_neg h0] at this
                rw [hr2.out (by rw [this]; exact h0), this]
              go_wp2
              go_ret
              exact ⟨by rw [hres]; rfl, HB1.out⟩
          · have hkl : k = n := by omega
            subst hkl
            have hk0 := HK.out
            rw [HN.out, List.take_length] at hk0
            have hres := hr.out hk0
            have HRES : Hid (r = if next = 0 ∧ 0 < k then 4 else 0) := hres
            clear hres hk0
            by_cases hn0 : k = 0
            · subst hn0
              go_wp2
              go_ret
              exact ⟨by rw [HRES.out]; simp [Array.getD], HB.out⟩
            · have hn1 : (0 : Int) < (k : Int) := by omega
              go_wp2
              go_ret
              refine ⟨?_, HB.out⟩
              rw [HRES.out]
              first
                | (rw [if_pos ⟨by simpa using hq2, by omega⟩]; rfl)
                | (rw [if_neg (fun h => by have := h.1; simp [this] at hq2)]; rfl)
  · have hr : r = 3 := by rw [HR.out]; unfold bchk; rw [hb, if_pos rfl]
    rw [hr]
    have h0 : ¬ next = 0 := by rintro rfl; simp [nextBad] at hb
    have h1 : Cn.betB next 65536 1000000001 = false := by
      cases hbb : Cn.betB next 65536 1000000001
      · rfl
      · simp [nextBad] at hb; simp [Cn.betB] at hbb; omega
    clear hb hr
    go_enter Tryz.func71, Tryz.ntmps71
    go_wp2_with (go_at_call 50; refine (between_any _ _ _ _).mono ?_; rintro e w' ⟨rfl, rfl⟩)
    go_ret
    exact ⟨rfl, by go_grown⟩

end Go.Proofs.YtnpaejknoipicafGreat
