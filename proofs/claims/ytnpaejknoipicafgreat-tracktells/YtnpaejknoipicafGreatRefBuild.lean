/-
  Contracts: the document's CheckBuilder.
-/
import Derived.Test.YtnpaejknoipicafGreatRefSlot
import Derived.Test.YtnpaejknoipicafGreatBufPlain
import Derived.Test.YtnpaejknoipicafGreatMaker1
import Derived.Test.YtnpaejknoipicafGreatRowAux
import Derived.BigQuiet
namespace Go.Proofs.YtnpaejknoipicafGreat
open Go.RowKit Go.Sort

/-- what is wrong of an open slot, by the one ahead of it -/
def badO (prev : Option Sk) (x : Sk) : Bool := match prev with
  | none => !x.p.f || x.p.e
  | some a => x.p.e || !nextB a x
def ogo : Option Sk → List Sk → Int
  | _, [] => 0
  | prev, x :: r => if x.chk = 0 then (if badO prev x = true then 4 else ogo (some x) r) else x.chk
/-- what is said of a builder: D1, slot by slot -/
def ochk (l : List Sk) : Int := if 4 ≤ l.length then 2 else ogo none l

theorem ogo_split (x : Sk) (s : List Sk) : ∀ (r : List Sk) (prev : Option Sk), ogo prev r = 0 → ogo prev (r ++ x :: s) = ogo (r.foldl (fun _ y => some y) prev) (x :: s)
  | [], _, _ => rfl
  | y :: r, prev, h => by
    simp only [List.cons_append, List.foldl_cons]
    by_cases hy : y.chk = 0
    · by_cases h2 : badO prev y = true
      · simp [ogo, hy, h2] at h
      · have h' : ogo (some y) r = 0 := by simpa [ogo, hy, h2] using h
        rw [← ogo_split x s r (some y) h']
        conv => lhs; unfold ogo
        rw [if_pos hy, if_neg h2]
    · simp [ogo, hy] at h
theorem olast_at (l : List Sk) (p : Option Sk) (k : Nat) (hk : k ≤ l.length) : (l.take k).foldl (fun _ y => some y) p = if k = 0 then p else some (l[k - 1]?.getD Sk.zero) := by
  cases k with
  | zero => simp
  | succ k =>
    rw [take_one (by omega) Sk.zero, List.foldl_append]
    simp
theorem ogo_at (l : List Sk) (k : Nat) (hk : k < l.length) (h : ogo none (l.take k) = 0) :
    ogo none l = ogo (if k = 0 then none else some (l[k - 1]?.getD Sk.zero)) ((l[k]?.getD Sk.zero) :: l.drop (k + 1)) := by
  have e : l = l.take k ++ (l[k]?.getD Sk.zero) :: l.drop (k + 1) := by
    rw [List.getElem?_eq_getElem hk, Option.getD_some, ← List.drop_eq_getElem_cons hk, List.take_append_drop]
  conv => lhs; rw [e]
  rw [ogo_split _ _ _ _ h, olast_at l none k (by omega)]
theorem ogo_at1 (l : List Sk) (k : Nat) (hk : k < l.length) (h : ogo none (l.take k) = 0) :
    ogo none (l.take (k + 1)) = ogo (if k = 0 then none else some (l[k - 1]?.getD Sk.zero)) [l[k]?.getD Sk.zero] := by
  rw [take_one hk Sk.zero, ogo_split _ _ _ _ h, olast_at l none k (by omega)]
theorem ogo_all : ∀ (l : List Sk) (prev : Option Sk), ogo prev l = 0 → ∀ x ∈ l, x.chk = 0
  | [], _, _, _, hx => absurd hx List.not_mem_nil
  | y :: r, prev, h, x, hx => by
    by_cases hy : y.chk = 0
    · by_cases h2 : badO prev y = true
      · simp [ogo, hy, h2] at h
      · rcases List.mem_cons.1 hx with rfl | hx
        · exact hy
        · exact ogo_all r (some y) (by simpa [ogo, hy, h2] using h) x hx
    · simp [ogo, hy] at h

set_option maxHeartbeats 2000000 in
set_option maxRecDepth 100000 in
theorem refCheckBuilder_any (v : Value) (l : List Sk) (w : World) (hv : Sls w v l) (hlen : l.length ≤ 9223372036854775807) :
    Calls Tryz.prog 72 #[.agg #[v]] w fun e w' => e = .returned (.int .i64 (ochk l)) ∧ Below w.heap.size w w' := by
  obtain ⟨ao, c, hva, hc⟩ := hv.parts
  obtain ⟨n, hn⟩ : ∃ n, n = l.length := ⟨_, rfl⟩
  obtain ⟨r, hr⟩ : ∃ r, r = ochk l := ⟨_, rfl⟩
  rw [← hn] at hva
  rw [← hr]
  have HR : Hid (r = ochk l) := hr
  have HN : Hid (n = l.length) := hn
  have HC : Hid (∀ k, k < l.length → ∃ b off, ao = some ⟨b, off, none⟩ ∧ b < w.heap.size ∧ At7 w b (off + k * 7) (l[k]?.getD Sk.zero)) := hc
  have hln : n ≤ 9223372036854775807 := by omega
  clear hr hv hn hlen hc
  subst hva
  by_cases h4 : 4 ≤ n
  · have hr : r = 2 := by rw [HR.out]; unfold ochk; rw [if_pos (by rw [← HN.out]; exact h4)]
    rw [hr]
    clear hr
    go_enter Tryz.func72, Tryz.ntmps72
    go_wp2
    go_ret
    exact ⟨rfl, by go_grown⟩
  have hr : Hid (r = ogo none l) := by show r = _; rw [HR.out]; unfold ochk; rw [if_neg (by rw [← HN.out]; exact h4)]
  clear HR
  go_enter Tryz.func72, Tryz.ntmps72
  go_wp2
  go_loopw [3] (fun i wr => ∃ k : Nat, k ≤ n ∧ i = .int .i64 k ∧ Hid (ogo none (l.take k) = 0) ∧ Hid (Blk wr w.heap.size #[.slice ao n c] 59) ∧ Hid (Below w.heap.size w wr))
    (fun i _ => n - (intOf i).toNat)
  case atStart => exact ⟨0, Nat.zero_le _, rfl, (show ogo none (l.take 0) = 0 from rfl), Blk.new w _ _, (Below.refl _ w).alloc (Nat.le_refl _) _⟩
  case round =>
    obtain ⟨k, hk, rfl, HK, HBl, HB⟩ := hrel
    have d0 := Blk.one HBl.out
    by_cases hlt : k < n
    · obtain ⟨b, off, rfl, hbb, hat⟩ := HC.out k (by rw [← HN.out]; exact hlt)
      obtain ⟨c0, c1, c2, c3, c4, c5, c6⟩ := hat.below HB.out hbb
      obtain ⟨x, hx⟩ : ∃ x, x = l[k]?.getD Sk.zero := ⟨_, rfl⟩
      rw [← hx] at c0 c1 c2 c3 c4 c5 c6 hat
      have HX : Hid (x = l[k]?.getD Sk.zero) := hx
      have HAT : Hid (At7 w b (off + k * 7) x) := hat
      clear hx hat
      obtain ⟨ch, hch⟩ : ∃ ch, ch = x.chk := ⟨_, rfl⟩
      have HCH : Hid (ch = x.chk) := hch
      have hck : ∀ w : World, Calls Tryz.prog 115 #[x.val] w fun e w' => e = .returned (.int .i64 ch) ∧ Below w.heap.size w w' := fun w => by rw [hch]; exact refSlot_any x w
      clear hch
      simp only [Sk.val] at hck
      go_wp2_with fail
      refine (hck _).mono ?_
      rintro e w1 ⟨rfl, hb1⟩
      have HB1 : Hid (Below w.heap.size w w1) := HB.out.trans (hb1.mono HB.out.size)
      have HBl1 : Hid (Blk w1 w.heap.size #[.slice (some ⟨b, off, none⟩) n c] 59) := Blk.below HBl.out hb1 (Blk.lt HBl.out)
      clear hb1 hck c0 c1 c2 c3 c4 c5 c6 d0 HBl HB
      by_cases h0 : ch = 0
      · subst h0
        have HAT1 : Hid (At7 w1 b (off + k * 7) x) := HAT.out.below HB1.out hbb
        obtain ⟨g0, g1, g2, g3, g4, g5, g6⟩ := HAT1.out
        have e0 := Blk.one HBl1.out
        have hlti : (k : Int) < (n : Int) := by omega
        by_cases hk0 : k = 0
        · subst hk0
          rw [Nat.zero_mul, Nat.add_zero] at g0 g1 g2 g3 g4 g5 g6
          obtain ⟨xf, hxf⟩ : ∃ xf, xf = x.p.f := ⟨_, rfl⟩
          obtain ⟨xe, hxe⟩ : ∃ xe, xe = x.p.e := ⟨_, rfl⟩
          rw [← hxf] at g3
          rw [← hxe] at g4
          have HBAD : Hid (badO none x = (!xf || xe)) := by show _ = _; rw [hxf, hxe]; rfl
          clear hxf hxe
          have h0n : (0 : Int) < (n : Int) := by omega
          cases xf <;> cases xe
          case true.false =>
            have HK1 : Hid (ogo none (l.take (0 + 1)) = 0) := by
              show _ = _
              rw [ogo_at1 l 0 (by rw [← HN.out]; exact hlt) HK.out, ← HX.out]
              simp only [if_true, ogo, ← HCH.out]
              rw [HBAD.out]; rfl
            go_wp2
            go_quiet (fail)
            go_wp2
            go_roundw
            case rel => exact ⟨0 + 1, by omega, by go_num, HK1, HBl1.out, below_drewN HB1.out _⟩
            case measure => simp [intOf]; omega
          all_goals
            have hres : r = 4 := by
              rw [hr.out, ogo_at l 0 (by rw [← HN.out]; exact hlt) HK.out, ← HX.out]
              simp only [if_true, ogo, ← HCH.out]
              rw [HBAD.out]; rfl
            go_wp2
            go_quiet (fail)
            go_wp2
            go_ret
            exact ⟨by rw [hres]; rfl, below_drewN HB1.out _⟩
        · obtain ⟨b', off', hbo, hbb', hat'⟩ := HC.out (k - 1) (by rw [← HN.out]; omega)
          cases hbo
          obtain ⟨p0, p1, p2, p3, p4, p5, p6⟩ := hat'.below HB1.out hbb
          obtain ⟨y, hy⟩ : ∃ y, y = l[k - 1]?.getD Sk.zero := ⟨_, rfl⟩
          rw [← hy] at p0 p1 p2 p3 p4 p5 p6
          have HY : Hid (y = l[k - 1]?.getD Sk.zero) := hy
          have hyn : 0 ≤ y.n ∧ y.n ≤ 1000000001 := by
            have hm : y ∈ l.take k := by
              rw [hy, List.getElem?_eq_getElem (by have := HN.out; omega), Option.getD_some]
              rw [List.mem_take_iff_getElem]
              exact ⟨k - 1, by have := HN.out; omega, rfl⟩
            have := Sk.chk_zero (ogo_all _ _ HK.out y hm)
            omega
          obtain ⟨k1, hk1⟩ : ∃ k1, k1 = k - 1 := ⟨_, rfl⟩
          rw [← hk1] at p0 p1 p2 p3 p4 p5 p6
          have hkk : (k : Int) - 1 = (k1 : Int) := by omega
          have hkn : (k1 : Int) < (n : Int) := by omega
          have hwr : IntKind.i64.wrap (k1 : Int) = (k1 : Int) := by rw [IntKind.wrap_i64]; omega
          have HK0 : Hid (¬ k = 0) := hk0
          have hd1 : ((k : Int) == 0) = false := by simpa using hk0
          have hd2 : decide (0 < k) = true := decide_eq_true (by omega)
          obtain ⟨xe, hxe⟩ : ∃ xe, xe = x.p.e := ⟨_, rfl⟩
          rw [← hxe] at g4
          obtain ⟨t, ht⟩ : ∃ t, t = nextB y x := ⟨_, rfl⟩
          have HBAD : Hid (badO (some y) x = (xe || !t)) := by show _ = _; rw [hxe, ht]; rfl
          have HXE : Hid (xe = x.p.e) := hxe
          have HT : Hid (t = nextB y x) := ht
          clear hy hat' hk0 hk1 hxe ht
          cases xe
          · have cF : ∀ d os, Calls Tryz.prog 116 #[.agg #[.int .i64 y.n, .int .i64 y.p.seq, .int .i64 y.p.time, .bool y.p.f, .bool y.p.e, .bool y.p.k, .string y.p.t], .agg #[.int .i64 x.n, .int .i64 x.p.seq, .int .i64 x.p.time, .bool x.p.f, .bool false, .bool x.p.k, .string x.p.t]] (grow (redrawn w1 d) os) fun e w'' => e = .returned (.bool t) ∧ ∃ p : Regrown, w'' = grow (redrawn w1 p.d) p.os := fun d os =>
              Calls.regrown_of (by
                have h := isNext_any y x (grow (redrawn w1 d) os) hyn
                simp only [Sk.val] at h
                rw [← HT.out, ← HXE.out] at h
                exact h)
            have m0 := cell_regrown e0
            have q0 := cell_regrown p0
            have q1 := cell_regrown p1
            have q2 := cell_regrown p2
            have q3 := cell_regrown p3
            have q4 := cell_regrown p4
            have q5 := cell_regrown p5
            have q6 := cell_regrown p6
            have z0 := cell_regrown g0
            have z1 := cell_regrown g1
            have z2 := cell_regrown g2
            have z3 := cell_regrown g3
            have z4 := cell_regrown g4
            have z5 := cell_regrown g5
            have z6 := cell_regrown g6
            clear p0 p1 p2 p3 p4 p5 p6 g0 g1 g2 g3 g4 g5 g6 e0
            go_wp2
            refine wp_region_quiet_below (by kernel_rfl) (by kernel_rfl) ?_
            repeat (quiet_step (exact cF _ _))
            refine wpQuiet_nil ?_
            intro _ hw'
            obtain ⟨⟨dq, osq⟩, hw''⟩ := hw'
            subst hw''
            have bR := below_regrown w1 dq osq
            obtain ⟨V, hV⟩ : ∃ V, V = grow (redrawn w1 dq) osq := ⟨_, rfl⟩
            rw [← hV] at bR
            have bV : Hid (Below w.heap.size w V) := HB1.out.trans (bR.mono HB1.out.size)
            have kV : Hid (Blk V w.heap.size #[.slice (some ⟨b, off, none⟩) n c] 59) := HBl1.out.below bR HBl1.out.lt
            rw [← hV]
            clear hV bR cF m0 q0 q1 q2 q3 q4 q5 q6 z0 z1 z2 z3 z4 z5 z6
            cases t
            · have hres : r = 4 := by
                rw [hr.out, ogo_at l k (by rw [← HN.out]; exact hlt) HK.out, ← HX.out, ← HY.out, if_neg HK0.out]
                simp only [if_true, ogo, ← HCH.out]
                rw [HBAD.out]; rfl
              go_wp2
              go_ret
              exact ⟨by rw [hres]; rfl, bV.out⟩
            · have HK1 : Hid (ogo none (l.take (k + 1)) = 0) := by
                show _ = _
                rw [ogo_at1 l k (by rw [← HN.out]; exact hlt) HK.out, ← HX.out, ← HY.out, if_neg HK0.out]
                simp only [if_true, ogo, ← HCH.out]
                rw [HBAD.out]; rfl
              go_wp2
              go_roundw
              case rel => exact ⟨k + 1, by omega, by go_num, HK1, kV.out, bV.out⟩
              case measure => simp [intOf]; omega
          · have hres : r = 4 := by
              rw [hr.out, ogo_at l k (by rw [← HN.out]; exact hlt) HK.out, ← HX.out, ← HY.out, if_neg HK0.out]
              simp only [if_true, ogo, ← HCH.out]
              rw [HBAD.out]; rfl
            go_wp2
            go_quiet (fail)
            go_wp2
            go_ret
            exact ⟨by rw [hres]; rfl, below_drewN HB1.out _⟩
      · have hres : r = ch := by
          rw [hr.out, ogo_at l k (by rw [← HN.out]; exact hlt) HK.out, ← HX.out]
          simp only [ogo, ← HCH.out]
          rw [if_neg h0]
        go_wp2
        go_ret
        exact ⟨by rw [hres]; rfl, HB1.out⟩
    · have hkl : k = n := by omega
      subst hkl
      have hres : r = 0 := by
        have := HK.out
        rw [HN.out, List.take_length] at this
        rw [hr.out, this]
      go_wp2
      go_ret
      exact ⟨by rw [hres]; rfl, HB.out⟩

end Go.Proofs.YtnpaejknoipicafGreat
