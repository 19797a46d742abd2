/-
  Contract: out.Send.
-/
import Derived.Test.YtnpaejknoipicafOutSend
import Derived.Test.YtnpaejknoipicafOutCheck
import Derived.Test.YtnpaejknoipicafFrameCheck
namespace Go.Proofs.Ytnpaejknoipicaf
open Go.RowKit

def sdS (l t s ft : Int) (turn : Bool) : Int := if turn = true ∨ l = 0 then t + 10 - ft else s
def sdE (l t s : Int) (f : Fr) (turn : Bool) : Int := if outE l t s = 0 then (if f.chk = 0 then roomE l t (sdS l t s f.time turn) f.time f.parts.length else f.chk) else outE l t s
def sdP (l t s : Int) (f : Fr) (turn : Bool) : List Pk := if sdE l t s f turn = 0 then pksOf l (f.time + sdS l t s f.time turn) f.key f.parts else []
def sdO (l t s : Int) (f : Fr) (turn : Bool) : Int × Int × Int := if sdE l t s f turn = 0 then (l + f.parts.length, f.time + sdS l t s f.time turn, sdS l t s f.time turn) else (0, 0, 0)
theorem sdE_zero {l t s : Int} {f : Fr} {turn : Bool} : sdE l t s f turn = 0 ↔ outE l t s = 0 ∧ f.chk = 0 ∧ roomE l t (sdS l t s f.time turn) f.time f.parts.length = 0 := by
  unfold sdE
  by_cases h1 : outE l t s = 0
  · rw [if_pos h1]
    by_cases h2 : f.chk = 0
    · rw [if_pos h2]; exact ⟨fun h => ⟨h1, h2, h⟩, fun h => h.2.2⟩
    · rw [if_neg h2]; exact ⟨fun h => absurd h h2, fun h => absurd h.2.1 h2⟩
  · rw [if_neg h1]; exact ⟨fun h => absurd h h1, fun h => absurd h.1 h1⟩

theorem owns_le {w : World} {base base' : Nat} {e : TypeId} {size n : Nat} {v : Value} {xs : List Value} (h : w.ownsRow base e size v n xs) (hb : base' ≤ base) : w.ownsRow base' e size v n xs := by
  obtain ⟨h1, h2 | ⟨g, cap, cur, h3, h4, h5⟩⟩ := h
  · exact ⟨h1, .inl h2⟩
  · exact ⟨h1, .inr ⟨g, cap, cur, h3, Nat.le_trans hb h4, h5⟩⟩
theorem owns_slice6 {w : World} {base : Nat} {e : TypeId} {size n : Nat} {v : Value} {xs : List Value} (h : w.ownsRow base e size v n xs) : ∃ a c, v = .slice a n c := by
  obtain ⟨_, ⟨rfl, rfl⟩ | ⟨g, cap, cur, rfl, _⟩⟩ := h
  · exact ⟨_, _, rfl⟩
  · exact ⟨_, _, rfl⟩

set_option maxHeartbeats 8000000 in
set_option maxRecDepth 100000 in
theorem outSend_any (l t s : Int) (f : Fr) (pv : Value) (turn : Bool) (w : World) (hp : StrsIn (fun _ => True) w pv f.parts) :
    Calls Try.prog 7 #[.agg #[.int .i64 l, .int .i64 t, .int .i64 s], .agg #[.int .i64 f.time, .bool f.key, pv], .bool turn] w fun e w' => ∃ v, e = .returned (.tuple #[.agg #[.int .i64 (sdO l t s f turn).1, .int .i64 (sdO l t s f turn).2.1, .int .i64 (sdO l t s f turn).2.2], v, .int .i64 (sdE l t s f turn)]) ∧ w'.ownsRow w.heap.size 38 6 v (sdP l t s f turn).length (pkCells (sdP l t s f turn)) ∧ Below w.heap.size w w' := by
  obtain ⟨pa, pc, ep⟩ := hp.1.len
  obtain ⟨ft, hft⟩ : ∃ x, x = f.time := ⟨_, rfl⟩
  obtain ⟨fk, hfk⟩ : ∃ x, x = f.key := ⟨_, rfl⟩
  obtain ⟨n, hn⟩ : ∃ x, x = f.parts.length := ⟨_, rfl⟩
  obtain ⟨E, hE⟩ : ∃ E, E = sdE l t s f turn := ⟨_, rfl⟩
  obtain ⟨E1, hE1⟩ : ∃ E, E = outE l t s := ⟨_, rfl⟩
  obtain ⟨E2, hE2⟩ : ∃ E, E = f.chk := ⟨_, rfl⟩
  obtain ⟨S, hS⟩ : ∃ x, x = sdS l t s f.time turn := ⟨_, rfl⟩
  obtain ⟨E3, hE3⟩ : ∃ E, E = roomE l t S f.time f.parts.length := ⟨_, rfl⟩
  obtain ⟨O, hO⟩ : ∃ x, x = sdO l t s f turn := ⟨_, rfl⟩
  obtain ⟨P, hP⟩ : ∃ x, x = sdP l t s f turn := ⟨_, rfl⟩
  have hEE0 : E = if E1 = 0 then (if E2 = 0 then E3 else E2) else E1 := by rw [hE, hE1, hE2, hE3, hS]; rfl
  have HEA : Hid (¬ E1 = 0 → E = E1) := fun h => by rw [hEE0, if_neg h]
  have HEB : Hid (E1 = 0 → ¬ E2 = 0 → E = E2) := fun h h' => by rw [hEE0, if_pos h, if_neg h']
  have HEC : Hid (E1 = 0 → E2 = 0 → E = E3) := fun h h' => by rw [hEE0, if_pos h, if_pos h']
  clear hEE0
  have HBAD : Hid (¬ E = 0 → O = (0, 0, 0) ∧ P = []) := fun h => by
    rw [hE] at h
    rw [hO, hP]; exact ⟨if_neg h, if_neg h⟩
  have HGOOD : Hid (E = 0 → O = (l + n, ft + S, S) ∧ P = pksOf l (ft + S) fk f.parts ∧ P.length = n) := fun h => by
    rw [hE] at h
    have e : P = pksOf l (ft + S) fk f.parts := by rw [hP, hft, hfk, hS]; exact if_pos h
    refine ⟨by rw [hO, hft, hn, hS]; exact if_pos h, e, by rw [e, pksOf, pksK_len, hn]⟩
  have HZ1 : Hid (E1 = 0 → 0 ≤ l ∧ l ≤ 1000000000 ∧ 0 ≤ t ∧ t ≤ 1000000 ∧ -1000000 ≤ s ∧ s ≤ 1000000) := fun h => outE_zero.1 (by rw [← hE1]; exact h)
  have HZ2 : Hid (E2 = 0 → f.chk = 0 ∧ 0 ≤ ft ∧ ft ≤ 1000000 ∧ 0 < n ∧ n ≤ 4) := fun h => by
    rw [hE2] at h
    have := chkF_zero h
    rw [hft, hn]; exact ⟨h, this.1, this.2.1, this.2.2.1, this.2.2.2.1⟩
  have HSS : Hid (((turn = true ∨ l = 0) → S = t + 10 - ft) ∧ (¬ (turn = true ∨ l = 0) → S = s)) := by
    rw [hS, hft]; exact ⟨fun h => if_pos h, fun h => if_neg h⟩
  have HCF : Hid (∀ U : World, Below w.heap.size w U → Calls Try.prog 23 #[.agg #[.int .i64 ft, .bool fk, pv]] U fun e w' => e = .returned (.int .i64 E2) ∧ Below U.heap.size U w') := fun U hU => by
    rw [hft, hE2]; exact frameCheck_any _ _ _ _ _ (hp.below hU).1 hp.2.1
  have HE3 : Hid (E3 = roomE l t S ft n) := by show _ = _; rw [hE3, hft, hn]
  have HE1 : Hid (outE l t s = E1) := hE1.symm
  have HF : Hid (ft = f.time ∧ fk = f.key ∧ n = f.parts.length) := ⟨hft, hfk, hn⟩
  rw [← hn] at ep
  rw [← hE, ← hO, ← hP, ← hft, ← hfk]
  obtain ⟨W0, hW0⟩ : ∃ W0, W0 = ((w.alloc (.cells #[.int .i64 l, .int .i64 t, .int .i64 s] 23)).alloc (.cells #[.int .i64 ft, .bool fk, pv] 26)).alloc (.cells #[.int .i64 0, .int .i64 0, .int .i64 0] 23) := ⟨_, rfl⟩
  have HS0 : Hid (Stay W0 (fun U => (Blk U w.heap.size #[.int .i64 l, .int .i64 t, .int .i64 s] 23 ∧ Blk U (w.heap.size + 1) #[.int .i64 ft, .bool fk, pv] 26 ∧ Blk U (w.heap.size + 1 + 1) #[.int .i64 0, .int .i64 0, .int .i64 0] 23) ∧ StrsIn (fun g => g < w.heap.size) U pv f.parts ∧ Below w.heap.size w U)) := by
    rw [hW0]
    have h2 := Blk.new (w.alloc (.cells #[.int .i64 l, .int .i64 t, .int .i64 s] 23)) #[.int .i64 ft, .bool fk, pv] 26
    have h3 := Blk.new ((w.alloc (.cells #[.int .i64 l, .int .i64 t, .int .i64 s] 23)).alloc (.cells #[.int .i64 ft, .bool fk, pv] 26)) #[.int .i64 0, .int .i64 0, .int .i64 0] 23
    rw [World.size_alloc] at h2
    rw [World.size_alloc, World.size_alloc] at h3
    exact (((((Blk.new _ _ _).alloc _).alloc _).stay).and ((h2.alloc _).stay.and h3.stay)).and ((((hp.mono (S' := fun g => g < w.heap.size) fun g h _ => h).stay.and (below_stay0 w)).alloc _ |>.alloc _).alloc _)
  clear hft hfk hn hE hE1 hE2 hE3 hS hO hP hp
  subst ep
  go_enter Try.func7, Try.ntmps7
  go_wp2_with fail
  rw [← hW0]
  clear hW0
  refine (outCheck_any l t s W0).mono ?_
  have HOC : Hid (outE l t s = E1) := HE1
  rw [HOC.out]
  rintro e w1 ⟨rfl, b1⟩
  have HS1 := Stay.go HS0 b1
  clear b1 HS0 HOC
  -- an error: the result's cells are zero
  have HNO : Hid (∀ U : World, Blk U (w.heap.size + 1 + 1) #[.int .i64 0, .int .i64 0, .int .i64 0] 23 → Below w.heap.size w U → ∃ V, V = ((U.setCell ⟨w.heap.size + 1 + 1, 0, none⟩ (.int .i64 0)).setCell ⟨w.heap.size + 1 + 1, 1, none⟩ (.int .i64 0)).setCell ⟨w.heap.size + 1 + 1, 2, none⟩ (.int .i64 0) ∧ Blk V (w.heap.size + 1 + 1) #[.int .i64 0, .int .i64 0, .int .i64 0] 23 ∧ Below w.heap.size w V) := fun U hU hb => ⟨_, rfl, hU.put3 _ _ _, ((hb.setCell (p := ⟨w.heap.size + 1 + 1, 0, none⟩) (by show w.heap.size ≤ w.heap.size + 1 + 1; omega) _).setCell (p := ⟨w.heap.size + 1 + 1, 1, none⟩) (by show w.heap.size ≤ w.heap.size + 1 + 1; omega) _).setCell (p := ⟨w.heap.size + 1 + 1, 2, none⟩) (by show w.heap.size ≤ w.heap.size + 1 + 1; omega) _⟩
  by_cases h1 : E1 = 0
  case neg =>
    have hEE : E = E1 := HEA.out h1
    obtain ⟨hO0, hP0⟩ := HBAD.out (by rw [hEE]; exact h1)
    obtain ⟨V, hV, hVB, hVW⟩ := HNO.out w1 HS1.out.now.1.2.2 HS1.out.now.2.2
    obtain ⟨z0, z1, z2⟩ := HS1.out.now.1.2.2.three
    have f0 := HS1.out.now.1.2.2.free 0
    have f1 := HS1.out.now.1.2.2.free 1
    have f2 := HS1.out.now.1.2.2.free 2
    have HOP : Hid (O = (0, 0, 0) ∧ P = [] ∧ E = E1) := ⟨hO0, hP0, hEE⟩
    clear hO0 hP0
    clear HEA HEB HEC HBAD HGOOD HZ1 HZ2 HSS HCF HE3 HF hEE HS1 HNO
    go_wp2_with fail
    rw [← hV]
    obtain ⟨r0, r1, r2⟩ := hVB.three
    rw [HOP.out.1, HOP.out.2.1, HOP.out.2.2]
    exact bodyPost_ret (v := .tuple #[.agg #[.int .i64 0, .int .i64 0, .int .i64 0], .slice none 0 0, .int .i64 E1]) (by simp [results, Try.results7, go_sem, r0, r1, r2]) rfl ⟨_, rfl, World.ownsRow_nil _ _ _ _, hVW⟩
  obtain ⟨l0, l1, t0, t1, s0, s1⟩ := HZ1.out h1
  subst h1
  obtain ⟨j0, j1, j2⟩ := HS1.out.now.1.2.1.three
  go_wp2_with fail
  refine (HCF.out w1 HS1.out.now.2.2).mono ?_
  rintro e w2 ⟨rfl, b2⟩
  have HS2 := Stay.go HS1 b2
  clear b2 HS1 HCF j0 j1 j2
  by_cases h2 : E2 = 0
  case neg =>
    have hEE : E = E2 := HEB.out (by first | rfl | trivial) h2
    obtain ⟨hO0, hP0⟩ := HBAD.out (by rw [hEE]; exact h2)
    obtain ⟨V, hV, hVB, hVW⟩ := HNO.out w2 HS2.out.now.1.2.2 HS2.out.now.2.2
    obtain ⟨z0, z1, z2⟩ := HS2.out.now.1.2.2.three
    have f0 := HS2.out.now.1.2.2.free 0
    have f1 := HS2.out.now.1.2.2.free 1
    have f2 := HS2.out.now.1.2.2.free 2
    have HOP : Hid (O = (0, 0, 0) ∧ P = [] ∧ E = E2) := ⟨hO0, hP0, hEE⟩
    clear hO0 hP0
    clear HEA HEB HEC HBAD HGOOD HZ1 HZ2 HSS HE3 HF hEE HS2 HNO
    go_wp2_with fail
    rw [← hV]
    obtain ⟨r0, r1, r2⟩ := hVB.three
    rw [HOP.out.1, HOP.out.2.1, HOP.out.2.2]
    exact bodyPost_ret (v := .tuple #[.agg #[.int .i64 0, .int .i64 0, .int .i64 0], .slice none 0 0, .int .i64 E2]) (by simp [results, Try.results7, go_sem, r0, r1, r2]) rfl ⟨_, rfl, World.ownsRow_nil _ _ _ _, hVW⟩
  obtain ⟨hck, ft0, ft1, n0, n4⟩ := HZ2.out h2
  have HCKF : Hid (f.chk = 0) := hck
  have HEE2 : Hid (E = E3) := HEC.out (by first | rfl | trivial) h2
  subst h2
  obtain ⟨W3, hW3⟩ : ∃ W3, W3 = w2.alloc (.cells #[.int .i64 l, .int .i64 t, .int .i64 s] 65) := ⟨_, rfl⟩
  have hwm : w.heap.size + 1 + 1 < w2.heap.size := HS2.out.now.1.2.2.lt
  have HT3 : Hid (StayK [w2.heap.size] W3 _) := HS2.out.toK hW3
  have HM3 : Hid (Blk W3 w2.heap.size #[.int .i64 l, .int .i64 t, .int .i64 s] 65) := Blk.newE hW3
  obtain ⟨k0, k1, k2⟩ := HS2.out.now.1.1.three
  clear HEA HEB HEC HZ1 HZ2 hck HS2
  go_upto_region 8 with fail
  rw [← hW3]
  clear hW3 k0 k1 k2
  have hcase : turn = true ∨ (turn = false ∧ l = 0) ∨ (turn = false ∧ (l == 0) = false ∧ ¬ l = 0) := by
    cases turn
    · by_cases h : l = 0
      · exact .inr (.inl ⟨rfl, h⟩)
      · exact .inr (.inr ⟨rfl, by simpa using h, h⟩)
    · exact .inl rfl
  rcases hcase with h | ⟨h, h'⟩ | ⟨h, h', h''⟩
  · have hS := HSS.out.1 (.inl h)
    have hS0 : -3000000 ≤ S := by omega
    have hS1 : S ≤ 3000000 := by omega
    have HSE : Hid (S = t + 10 - ft) := hS
    clear hS
    subst h
    obtain ⟨j0, j1, j2⟩ := HT3.out.now.1.2.1.three
    go_wp2_with fail
    refine (turnTo_any w2.heap.size l t s ft fk pa n pc W3 HM3.out ft0 ft1 t0 t1).mono ?_
    rw [← HSE.out]
    rintro e W4 ⟨rfl, hM4, k4⟩
    have HM4 : Hid (Blk W4 w2.heap.size #[.int .i64 l, .int .i64 t, .int .i64 S] 65) := hM4
    have HT4 := StayK.goK HT3 k4
    clear hM4 k4 HT3 HM3 j0 j1 j2
    obtain ⟨j0, j1, j2⟩ := HT4.out.now.1.2.1.three
    go_wp2_with fail
    refine (checkRoom_any w2.heap.size l t S ft fk pa n pc W4 HM4.out ft0 ft1 hS0 hS1 l0 l1 n4).mono ?_
    rw [← HE3.out]
    rintro e w5 ⟨rfl, b5⟩
    have HT5 := StayK.go HT4 b5
    have HM5 : Hid (Blk w5 w2.heap.size #[.int .i64 l, .int .i64 t, .int .i64 S] 65) := HM4.out.below b5 HM4.out.lt
    clear b5 HT4 HM4 j0 j1 j2
    by_cases h3 : E3 = 0
    case neg =>
      obtain ⟨hO0, hP0⟩ := HBAD.out (by rw [HEE2.out]; exact h3)
      obtain ⟨V, hV, hVB, hVW⟩ := HNO.out w5 HT5.out.now.1.2.2 HT5.out.now.2.2
      obtain ⟨z0, z1, z2⟩ := HT5.out.now.1.2.2.three
      have f0 := HT5.out.now.1.2.2.free 0
      have f1 := HT5.out.now.1.2.2.free 1
      have f2 := HT5.out.now.1.2.2.free 2
      have HOP : Hid (O = (0, 0, 0) ∧ P = [] ∧ E = E3) := ⟨hO0, hP0, HEE2.out⟩
      clear hO0 hP0 HBAD HGOOD HSS HE3 HF HT5 HNO HM5
      go_wp2_with fail
      rw [← hV]
      obtain ⟨r0, r1, r2⟩ := hVB.three
      rw [HOP.out.1, HOP.out.2.1, HOP.out.2.2]
      exact bodyPost_ret (v := .tuple #[.agg #[.int .i64 0, .int .i64 0, .int .i64 0], .slice none 0 0, .int .i64 E3]) (by simp [results, Try.results7, go_sem, r0, r1, r2]) rfl ⟨_, rfl, World.ownsRow_nil _ _ _ _, hVW⟩
    obtain ⟨hO1, hP1, hP2⟩ := HGOOD.out (by rw [HEE2.out]; exact h3)
    have HOP : Hid (O = (l + n, ft + S, S) ∧ P = pksOf l (ft + S) fk f.parts ∧ P.length = n ∧ E = 0) := ⟨hO1, hP1, hP2, by rw [HEE2.out]; exact h3⟩
    clear hO1 hP1 hP2 HGOOD HBAD HSS HE3 HNO HEE2
    subst h3
    obtain ⟨j0, j1, j2⟩ := HT5.out.now.1.2.1.three
    have HSEND : Hid (Calls Try.prog 27 #[.pointer (some ⟨w2.heap.size, 0, none⟩), .agg #[.int .i64 ft, .bool fk, .slice pa n pc]] w5 fun e w' => ∃ v, e = .returned v ∧ w'.ownsRow (w5.heap.size + 1) 38 6 v n (pkCells (pksOf l (ft + S) fk f.parts)) ∧ Blk w' w2.heap.size #[.int .i64 (l + n), .int .i64 (ft + S), .int .i64 S] 65 ∧ Kept [w2.heap.size] w5 w') := by
      obtain ⟨q1, q2, q3⟩ := HF.out
      have hstr := HT5.out.now.2.1
      rw [q3] at hstr
      have := send_any w2.heap.size l t S f pa pc w5 HM5.out (hstr.mono (fun g _ hg => by omega)) HCKF.out hS0 hS1 l0 l1
      rw [← q1, ← q2, ← q3] at this
      exact this
    go_wp2_with fail
    refine HSEND.out.mono ?_
    rintro e w6 ⟨v, rfl, hrow, hM6, k6⟩
    have HT6 := StayK.goK HT5 k6
    obtain ⟨m0, m1, m2⟩ := hM6.three
    obtain ⟨z0, z1, z2⟩ := HT6.out.now.1.2.2.three
    have hZ := HT6.out.now.1.2.2
    have f0 := hZ.free 0
    have f1 := hZ.free 1
    have f2 := hZ.free 2
    obtain ⟨V, hV⟩ : ∃ V, V = ((w6.setCell ⟨w.heap.size + 1 + 1, 0, none⟩ (.int .i64 (l + n))).setCell ⟨w.heap.size + 1 + 1, 1, none⟩ (.int .i64 (ft + S))).setCell ⟨w.heap.size + 1 + 1, 2, none⟩ (.int .i64 S) := ⟨_, rfl⟩
    have hVB : Blk V (w.heap.size + 1 + 1) #[.int .i64 (l + n), .int .i64 (ft + S), .int .i64 S] 23 := by rw [hV]; exact hZ.put3 _ _ _
    have hVW : Below w.heap.size w V := by
      rw [hV]
      exact ((HT6.out.now.2.2.setCell (p := ⟨w.heap.size + 1 + 1, 0, none⟩) (by show w.heap.size ≤ w.heap.size + 1 + 1; omega) _).setCell (p := ⟨w.heap.size + 1 + 1, 1, none⟩) (by show w.heap.size ≤ w.heap.size + 1 + 1; omega) _).setCell (p := ⟨w.heap.size + 1 + 1, 2, none⟩) (by show w.heap.size ≤ w.heap.size + 1 + 1; omega) _
    have h52 := HM5.out.lt
    have hVR : V.ownsRow w.heap.size 38 6 v n (pkCells (pksOf l (ft + S) fk f.parts)) := by
      rw [hV]
      exact owns_le (ownsRow_setCell_below (ownsRow_setCell_below (ownsRow_setCell_below hrow (by show w.heap.size + 1 + 1 < _; omega) _) (by show w.heap.size + 1 + 1 < _; omega) _) (by show w.heap.size + 1 + 1 < _; omega) _) (by omega)
    obtain ⟨va, vc, ev⟩ := owns_slice6 hrow
    subst ev
    clear hrow hM6 k6 HT6 HT5 HM5 hZ h52 j0 j1 j2 HSEND HF
    go_wp2_with fail
    rw [← hV]
    obtain ⟨r0, r1, r2⟩ := hVB.three
    obtain ⟨o1, o2, o3, o4⟩ := HOP.out
    rw [o1, o4, o3, o2]
    exact bodyPost_ret (v := .tuple #[.agg #[.int .i64 (l + n), .int .i64 (ft + S), .int .i64 S], .slice va n vc, .int .i64 0]) (by simp [results, Try.results7, go_sem, r0, r1, r2]) rfl ⟨_, rfl, hVR, hVW⟩
  · have hS := HSS.out.1 (.inr h')
    have hS0 : -3000000 ≤ S := by omega
    have hS1 : S ≤ 3000000 := by omega
    have HSE : Hid (S = t + 10 - ft) := hS
    clear hS
    subst h
    have hlb : (l == 0) = true := by simpa using h'
    clear h'
    obtain ⟨j0, j1, j2⟩ := HT3.out.now.1.2.1.three
    go_wp2_with fail
    refine (isNew_any w2.heap.size l t s W3 HM3.out).mono ?_
    rw [hlb]
    rintro e w' ⟨rfl, rfl⟩
    clear hlb
    go_wp2_with fail
    refine (turnTo_any w2.heap.size l t s ft fk pa n pc W3 HM3.out ft0 ft1 t0 t1).mono ?_
    rw [← HSE.out]
    rintro e W4 ⟨rfl, hM4, k4⟩
    have HM4 : Hid (Blk W4 w2.heap.size #[.int .i64 l, .int .i64 t, .int .i64 S] 65) := hM4
    have HT4 := StayK.goK HT3 k4
    clear hM4 k4 HT3 HM3 j0 j1 j2
    obtain ⟨j0, j1, j2⟩ := HT4.out.now.1.2.1.three
    go_wp2_with fail
    refine (checkRoom_any w2.heap.size l t S ft fk pa n pc W4 HM4.out ft0 ft1 hS0 hS1 l0 l1 n4).mono ?_
    rw [← HE3.out]
    rintro e w5 ⟨rfl, b5⟩
    have HT5 := StayK.go HT4 b5
    have HM5 : Hid (Blk w5 w2.heap.size #[.int .i64 l, .int .i64 t, .int .i64 S] 65) := HM4.out.below b5 HM4.out.lt
    clear b5 HT4 HM4 j0 j1 j2
    by_cases h3 : E3 = 0
    case neg =>
      obtain ⟨hO0, hP0⟩ := HBAD.out (by rw [HEE2.out]; exact h3)
      obtain ⟨V, hV, hVB, hVW⟩ := HNO.out w5 HT5.out.now.1.2.2 HT5.out.now.2.2
      obtain ⟨z0, z1, z2⟩ := HT5.out.now.1.2.2.three
      have f0 := HT5.out.now.1.2.2.free 0
      have f1 := HT5.out.now.1.2.2.free 1
      have f2 := HT5.out.now.1.2.2.free 2
      have HOP : Hid (O = (0, 0, 0) ∧ P = [] ∧ E = E3) := ⟨hO0, hP0, HEE2.out⟩
      clear hO0 hP0 HBAD HGOOD HSS HE3 HF HT5 HNO HM5
      go_wp2_with fail
      rw [← hV]
      obtain ⟨r0, r1, r2⟩ := hVB.three
      rw [HOP.out.1, HOP.out.2.1, HOP.out.2.2]
      exact bodyPost_ret (v := .tuple #[.agg #[.int .i64 0, .int .i64 0, .int .i64 0], .slice none 0 0, .int .i64 E3]) (by simp [results, Try.results7, go_sem, r0, r1, r2]) rfl ⟨_, rfl, World.ownsRow_nil _ _ _ _, hVW⟩
    obtain ⟨hO1, hP1, hP2⟩ := HGOOD.out (by rw [HEE2.out]; exact h3)
    have HOP : Hid (O = (l + n, ft + S, S) ∧ P = pksOf l (ft + S) fk f.parts ∧ P.length = n ∧ E = 0) := ⟨hO1, hP1, hP2, by rw [HEE2.out]; exact h3⟩
    clear hO1 hP1 hP2 HGOOD HBAD HSS HE3 HNO HEE2
    subst h3
    obtain ⟨j0, j1, j2⟩ := HT5.out.now.1.2.1.three
    have HSEND : Hid (Calls Try.prog 27 #[.pointer (some ⟨w2.heap.size, 0, none⟩), .agg #[.int .i64 ft, .bool fk, .slice pa n pc]] w5 fun e w' => ∃ v, e = .returned v ∧ w'.ownsRow (w5.heap.size + 1) 38 6 v n (pkCells (pksOf l (ft + S) fk f.parts)) ∧ Blk w' w2.heap.size #[.int .i64 (l + n), .int .i64 (ft + S), .int .i64 S] 65 ∧ Kept [w2.heap.size] w5 w') := by
      obtain ⟨q1, q2, q3⟩ := HF.out
      have hstr := HT5.out.now.2.1
      rw [q3] at hstr
      have := send_any w2.heap.size l t S f pa pc w5 HM5.out (hstr.mono (fun g _ hg => by omega)) HCKF.out hS0 hS1 l0 l1
      rw [← q1, ← q2, ← q3] at this
      exact this
    go_wp2_with fail
    refine HSEND.out.mono ?_
    rintro e w6 ⟨v, rfl, hrow, hM6, k6⟩
    have HT6 := StayK.goK HT5 k6
    obtain ⟨m0, m1, m2⟩ := hM6.three
    obtain ⟨z0, z1, z2⟩ := HT6.out.now.1.2.2.three
    have hZ := HT6.out.now.1.2.2
    have f0 := hZ.free 0
    have f1 := hZ.free 1
    have f2 := hZ.free 2
    obtain ⟨V, hV⟩ : ∃ V, V = ((w6.setCell ⟨w.heap.size + 1 + 1, 0, none⟩ (.int .i64 (l + n))).setCell ⟨w.heap.size + 1 + 1, 1, none⟩ (.int .i64 (ft + S))).setCell ⟨w.heap.size + 1 + 1, 2, none⟩ (.int .i64 S) := ⟨_, rfl⟩
    have hVB : Blk V (w.heap.size + 1 + 1) #[.int .i64 (l + n), .int .i64 (ft + S), .int .i64 S] 23 := by rw [hV]; exact hZ.put3 _ _ _
    have hVW : Below w.heap.size w V := by
      rw [hV]
      exact ((HT6.out.now.2.2.setCell (p := ⟨w.heap.size + 1 + 1, 0, none⟩) (by show w.heap.size ≤ w.heap.size + 1 + 1; omega) _).setCell (p := ⟨w.heap.size + 1 + 1, 1, none⟩) (by show w.heap.size ≤ w.heap.size + 1 + 1; omega) _).setCell (p := ⟨w.heap.size + 1 + 1, 2, none⟩) (by show w.heap.size ≤ w.heap.size + 1 + 1; omega) _
    have h52 := HM5.out.lt
    have hVR : V.ownsRow w.heap.size 38 6 v n (pkCells (pksOf l (ft + S) fk f.parts)) := by
      rw [hV]
      exact owns_le (ownsRow_setCell_below (ownsRow_setCell_below (ownsRow_setCell_below hrow (by show w.heap.size + 1 + 1 < _; omega) _) (by show w.heap.size + 1 + 1 < _; omega) _) (by show w.heap.size + 1 + 1 < _; omega) _) (by omega)
    obtain ⟨va, vc, ev⟩ := owns_slice6 hrow
    subst ev
    clear hrow hM6 k6 HT6 HT5 HM5 hZ h52 j0 j1 j2 HSEND HF
    go_wp2_with fail
    rw [← hV]
    obtain ⟨r0, r1, r2⟩ := hVB.three
    obtain ⟨o1, o2, o3, o4⟩ := HOP.out
    rw [o1, o4, o3, o2]
    exact bodyPost_ret (v := .tuple #[.agg #[.int .i64 (l + n), .int .i64 (ft + S), .int .i64 S], .slice va n vc, .int .i64 0]) (by simp [results, Try.results7, go_sem, r0, r1, r2]) rfl ⟨_, rfl, hVR, hVW⟩
  · have hS := HSS.out.2 (by rw [h]; simpa using h'')
    subst h hS
    have hS0 : -3000000 ≤ S := by omega
    have hS1 : S ≤ 3000000 := by omega
    clear h''
    obtain ⟨j0, j1, j2⟩ := HT3.out.now.1.2.1.three
    go_wp2_with fail
    refine (isNew_any w2.heap.size l t S W3 HM3.out).mono ?_
    rw [h']
    rintro e w' ⟨rfl, rfl⟩
    have HM4 := HM3
    have HT4 := HT3
    obtain ⟨W4, hW4⟩ : ∃ x, x = W3 := ⟨_, rfl⟩
    subst hW4
    clear HM3 HT3
    go_wp2_with fail
    refine (checkRoom_any w2.heap.size l t S ft fk pa n pc W4 HM4.out ft0 ft1 hS0 hS1 l0 l1 n4).mono ?_
    rw [← HE3.out]
    rintro e w5 ⟨rfl, b5⟩
    have HT5 := StayK.go HT4 b5
    have HM5 : Hid (Blk w5 w2.heap.size #[.int .i64 l, .int .i64 t, .int .i64 S] 65) := HM4.out.below b5 HM4.out.lt
    clear b5 HT4 HM4 j0 j1 j2
    by_cases h3 : E3 = 0
    case neg =>
      obtain ⟨hO0, hP0⟩ := HBAD.out (by rw [HEE2.out]; exact h3)
      obtain ⟨V, hV, hVB, hVW⟩ := HNO.out w5 HT5.out.now.1.2.2 HT5.out.now.2.2
      obtain ⟨z0, z1, z2⟩ := HT5.out.now.1.2.2.three
      have f0 := HT5.out.now.1.2.2.free 0
      have f1 := HT5.out.now.1.2.2.free 1
      have f2 := HT5.out.now.1.2.2.free 2
      have HOP : Hid (O = (0, 0, 0) ∧ P = [] ∧ E = E3) := ⟨hO0, hP0, HEE2.out⟩
      clear hO0 hP0 HBAD HGOOD HSS HE3 HF HT5 HNO HM5
      go_wp2_with fail
      rw [← hV]
      obtain ⟨r0, r1, r2⟩ := hVB.three
      rw [HOP.out.1, HOP.out.2.1, HOP.out.2.2]
      exact bodyPost_ret (v := .tuple #[.agg #[.int .i64 0, .int .i64 0, .int .i64 0], .slice none 0 0, .int .i64 E3]) (by simp [results, Try.results7, go_sem, r0, r1, r2]) rfl ⟨_, rfl, World.ownsRow_nil _ _ _ _, hVW⟩
    obtain ⟨hO1, hP1, hP2⟩ := HGOOD.out (by rw [HEE2.out]; exact h3)
    have HOP : Hid (O = (l + n, ft + S, S) ∧ P = pksOf l (ft + S) fk f.parts ∧ P.length = n ∧ E = 0) := ⟨hO1, hP1, hP2, by rw [HEE2.out]; exact h3⟩
    clear hO1 hP1 hP2 HGOOD HBAD HSS HE3 HNO HEE2
    subst h3
    obtain ⟨j0, j1, j2⟩ := HT5.out.now.1.2.1.three
    have HSEND : Hid (Calls Try.prog 27 #[.pointer (some ⟨w2.heap.size, 0, none⟩), .agg #[.int .i64 ft, .bool fk, .slice pa n pc]] w5 fun e w' => ∃ v, e = .returned v ∧ w'.ownsRow (w5.heap.size + 1) 38 6 v n (pkCells (pksOf l (ft + S) fk f.parts)) ∧ Blk w' w2.heap.size #[.int .i64 (l + n), .int .i64 (ft + S), .int .i64 S] 65 ∧ Kept [w2.heap.size] w5 w') := by
      obtain ⟨q1, q2, q3⟩ := HF.out
      have hstr := HT5.out.now.2.1
      rw [q3] at hstr
      have := send_any w2.heap.size l t S f pa pc w5 HM5.out (hstr.mono (fun g _ hg => by omega)) HCKF.out hS0 hS1 l0 l1
      rw [← q1, ← q2, ← q3] at this
      exact this
    go_wp2_with fail
    refine HSEND.out.mono ?_
    rintro e w6 ⟨v, rfl, hrow, hM6, k6⟩
    have HT6 := StayK.goK HT5 k6
    obtain ⟨m0, m1, m2⟩ := hM6.three
    obtain ⟨z0, z1, z2⟩ := HT6.out.now.1.2.2.three
    have hZ := HT6.out.now.1.2.2
    have f0 := hZ.free 0
    have f1 := hZ.free 1
    have f2 := hZ.free 2
    obtain ⟨V, hV⟩ : ∃ V, V = ((w6.setCell ⟨w.heap.size + 1 + 1, 0, none⟩ (.int .i64 (l + n))).setCell ⟨w.heap.size + 1 + 1, 1, none⟩ (.int .i64 (ft + S))).setCell ⟨w.heap.size + 1 + 1, 2, none⟩ (.int .i64 S) := ⟨_, rfl⟩
    have hVB : Blk V (w.heap.size + 1 + 1) #[.int .i64 (l + n), .int .i64 (ft + S), .int .i64 S] 23 := by rw [hV]; exact hZ.put3 _ _ _
    have hVW : Below w.heap.size w V := by
      rw [hV]
      exact ((HT6.out.now.2.2.setCell (p := ⟨w.heap.size + 1 + 1, 0, none⟩) (by show w.heap.size ≤ w.heap.size + 1 + 1; omega) _).setCell (p := ⟨w.heap.size + 1 + 1, 1, none⟩) (by show w.heap.size ≤ w.heap.size + 1 + 1; omega) _).setCell (p := ⟨w.heap.size + 1 + 1, 2, none⟩) (by show w.heap.size ≤ w.heap.size + 1 + 1; omega) _
    have h52 := HM5.out.lt
    have hVR : V.ownsRow w.heap.size 38 6 v n (pkCells (pksOf l (ft + S) fk f.parts)) := by
      rw [hV]
      exact owns_le (ownsRow_setCell_below (ownsRow_setCell_below (ownsRow_setCell_below hrow (by show w.heap.size + 1 + 1 < _; omega) _) (by show w.heap.size + 1 + 1 < _; omega) _) (by show w.heap.size + 1 + 1 < _; omega) _) (by omega)
    obtain ⟨va, vc, ev⟩ := owns_slice6 hrow
    subst ev
    clear hrow hM6 k6 HT6 HT5 HM5 hZ h52 j0 j1 j2 HSEND HF
    go_wp2_with fail
    rw [← hV]
    obtain ⟨r0, r1, r2⟩ := hVB.three
    obtain ⟨o1, o2, o3, o4⟩ := HOP.out
    rw [o1, o4, o3, o2]
    exact bodyPost_ret (v := .tuple #[.agg #[.int .i64 (l + n), .int .i64 (ft + S), .int .i64 S], .slice va n vc, .int .i64 0]) (by simp [results, Try.results7, go_sem, r0, r1, r2]) rfl ⟨_, rfl, hVR, hVW⟩

end Go.Proofs.Ytnpaejknoipicaf
