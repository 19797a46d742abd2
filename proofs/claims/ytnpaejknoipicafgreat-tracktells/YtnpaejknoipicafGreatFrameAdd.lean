/-
  Contract: frame.Add, whatever the builder's check is.
-/
import Derived.Test.YtnpaejknoipicafGreatMaker2
import Derived.Test.YtnpaejknoipicafGreatBufPlain
import Derived.Test.YtnpaejknoipicafGreatSlotCheck
namespace Go.Proofs.YtnpaejknoipicafGreat
open Go.RowKit

theorem blocks4 {w w1 : World} {A B C D : Array Value} {s t u v : TypeId} (hb : Below ((((w.alloc (.cells A s)).alloc (.cells B t)).alloc (.cells C u)).alloc (.cells D v)).heap.size ((((w.alloc (.cells A s)).alloc (.cells B t)).alloc (.cells C u)).alloc (.cells D v)) w1) :
    Blk w1 w.heap.size A s ∧ Blk w1 (w.heap.size + 1) B t ∧ Blk w1 (w.heap.size + 1 + 1) C u ∧ Blk w1 (w.heap.size + 1 + 1 + 1) D v ∧ Below w.heap.size w w1 ∧ w.heap.size + 1 + 1 + 1 + 1 ≤ w1.heap.size := by
  have hs := hb.size
  simp only [World.size_alloc] at hs
  have h2 := ((((Blk.new w A s).alloc (.cells B t)).alloc (.cells C u)).alloc (.cells D v)).below hb (by simp; omega)
  have h3 := (((Blk.new (w.alloc (.cells A s)) B t).alloc (.cells C u)).alloc (.cells D v)).below hb (by simp)
  have h4 := ((Blk.new ((w.alloc (.cells A s)).alloc (.cells B t)) C u).alloc (.cells D v)).below hb (by simp)
  have h5 := (Blk.new (((w.alloc (.cells A s)).alloc (.cells B t)).alloc (.cells C u)) D v).below hb (by simp)
  simp only [World.size_alloc] at h3 h4 h5
  exact ⟨h2, h3, h4, h5, (((((Below.refl _ w).alloc (Nat.le_refl _) _).alloc (by simp) _).alloc (by simp; omega) _).alloc (by simp; omega) _).trans (hb.mono (by simp; omega)), hs⟩

set_option maxHeartbeats 2000000 in
theorem frameAdd_no (ck : Int) (v : Value) (l : List Sk) (x : Sk) (w : World) (hv : Sls w v l)
    (hck : ∀ w' : World, Sls w' v l → Calls Tryz.prog 90 #[.agg #[v]] w' fun e w'' => e = .returned (.int .i64 ck) ∧ Below w'.heap.size w' w'')
    (E : Int) (hEE : E = if ck = 0 then x.chk else ck) (hE : ¬ E = 0) :
    Calls Tryz.prog 46 #[.agg #[v], x.val] w fun e w' => e = .returned (.tuple #[.agg #[.slice none 0 0], .agg #[.int .i64 0, .bool false, .slice none 0 0], .bool false, .int .i64 E]) ∧ Below w.heap.size w w' := by
  obtain ⟨a, c, hva⟩ := hv.len
  obtain ⟨n, hn⟩ : ∃ n, n = l.length := ⟨_, rfl⟩
  rw [← hn] at hva
  have HE : Hid (E = if ck = 0 then x.chk else ck) := hEE
  have HV : Hid (Sls w v l) := hv
  have HC : Hid (∀ w' : World, Sls w' v l → Calls Tryz.prog 90 #[.agg #[v]] w' fun e w'' => e = .returned (.int .i64 ck) ∧ Below w'.heap.size w' w'') := hck
  clear hv hn hEE hck
  subst hva
  have hsc := slotCheck_any x
  obtain ⟨xc, hxc⟩ : ∃ xc, xc = x.chk := ⟨_, rfl⟩
  rw [← hxc] at hsc
  have HX : Hid (xc = x.chk) := hxc
  have HS : Hid _ := hsc
  clear hsc hxc
  by_cases hp : ck = 0
  · have hEx : E = xc := by rw [HE.out, HX.out, if_pos hp]
    subst hp
    subst hEx
    obtain ⟨xn, seq, time, xf, xe, xk, xt⟩ := x
    simp only [Sk.val] at HS ⊢
    go_enter Tryz.func46, Tryz.ntmps46
    go_wp2_with fail
    refine (HC.out _ ((((HV.out.alloc _).alloc _).alloc _).alloc _)).mono ?_
    rintro e w1 ⟨rfl, hb1⟩
    obtain ⟨kb, kx, kr, kf, bb, hs1⟩ := blocks4 hb1
    have KR : Hid _ := kr
    have KF : Hid _ := kf
    have B1 : Hid _ := bb
    obtain ⟨e0, e1, e2, e3, e4, e5, e6⟩ := kx.seven
    clear hb1 kb kx kr kf bb
    go_wp2_with fail
    refine (HS.out _).mono ?_
    rintro e w2 ⟨rfl, hb2⟩
    have kr := Blk.below KR.out hb2 (Blk.lt KR.out)
    have kf := Blk.below KF.out hb2 (Blk.lt KF.out)
    have BB : Hid (Below w.heap.size w w2) := B1.out.trans (hb2.mono B1.out.size)
    have r0 := kr.one
    obtain ⟨r1, r2, r3⟩ := kf.three
    have rf := kr.free
    have ff := kf.free
    clear hb2 kr kf KR KF B1 e0 e1 e2 e3 e4 e5 e6
    go_wp2
    exact bodyPost_ret (v := .tuple #[.agg #[.slice none 0 0], .agg #[.int .i64 0, .bool false, .slice none 0 0], .bool false, .int .i64 E]) (by simp [results, Tryz.results46, go_sem, r0, r1, r2, r3]) rfl ⟨rfl, by
      have h := BB.out
      exact (((h.setCell (by simp; omega) _).setCell (by simp; omega) _).setCell (by simp; omega) _).setCell (by simp; omega) _⟩
  · have hEp : E = ck := by rw [HE.out, if_neg hp]
    subst hEp
    obtain ⟨xn, seq, time, xf, xe, xk, xt⟩ := x
    simp only [Sk.val]
    go_enter Tryz.func46, Tryz.ntmps46
    go_wp2_with fail
    refine (HC.out _ ((((HV.out.alloc _).alloc _).alloc _).alloc _)).mono ?_
    rintro e w1 ⟨rfl, hb1⟩
    obtain ⟨kb, kx, kr, kf, bb, hs1⟩ := blocks4 hb1
    have r0 := kr.one
    obtain ⟨r1, r2, r3⟩ := kf.three
    have rf := kr.free
    have ff := kf.free
    have BB : Hid _ := bb
    clear hb1 kb kx kr kf bb
    go_wp2
    exact bodyPost_ret (v := .tuple #[.agg #[.slice none 0 0], .agg #[.int .i64 0, .bool false, .slice none 0 0], .bool false, .int .i64 E]) (by simp [results, Tryz.results46, go_sem, r0, r1, r2, r3]) rfl ⟨rfl, by
      have h := BB.out
      exact (((h.setCell (by simp; omega) _).setCell (by simp; omega) _).setCell (by simp; omega) _).setCell (by simp; omega) _⟩

set_option maxHeartbeats 2000000 in
set_option maxRecDepth 100000 in
theorem frameAdd_ok (v : Value) (l : List Sk) (x : Sk) (w : World) (hv : Sls w v l)
    (hck : ∀ w' : World, Sls w' v l → Calls Tryz.prog 90 #[.agg #[v]] w' fun e w'' => e = .returned (.int .i64 0) ∧ Below w'.heap.size w' w'')
    (hl3 : l.length ≤ 3) (hl : ∀ y ∈ l, y.chk = 0) (hx : x.chk = 0) :
    Calls Tryz.prog 46 #[.agg #[v], x.val] w fun e w' => ∃ ov pv, e = .returned (.tuple #[.agg #[ov], .agg #[.int .i64 (addT l x), .bool (addK l x), pv], .bool (addW l x), .int .i64 0]) ∧
      (Sls w' ov (addO l x) ∧ Strs w' pv (addP l x) ∧ (∀ g, ov.ownBlock = some g → w.heap.size ≤ g ∧ g < w'.heap.size) ∧ ∀ g, pv.ownBlock = some g → w.heap.size ≤ g ∧ g < w'.heap.size) ∧ Below w.heap.size w w' := by
  obtain ⟨a, c, hva⟩ := hv.len
  have HV : Hid (Sls w v l) := hv
  have HC : Hid (∀ w' : World, Sls w' v l → Calls Tryz.prog 90 #[.agg #[v]] w' fun e w'' => e = .returned (.int .i64 0) ∧ Below w'.heap.size w' w'') := hck
  have HS : Hid (∀ w' : World, Calls Tryz.prog 91 #[x.val] w' fun e w'' => e = .returned (.int .i64 0) ∧ Below w'.heap.size w' w'') := fun w' => by rw [← hx]; exact slotCheck_any x w'
  have HKp : Hid (∀ w' : World, Sls w' v l → Calls Tryz.prog 92 #[v] w' fun e w'' => ∃ u, e = .returned u ∧ w''.ownsRow w'.heap.size 91 7 u l.length (skCells l) ∧ Below w'.heap.size w' w'') := fun w' hs => copyAll_any v l w' hs (by omega) (fun y hy => Sk.chk_short (hl y hy))
  have HCo : Hid (∀ w' : World, Calls Tryz.prog 94 #[x.val] w' fun e w'' => e = .returned x.val ∧ Below w'.heap.size w' w'') := fun w' => slotCopy_any x w' (Sk.chk_short hx)
  have HPu : Hid (∀ (K base : Nat) (hv' : Value) (w' : World), Blk w' K #[hv'] 143 → w'.ownsRow base 91 7 hv' l.length (skCells l) → base ≤ K →
      Calls Tryz.prog 93 #[.pointer (some ⟨K, 0, none⟩), x.val] w' fun e w'' => ∃ pv, e = .returned (.tuple #[.agg #[.int .i64 (addT l x), .bool (addK l x), pv], .bool (addW l x)]) ∧ Strs w'' pv (addP l x) ∧ (∀ g, pv.ownBlock = some g → base ≤ g ∧ ∃ cur, Blk w'' g cur 9) ∧ Make base K w'' (addO l x) ∧ Below base w' w'') := fun K base hv' w' h1 h2 h3 =>
    (add_any base K l x w' hv' h1 h2 h3 (fun y hy => by have := Sk.chk_zero (hl y hy); omega) (by omega)).mono fun e w'' ⟨pv, h1, h2, h3, h4, h5, _⟩ => ⟨pv, h1, h2, h3, h4, h5⟩
  obtain ⟨n, hn⟩ : ∃ n, n = l.length := ⟨_, rfl⟩
  rw [← hn] at hva
  rw [← hn] at HKp HPu
  obtain ⟨rT, hrT⟩ : ∃ rT, rT = addT l x := ⟨_, rfl⟩
  obtain ⟨rK, hrK⟩ : ∃ rK, rK = addK l x := ⟨_, rfl⟩
  obtain ⟨rW, hrW⟩ : ∃ rW, rW = addW l x := ⟨_, rfl⟩
  obtain ⟨rO, hrO⟩ : ∃ rO, rO = addO l x := ⟨_, rfl⟩
  obtain ⟨rP, hrP⟩ : ∃ rP, rP = addP l x := ⟨_, rfl⟩
  rw [← hrT, ← hrK, ← hrW, ← hrO, ← hrP]
  rw [← hrT, ← hrK, ← hrW, ← hrO, ← hrP] at HPu
  clear hv hn hck hrT hrK hrW hrO hrP hx hl3 hl
  subst hva
  obtain ⟨xn, seq, time, xf, xe, xk, xt⟩ := x
  simp only [Sk.val] at HS HCo HPu ⊢
  go_enter Tryz.func46, Tryz.ntmps46
  go_wp2_with fail
  refine (HC.out _ ((((HV.out.alloc _).alloc _).alloc _).alloc _)).mono ?_
  rintro e w1 ⟨rfl, hb1⟩
  obtain ⟨kb, kx, kr, kf, bb, hs1⟩ := blocks4 hb1
  have v1 : Hid (Sls w1 (.slice a n c) l) := ((((HV.out.alloc _).alloc _).alloc _).alloc _).below hb1
  have KB1 : Hid _ := kb
  have KX1 : Hid _ := kx
  have KR1 : Hid _ := kr
  have KF1 : Hid _ := kf
  have B1 : Hid _ := bb
  obtain ⟨e0, e1, e2, e3, e4, e5, e6⟩ := kx.seven
  clear hb1 kb kx kr kf bb HC HV
  go_wp2_with fail
  refine (HS.out _).mono ?_
  rintro e w2 ⟨rfl, hb2⟩
  have KB2 : Hid _ := Blk.below KB1.out hb2 (Blk.lt KB1.out)
  have KX2 : Hid _ := Blk.below KX1.out hb2 (Blk.lt KX1.out)
  have KR2 : Hid _ := Blk.below KR1.out hb2 (Blk.lt KR1.out)
  have KF2 : Hid _ := Blk.below KF1.out hb2 (Blk.lt KF1.out)
  have v2 : Hid (Sls w2 (.slice a n c) l) := v1.out.below hb2
  have B2 : Hid (Below w.heap.size w w2) := B1.out.trans (hb2.mono B1.out.size)
  have f0 := Blk.one KB2.out
  clear hb2 KB1 KX1 KR1 KF1 B1 v1 e0 e1 e2 e3 e4 e5 e6 HS
  go_wp2_with fail
  refine (HKp.out _ v2.out).mono ?_
  rintro e w3 ⟨u, rfl, ho3, hb3⟩
  obtain ⟨a', c', hu⟩ := Sl.len (Sl.of_owns ho3)
  have KX3 : Hid _ := Blk.below KX2.out hb3 (Blk.lt KX2.out)
  have KR3 : Hid _ := Blk.below KR2.out hb3 (Blk.lt KR2.out)
  have KF3 : Hid _ := Blk.below KF2.out hb3 (Blk.lt KF2.out)
  have B3 : Hid (Below w.heap.size w w3) := B2.out.trans (hb3.mono B2.out.size)
  obtain ⟨e0, e1, e2, e3, e4, e5, e6⟩ := Blk.seven KX3.out
  have hle3 := hb3.size
  have hr2 := Blk.lt KR2.out
  have hf2 := Blk.lt KF2.out
  subst hu
  have HO3 : Hid (w3.ownsRow w2.heap.size 91 7 (.slice a' n c') n (skCells l)) := ho3
  clear hb3 ho3 f0 v2 KB2 KX2 HKp
  have lt3 : w.heap.size + 1 < w3.heap.size := by omega
  go_wp2_with fail
  refine (HCo.out _).mono ?_
  rintro e w4 ⟨rfl, hb4⟩
  have k4 := Blk.below (Blk.new w3 #[.slice a' n c'] 143) hb4 (by simp)
  have KR4 : Hid _ := Blk.below (Blk.alloc KR3.out (.cells #[.slice a' n c'] 143)) hb4 (by have := Blk.lt KR3.out; simp; omega)
  have KF4 : Hid _ := Blk.below (Blk.alloc KF3.out (.cells #[.slice a' n c'] 143)) hb4 (by have := Blk.lt KF3.out; simp; omega)
  have ho4 := owns_below (HO3.out.alloc (.cells #[.slice a' n c'] 143)) hb4 (Nat.le_refl _)
  have hs4 := hb4.size
  simp only [World.size_alloc] at hs4
  have B4 : Hid (Below w.heap.size w w4) := (B3.out.alloc B3.out.size _).trans (hb4.mono (by have := B3.out.size; simp; omega))
  clear hb4 KX3 KR3 KF3 B3 HO3 e0 e1 e2 e3 e4 e5 e6 HCo
  go_wp2_with fail
  refine (HPu.out w3.heap.size w2.heap.size _ w4 k4 ho4 (by omega)).mono ?_
  rintro e w5 ⟨pv, rfl, hst, hfr, ⟨ov, km, ko⟩, hb5⟩
  have kr5 := Blk.below KR4.out hb5 hr2
  have kf5 := Blk.below KF4.out hb5 hf2
  have g0 := km.one
  have r0 := Blk.one kr5
  obtain ⟨r1, r2, r3⟩ := Blk.three kf5
  have rf := Blk.free kr5
  have ff := Blk.free kf5
  have hr5 := Blk.lt kr5
  have hf5 := Blk.lt kf5
  have hm5 := Blk.lt km
  have B5 : Hid (Below w.heap.size w w5) := B4.out.trans (hb5.mono (by have := B2.out.size; omega))
  have hw2 : w.heap.size ≤ w2.heap.size := B2.out.size
  obtain ⟨ah, ch, eh⟩ := (Sls.of_owns ko).len
  obtain ⟨ap, cp, ep⟩ := hst.len
  subst eh
  subst ep
  have FIN : Hid (∀ w6 : World, w5.heap.size ≤ w6.heap.size → (∀ j, w2.heap.size ≤ j → j < w5.heap.size → w6.heap[j]? = w5.heap[j]?) → Sls w6 (.slice ah rO.length ch) rO ∧ Strs w6 (.slice ap rP.length cp) rP ∧ (∀ g, (Value.slice ah rO.length ch).ownBlock = some g → w.heap.size ≤ g ∧ g < w6.heap.size) ∧ ∀ g, (Value.slice ap rP.length cp).ownBlock = some g → w.heap.size ≤ g ∧ g < w6.heap.size) := fun w6 h1 h2 =>
    ⟨Sl.same (Sls.of_owns ko) h1 (fun g hg => by obtain ⟨h3, cur, h4⟩ := owns_blk ko hg; exact h2 g h3 h4.lt), Sl.same hst h1 (fun g hg => by obtain ⟨h3, cur, h4⟩ := hfr g hg; exact h2 g h3 h4.lt), fun g hg => by obtain ⟨h3, cur, h4⟩ := owns_blk ko hg; have := h4.lt; omega, fun g hg => by obtain ⟨h3, cur, h4⟩ := hfr g hg; have := h4.lt; omega⟩
  clear hb5 kr5 kf5 k4 ho4 KR4 KF4 B4 HPu hst hfr km ko
  have hne5 : ¬ w3.heap.size = w.heap.size + 1 + 1 := by omega
  have hne6 : ¬ w3.heap.size = w.heap.size + 1 + 1 + 1 := by omega
  have hne7 : ¬ w.heap.size + 1 + 1 = w3.heap.size := by omega
  have hne8 : ¬ w.heap.size + 1 + 1 + 1 = w3.heap.size := by omega
  go_wp2_with fail
  go_region
  all_goals
    go_wp2
    refine bodyPost_ret (v := .tuple #[.agg #[.slice ah rO.length ch], .agg #[.int .i64 rT, .bool rK, .slice ap rP.length cp], .bool rW, .int .i64 0]) (by simp [results, Tryz.results46, go_sem, r0, r1, r2, r3, hr5, hf5]) rfl ⟨_, _, rfl, ?_⟩
    refine ⟨FIN.out _ (by simp) (fun j h1 h2 => ?_), ?_⟩
    · have e1 : j ≠ w.heap.size + 1 + 1 := by omega
      have e2 : j ≠ w.heap.size + 1 + 1 + 1 := by omega
      show (World.alloc _ _).heap[j]? = _
      rw [Below.heap_alloc _ _ _ (by simp; omega), Below.heap_setCell _ _ _ _ (by exact e2), Below.heap_setCell _ _ _ _ (by exact e2), Below.heap_setCell _ _ _ _ (by exact e2), Below.heap_setCell _ _ _ _ (by exact e1)]
    · exact (((((B5.out.setCell (by simp; omega) _).setCell (by simp; omega) _).setCell (by simp; omega) _).setCell (by simp; omega) _).alloc (by have := B5.out.size; simp; omega) _).drew

end Go.Proofs.YtnpaejknoipicafGreat
