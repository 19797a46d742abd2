/-
  Contracts: buffer.Put and buffer.Flush.
-/
import Derived.Test.YtnpaejknoipicafGreatBufCheck2
import Derived.Test.YtnpaejknoipicafGreatKeeper5
namespace Go.Proofs.YtnpaejknoipicafGreat
open Go.RowKit

/-- the errno of Put, and what comes of it -/
def putE (next : Int) (l : List Sk) (x : Sk) : Int := if pchk next l = 0 then x.chk else pchk next l
def putR (next : Int) (l : List Sk) (x : Sk) : Int × List Sk × List Sk := if putE next l x = 0 then putF next l x else (0, [], [])
def flushR (next : Int) (l : List Sk) : Int × List Sk × List Sk := if pchk next l = 0 then relF 0 next l [] else (0, [], [])

theorem Keep.fresh {base K : Nat} {w : World} {next : Int} {h o : List Sk} (hk : Keep base K w next h o) :
    ∃ hv ov, w.cell? ⟨K, 0, none⟩ = some (.int .i64 next) ∧ w.cell? ⟨K, 1, none⟩ = some hv ∧ w.cell? ⟨K, 2, none⟩ = some ov ∧ Fresh base w hv h ∧ Fresh base w ov o ∧ (∃ a c, hv = .slice a h.length c) ∧ (∃ a c, ov = .slice a o.length c) := by
  obtain ⟨a, c, ov, kK, kS, kc, kB, kO, kA⟩ := hk
  obtain ⟨d0, d1, d2⟩ := kK.three
  exact ⟨_, ov, d0, d1, d2, ⟨kS, fun g hg => by obtain ⟨h1, cur, h2⟩ := kB g hg; exact ⟨h1, h2.lt⟩⟩, ⟨Sls.of_owns kO, kO.lt⟩, ⟨a, c, rfl⟩, (Sls.of_owns kO).len⟩

set_option maxHeartbeats 2000000 in
theorem bufPut_no (next : Int) (v : Value) (l : List Sk) (x : Sk) (w : World) (hv : Sls w v l) (hlen : l.length ≤ 9223372036854775807) (hE : ¬ putE next l x = 0) :
    Calls Tryz.prog 113 #[.agg #[.int .i64 next, v], x.val] w fun e w' => e = .returned (.tuple #[.agg #[.int .i64 0, .slice none 0 0], .slice none 0 0, .int .i64 (putE next l x)]) ∧ Below w.heap.size w w' := by
  obtain ⟨a, c, hva⟩ := hv.len
  obtain ⟨n, hn⟩ : ∃ n, n = l.length := ⟨_, rfl⟩
  rw [← hn] at hva
  obtain ⟨E, hEE⟩ : ∃ E, E = putE next l x := ⟨_, rfl⟩
  rw [← hEE] at hE ⊢
  have HE : Hid (E = putE next l x) := hEE
  have HV : Hid (Sls w v l) := hv
  have HC : Hid (∀ w' : World, Sls w' v l → Calls Tryz.prog 81 #[.agg #[.int .i64 next, v]] w' fun e w'' => e = .returned (.int .i64 (pchk next l)) ∧ Below w'.heap.size w' w'') := fun w' hs => bufCheck_any next v l w' hs hlen
  obtain ⟨pc, hpc⟩ : ∃ pc, pc = pchk next l := ⟨_, rfl⟩
  rw [← hpc] at HC
  have HP : Hid (pc = pchk next l) := hpc
  clear hv hn hEE hpc
  subst hva
  have hsc := slotCheck_any x
  obtain ⟨xc, hxc⟩ : ∃ xc, xc = x.chk := ⟨_, rfl⟩
  rw [← hxc] at hsc
  have HX : Hid (xc = x.chk) := hxc
  have HS : Hid _ := hsc
  clear hsc hxc
  by_cases hp : pc = 0
  · have hEx : E = xc := by rw [HE.out, HX.out]; unfold putE; rw [if_pos (by rw [← HP.out]; exact hp)]
    subst hp
    subst hEx
    obtain ⟨xn, seq, time, xf, xe, xk, xt⟩ := x
    simp only [Sk.val] at HS ⊢
    go_enter Tryz.func113, Tryz.ntmps113
    go_wp2_with fail
    refine (HC.out _ (((HV.out.alloc _).alloc _).alloc _)).mono ?_
    rintro e w1 ⟨rfl, hb1⟩
    obtain ⟨kb, kx, kr, bb, hs1⟩ := blocks3 hb1
    have KR : Hid _ := kr
    have B1 : Hid _ := bb
    obtain ⟨e0, e1, e2, e3, e4, e5, e6⟩ := kx.seven
    clear hb1 kb kx kr bb
    go_wp2_with fail
    refine (HS.out _).mono ?_
    rintro e w2 ⟨rfl, hb2⟩
    have kr := Blk.below KR.out hb2 (Blk.lt KR.out)
    have BB : Hid (Below w.heap.size w w2) := B1.out.trans (hb2.mono B1.out.size)
    obtain ⟨r0, r1⟩ := kr.two
    have rf := kr.free
    clear hb2 kr KR B1 e0 e1 e2 e3 e4 e5 e6
    go_wp2
    exact bodyPost_ret (v := .tuple #[.agg #[.int .i64 0, .slice none 0 0], .slice none 0 0, .int .i64 E]) (by simp [results, Tryz.results113, go_sem, r0, r1]) rfl ⟨rfl, by
      have h := BB.out
      exact (h.setCell (by simp; omega) _).setCell (by simp; omega) _⟩
  · have hEp : E = pc := by rw [HE.out, HP.out]; unfold putE; rw [if_neg (by rw [← HP.out]; exact hp)]
    subst hEp
    obtain ⟨xn, seq, time, xf, xe, xk, xt⟩ := x
    simp only [Sk.val]
    go_enter Tryz.func113, Tryz.ntmps113
    go_wp2_with fail
    refine (HC.out _ (((HV.out.alloc _).alloc _).alloc _)).mono ?_
    rintro e w1 ⟨rfl, hb1⟩
    obtain ⟨kb, kx, kr, bb, hs1⟩ := blocks3 hb1
    obtain ⟨r0, r1⟩ := kr.two
    have rf := kr.free
    have BB : Hid _ := bb
    clear hb1 kb kx kr bb
    go_wp2
    exact bodyPost_ret (v := .tuple #[.agg #[.int .i64 0, .slice none 0 0], .slice none 0 0, .int .i64 E]) (by simp [results, Tryz.results113, go_sem, r0, r1]) rfl ⟨rfl, by
      have h := BB.out
      exact (h.setCell (by simp; omega) _).setCell (by simp; omega) _⟩

set_option maxHeartbeats 2000000 in
set_option maxRecDepth 100000 in
theorem bufPut_ok (next : Int) (v : Value) (l : List Sk) (x : Sk) (w : World) (hv : Sls w v l) (hR : Right next l) (hx : x.chk = 0) :
    Calls Tryz.prog 113 #[.agg #[.int .i64 next, v], x.val] w fun e w' => ∃ hv' ov', e = .returned (.tuple #[.agg #[.int .i64 (putF next l x).1, hv'], ov', .int .i64 0]) ∧
      Fresh w.heap.size w' hv' (putF next l x).2.1 ∧ Fresh w.heap.size w' ov' (putF next l x).2.2 ∧ Below w.heap.size w w' := by
  obtain ⟨a, c, hva⟩ := hv.len
  have hl4 : l.length ≤ 4 := hR.2.1
  have hpc : pchk next l = 0 := (pchk_right next l).2 hR
  have HV : Hid (Sls w v l) := hv
  have HC : Hid (∀ w' : World, Sls w' v l → Calls Tryz.prog 81 #[.agg #[.int .i64 next, v]] w' fun e w'' => e = .returned (.int .i64 0) ∧ Below w'.heap.size w' w'') := fun w' hs => by rw [← hpc]; exact bufCheck_any next v l w' hs (by omega)
  have HS : Hid (∀ w' : World, Calls Tryz.prog 91 #[x.val] w' fun e w'' => e = .returned (.int .i64 0) ∧ Below w'.heap.size w' w'') := fun w' => by rw [← hx]; exact slotCheck_any x w'
  have HKp : Hid (∀ w' : World, Sls w' v l → Calls Tryz.prog 159 #[.agg #[.int .i64 next, v]] w' fun e w'' => ∃ u, e = .returned (.agg #[.int .i64 next, u, .slice none 0 0]) ∧ w''.ownsRow w'.heap.size 91 7 u l.length (skCells l) ∧ Below w'.heap.size w' w'') := fun w' hs => keep_any next v l w' hs (by omega) (fun y hy => Sk.chk_short (hR.2.2.1 y hy))
  have HCo : Hid (∀ w' : World, Calls Tryz.prog 94 #[x.val] w' fun e w'' => e = .returned x.val ∧ Below w'.heap.size w' w'') := fun w' => slotCopy_any x w' (Sk.chk_short hx)
  have HPu : Hid (∀ (K base : Nat) (hv' : Value) (w' : World), Blk w' K #[.int .i64 next, hv', .slice none 0 0] 219 → w'.ownsRow base 91 7 hv' l.length (skCells l) → base ≤ w'.heap.size → base ≤ K →
      Calls Tryz.prog 160 #[.pointer (some ⟨K, 0, none⟩), x.val] w' fun e w'' => e = .returned (.tuple #[]) ∧ Keep base K w'' (putF next l x).1 (putF next l x).2.1 (putF next l x).2.2 ∧ Below base w' w'') := fun K base hv' w' h1 h2 h3 h4 =>
    put_any base K next hv' l x w' h1 h2 h3 h4 (fun y hy => by have := Sk.chk_zero (hR.2.2.1 y hy); omega) (by have := Sk.chk_zero hx; omega) (by rcases hR.1 with ⟨h, _⟩ | h <;> omega) (by omega)
  obtain ⟨n, hn⟩ : ∃ n, n = l.length := ⟨_, rfl⟩
  rw [← hn] at hva
  rw [← hn] at HKp HPu
  obtain ⟨R, hRR⟩ : ∃ R, R = putF next l x := ⟨_, rfl⟩
  rw [← hRR] at HPu ⊢
  clear hv hn hpc hR hRR hx hl4
  subst hva
  obtain ⟨xn, seq, time, xf, xe, xk, xt⟩ := x
  simp only [Sk.val] at HS HCo HPu ⊢
  go_enter Tryz.func113, Tryz.ntmps113
  go_wp2_with fail
  refine (HC.out _ (((HV.out.alloc _).alloc _).alloc _)).mono ?_
  rintro e w1 ⟨rfl, hb1⟩
  obtain ⟨kb, kx, kr, bb, hs1⟩ := blocks3 hb1
  have v1 : Hid (Sls w1 (.slice a n c) l) := (((HV.out.alloc _).alloc _).alloc _).below hb1
  have KB1 : Hid _ := kb
  have KX1 : Hid _ := kx
  have KR1 : Hid _ := kr
  have B1 : Hid _ := bb
  obtain ⟨e0, e1, e2, e3, e4, e5, e6⟩ := kx.seven
  clear hb1 kb kx kr bb HC HV
  go_wp2_with fail
  refine (HS.out _).mono ?_
  rintro e w2 ⟨rfl, hb2⟩
  have KB2 : Hid _ := Blk.below KB1.out hb2 (Blk.lt KB1.out)
  have KX2 : Hid _ := Blk.below KX1.out hb2 (Blk.lt KX1.out)
  have KR2 : Hid _ := Blk.below KR1.out hb2 (Blk.lt KR1.out)
  have v2 : Hid (Sls w2 (.slice a n c) l) := v1.out.below hb2
  have B2 : Hid (Below w.heap.size w w2) := B1.out.trans (hb2.mono B1.out.size)
  obtain ⟨f0, f1⟩ := Blk.two KB2.out
  clear hb2 KB1 KX1 KR1 B1 v1 e0 e1 e2 e3 e4 e5 e6 HS
  go_wp2_with fail
  refine (HKp.out _ v2.out).mono ?_
  rintro e w3 ⟨u, rfl, ho3, hb3⟩
  obtain ⟨a', c', hu⟩ := Sl.len (Sl.of_owns ho3)
  have KX3 : Hid _ := Blk.below KX2.out hb3 (Blk.lt KX2.out)
  have KR3 : Hid _ := Blk.below KR2.out hb3 (Blk.lt KR2.out)
  have B3 : Hid (Below w.heap.size w w3) := B2.out.trans (hb3.mono B2.out.size)
  obtain ⟨e0, e1, e2, e3, e4, e5, e6⟩ := Blk.seven KX3.out
  have hle3 := hb3.size
  have hr2 := Blk.lt KR2.out
  subst hu
  have HO3 : Hid (w3.ownsRow w2.heap.size 91 7 (.slice a' n c') n (skCells l)) := ho3
  clear hb3 ho3 f0 f1 v2 KB2 KX2 HKp
  have lt3 : w.heap.size + 1 < w3.heap.size := by omega
  go_wp2_with fail
  refine (HCo.out _).mono ?_
  rintro e w4 ⟨rfl, hb4⟩
  have k4 := Blk.below (Blk.new w3 #[.int .i64 next, .slice a' n c', .slice none 0 0] 219) hb4 (by simp)
  have KR4 : Hid _ := Blk.below (Blk.alloc KR3.out (.cells #[.int .i64 next, .slice a' n c', .slice none 0 0] 219)) hb4 (by have := Blk.lt KR3.out; simp; omega)
  have ho4 := owns_below (HO3.out.alloc (.cells #[.int .i64 next, .slice a' n c', .slice none 0 0] 219)) hb4 (Nat.le_refl _)
  have hs4 := hb4.size
  simp only [World.size_alloc] at hs4
  have B4 : Hid (Below w.heap.size w w4) := (B3.out.alloc B3.out.size _).trans (hb4.mono (by have := B3.out.size; simp; omega))
  clear hb4 KX3 KR3 B3 HO3 e0 e1 e2 e3 e4 e5 e6 HCo
  go_wp2_with fail
  refine (HPu.out w3.heap.size w2.heap.size _ w4 k4 ho4 (by omega) (by omega)).mono ?_
  rintro e w5 ⟨rfl, hk5, hb5⟩
  have kr5 := Blk.below KR4.out hb5 hr2
  obtain ⟨hv', ov', g0, g1, g2, F1, F2, ⟨ah, ch, eh⟩, ⟨ao, co, eo⟩⟩ := hk5.fresh
  obtain ⟨r0, r1⟩ := Blk.two kr5
  have rf := Blk.free kr5
  have hr5 := Blk.lt kr5
  have B5 : Hid (Below w.heap.size w w5) := B4.out.trans (hb5.mono (by have := B2.out.size; omega))
  have hw2 : w.heap.size ≤ w2.heap.size := B2.out.size
  subst eh
  subst eo
  have G1 : Hid (Fresh w2.heap.size w5 (.slice ah R.2.1.length ch) R.2.1) := F1
  have G2 : Hid (Fresh w2.heap.size w5 (.slice ao R.2.2.length co) R.2.2) := F2
  clear hk5 hb5 kr5 k4 ho4 KR4 B4 F1 F2 HPu
  go_wp2_with fail
  have hne5 : ¬ w3.heap.size = w.heap.size + 1 + 1 := by omega
  go_region
  all_goals
    go_wp2
    refine bodyPost_ret (v := .tuple #[.agg #[.int .i64 R.1, .slice ah R.2.1.length ch], .slice ao R.2.2.length co, .int .i64 0]) (by simp [results, Tryz.results113, go_sem, r0, r1]) rfl ⟨_, _, rfl, ?_, ?_, ?_⟩
    · exact ((G1.out.set (by exact hr2) _).set (by exact hr2) _).base hw2
    · exact ((G2.out.set (by exact hr2) _).set (by exact hr2) _).base hw2
    · exact ((B5.out.setCell (by simp; omega) _).setCell (by simp; omega) _).drew

set_option maxHeartbeats 2000000 in
theorem bufFlush_no (next : Int) (v : Value) (l : List Sk) (w : World) (hv : Sls w v l) (hlen : l.length ≤ 9223372036854775807) (hE : ¬ pchk next l = 0) :
    Calls Tryz.prog 114 #[.agg #[.int .i64 next, v]] w fun e w' => e = .returned (.tuple #[.agg #[.int .i64 0, .slice none 0 0], .slice none 0 0, .int .i64 (pchk next l)]) ∧ Below w.heap.size w w' := by
  obtain ⟨a, c, hva⟩ := hv.len
  obtain ⟨n, hn⟩ : ∃ n, n = l.length := ⟨_, rfl⟩
  rw [← hn] at hva
  have HV : Hid (Sls w v l) := hv
  have HC : Hid (∀ w' : World, Sls w' v l → Calls Tryz.prog 81 #[.agg #[.int .i64 next, v]] w' fun e w'' => e = .returned (.int .i64 (pchk next l)) ∧ Below w'.heap.size w' w'') := fun w' hs => bufCheck_any next v l w' hs hlen
  obtain ⟨E, hpc⟩ : ∃ pc, pc = pchk next l := ⟨_, rfl⟩
  rw [← hpc] at HC hE ⊢
  clear hv hn hpc
  subst hva
  go_enter Tryz.func114, Tryz.ntmps114
  go_wp2_with fail
  refine (HC.out _ ((HV.out.alloc _).alloc _)).mono ?_
  rintro e w1 ⟨rfl, hb1⟩
  obtain ⟨kb, kr, bb, hs1⟩ := blocks2 hb1
  obtain ⟨r0, r1⟩ := kr.two
  have rf := kr.free
  have BB : Hid _ := bb
  clear hb1 kb kr bb
  go_wp2
  exact bodyPost_ret (v := .tuple #[.agg #[.int .i64 0, .slice none 0 0], .slice none 0 0, .int .i64 E]) (by simp [results, Tryz.results114, go_sem, r0, r1]) rfl ⟨rfl, by
    have h := BB.out
    exact (h.setCell (by simp) _).setCell (by simp) _⟩

set_option maxHeartbeats 2000000 in
set_option maxRecDepth 100000 in
theorem bufFlush_ok (next : Int) (v : Value) (l : List Sk) (w : World) (hv : Sls w v l) (hR : Right next l) :
    Calls Tryz.prog 114 #[.agg #[.int .i64 next, v]] w fun e w' => ∃ hv' ov', e = .returned (.tuple #[.agg #[.int .i64 (relF 0 next l []).1, hv'], ov', .int .i64 0]) ∧
      Fresh w.heap.size w' hv' (relF 0 next l []).2.1 ∧ Fresh w.heap.size w' ov' (relF 0 next l []).2.2 ∧ Below w.heap.size w w' := by
  obtain ⟨a, c, hva⟩ := hv.len
  have hl4 : l.length ≤ 4 := hR.2.1
  have hpc : pchk next l = 0 := (pchk_right next l).2 hR
  have HV : Hid (Sls w v l) := hv
  have HC : Hid (∀ w' : World, Sls w' v l → Calls Tryz.prog 81 #[.agg #[.int .i64 next, v]] w' fun e w'' => e = .returned (.int .i64 0) ∧ Below w'.heap.size w' w'') := fun w' hs => by rw [← hpc]; exact bufCheck_any next v l w' hs (by omega)
  have HKp : Hid (∀ w' : World, Sls w' v l → Calls Tryz.prog 159 #[.agg #[.int .i64 next, v]] w' fun e w'' => ∃ u, e = .returned (.agg #[.int .i64 next, u, .slice none 0 0]) ∧ w''.ownsRow w'.heap.size 91 7 u l.length (skCells l) ∧ Below w'.heap.size w' w'') := fun w' hs => keep_any next v l w' hs (by omega) (fun y hy => Sk.chk_short (hR.2.2.1 y hy))
  have HPu : Hid (∀ (K base : Nat) (hv' : Value) (w' : World), Blk w' K #[.int .i64 next, hv', .slice none 0 0] 219 → w'.ownsRow base 91 7 hv' l.length (skCells l) → base ≤ K →
      Calls Tryz.prog 161 #[.pointer (some ⟨K, 0, none⟩), .int .i64 0] w' fun e w'' => e = .returned (.tuple #[]) ∧ Keep base K w'' (relF 0 next l []).1 (relF 0 next l []).2.1 (relF 0 next l []).2.2 ∧ Below base w' w'') := fun K base hv' w' h1 h2 h4 => by
    rw [← give_zero l.length l next [] (Nat.le_refl _)]
    exact giveUpTo_any base K 0 next l [] w' (Keep.of_owns h1 h2) h4 (fun y hy => by have := Sk.chk_zero (hR.2.2.1 y hy); omega) (by rcases hR.1 with ⟨h, _⟩ | h <;> omega) (by simp; omega)
  obtain ⟨n, hn⟩ : ∃ n, n = l.length := ⟨_, rfl⟩
  rw [← hn] at hva
  rw [← hn] at HKp HPu
  obtain ⟨R, hRR⟩ : ∃ R, R = relF 0 next l [] := ⟨_, rfl⟩
  rw [← hRR] at HPu ⊢
  clear hv hn hpc hR hRR hl4
  subst hva
  go_enter Tryz.func114, Tryz.ntmps114
  go_wp2_with fail
  refine (HC.out _ ((HV.out.alloc _).alloc _)).mono ?_
  rintro e w2 ⟨rfl, hb2⟩
  obtain ⟨kb, kr, bb, hs1⟩ := blocks2 hb2
  have v2 : Hid (Sls w2 (.slice a n c) l) := ((HV.out.alloc _).alloc _).below hb2
  have KR2 : Hid _ := kr
  have B2 : Hid _ := bb
  obtain ⟨f0, f1⟩ := kb.two
  clear hb2 kb kr bb HC HV
  go_wp2_with fail
  refine (HKp.out _ v2.out).mono ?_
  rintro e w3 ⟨u, rfl, ho3, hb3⟩
  obtain ⟨a', c', hu⟩ := Sl.len (Sl.of_owns ho3)
  have KR3 : Hid _ := Blk.below KR2.out hb3 (Blk.lt KR2.out)
  have B3 : Hid (Below w.heap.size w w3) := B2.out.trans (hb3.mono B2.out.size)
  have hle3 := hb3.size
  have hr2 := Blk.lt KR2.out
  subst hu
  have HO3 : Hid (w3.ownsRow w2.heap.size 91 7 (.slice a' n c') n (skCells l)) := ho3
  clear hb3 ho3 f0 f1 v2 HKp
  go_wp2_with fail
  refine (HPu.out w3.heap.size w2.heap.size _ _ (Blk.new w3 _ _) (HO3.out.alloc _) (by omega)).mono ?_
  rintro e w5 ⟨rfl, hk5, hb5⟩
  have kr5 := Blk.below (Blk.alloc KR3.out (.cells #[.int .i64 next, .slice a' n c', .slice none 0 0] 219)) hb5 hr2
  obtain ⟨hv', ov', g0, g1, g2, F1, F2, ⟨ah, ch, eh⟩, ⟨ao, co, eo⟩⟩ := hk5.fresh
  obtain ⟨r0, r1⟩ := Blk.two kr5
  have rf := Blk.free kr5
  have hr5 := Blk.lt kr5
  have B5 : Hid (Below w.heap.size w w5) := (B3.out.alloc B3.out.size _).trans (hb5.mono (by have := B2.out.size; omega))
  have hw2 : w.heap.size ≤ w2.heap.size := B2.out.size
  subst eh
  subst eo
  have G1 : Hid (Fresh w2.heap.size w5 (.slice ah R.2.1.length ch) R.2.1) := F1
  have G2 : Hid (Fresh w2.heap.size w5 (.slice ao R.2.2.length co) R.2.2) := F2
  clear hk5 hb5 kr5 F1 F2 HPu KR3 B3 HO3
  go_wp2_with fail
  have hne5 : ¬ w3.heap.size = w.heap.size + 1 := by omega
  go_region
  all_goals
    go_wp2
    refine bodyPost_ret (v := .tuple #[.agg #[.int .i64 R.1, .slice ah R.2.1.length ch], .slice ao R.2.2.length co, .int .i64 0]) (by simp [results, Tryz.results114, go_sem, r0, r1]) rfl ⟨_, _, rfl, ?_, ?_, ?_⟩
    · exact ((G1.out.set (by exact hr2) _).set (by exact hr2) _).base hw2
    · exact ((G2.out.set (by exact hr2) _).set (by exact hr2) _).base hw2
    · exact ((B5.out.setCell (by simp) _).setCell (by simp) _).drew

end Go.Proofs.YtnpaejknoipicafGreat
