/-
  Plain facts on builders that are right, and on the frame that a slot makes whole.
-/
import Derived.Test.YtnpaejknoipicagGreatMgDeskSees2
import Derived.Lib.QuietBelow
import Derived.Test.YtnpaejknoipicagGreatMgDeskSees1
import Derived.BigQuiet
import Derived.Deep.LoopGhost
import Derived.Deep.QuietTactic

namespace Go.Proofs.YtnpaejknoipicagGreat
open Go.RowKit Go.Sort

/-- what comes of a slot that is put -/
def putF (next : Int) (h : List Sk) (x : Sk) : Int × List Sk × List Sk :=
  if x.n < (if next = 0 then x.n else next) then ((if next = 0 then x.n else next), h, [])
  else if (h.any fun y => y.n == x.n) then ((if next = 0 then x.n else next), h, [])
  else relF 4 (if next = 0 then x.n else next) (insF h x) []

theorem nums_ins {h : List Sk} {x : Sk} (hn : Nums h) (hx : 65536 ≤ x.n ∧ x.n ≤ 1000000000) : Nums (insF h x) := fun y hy => by
  simp only [insF, putAt, List.mem_append, List.mem_cons] at hy
  rcases hy with hy | rfl | hy
  · exact hn y (List.mem_of_mem_take hy)
  · exact hx
  · exact hn y (List.mem_of_mem_drop hy)

set_option maxHeartbeats 2000000 in
set_option maxRecDepth 100000 in
theorem put_any (base K : Nat) (next : Int) (hv : Value) (h : List Sk) (x : Sk) (w : World) (hK : Blk w K #[.int .i64 next, hv, .slice none 0 0] 194) (hown : w.ownsRow base 106 7 hv h.length (skCells h)) (hbase : base ≤ w.heap.size) (hbK : base ≤ K)
    (hnums : Nums h) (hx : 65536 ≤ x.n ∧ x.n ≤ 1000000000) (hn0 : next = 0 ∨ 65536 ≤ next ∧ next ≤ 1000000001) (hlen : h.length ≤ 50) :
    Calls Tryz.prog 143 #[.pointer (some ⟨K, 0, none⟩), x.val] w fun e w' => e = .returned (.tuple #[]) ∧ Keep base K w' (putF next h x).1 (putF next h x).2.1 (putF next h x).2.2 ∧ Below base w w' := by
  obtain ⟨c0, c1, c2⟩ := hK.three
  have hKw := hK.lt
  have hfr := hK.free 0
  have HK : Hid (Blk w K #[.int .i64 next, hv, .slice none 0 0] 194) := hK
  have HO : Hid (w.ownsRow base 106 7 hv h.length (skCells h)) := hown
  obtain ⟨t, ht⟩ : ∃ t, t = h.any fun y => y.n == x.n := ⟨_, rfl⟩
  obtain ⟨R, hR⟩ : ∃ R, R = putF next h x := ⟨_, rfl⟩
  rw [← hR]
  have HR : Hid (R = putF next h x) := hR
  have HT : Hid (t = h.any fun y => y.n == x.n) := ht
  clear hK hown hR ht
  simp only [Sk.val]
  by_cases h0 : next = 0
  · subst h0
    go_enter Tryz.func143, Tryz.ntmps143
    go_wp2
    obtain ⟨W, hW⟩ : ∃ W, W = (w.setCell ⟨K, 0, none⟩ (.int .i64 x.n)).alloc (.cells #[.int .i64 x.n, .int .i64 x.p.seq, .int .i64 x.p.time, .bool x.p.f, .bool x.p.e, .bool x.p.k, .string x.p.t] 106) := ⟨_, rfl⟩
    have kW : Blk W K #[.int .i64 x.n, hv, .slice none 0 0] 194 := by rw [hW]; exact (HK.out.set 0 _).alloc _
    have xW : Blk W w.heap.size x.cells 106 := by rw [hW]; exact by have := Blk.new (w.setCell ⟨K, 0, none⟩ (.int .i64 x.n)) x.cells 106; simp only [World.size_setCell] at this; exact this
    have oW : W.ownsRow base 106 7 hv h.length (skCells h) := by rw [hW]; exact (hold_own HO.out HK.out rfl).alloc _
    have bW : Below base w W := by rw [hW]; exact ((Below.refl base w).setCell (by exact hbK) _).alloc (by simp; omega) _
    rw [← hW]
    clear hW
    obtain ⟨d0, d1, d2⟩ := kW.three
    obtain ⟨e0, e1, e2, e3, e4, e5, e6⟩ := xW.seven
    have r0 := cell_regrown d0
    have s0 := cell_regrown e0
    have cH : ∀ d os, Calls Tryz.prog 162 #[.pointer (some ⟨K, 0, none⟩), .int .i64 x.n] (grow (redrawn W d) os) fun e w'' => e = .returned (.bool t) ∧ ∃ p : Regrown, w'' = grow (redrawn W p.d) p.os := fun d os =>
      Calls.regrown_of (by rw [HT.out]; exact holds_any K x.n hv (.slice none 0 0) h x.n _ (kW.below (below_regrown W d os) kW.lt) ((Sls.of_owns oW).below (below_regrown W d os)) (by omega))
    have KW : Hid (Blk W K #[.int .i64 x.n, hv, .slice none 0 0] 194) := kW
    have XW : Hid (Blk W w.heap.size x.cells 106) := xW
    have OW : Hid (W.ownsRow base 106 7 hv h.length (skCells h)) := oW
    have BW : Hid (Below base w W) := bW
    clear kW xW oW bW d0 d1 d2 e0 e1 e2 e3 e4 e5 e6 c0 c1 c2
    refine wp_region_quiet_below (by kernel_rfl) (by kernel_rfl) ?_
    repeat (quiet_step (exact cH _ _))
    refine wpQuiet_nil ?_
    intro _ hw'
    obtain ⟨⟨dq, osq⟩, hw''⟩ := hw'
    subst hw''
    have bR := below_regrown W dq osq
    obtain ⟨V, hV⟩ : ∃ V, V = grow (redrawn W dq) osq := ⟨_, rfl⟩
    rw [← hV] at bR
    have kV := KW.out.below bR KW.out.lt
    have xV := XW.out.below bR XW.out.lt
    have oV := owns_below OW.out bR (Nat.le_refl _)
    have bV : Below base w V := BW.out.trans (bR.mono (by have := BW.out.size; omega))
    rw [← hV]
    clear hV bR KW XW OW BW r0 s0 cH
    cases t
    · obtain ⟨e0, e1, e2, e3, e4, e5, e6⟩ := xV.seven
      have hR2 : R = relF 4 x.n (insF h x) [] := by rw [HR.out]; unfold putF; rw [if_pos rfl]; rw [if_neg (by omega), if_neg (by rw [← HT.out]; decide)]
      have hgl := give_let 4 (insF h x).length (insF h x) (Nat.le_refl _) (letF x.n (insF h x) []).2.1.length x.n []
      have hil := insF_len h x
      have KV : Hid _ := kV
      have BV : Hid _ := bV
      have OV : Hid _ := oV
      clear kV xV oV bV
      go_wp2_with fail
      refine (hold_any base K x.n hv (.slice none 0 0) h x V KV.out OV.out (by omega) (by have := BV.out.size; omega) hbK).mono ?_
      rintro e w2 ⟨rfl, hv2, k2, o2, b2⟩
      have K2 : Hid (Keep base K w2 x.n (insF h x) []) := Keep.of_owns k2 (by rw [hil]; exact o2)
      clear k2 o2 e0 e1 e2 e3 e4 e5 e6
      go_wp2_with fail
      have f3 := letF_facts (insF h x) x.n [] (nums_ins hnums hx) (by omega)
      refine (letOut_any base K x.n (insF h x) [] w2 K2.out hbK (nums_ins hnums hx) (by omega) (by rw [hil]; simp; omega)).mono ?_
      rintro e w3 ⟨rfl, k3, b3⟩
      have K3 : Hid _ := k3
      clear k3
      go_wp2_with fail
      refine (giveUpTo_any base K 4 _ _ _ w3 K3.out hbK f3.1 f3.2.1 (by rw [f3.2.2, hil]; simp; omega)).mono ?_
      rintro e w4 ⟨rfl, k4, b4⟩
      rw [hgl (Nat.le_refl _)] at k4
      go_wp2
      go_end0
      rw [hR2]
      exact ⟨rfl, k4, ((BV.out.trans b2).trans b3).trans b4⟩
    · have hR2 : R = (x.n, h, []) := by rw [HR.out]; unfold putF; rw [if_pos rfl]; rw [if_neg (by omega), if_pos (by rw [← HT.out])]
      have KV : Hid (Keep base K V x.n h []) := Keep.of_owns kV oV
      have BV : Hid _ := bV
      clear kV xV oV bV
      go_wp2
      refine bodyPost_ret (results_none rfl _ _ _) rfl ?_
      rw [hR2]
      exact ⟨rfl, KV.out, BV.out⟩
  · have hne : (next == 0) = false := by simpa using h0
    by_cases hlt : x.n < next
    · have hR2 : R = (next, h, []) := by rw [HR.out]; unfold putF; rw [if_neg h0, if_pos hlt]
      have hd : decide (x.n < next) = true := decide_eq_true hlt
      have HH : Hid (Keep base K w next h []) := Keep.of_owns HK.out HO.out
      go_enter Tryz.func143, Tryz.ntmps143
      go_wp2
      go_quiet (fail)
      go_wp2
      refine bodyPost_ret (results_none rfl _ _ _) rfl ?_
      rw [hR2]
      exact ⟨rfl, (Keep.of_owns (HK.out.alloc _) (HO.out.alloc _)).drewN nq, below_drewN ((Below.refl base w).alloc hbase _) nq⟩
    · have hd : decide (x.n < next) = false := decide_eq_false hlt
      go_enter Tryz.func143, Tryz.ntmps143
      go_wp2
      obtain ⟨W, hW⟩ : ∃ W, W = w.alloc (.cells #[.int .i64 x.n, .int .i64 x.p.seq, .int .i64 x.p.time, .bool x.p.f, .bool x.p.e, .bool x.p.k, .string x.p.t] 106) := ⟨_, rfl⟩
      have kW : Blk W K #[.int .i64 next, hv, .slice none 0 0] 194 := by rw [hW]; exact HK.out.alloc _
      have xW : Blk W w.heap.size x.cells 106 := by rw [hW]; exact Blk.new w _ _
      have oW : W.ownsRow base 106 7 hv h.length (skCells h) := by rw [hW]; exact HO.out.alloc _
      have bW : Below base w W := by rw [hW]; exact (Below.refl base w).alloc hbase _
      rw [← hW]
      clear hW
      obtain ⟨d0, d1, d2⟩ := kW.three
      obtain ⟨e0, e1, e2, e3, e4, e5, e6⟩ := xW.seven
      have r0 := cell_regrown d0
      have s0 := cell_regrown e0
      have cH : ∀ d os, Calls Tryz.prog 162 #[.pointer (some ⟨K, 0, none⟩), .int .i64 x.n] (grow (redrawn W d) os) fun e w'' => e = .returned (.bool t) ∧ ∃ p : Regrown, w'' = grow (redrawn W p.d) p.os := fun d os =>
        Calls.regrown_of (by rw [HT.out]; exact holds_any K next hv (.slice none 0 0) h x.n _ (kW.below (below_regrown W d os) kW.lt) ((Sls.of_owns oW).below (below_regrown W d os)) (by omega))
      have KW : Hid (Blk W K #[.int .i64 next, hv, .slice none 0 0] 194) := kW
      have XW : Hid (Blk W w.heap.size x.cells 106) := xW
      have OW : Hid (W.ownsRow base 106 7 hv h.length (skCells h)) := oW
      have BW : Hid (Below base w W) := bW
      clear kW xW oW bW d0 d1 d2 e0 e1 e2 e3 e4 e5 e6 c0 c1 c2
      refine wp_region_quiet_below (by kernel_rfl) (by kernel_rfl) ?_
      repeat (quiet_step (exact cH _ _))
      refine wpQuiet_nil ?_
      intro _ hw'
      obtain ⟨⟨dq, osq⟩, hw''⟩ := hw'
      subst hw''
      have bR := below_regrown W dq osq
      obtain ⟨V, hV⟩ : ∃ V, V = grow (redrawn W dq) osq := ⟨_, rfl⟩
      rw [← hV] at bR
      have kV := KW.out.below bR KW.out.lt
      have xV := XW.out.below bR XW.out.lt
      have oV := owns_below OW.out bR (Nat.le_refl _)
      have bV : Below base w V := BW.out.trans (bR.mono (by have := BW.out.size; omega))
      rw [← hV]
      clear hV bR KW XW OW BW r0 s0 cH
      cases t
      · obtain ⟨e0, e1, e2, e3, e4, e5, e6⟩ := xV.seven
        have hR2 : R = relF 4 next (insF h x) [] := by rw [HR.out]; unfold putF; rw [if_neg h0]; rw [if_neg (by omega), if_neg (by rw [← HT.out]; decide)]
        have hgl := give_let 4 (insF h x).length (insF h x) (Nat.le_refl _) (letF next (insF h x) []).2.1.length next []
        have hil := insF_len h x
        have KV : Hid _ := kV
        have BV : Hid _ := bV
        have OV : Hid _ := oV
        clear kV xV oV bV
        go_wp2_with fail
        refine (hold_any base K next hv (.slice none 0 0) h x V KV.out OV.out (by omega) (by have := BV.out.size; omega) hbK).mono ?_
        rintro e w2 ⟨rfl, hv2, k2, o2, b2⟩
        have K2 : Hid (Keep base K w2 next (insF h x) []) := Keep.of_owns k2 (by rw [hil]; exact o2)
        clear k2 o2 e0 e1 e2 e3 e4 e5 e6
        go_wp2_with fail
        have f3 := letF_facts (insF h x) next [] (nums_ins hnums hx) (by omega)
        refine (letOut_any base K next (insF h x) [] w2 K2.out hbK (nums_ins hnums hx) (by omega) (by rw [hil]; simp; omega)).mono ?_
        rintro e w3 ⟨rfl, k3, b3⟩
        have K3 : Hid _ := k3
        clear k3
        go_wp2_with fail
        refine (giveUpTo_any base K 4 _ _ _ w3 K3.out hbK f3.1 f3.2.1 (by rw [f3.2.2, hil]; simp; omega)).mono ?_
        rintro e w4 ⟨rfl, k4, b4⟩
        rw [hgl (Nat.le_refl _)] at k4
        go_wp2
        go_end0
        rw [hR2]
        exact ⟨rfl, k4, ((BV.out.trans b2).trans b3).trans b4⟩
      · have hR2 : R = (next, h, []) := by rw [HR.out]; unfold putF; rw [if_neg h0]; rw [if_neg (by omega), if_pos (by rw [← HT.out])]
        have KV : Hid (Keep base K V next h []) := Keep.of_owns kV oV
        have BV : Hid _ := bV
        clear kV xV oV bV
        go_wp2
        refine bodyPost_ret (results_none rfl _ _ _) rfl ?_
        rw [hR2]
        exact ⟨rfl, KV.out, BV.out⟩

end Go.Proofs.YtnpaejknoipicagGreat

namespace Go.Proofs.YtnpaejknoipicagGreat
open Go.RowKit

/-- the errno of Put, and what comes of it -/
def putE (next : Int) (l : List Sk) (x : Sk) : Int := if pchk next l = 0 then x.chk else pchk next l
def putR (next : Int) (l : List Sk) (x : Sk) : Int × List Sk × List Sk := if putE next l x = 0 then putF next l x else (0, [], [])
theorem Keep.fresh {base K : Nat} {w : World} {next : Int} {h o : List Sk} (hk : Keep base K w next h o) :
    ∃ hv ov, w.cell? ⟨K, 0, none⟩ = some (.int .i64 next) ∧ w.cell? ⟨K, 1, none⟩ = some hv ∧ w.cell? ⟨K, 2, none⟩ = some ov ∧ Fresh base w hv h ∧ Fresh base w ov o ∧ (∃ a c, hv = .slice a h.length c) ∧ (∃ a c, ov = .slice a o.length c) := by
  obtain ⟨a, c, ov, kK, kS, kc, kB, kO, kA⟩ := hk
  obtain ⟨d0, d1, d2⟩ := kK.three
  exact ⟨_, ov, d0, d1, d2, ⟨kS, fun g hg => by obtain ⟨h1, cur, h2⟩ := kB g hg; exact ⟨h1, h2.lt⟩⟩, ⟨Sls.of_owns kO, kO.lt⟩, ⟨a, c, rfl⟩, (Sls.of_owns kO).len⟩

set_option maxHeartbeats 2000000 in
theorem bufPut_no (next : Int) (v : Value) (l : List Sk) (x : Sk) (w : World) (hv : Sls w v l) (hlen : l.length ≤ 9223372036854775807) (hE : ¬ putE next l x = 0) :
    Calls Tryz.prog 107 #[.agg #[.int .i64 next, v], x.val] w fun e w' => e = .returned (.tuple #[.agg #[.int .i64 0, .slice none 0 0], .slice none 0 0, .int .i64 (putE next l x)]) ∧ Below w.heap.size w w' := by
  obtain ⟨a, c, hva⟩ := hv.len
  obtain ⟨n, hn⟩ : ∃ n, n = l.length := ⟨_, rfl⟩
  rw [← hn] at hva
  obtain ⟨E, hEE⟩ : ∃ E, E = putE next l x := ⟨_, rfl⟩
  rw [← hEE] at hE ⊢
  have HE : Hid (E = putE next l x) := hEE
  have HV : Hid (Sls w v l) := hv
  have HC : Hid (∀ w' : World, Sls w' v l → Calls Tryz.prog 101 #[.agg #[.int .i64 next, v]] w' fun e w'' => e = .returned (.int .i64 (pchk next l)) ∧ Below w'.heap.size w' w'') := fun w' hs => bufCheck_any next v l w' hs hlen
  obtain ⟨pc, hpc⟩ : ∃ pc, pc = pchk next l := ⟨_, rfl⟩
  rw [← hpc] at HC
  have HP : Hid (pc = pchk next l) := hpc
  clear hv hn hEE hpc
  subst hva
  have hsc := slotCheck_any x
  obtain ⟨xc, hxc⟩ : ∃ xc, xc = x.chk := ⟨_, rfl⟩
  rw [← hxc] at hsc
  have HX : Hid (xc = x.chk) := hxc
  have HS : Hid _ := hsc
  clear hsc hxc
  by_cases hp : pc = 0
  · have hEx : E = xc := by rw [HE.out, HX.out]; unfold putE; rw [if_pos (by rw [← HP.out]; exact hp)]
    subst hp
    subst hEx
    obtain ⟨xn, seq, time, xf, xe, xk, xt⟩ := x
    simp only [Sk.val] at HS ⊢
    go_enter Tryz.func107, Tryz.ntmps107
    go_wp2_with fail
    refine (HC.out _ (((HV.out.alloc _).alloc _).alloc _)).mono ?_
    rintro e w1 ⟨rfl, hb1⟩
    obtain ⟨kb, kx, kr, bb, hs1⟩ := blocks3 hb1
    have KR : Hid _ := kr
    have B1 : Hid _ := bb
    obtain ⟨e0, e1, e2, e3, e4, e5, e6⟩ := kx.seven
    clear hb1 kb kx kr bb
    go_wp2_with fail
    refine (HS.out _).mono ?_
    rintro e w2 ⟨rfl, hb2⟩
    have kr := Blk.below KR.out hb2 (Blk.lt KR.out)
    have BB : Hid (Below w.heap.size w w2) := B1.out.trans (hb2.mono B1.out.size)
    obtain ⟨r0, r1⟩ := kr.two
    have rf := kr.free
    clear hb2 kr KR B1 e0 e1 e2 e3 e4 e5 e6
    go_wp2
    exact bodyPost_ret (v := .tuple #[.agg #[.int .i64 0, .slice none 0 0], .slice none 0 0, .int .i64 E]) (by simp [results, Tryz.results107, go_sem, r0, r1]) rfl ⟨rfl, by
      have h := BB.out
      exact (h.setCell (by simp; omega) _).setCell (by simp; omega) _⟩
  · have hEp : E = pc := by rw [HE.out, HP.out]; unfold putE; rw [if_neg (by rw [← HP.out]; exact hp)]
    subst hEp
    obtain ⟨xn, seq, time, xf, xe, xk, xt⟩ := x
    simp only [Sk.val]
    go_enter Tryz.func107, Tryz.ntmps107
    go_wp2_with fail
    refine (HC.out _ (((HV.out.alloc _).alloc _).alloc _)).mono ?_
    rintro e w1 ⟨rfl, hb1⟩
    obtain ⟨kb, kx, kr, bb, hs1⟩ := blocks3 hb1
    obtain ⟨r0, r1⟩ := kr.two
    have rf := kr.free
    have BB : Hid _ := bb
    clear hb1 kb kx kr bb
    go_wp2
    exact bodyPost_ret (v := .tuple #[.agg #[.int .i64 0, .slice none 0 0], .slice none 0 0, .int .i64 E]) (by simp [results, Tryz.results107, go_sem, r0, r1]) rfl ⟨rfl, by
      have h := BB.out
      exact (h.setCell (by simp; omega) _).setCell (by simp; omega) _⟩

set_option maxHeartbeats 2000000 in
set_option maxRecDepth 100000 in
theorem bufPut_ok (next : Int) (v : Value) (l : List Sk) (x : Sk) (w : World) (hv : Sls w v l) (hR : Right next l) (hx : x.chk = 0) :
    Calls Tryz.prog 107 #[.agg #[.int .i64 next, v], x.val] w fun e w' => ∃ hv' ov', e = .returned (.tuple #[.agg #[.int .i64 (putF next l x).1, hv'], ov', .int .i64 0]) ∧
      Fresh w.heap.size w' hv' (putF next l x).2.1 ∧ Fresh w.heap.size w' ov' (putF next l x).2.2 ∧ Below w.heap.size w w' := by
  obtain ⟨a, c, hva⟩ := hv.len
  have hl4 : l.length ≤ 4 := hR.2.1
  have hpc : pchk next l = 0 := (pchk_right next l).2 hR
  have HV : Hid (Sls w v l) := hv
  have HC : Hid (∀ w' : World, Sls w' v l → Calls Tryz.prog 101 #[.agg #[.int .i64 next, v]] w' fun e w'' => e = .returned (.int .i64 0) ∧ Below w'.heap.size w' w'') := fun w' hs => by rw [← hpc]; exact bufCheck_any next v l w' hs (by omega)
  have HS : Hid (∀ w' : World, Calls Tryz.prog 83 #[x.val] w' fun e w'' => e = .returned (.int .i64 0) ∧ Below w'.heap.size w' w'') := fun w' => by rw [← hx]; exact slotCheck_any x w'
  have HKp : Hid (∀ w' : World, Sls w' v l → Calls Tryz.prog 142 #[.agg #[.int .i64 next, v]] w' fun e w'' => ∃ u, e = .returned (.agg #[.int .i64 next, u, .slice none 0 0]) ∧ w''.ownsRow w'.heap.size 106 7 u l.length (skCells l) ∧ Below w'.heap.size w' w'') := fun w' hs => keep_any next v l w' hs (by omega) (fun y hy => Sk.chk_short (hR.2.2.1 y hy))
  have HCo : Hid (∀ w' : World, Calls Tryz.prog 85 #[x.val] w' fun e w'' => e = .returned x.val ∧ Below w'.heap.size w' w'') := fun w' => slotCopy_any x w' (Sk.chk_short hx)
  have HPu : Hid (∀ (K base : Nat) (hv' : Value) (w' : World), Blk w' K #[.int .i64 next, hv', .slice none 0 0] 194 → w'.ownsRow base 106 7 hv' l.length (skCells l) → base ≤ w'.heap.size → base ≤ K →
      Calls Tryz.prog 143 #[.pointer (some ⟨K, 0, none⟩), x.val] w' fun e w'' => e = .returned (.tuple #[]) ∧ Keep base K w'' (putF next l x).1 (putF next l x).2.1 (putF next l x).2.2 ∧ Below base w' w'') := fun K base hv' w' h1 h2 h3 h4 =>
    put_any base K next hv' l x w' h1 h2 h3 h4 (fun y hy => by have := Sk.chk_zero (hR.2.2.1 y hy); omega) (by have := Sk.chk_zero hx; omega) (by rcases hR.1 with ⟨h, _⟩ | h <;> omega) (by omega)
  obtain ⟨n, hn⟩ : ∃ n, n = l.length := ⟨_, rfl⟩
  rw [← hn] at hva
  rw [← hn] at HKp HPu
  obtain ⟨R, hRR⟩ : ∃ R, R = putF next l x := ⟨_, rfl⟩
  rw [← hRR] at HPu ⊢
  clear hv hn hpc hR hRR hx hl4
  subst hva
  obtain ⟨xn, seq, time, xf, xe, xk, xt⟩ := x
  simp only [Sk.val] at HS HCo HPu ⊢
  go_enter Tryz.func107, Tryz.ntmps107
  go_wp2_with fail
  refine (HC.out _ (((HV.out.alloc _).alloc _).alloc _)).mono ?_
  rintro e w1 ⟨rfl, hb1⟩
  obtain ⟨kb, kx, kr, bb, hs1⟩ := blocks3 hb1
  have v1 : Hid (Sls w1 (.slice a n c) l) := (((HV.out.alloc _).alloc _).alloc _).below hb1
  have KB1 : Hid _ := kb
  have KX1 : Hid _ := kx
  have KR1 : Hid _ := kr
  have B1 : Hid _ := bb
  obtain ⟨e0, e1, e2, e3, e4, e5, e6⟩ := kx.seven
  clear hb1 kb kx kr bb HC HV
  go_wp2_with fail
  refine (HS.out _).mono ?_
  rintro e w2 ⟨rfl, hb2⟩
  have KB2 : Hid _ := Blk.below KB1.out hb2 (Blk.lt KB1.out)
  have KX2 : Hid _ := Blk.below KX1.out hb2 (Blk.lt KX1.out)
  have KR2 : Hid _ := Blk.below KR1.out hb2 (Blk.lt KR1.out)
  have v2 : Hid (Sls w2 (.slice a n c) l) := v1.out.below hb2
  have B2 : Hid (Below w.heap.size w w2) := B1.out.trans (hb2.mono B1.out.size)
  obtain ⟨f0, f1⟩ := Blk.two KB2.out
  clear hb2 KB1 KX1 KR1 B1 v1 e0 e1 e2 e3 e4 e5 e6 HS
  go_wp2_with fail
  refine (HKp.out _ v2.out).mono ?_
  rintro e w3 ⟨u, rfl, ho3, hb3⟩
  obtain ⟨a', c', hu⟩ := Sl.len (Sl.of_owns ho3)
  have KX3 : Hid _ := Blk.below KX2.out hb3 (Blk.lt KX2.out)
  have KR3 : Hid _ := Blk.below KR2.out hb3 (Blk.lt KR2.out)
  have B3 : Hid (Below w.heap.size w w3) := B2.out.trans (hb3.mono B2.out.size)
  obtain ⟨e0, e1, e2, e3, e4, e5, e6⟩ := Blk.seven KX3.out
  have hle3 := hb3.size
  have hr2 := Blk.lt KR2.out
  subst hu
  have HO3 : Hid (w3.ownsRow w2.heap.size 106 7 (.slice a' n c') n (skCells l)) := ho3
  clear hb3 ho3 f0 f1 v2 KB2 KX2 HKp
  have lt3 : w.heap.size + 1 < w3.heap.size := by omega
  go_wp2_with fail
  refine (HCo.out _).mono ?_
  rintro e w4 ⟨rfl, hb4⟩
  have k4 := Blk.below (Blk.new w3 #[.int .i64 next, .slice a' n c', .slice none 0 0] 194) hb4 (by simp)
  have KR4 : Hid _ := Blk.below (Blk.alloc KR3.out (.cells #[.int .i64 next, .slice a' n c', .slice none 0 0] 194)) hb4 (by have := Blk.lt KR3.out; simp; omega)
  have ho4 := owns_below (HO3.out.alloc (.cells #[.int .i64 next, .slice a' n c', .slice none 0 0] 194)) hb4 (Nat.le_refl _)
  have hs4 := hb4.size
  simp only [World.size_alloc] at hs4
  have B4 : Hid (Below w.heap.size w w4) := (B3.out.alloc B3.out.size _).trans (hb4.mono (by have := B3.out.size; simp; omega))
  clear hb4 KX3 KR3 B3 HO3 e0 e1 e2 e3 e4 e5 e6 HCo
  go_wp2_with fail
  refine (HPu.out w3.heap.size w2.heap.size _ w4 k4 ho4 (by omega) (by omega)).mono ?_
  rintro e w5 ⟨rfl, hk5, hb5⟩
  have kr5 := Blk.below KR4.out hb5 hr2
  obtain ⟨hv', ov', g0, g1, g2, F1, F2, ⟨ah, ch, eh⟩, ⟨ao, co, eo⟩⟩ := hk5.fresh
  obtain ⟨r0, r1⟩ := Blk.two kr5
  have rf := Blk.free kr5
  have hr5 := Blk.lt kr5
  have B5 : Hid (Below w.heap.size w w5) := B4.out.trans (hb5.mono (by have := B2.out.size; omega))
  have hw2 : w.heap.size ≤ w2.heap.size := B2.out.size
  subst eh
  subst eo
  have G1 : Hid (Fresh w2.heap.size w5 (.slice ah R.2.1.length ch) R.2.1) := F1
  have G2 : Hid (Fresh w2.heap.size w5 (.slice ao R.2.2.length co) R.2.2) := F2
  clear hk5 hb5 kr5 k4 ho4 KR4 B4 F1 F2 HPu
  go_wp2_with fail
  have hne5 : ¬ w3.heap.size = w.heap.size + 1 + 1 := by omega
  go_region
  all_goals
    go_wp2
    refine bodyPost_ret (v := .tuple #[.agg #[.int .i64 R.1, .slice ah R.2.1.length ch], .slice ao R.2.2.length co, .int .i64 0]) (by simp [results, Tryz.results107, go_sem, r0, r1]) rfl ⟨_, _, rfl, ?_, ?_, ?_⟩
    · exact ((G1.out.set (by exact hr2) _).set (by exact hr2) _).base hw2
    · exact ((G2.out.set (by exact hr2) _).set (by exact hr2) _).base hw2
    · exact ((B5.out.setCell (by simp; omega) _).setCell (by simp; omega) _).drew

end Go.Proofs.YtnpaejknoipicagGreat

namespace Go.Proofs.YtnpaejknoipicagGreat

theorem upB_mono {a b : Int} {l : List Sk} (h : upB b l = true) (hab : a ≤ b) : upB a l = true := by
  cases l with
  | nil => rfl
  | cons x r => simp only [upB, Bool.and_eq_true, decide_eq_true_eq] at h ⊢; exact ⟨by omega, h.2⟩
theorem upB_all {a : Int} {l : List Sk} (h : upB a l = true) : ∀ x ∈ l, a < x.n := by
  induction l generalizing a with
  | nil => simp
  | cons y r ih =>
    simp only [upB, Bool.and_eq_true, decide_eq_true_eq] at h
    intro x hx
    rcases List.mem_cons.1 hx with rfl | hx
    · exact h.1
    · have := ih h.2 x hx; omega
theorem upB_append {a : Int} {l m : List Sk} (h : upB a (l ++ m) = true) : upB a l = true ∧ ∀ x ∈ l, ∀ y ∈ m, x.n < y.n := by
  induction l generalizing a with
  | nil => exact ⟨rfl, by simp⟩
  | cons z r ih =>
    simp only [List.cons_append, upB, Bool.and_eq_true, decide_eq_true_eq] at h ⊢
    obtain ⟨h1, h2⟩ := h
    obtain ⟨i1, i2⟩ := ih h2
    refine ⟨⟨h1, i1⟩, fun x hx y hy => ?_⟩
    rcases List.mem_cons.1 hx with rfl | hx
    · exact upB_all h2 y (by simp [hy])
    · exact i2 x hx y hy

/-- what released leaves of slots that rise -/
theorem rel_inv (most : Nat) : ∀ (h : List Sk) (next : Int) (o : List Sk), upB (next - 1) h = true →
    ∃ p, h = p ++ (relF most next h o).2.1 ∧ (relF most next h o).2.2 = o ++ p ∧ (∀ x ∈ p, x.n < (relF most next h o).1) ∧ next ≤ (relF most next h o).1 ∧ upB (relF most next h o).1 (relF most next h o).2.1 = true ∧
      (relF most next h o).2.1.length ≤ most ∧ ((relF most next h o).1 = next ∨ ∃ x ∈ p, (relF most next h o).1 = x.n + 1)
  | [], next, o, _ => ⟨[], by simp [relF, upB]⟩
  | x :: r, next, o, hu => by
    simp only [upB, Bool.and_eq_true, decide_eq_true_eq] at hu
    obtain ⟨h1, h2⟩ := hu
    by_cases hx : x.n = next
    · have e : relF most next (x :: r) o = relF most (next + 1) r (o ++ [x]) := by simp [relF, hx]
      rw [e]
      obtain ⟨p, i1, i2, i3, i4, i5, i6, i7⟩ := rel_inv most r (next + 1) (o ++ [x]) (upB_mono h2 (by omega))
      refine ⟨x :: p, by rw [List.cons_append, ← i1], by rw [i2]; simp, fun y hy => ?_, by omega, i5, i6, .inr ?_⟩
      · rcases List.mem_cons.1 hy with rfl | hy
        · omega
        · exact i3 y hy
      · rcases i7 with i7 | ⟨y, hy, i7⟩
        · exact ⟨x, by simp, by omega⟩
        · exact ⟨y, by simp [hy], i7⟩
    · by_cases hm : r.length + 1 ≤ most
      · have e : relF most next (x :: r) o = (next, x :: r, o) := by simp [relF, hx, hm]
        rw [e]
        refine ⟨[], by simp, by simp, by simp, Int.le_refl _, ?_, by simpa using hm, .inl rfl⟩
        simp only [upB, Bool.and_eq_true, decide_eq_true_eq]
        exact ⟨by omega, h2⟩
      · have e : relF most next (x :: r) o = relF most (x.n + 1) r (o ++ [x]) := by simp [relF, hx, hm]
        rw [e]
        obtain ⟨p, i1, i2, i3, i4, i5, i6, i7⟩ := rel_inv most r (x.n + 1) (o ++ [x]) (upB_mono h2 (by omega))
        refine ⟨x :: p, by rw [List.cons_append, ← i1], by rw [i2]; simp, fun y hy => ?_, by omega, i5, i6, .inr ?_⟩
        · rcases List.mem_cons.1 hy with rfl | hy
          · omega
          · exact i3 y hy
        · rcases i7 with i7 | ⟨y, hy, i7⟩
          · exact ⟨x, by simp, by omega⟩
          · exact ⟨y, by simp [hy], i7⟩

theorem place_cons (y : Sk) (r : List Sk) (x : Sk) : place (y :: r) x = if x.n < y.n then 0 else place r x + 1 := by
  unfold place
  rw [List.findIdx?_cons]
  by_cases h : x.n < y.n
  · simp [h]
  · simp only [h, decide_false]
    cases r.findIdx? fun y => decide (x.n < y.n) <;> simp
theorem insF_nil (x : Sk) : insF [] x = [x] := rfl
theorem insF_cons (y : Sk) (r : List Sk) (x : Sk) : insF (y :: r) x = if x.n < y.n then x :: y :: r else y :: insF r x := by
  unfold insF putAt
  rw [place_cons]
  by_cases h : x.n < y.n
  · simp [h]
  · simp [h]
/-- a slot put in where it belongs: they rise still -/
theorem up_ins (x : Sk) : ∀ (h : List Sk) (a : Int), upB a h = true → a < x.n → (∀ y ∈ h, ¬ y.n = x.n) → upB a (insF h x) = true
  | [], a, _, hx, _ => by simp [insF_nil, upB, hx]
  | y :: r, a, hu, hx, hne => by
    simp only [upB, Bool.and_eq_true, decide_eq_true_eq] at hu
    rw [insF_cons]
    by_cases h : x.n < y.n
    · rw [if_pos h]
      simp only [upB, Bool.and_eq_true, decide_eq_true_eq]
      exact ⟨hx, h, hu.2⟩
    · rw [if_neg h]
      simp only [upB, Bool.and_eq_true, decide_eq_true_eq]
      have := hne y (by simp)
      exact ⟨hu.1, up_ins x r y.n hu.2 (by omega) (fun z hz => hne z (by simp [hz]))⟩
theorem mem_ins {h : List Sk} {x y : Sk} : y ∈ insF h x ↔ y = x ∨ y ∈ h := by
  induction h with
  | nil => simp [insF_nil]
  | cons z r ih =>
    rw [insF_cons]
    by_cases hh : x.n < z.n
    · rw [if_pos hh]; simp
    · rw [if_neg hh]
      simp only [List.mem_cons, ih]
      constructor
      · rintro (h | h | h) <;> simp [h]
      · rintro (h | h | h) <;> simp [h]

/-- what Put does to a buffer that is right -/
theorem put_inv {next : Int} {l : List Sk} {x : Sk} (hR : Right next l) (hx : x.chk = 0) :
    Right (putF next l x).1 (putF next l x).2.1 ∧ next ≤ (putF next l x).1 ∧ (∀ y ∈ (putF next l x).2.2, (y = x ∨ y ∈ l) ∧ next ≤ y.n ∧ y.n < (putF next l x).1) ∧ upB (next - 1) (putF next l x).2.2 = true ∧ (∀ y ∈ (putF next l x).2.1, y = x ∨ y ∈ l) ∧
      (x.n < (putF next l x).1 ∨ ∃ y ∈ (putF next l x).2.1, y.n = x.n) ∧ ¬ (putF next l x).1 = 0 := by
  obtain ⟨r1, r2, r3, r4⟩ := hR
  have hxn := Sk.chk_zero hx
  unfold putF
  by_cases h0 : next = 0
  · have hl : l = [] := by rcases r1 with ⟨_, h⟩ | h; exact h; omega
    subst hl
    simp only [h0, if_true]
    rw [if_neg (by omega)]
    simp only [List.any_nil, Bool.false_eq_true, if_false, insF_nil]
    have e : relF 4 x.n [x] [] = (x.n + 1, [], [x]) := by simp [relF]
    rw [e]
    refine ⟨⟨.inr (by omega), by simp, by simp, rfl⟩, by omega, ?_, ?_, by simp, .inl (by simp; omega), by simp; omega⟩
    · intro y hy; simp at hy; subst hy; exact ⟨.inl rfl, by omega, by omega⟩
    · simp [upB]; omega
  · have hb : 65536 ≤ next ∧ next ≤ 1000000001 := by rcases r1 with ⟨h, _⟩ | h; omega; exact h
    simp only [if_neg h0]
    by_cases h1 : x.n < next
    · rw [if_pos h1]
      exact ⟨⟨.inr hb, r2, r3, r4⟩, Int.le_refl _, by simp, rfl, fun y hy => .inr hy, .inl h1, h0⟩
    · rw [if_neg h1]
      by_cases h2 : (l.any fun y => y.n == x.n) = true
      · rw [if_pos h2]
        refine ⟨⟨.inr hb, r2, r3, r4⟩, Int.le_refl _, by simp, rfl, fun y hy => .inr hy, ?_, h0⟩
        obtain ⟨y, hy, e⟩ := List.any_eq_true.1 h2
        exact .inr ⟨y, hy, by simpa using e⟩
      · rw [if_neg h2]
        have hne : ∀ y ∈ l, ¬ y.n = x.n := fun y hy e => h2 (List.any_eq_true.2 ⟨y, hy, by simp [e]⟩)
        have hup : upB (next - 1) (insF l x) = true := up_ins x l (next - 1) (upB_mono r4 (by omega)) (by omega) hne
        obtain ⟨p, i1, i2, i3, i4, i5, i6, i7⟩ := rel_inv 4 (insF l x) next [] hup
        have hmem : ∀ y ∈ insF l x, y = x ∨ y ∈ l := fun y hy => mem_ins.1 hy
        have hchk : ∀ y ∈ insF l x, y.chk = 0 := fun y hy => by rcases hmem y hy with rfl | h; exact hx; exact r3 y h
        have hpm : ∀ y ∈ p, y ∈ insF l x := fun y hy => by rw [i1]; simp [hy]
        have hqm : ∀ y ∈ (relF 4 next (insF l x) []).2.1, y ∈ insF l x := fun y hy => by rw [i1]; simp [hy]
        rw [i2, List.nil_append]
        refine ⟨⟨.inr ⟨by omega, ?_⟩, i6, fun y hy => hchk y (hqm y hy), i5⟩, i4, fun y hy => ⟨hmem y (hpm y hy), ?_, i3 y hy⟩, ?_, fun y hy => hmem y (hqm y hy), ?_, by omega⟩
        · rcases i7 with i7 | ⟨y, hy, i7⟩
          · omega
          · have := Sk.chk_zero (hchk y (hpm y hy)); omega
        · have := upB_all hup y (hpm y hy); omega
        · rw [i1] at hup; exact (upB_append hup).1
        · have hxi : x ∈ insF l x := mem_ins.2 (.inl rfl)
          rw [i1] at hxi
          rcases List.mem_append.1 hxi with h | h
          · exact .inl (i3 x h)
          · exact .inr ⟨x, h, rfl⟩

/-- what came, comes again without a trace -/
theorem put_again {next : Int} {l : List Sk} {x : Sk} (h0 : ¬ next = 0) (h : x.n < next ∨ ∃ y ∈ l, y.n = x.n) : putF next l x = (next, l, []) := by
  unfold putF
  simp only [if_neg h0]
  by_cases h1 : x.n < next
  · rw [if_pos h1]
  · rw [if_neg h1, if_pos]
    rcases h with h | ⟨y, hy, e⟩
    · exact absurd h h1
    · exact List.any_eq_true.2 ⟨y, hy, by simp [e]⟩
end Go.Proofs.YtnpaejknoipicagGreat

namespace Go.Proofs.YtnpaejknoipicagGreat
open Go.RowKit

/-- v shows these texts in world w -/
def Strs (w : World) (v : Value) (l : List ByteArray) : Prop := Sl w v l.length 1 (l.map Value.string)
theorem Strs.below {w w' : World} {v : Value} {l : List ByteArray} (h : Strs w v l) (hb : Below w.heap.size w w') : Strs w' v l := Sl.below h hb
theorem Strs.alloc {w : World} {v : Value} {l : List ByteArray} (h : Strs w v l) (o : Obj) : Strs (w.alloc o) v l := h.below ((Below.refl _ w).alloc (Nat.le_refl _) _)
theorem Strs.len {w : World} {v : Value} {l : List ByteArray} (h : Strs w v l) : ∃ a c, v = .slice a l.length c := Sl.len h
theorem Strs.nil (w : World) : Strs w (.slice none 0 0) [] := ⟨rfl, .inl ⟨rfl, none, 0, rfl⟩⟩
theorem Strs.parts {w : World} {v : Value} {l : List ByteArray} (h : Strs w v l) :
    ∃ ao c, v = .slice ao l.length c ∧ ∀ k, k < l.length → ∃ b off, ao = some ⟨b, off, none⟩ ∧ b < w.heap.size ∧ w.cell? ⟨b, off + k, none⟩ = some (.string (l[k]?.getD ByteArray.empty)) := by
  obtain ⟨ao, c, hv, hc⟩ := Sl.parts h
  exact ⟨ao, c, hv, fun k hk => hc k _ (by simp [List.getElem?_eq_getElem hk])⟩

def longB (s : ByteArray) : Bool := decide (8 < s.size)
/-- what Check says of a frame -/
def chkF (time : Int) (l : List ByteArray) : Int := if time < 0 ∨ 1000000 < time then 3 else if l.length = 0 then 5 else if 4 < l.length then 2 else if l.any longB then 2 else 0

theorem hasLongLit_any (s : ByteArray) (w : World) : Calls Tryz.prog 155 #[.string s] w fun e w' => e = .returned (.bool (longB s)) ∧ w = w' := by
  unfold longB
  go_enter Tryz.func155, Tryz.ntmps155
  go_wp2
  go_ret
  exact ⟨by simp; omega, rfl⟩

/-- the place of the first long one, or -1 -/
def idxS (l : List ByteArray) : Int := match l.findIdx? longB with
  | some i => i
  | none => -1
theorem idxS_any (l : List ByteArray) : decide (0 ≤ idxS l) = l.any longB := by
  unfold idxS
  cases h : l.findIdx? longB with
  | none =>
    have h2 : l.any longB = false := by rw [List.findIdx?_eq_none_iff] at h; rw [List.any_eq_false]; intro x hx; simpa using h x hx
    simp [h2]
  | some i =>
    have h2 : l.any longB = true := by
      rw [List.findIdx?_eq_some_iff_getElem] at h
      obtain ⟨h1, h2, _⟩ := h
      exact List.any_eq_true.2 ⟨l[i], List.getElem_mem h1, h2⟩
    simp [h2]
theorem idxS_hit {l : List ByteArray} {k : Nat} (hk : k < l.length) (hno : ∀ j, j < k → longB (l[j]?.getD ByteArray.empty) = false) (hp : longB (l[k]?.getD ByteArray.empty) = true) : idxS l = k := by
  have : l.findIdx? longB = some k := by
    rw [List.findIdx?_eq_some_iff_getElem]
    refine ⟨hk, by rw [List.getElem?_eq_getElem hk] at hp; exact hp, fun j hj => ?_⟩
    have := hno j hj
    rw [List.getElem?_eq_getElem (by omega), Option.getD_some] at this
    rw [this]; simp
  simp [idxS, this]
theorem idxS_miss {l : List ByteArray} (hno : ∀ j, j < l.length → longB (l[j]?.getD ByteArray.empty) = false) : idxS l = -1 := by
  have : l.findIdx? longB = none := by
    rw [List.findIdx?_eq_none_iff]
    intro x hx
    obtain ⟨j, hj, rfl⟩ := List.getElem_of_mem hx
    have := hno j hj
    rw [List.getElem?_eq_getElem hj] at this
    exact this
  simp [idxS, this]

set_option maxHeartbeats 1600000 in
theorem indexStr_any (v : Value) (l : List ByteArray) (w : World) (hv : Strs w v l) (hlen : l.length ≤ 9223372036854775807) :
    Calls Tryz.prog 169 #[v, .func (.func 155) #[] #[]] w fun e w' => e = .returned (.int .i64 (idxS l)) ∧ w = w' := by
  obtain ⟨ao, c, rfl, hc⟩ := hv.parts
  have HC : Hid (∀ k, k < l.length → ∃ b off, ao = some ⟨b, off, none⟩ ∧ b < w.heap.size ∧ w.cell? ⟨b, off + k, none⟩ = some (.string (l[k]?.getD ByteArray.empty))) := hc
  obtain ⟨n, hn⟩ : ∃ n, n = l.length := ⟨_, rfl⟩
  have HN : Hid (n = l.length) := hn
  rw [← hn] at hlen ⊢
  clear hc hv hn
  go_enter Tryz.func169, Tryz.ntmps169
  go_wp2
  go_loopw [8] (fun i wr => ∃ k : Nat, k ≤ n ∧ i = .int .i64 k ∧ Hid (∀ j, j < k → longB (l[j]?.getD ByteArray.empty) = false) ∧ w = wr)
    (fun i _ => n - (intOf i).toNat)
  case atStart => exact ⟨0, Nat.zero_le _, rfl, (show ∀ j, j < 0 → _ from fun j hj => absurd hj (Nat.not_lt_zero _)), rfl⟩
  case round =>
    obtain ⟨k, hk, rfl, HK, rfl⟩ := hrel
    by_cases hlt : k < n
    · obtain ⟨b, off, rfl, hb, hat⟩ := HC.out k (by rw [← HN.out]; exact hlt)
      obtain ⟨x, hx⟩ : ∃ x, x = l[k]?.getD ByteArray.empty := ⟨_, rfl⟩
      rw [← hx] at hat
      have HX : Hid (x = l[k]?.getD ByteArray.empty) := hx
      obtain ⟨t, ht⟩ : ∃ t, t = longB x := ⟨_, rfl⟩
      have HT : Hid (t = longB x) := ht
      have hcall := hasLongLit_any x w
      rw [← ht] at hcall
      clear hx ht
      cases t
      · go_wp2_with (go_at_call 155; refine hcall.mono ?_; rintro e w1 ⟨rfl, rfl⟩)
        go_roundw
        case rel =>
          refine ⟨k + 1, by omega, by go_num, (show ∀ j, j < k + 1 → _ from fun j hj => ?_), by first | rfl | trivial⟩
          by_cases e : j = k
          · subst e
            rw [← HX.out]; exact HT.out.symm
          · exact HK.out j (by omega)
        case measure => simp [intOf]; omega
      · go_wp2_with (go_at_call 155; refine hcall.mono ?_; rintro e w1 ⟨rfl, rfl⟩)
        go_ret
        exact ⟨by rw [idxS_hit (by rw [← HN.out]; exact hlt) HK.out (by rw [← HX.out]; exact HT.out.symm)]; rfl, rfl⟩
    · have hkl : k = n := by omega
      subst hkl
      go_wp2
      go_ret
      exact ⟨by rw [idxS_miss (fun j hj => HK.out j (by rw [HN.out]; exact hj))]; rfl, rfl⟩

theorem hasLong_any (v : Value) (l : List ByteArray) (w : World) (hv : Strs w v l) (hlen : l.length ≤ 9223372036854775807) :
    Calls Tryz.prog 126 #[v] w fun e w' => e = .returned (.bool (l.any longB)) ∧ w = w' := by
  rw [← idxS_any]
  have hix := indexStr_any v l w hv hlen
  obtain ⟨r, hr⟩ : ∃ r, r = idxS l := ⟨_, rfl⟩
  rw [← hr] at hix ⊢
  clear hr
  obtain ⟨a, c, rfl⟩ := hv.len
  have hcf : Calls Tryz.prog 154 #[.slice a l.length c, .func (.func 155) #[] #[]] w fun e w' => e = .returned (.bool (decide (0 ≤ r))) ∧ w = w' := by
    go_enter Tryz.func154, Tryz.ntmps154
    go_wp2_with (go_at_call 169; refine hix.mono ?_; rintro e w1 ⟨rfl, rfl⟩)
    go_ret
    exact ⟨rfl, rfl⟩
  go_enter Tryz.func126, Tryz.ntmps126
  go_wp2_with (go_at_call 154; refine hcf.mono ?_; rintro e w1 ⟨rfl, rfl⟩)
  go_ret
  exact ⟨rfl, rfl⟩

set_option maxHeartbeats 1000000 in
theorem frameCheck_any (time : Int) (key : Bool) (v : Value) (l : List ByteArray) (w : World) (hv : Strs w v l) (hlen : l.length ≤ 9223372036854775807) :
    Calls Tryz.prog 94 #[.agg #[.int .i64 time, .bool key, v]] w fun e w' => e = .returned (.int .i64 (chkF time l)) ∧ Below w.heap.size w w' := by
  obtain ⟨a, c, hva⟩ := hv.len
  have HL : Hid (∀ w', Strs w' v l → Calls Tryz.prog 126 #[v] w' fun e w'' => e = .returned (.bool (l.any longB)) ∧ w' = w'') := fun w' hs => hasLong_any v l w' hs hlen
  have HV : Hid (Strs w v l) := hv
  obtain ⟨n, hn⟩ : ∃ n, n = l.length := ⟨_, rfl⟩
  obtain ⟨t, ht⟩ : ∃ t, t = l.any longB := ⟨_, rfl⟩
  rw [← ht] at HL
  rw [← hn] at hva hlen
  have hr : chkF time l = if time < 0 ∨ 1000000 < time then 3 else if n = 0 then 5 else if 4 < n then 2 else if t then 2 else 0 := by unfold chkF; rw [ht, hn]
  rw [hr]
  clear hv hn ht hr
  subst hva
  by_cases h1 : time < 0
  · rw [if_pos (.inl h1)]
    go_enter Tryz.func94, Tryz.ntmps94
    go_wp2
    go_ret
    exact ⟨rfl, by go_grown⟩
  by_cases h2 : 1000000 < time
  · rw [if_pos (.inr h2)]
    go_enter Tryz.func94, Tryz.ntmps94
    go_wp2
    go_ret
    exact ⟨rfl, by go_grown⟩
  rw [if_neg (by omega)]
  by_cases h3 : n = 0
  · rw [if_pos h3]
    subst h3
    go_enter Tryz.func94, Tryz.ntmps94
    go_wp2
    go_ret
    exact ⟨rfl, by go_grown⟩
  rw [if_neg h3]
  have h3' : ((n : Int) == 0) = false := by simpa using h3
  by_cases h4 : 4 < n
  · rw [if_pos h4]
    go_enter Tryz.func94, Tryz.ntmps94
    go_wp2
    go_ret
    exact ⟨rfl, by go_grown⟩
  rw [if_neg h4]
  cases t
  all_goals
    go_enter Tryz.func94, Tryz.ntmps94
    go_wp2_with (go_at_call 126; refine (HL.out _ (HV.out.alloc _)).mono ?_; rintro e w1 ⟨rfl, rfl⟩)
    go_ret
    exact ⟨rfl, by go_grown⟩

/-- the number behind, and the same time -/
def folB (a x : Sk) : Bool := x.n == a.n + 1 && x.p.time == a.p.time
def nextB (a x : Sk) : Bool := !x.p.f && folB a x

set_option maxHeartbeats 1000000 in
theorem follows_any (a x : Sk) (w : World) (ha : 0 ≤ a.n ∧ a.n ≤ 1000000001) :
    Calls Tryz.prog 150 #[a.val, x.val] w fun e w' => e = .returned (.bool (folB a x)) ∧ Below w.heap.size w w' := by
  obtain ⟨an, a0, a1, a2, a3, a4, a5⟩ := a
  obtain ⟨xn, x0, x1, x2, x3, x4, x5⟩ := x
  simp only [Sk.val, folB] at ha ⊢
  obtain ⟨h1, h2⟩ := ha
  by_cases hn : xn = an + 1
  · have e1 : (xn == an + 1) = true := by simpa using hn
    rw [e1, Bool.true_and]
    clear hn
    go_enter Tryz.func150, Tryz.ntmps150
    go_wp2
    go_ret
    exact ⟨rfl, by go_grown⟩
  · have e1 : (xn == an + 1) = false := by simpa using hn
    rw [e1, Bool.false_and]
    clear hn
    go_enter Tryz.func150, Tryz.ntmps150
    go_wp2
    go_ret
    exact ⟨rfl, by go_grown⟩

end Go.Proofs.YtnpaejknoipicagGreat

namespace Go.Proofs.YtnpaejknoipicagGreat
open Go.RowKit

theorem Tryz.infoStr : (Tryz.prog.info? 9).map (fun i => (i.zero, i.size, i.bytes)) = some (some (.string ⟨#[]⟩), 1, 16) := by kernel_rfl
def texts (l : List Sk) : List ByteArray := l.map fun x => x.p.t

set_option maxHeartbeats 2000000 in
set_option maxRecDepth 100000 in
theorem frameOf_any (v : Value) (x : Sk) (r : List Sk) (w : World) (hv : Sls w v (x :: r)) (hlen : (x :: r).length ≤ 100) :
    Calls Tryz.prog 119 #[v] w fun e w' => ∃ pv, e = .returned (.agg #[.int .i64 x.p.time, .bool x.p.k, pv]) ∧ Strs w' pv (texts (x :: r)) ∧ (∀ g, pv.ownBlock = some g → w.heap.size ≤ g ∧ ∃ cur, Blk w' g cur 9) ∧ Below w.heap.size w w' := by
  obtain ⟨i0, hi, hz0, hz1, hz2⟩ := info_parts Tryz.infoStr
  obtain ⟨ao, c, hva, hc⟩ := hv.parts
  obtain ⟨l, hl⟩ : ∃ l, l = x :: r := ⟨_, rfl⟩
  rw [← hl] at hva hc hlen ⊢
  have HL : Hid (l = x :: r) := hl
  have HC : Hid (∀ k, k < l.length → ∃ b off, ao = some ⟨b, off, none⟩ ∧ b < w.heap.size ∧ At7 w b (off + k * 7) (l[k]?.getD Sk.zero)) := hc
  obtain ⟨n, hn⟩ : ∃ n, n = l.length := ⟨_, rfl⟩
  have HN : Hid (n = l.length) := hn
  have hn0 : 0 < n := by rw [hn, hl]; simp
  rw [← hn] at hva hlen
  obtain ⟨b, off, hao, hb, hat⟩ := hc 0 (by omega)
  have hx0 : l[0]?.getD Sk.zero = x := by rw [hl]; rfl
  rw [hx0] at hat
  simp only [Nat.zero_mul, Nat.add_zero] at hat
  obtain ⟨c0, c1, c2, c3, c4, c5, c6⟩ := hat
  subst hva
  subst hao
  have hni : (0 : Int) < (n : Int) := by omega
  have hlt1 : b < w.heap.size + 1 := by omega
  clear hv hc hn hl hx0
  go_enter Tryz.func119, Tryz.ntmps119
  go_wp2
  go_region
  go_wp2
  clear c0 c1 c2 c3 c4 c5 c6
  go_loopw [19] (fun i wr => ∃ (k : Nat) (pv : Value), k ≤ n ∧ i = .int .i64 k ∧ Hid (Blk wr w.heap.size #[.int .i64 0, .bool false, .slice none 0 0] 98) ∧ Hid (Blk wr (w.heap.size + 1) #[.int .i64 x.p.time, .bool x.p.k, pv] 98) ∧ Hid (wr.ownsRow (w.heap.size + 1 + 1) 9 1 pv k ((texts (l.take k)).map Value.string)) ∧ Hid (Below w.heap.size w wr))
    (fun i _ => n - (intOf i).toNat)
  case atStart =>
    refine ⟨0, .slice none 0 0, Nat.zero_le _, rfl, (Blk.new w _ _).alloc _, ?_, World.ownsRow_nil _ _ _ _, (((Below.refl _ w).alloc (Nat.le_refl _) _).alloc (by simp) _).drew⟩
    have := Blk.new (w.alloc (.cells #[.int .i64 0, .bool false, .slice none 0 0] 98)) #[.int .i64 x.p.time, .bool x.p.k, .slice none 0 0] 98
    simp only [World.size_alloc] at this
    exact this
  case round =>
    obtain ⟨k, pv, hk, rfl, K0, K1, HO, HB⟩ := hrel
    obtain ⟨d0, d1, d2⟩ := Blk.three K1.out
    have hsz := Blk.lt K1.out
    by_cases hlt : k < n
    · obtain ⟨b', off', hbo, hbb, hat⟩ := HC.out k (by rw [← HN.out]; exact hlt)
      cases hbo
      obtain ⟨c0, c1, c2, c3, c4, c5, c6⟩ := hat.below HB.out hbb
      obtain ⟨y, hy⟩ : ∃ y, y = l[k]?.getD Sk.zero := ⟨_, rfl⟩
      rw [← hy] at c0 c1 c2 c3 c4 c5 c6
      have HY : Hid (y = l[k]?.getD Sk.zero) := hy
      clear hy hat
      have hlti : (k : Int) < (n : Int) := by omega
      have WA : ∀ o1 o2 : Obj, w.heap.size + 1 < ((wr.alloc o1).alloc o2).heap.size := fun _ _ => by simp; omega
      have own1 : Hid (((wr.alloc (.cells #[.int .i64 y.n, .int .i64 y.p.seq, .int .i64 y.p.time, .bool y.p.f, .bool y.p.e, .bool y.p.k, .string y.p.t] 106)).alloc (.cells #[.string y.p.t] 9)).ownsRow (w.heap.size + 1 + 1) 9 1 pv k ((texts (l.take k)).map Value.string)) := (HO.out.alloc _).alloc _
      have new1 : Hid (∀ j u, [Value.string y.p.t][j]? = some u → ((wr.alloc (.cells #[.int .i64 y.n, .int .i64 y.p.seq, .int .i64 y.p.time, .bool y.p.f, .bool y.p.e, .bool y.p.k, .string y.p.t] 106)).alloc (.cells #[.string y.p.t] 9)).cell? ((⟨wr.heap.size + 1, 0, none⟩ : Addr).add j) = some u) := fun j u hj => by
        match j, hj with
        | 0, hj =>
          simp at hj; subst hj
          exact World.cell?_alloc_at (w := wr.alloc _) _ _ _ _ (by simp)
      have aft : Hid (∀ v' w2, w2.ownsRow (w.heap.size + 1 + 1) 9 1 v' (k + 1) ((texts (l.take k)).map Value.string ++ [.string y.p.t]) → ((wr.alloc (.cells #[.int .i64 y.n, .int .i64 y.p.seq, .int .i64 y.p.time, .bool y.p.f, .bool y.p.e, .bool y.p.k, .string y.p.t] 106)).alloc (.cells #[.string y.p.t] 9)).grownBy w2 pv.ownBlock →
          ∃ a' c', v' = .slice a' (k + 1) c' ∧ w2.cell? ⟨w.heap.size + 1, 2, none⟩ = some pv ∧ w2.frozen? ⟨w.heap.size + 1, 2, none⟩ = false ∧
            Hid (∀ w3, Hid (w3 = w2.setCell ⟨w.heap.size + 1, 2, none⟩ (.slice a' (k + 1) c')) → Blk w3 w.heap.size #[.int .i64 0, .bool false, .slice none 0 0] 98 ∧ Blk w3 (w.heap.size + 1) #[.int .i64 x.p.time, .bool x.p.k, .slice a' (k + 1) c'] 98 ∧ w3.ownsRow (w.heap.size + 1 + 1) 9 1 (.slice a' (k + 1) c') (k + 1) ((texts (l.take (k + 1))).map Value.string) ∧ Below w.heap.size w w3)) := fun v' w2 ho2 hg2 => by
        obtain ⟨a', c', hv'⟩ := Sl.len (Sl.of_owns ho2)
        have hlow : ∀ j, j < w.heap.size + 1 + 1 → some j ≠ pv.ownBlock := fun j hj e => by have := (HO.out.lt j e.symm).1; omega
        have hblk : ∀ j, j < w.heap.size + 1 + 1 → w2.heap[j]? = wr.heap[j]? := fun j hj => by
          rw [hg2.block j (by simp; omega) (hlow j hj), Below.heap_alloc _ _ _ (by simp; omega), Below.heap_alloc _ _ _ (by omega)]
        have k12 : Blk w2 (w.heap.size + 1) #[.int .i64 x.p.time, .bool x.p.k, pv] 98 := (hblk _ (by omega)).trans K1.out
        have k02 : Blk w2 w.heap.size #[.int .i64 0, .bool false, .slice none 0 0] 98 := (hblk _ (by omega)).trans K0.out
        refine ⟨a', c', hv', k12.three.2.2, k12.free 2, fun w3 hw3 => ?_⟩
        rw [hw3.out]
        refine ⟨k02.other (by simp) _, k12.set 2 _, ?_, ?_⟩
        · have e : (texts (l.take (k + 1))).map Value.string = (texts (l.take k)).map Value.string ++ [.string y.p.t] := by
            rw [take_one (by rw [← HN.out]; exact hlt) Sk.zero, ← HY.out]; simp [texts]
          rw [e, ← hv']
          exact ownsRow_setCell_below ho2 (by show w.heap.size + 1 < _; omega) _
        · exact (((HB.out.alloc HB.out.size _).alloc (by have := HB.out.size; simp; omega) _).grown hg2 (by have := HB.out.size; simp; omega) (fun j hj => by have := (HO.out.lt j hj).1; omega)).setCell (by simp) _
      have l1 : Hid (k + 1 ≤ maxLen) := by show _ ≤ _; unfold maxLen; omega
      have l2 : Hid ((k + 1) * 16 ≤ 140737488355328) := by show _ ≤ _; omega
      have l3 : Hid (w.heap.size + 1 + 1 ≤ ((wr.alloc (.cells #[.int .i64 y.n, .int .i64 y.p.seq, .int .i64 y.p.time, .bool y.p.f, .bool y.p.e, .bool y.p.k, .string y.p.t] 106)).alloc (.cells #[.string y.p.t] 9)).heap.size) := by show _ ≤ _; simp; omega
      clear HO K0 K1
      go_wp2_with (at_builtin; refine wpList_append_own2 _ rfl _ _ 96 rfl (w.heap.size + 1 + 1) 9 i0 _ 1 16 Tryz.underlying96 hi hz0 hz1 hz2 rfl (by decide) _ k ((texts (l.take k)).map Value.string) rfl own1.out ⟨wr.heap.size + 1, 0, none⟩ 1 1 [.string y.p.t] rfl rfl new1.out (by intro u hu; simp at hu; subst hu; rfl) l1.out l2.out l3.out ?_; intro v' w2 ho2 hg2 _; obtain ⟨a', c', hv', g0, g1, G⟩ := aft.out v' w2 ho2 hg2; clear ho2 hg2; subst hv')
      go_roundw
      case rel =>
        obtain ⟨e1, e2, e3, e4⟩ := G.out _ rfl
        exact ⟨k + 1, _, by omega, by go_num, e1, e2, e3, e4⟩
      case measure => simp [intOf]; omega
    · have hkl : k = n := by omega
      subst hkl
      obtain ⟨z0, z1, z2⟩ := Blk.three K0.out
      have zf := Blk.free K0.out
      have ho := HO.out
      rw [HN.out, List.take_length, ← HN.out] at ho
      obtain ⟨a', c', hpv⟩ := Sl.len (Sl.of_owns ho)
      subst hpv
      have HO2 : Hid (wr.ownsRow (w.heap.size + 1 + 1) 9 1 (.slice a' k c') k ((texts l).map Value.string)) := ho
      clear ho HO K0 K1
      go_wp2
      refine bodyPost_ret (v := .agg #[.int .i64 x.p.time, .bool x.p.k, .slice a' k c']) (by simp [results, Tryz.results119, go_sem, z0, z1, z2]) rfl ⟨_, rfl, ?_, ?_, ?_⟩
      · have h3 : World.ownsRow (((wr.setCell ⟨w.heap.size, 0, none⟩ (.int .i64 x.p.time)).setCell ⟨w.heap.size, 1, none⟩ (.bool x.p.k)).setCell ⟨w.heap.size, 2, none⟩ (.slice a' k c')) (w.heap.size + 1 + 1) 9 1 (.slice a' k c') k ((texts l).map Value.string) :=
          ownsRow_setCell_below (ownsRow_setCell_below (ownsRow_setCell_below HO2.out (by show w.heap.size < _; omega) _) (by show w.heap.size < _; omega) _) (by show w.heap.size < _; omega) _
        have := Sl.of_owns h3
        have e : (texts l).length = k := by rw [HN.out]; simp [texts]
        show Sl _ _ (texts l).length 1 _
        rw [e]
        exact this
      · intro g hg
        obtain ⟨hh1, cur, hh2⟩ := owns_blk HO2.out hg
        have hne : g ≠ w.heap.size := by omega
        exact ⟨by omega, cur, ((hh2.other (by exact hne) _).other (by exact hne) _).other (by exact hne) _⟩
      · exact ((HB.out.setCell (by simp) _).setCell (by simp) _).setCell (by simp) _

end Go.Proofs.YtnpaejknoipicagGreat

namespace Go.Proofs.YtnpaejknoipicagGreat
open Go.RowKit Go.Sort

/-- the last one of slots -/
def lastSk (l : List Sk) : Sk := l[l.length - 1]?.getD Sk.zero
/-- what is open behind a slot -/
def takeF (l : List Sk) (x : Sk) : List Sk := if x.p.f then [x] else if 0 < l.length ∧ folB (lastSk l) x = true then l ++ [x] else []

/-- a maker's block and what its slice shows -/
def Make (base M : Nat) (w : World) (l : List Sk) : Prop := ∃ ov, Blk w M #[ov] 133 ∧ w.ownsRow base 106 7 ov l.length (skCells l)

theorem Blk.one {w : World} {b : Nat} {t : TypeId} {x0 : Value} (h : Blk w b #[x0] t) : w.cell? ⟨b, 0, none⟩ = some x0 := h.cell rfl

set_option maxHeartbeats 2000000 in
set_option maxRecDepth 100000 in
theorem take_any (base M : Nat) (l : List Sk) (x : Sk) (w : World) (ov : Value) (hM : Blk w M #[ov] 133) (hown : w.ownsRow base 106 7 ov l.length (skCells l)) (hbM : base ≤ M) (hnums : ∀ y ∈ l, 65536 ≤ y.n ∧ y.n ≤ 1000000000) (hlen : l.length ≤ 50) :
    Calls Tryz.prog 118 #[.pointer (some ⟨M, 0, none⟩), x.val] w fun e w' => e = .returned (.tuple #[]) ∧ Make base M w' (takeF l x) ∧ Below base w w' ∧ ∀ j, j < w.heap.size → j ≠ M → some j ≠ ov.ownBlock → w'.heap[j]? = w.heap[j]? := by
  obtain ⟨i0, hi, hz0, hz1, hz2⟩ := info_parts Tryz.infoSlot
  obtain ⟨a, c, hov⟩ := (Sls.of_owns hown).len
  have hMw := hM.lt
  have c0 := hM.one
  have f0 := hM.free 0
  obtain ⟨n, hn⟩ : ∃ n, n = l.length := ⟨_, rfl⟩
  rw [← hn] at hov hown hlen
  have HN : Hid (n = l.length) := hn
  have HM : Hid (Blk w M #[ov] 133) := hM
  have HO : Hid (w.ownsRow base 106 7 ov n (skCells l)) := hown
  have KNE : Hid (∀ g, ov.ownBlock = some g → M ≠ g) := fun g hg e => by
    obtain ⟨_, cur, h3⟩ := owns_blk hown hg
    exact Apart_type hM h3 (by decide) e
  obtain ⟨R, hR⟩ : ∃ R, R = takeF l x := ⟨_, rfl⟩
  rw [← hR]
  have HR : Hid (R = takeF l x) := hR
  clear hM hown hn hR
  subst hov
  simp only [Sk.val]
  have hM1 : M < w.heap.size + 1 := by omega
  cases hf : x.p.f
  · by_cases hn0 : n = 0
    · have HRR : Hid (R = []) := by
        show R = []
        rw [HR.out]; unfold takeF
        rw [if_neg (by simp [hf]), if_neg (by rw [← HN.out]; omega)]
      subst hn0
      go_enter Tryz.func118, Tryz.ntmps118
      go_wp2
      have hd : decide ((0 : Int) ≤ -1) = false := rfl
      go_quiet (fail)
      go_wp2
      go_end0
      rw [HRR.out]
      refine ⟨rfl, ⟨.slice none 0 0, ?_, World.ownsRow_nil _ _ _ _⟩, ?_, fun j h1 h2 _ => ?_⟩
      · exact Blk.set (show Blk ((w.alloc _).drewN nq) M _ _ from HM.out.alloc _) 0 _
      · exact (below_drewN ((Below.refl base w).alloc (by omega) _) nq).setCell (by exact hbM) _
      · rw [Below.heap_setCell _ _ _ _ (by exact h2)]
        exact Below.heap_alloc w _ j h1
    · obtain ⟨y, hy⟩ : ∃ y, y = lastSk l := ⟨_, rfl⟩
      have HY : Hid (y = lastSk l) := hy
      have hyb : 65536 ≤ y.n ∧ y.n ≤ 1000000000 := by
        rw [hy]; unfold lastSk
        have hlt : l.length - 1 < l.length := by rw [← HN.out]; omega
        rw [List.getElem?_eq_getElem hlt, Option.getD_some]
        exact hnums _ (List.getElem_mem hlt)
      obtain ⟨ao, cc, hvv, hpp⟩ := (Sls.of_owns (l := l) (by rw [← HN.out]; exact HO.out)).parts
      obtain ⟨b, off, hao, hbl, hat⟩ := hpp (l.length - 1) (by rw [← HN.out]; omega)
      rw [show l[l.length - 1]?.getD Sk.zero = y from hy.symm] at hat
      rw [hao] at hvv
      injection hvv with e1 e2 e3
      subst e1
      obtain ⟨n1, hn1⟩ : ∃ n1, n1 = l.length - 1 := ⟨_, rfl⟩
      rw [← hn1] at hat
      have hnn : (n : Int) - 1 = (n1 : Int) := by have := HN.out; omega
      have hn1n : (n1 : Int) < (n : Int) := by omega
      have hn10 : (0 : Int) ≤ (n1 : Int) := by omega
      have hd : decide ((0 : Int) ≤ (n1 : Int)) = true := decide_eq_true hn10
      have hwr : IntKind.i64.wrap (n1 : Int) = (n1 : Int) := by rw [IntKind.wrap_i64]; omega
      obtain ⟨t, ht⟩ : ∃ t, t = folB y x := ⟨_, rfl⟩
      have HT : Hid (t = folB y x) := ht
      obtain ⟨X, hX⟩ : ∃ X, X = x := ⟨_, rfl⟩
      have HX : Hid (X = x) := hX
      have HXV : Hid (X.val = .agg #[.int .i64 x.n, .int .i64 x.p.seq, .int .i64 x.p.time, .bool false, .bool x.p.e, .bool x.p.k, .string x.p.t]) := by show X.val = _; rw [hX]; simp [Sk.val, hf]
      have HXC : Hid (X.cells = #[.int .i64 x.n, .int .i64 x.p.seq, .int .i64 x.p.time, .bool false, .bool x.p.e, .bool x.p.k, .string x.p.t]) := by show X.cells = _; rw [hX]; simp [Sk.cells, hf]
      clear hn1 hy ht hX e2 e3 hao
      go_enter Tryz.func118, Tryz.ntmps118
      go_wp2
      obtain ⟨W, hW⟩ : ∃ W, W = w.alloc (.cells #[.int .i64 x.n, .int .i64 x.p.seq, .int .i64 x.p.time, .bool false, .bool x.p.e, .bool x.p.k, .string x.p.t] 106) := ⟨_, rfl⟩
      have kW : Blk W M #[.slice (some ⟨b, off, none⟩) n c] 133 := by rw [hW]; exact HM.out.alloc _
      have xW : Blk W w.heap.size #[.int .i64 x.n, .int .i64 x.p.seq, .int .i64 x.p.time, .bool false, .bool x.p.e, .bool x.p.k, .string x.p.t] 106 := by rw [hW]; exact Blk.new w _ _
      have oW : W.ownsRow base 106 7 (.slice (some ⟨b, off, none⟩) n c) n (skCells l) := by rw [hW]; exact HO.out.alloc _
      have bW : Below base w W := by rw [hW]; exact (Below.refl base w).alloc (by omega) _
      have tW : Hid (∀ j, j < w.heap.size → W.heap[j]? = w.heap[j]?) := fun j hj => by rw [hW]; exact Below.heap_alloc w _ j hj
      have sW : Hid (w.heap.size ≤ W.heap.size) := by show _ ≤ _; rw [hW]; simp
      have aW : At7 W b (off + n1 * 7) y := hat.below (B := w.heap.size) (by rw [hW]; exact (Below.refl _ w).alloc (Nat.le_refl _) _) hbl
      rw [← hW]
      clear hW c0 f0 hat
      obtain ⟨y0, y1, y2, y3, y4, y5, y6⟩ := aW
      obtain ⟨x0, x1, x2, x3, x4, x5, x6⟩ := xW.seven
      have m0 := cell_regrown kW.one
      have q0 := cell_regrown y0
      have q1 := cell_regrown y1
      have q2 := cell_regrown y2
      have q3 := cell_regrown y3
      have q4 := cell_regrown y4
      have q5 := cell_regrown y5
      have q6 := cell_regrown y6
      have z0 := cell_regrown x0
      have z1 := cell_regrown x1
      have z2 := cell_regrown x2
      have z3 := cell_regrown x3
      have z4 := cell_regrown x4
      have z5 := cell_regrown x5
      have z6 := cell_regrown x6
      have cF : ∀ d os, Calls Tryz.prog 150 #[.agg #[.int .i64 y.n, .int .i64 y.p.seq, .int .i64 y.p.time, .bool y.p.f, .bool y.p.e, .bool y.p.k, .string y.p.t], .agg #[.int .i64 x.n, .int .i64 x.p.seq, .int .i64 x.p.time, .bool false, .bool x.p.e, .bool x.p.k, .string x.p.t]] (grow (redrawn W d) os) fun e w'' => e = .returned (.bool t) ∧ ∃ p : Regrown, w'' = grow (redrawn W p.d) p.os := fun d os =>
        Calls.regrown_of (by
          have h := follows_any y X (grow (redrawn W d) os) (by omega)
          rw [HXV.out, HX.out, ← HT.out] at h
          exact h)
      have KW : Hid (Blk W M #[.slice (some ⟨b, off, none⟩) n c] 133) := kW
      have XW : Hid (Blk W w.heap.size #[.int .i64 x.n, .int .i64 x.p.seq, .int .i64 x.p.time, .bool false, .bool x.p.e, .bool x.p.k, .string x.p.t] 106) := xW
      have OW : Hid (W.ownsRow base 106 7 (.slice (some ⟨b, off, none⟩) n c) n (skCells l)) := oW
      have BW : Hid (Below base w W) := bW
      clear kW xW oW bW y0 y1 y2 y3 y4 y5 y6 x0 x1 x2 x3 x4 x5 x6
      refine wp_region_quiet_below (by kernel_rfl) (by kernel_rfl) ?_
      repeat (quiet_step (exact cF _ _))
      refine wpQuiet_nil ?_
      intro _ hw'
      obtain ⟨⟨dq, osq⟩, hw''⟩ := hw'
      subst hw''
      have bR := below_regrown W dq osq
      obtain ⟨V, hV⟩ : ∃ V, V = grow (redrawn W dq) osq := ⟨_, rfl⟩
      rw [← hV] at bR
      have kV : Hid (Blk V M #[.slice (some ⟨b, off, none⟩) n c] 133) := KW.out.below bR KW.out.lt
      have xV : Hid (Blk V w.heap.size #[.int .i64 x.n, .int .i64 x.p.seq, .int .i64 x.p.time, .bool false, .bool x.p.e, .bool x.p.k, .string x.p.t] 106) := XW.out.below bR XW.out.lt
      have oV : Hid (V.ownsRow base 106 7 (.slice (some ⟨b, off, none⟩) n c) n (skCells l)) := owns_below OW.out bR (Nat.le_refl _)
      have bV : Hid (Below base w V) := BW.out.trans (bR.mono (by have := BW.out.size; omega))
      have tV : Hid (∀ j, j < w.heap.size → V.heap[j]? = w.heap[j]?) := fun j hj => (bR.block j (by have := sW.out; omega)).trans (tW.out j hj)
      have sV : Hid (w.heap.size ≤ V.heap.size) := Nat.le_trans sW.out bR.size
      rw [← hV]
      clear hV bR KW XW OW BW m0 q0 q1 q2 q3 q4 q5 q6 z0 z1 z2 z3 z4 z5 z6 cF
      have c0 := kV.out.one
      have f0 := kV.out.free 0
      have hMV := kV.out.lt
      cases t
      · have HRR : Hid (R = []) := by
          show R = []
          rw [HR.out]; unfold takeF
          rw [if_neg (by simp [hf]), if_neg (fun h => by rw [← HY.out, ← HT.out] at h; cases h.2)]
        go_wp2
        go_end0
        rw [HRR.out]
        exact ⟨rfl, ⟨.slice none 0 0, kV.out.set 0 _, World.ownsRow_nil _ _ _ _⟩, bV.out.setCell (by exact hbM) _, fun j h1 h2 _ => by rw [Below.heap_setCell _ _ _ _ (by exact h2)]; exact tV.out j h1⟩
      · have HRR : Hid (R = l ++ [x]) := by
          show R = _
          rw [HR.out]; unfold takeF
          rw [if_neg (by simp [hf]), if_pos ⟨by rw [← HN.out]; omega, by rw [← HY.out, ← HT.out]⟩]
        obtain ⟨x0, x1, x2, x3, x4, x5, x6⟩ := xV.out.seven
        have hbV : base ≤ V.heap.size := by omega
        have own1 : Hid ((V.alloc (.cells #[.int .i64 x.n, .int .i64 x.p.seq, .int .i64 x.p.time, .bool false, .bool x.p.e, .bool x.p.k, .string x.p.t] 106)).drew.ownsRow base 106 7 (.slice (some ⟨b, off, none⟩) n c) n (skCells l)) := oV.out.alloc _
        have new1 : Hid (∀ j u, X.cells.toList[j]? = some u → (V.alloc (.cells #[.int .i64 x.n, .int .i64 x.p.seq, .int .i64 x.p.time, .bool false, .bool x.p.e, .bool x.p.k, .string x.p.t] 106)).drew.cell? ((⟨V.heap.size, 0, none⟩ : Addr).add j) = some u) := by
          show ∀ j u, _ → _
          rw [← HXC.out]
          exact newSlot rfl
        have l1 : Hid (n + 1 ≤ maxLen) := by show _ ≤ _; unfold maxLen; omega
        have l2 : Hid ((n + 1) * 48 ≤ 140737488355328) := by show _ ≤ _; omega
        have l3 : Hid (base ≤ (V.alloc (.cells #[.int .i64 x.n, .int .i64 x.p.seq, .int .i64 x.p.time, .bool false, .bool x.p.e, .bool x.p.k, .string x.p.t] 106)).drew.heap.size) := by show _ ≤ (V.alloc _).heap.size; simp; omega
        have aft : Hid (∀ v' w2, w2.ownsRow base 106 7 v' (n + 1) (skCells l ++ X.cells.toList) → (V.alloc (.cells #[.int .i64 x.n, .int .i64 x.p.seq, .int .i64 x.p.time, .bool false, .bool x.p.e, .bool x.p.k, .string x.p.t] 106)).drew.grownBy w2 (Value.slice (some ⟨b, off, none⟩) n c).ownBlock →
            ∃ a' c', v' = .slice a' (n + 1) c' ∧ w2.cell? ⟨M, 0, none⟩ = some (.slice (some ⟨b, off, none⟩) n c) ∧ w2.frozen? ⟨M, 0, none⟩ = false ∧
              Hid (∀ w3, Hid (w3 = w2.setCell ⟨M, 0, none⟩ (.slice a' (n + 1) c')) → Make base M w3 (l ++ [x]) ∧ Below base w w3 ∧ ∀ j, j < w.heap.size → j ≠ M → some j ≠ (Value.slice (some ⟨b, off, none⟩) n c).ownBlock → w3.heap[j]? = w.heap[j]?)) := fun v' w2 ho2 hg2 => by
          obtain ⟨a', c', hv'⟩ := Sl.len (Sl.of_owns ho2)
          have hMb : some M ≠ (Value.slice (some ⟨b, off, none⟩) n c).ownBlock := fun e => KNE.out M e.symm rfl
          have k2 : Blk w2 M #[.slice (some ⟨b, off, none⟩) n c] 133 := (hg2.block M (by show M < (V.alloc _).heap.size; simp; omega) hMb).trans (kV.out.alloc _)
          refine ⟨a', c', hv', k2.one, k2.free 0, fun w3 hw3 => ⟨⟨.slice a' (n + 1) c', by rw [hw3.out]; exact k2.set 0 _, ?_⟩, ?_, fun j h1 h2 h3 => ?_⟩⟩
          · have e : (l ++ [x]).length = n + 1 := by rw [List.length_append, ← HN.out]; rfl
            rw [e, skCells_append, skCells_one, ← HX.out, hw3.out, ← hv']
            refine owns_same ho2 fun g hg => Below.heap_setCell _ _ _ _ (fun e => ?_)
            obtain ⟨_, cur, h3⟩ := owns_blk ho2 hg
            exact Apart_type k2 h3 (by decide) e.symm
          · rw [hw3.out]
            exact (((bV.out.alloc (by omega) _).drew).grown hg2 (by show _ ≤ (V.alloc _).heap.size; simp; omega) (fun j hj => (oV.out.lt j hj).1)).setCell (by exact hbM) _
          · rw [hw3.out, Below.heap_setCell _ _ _ _ (by exact h2), hg2.block j (by have := sV.out; show _ < (V.alloc _).heap.size; simp; omega) h3]
            exact (Below.heap_alloc V _ j (by have := sV.out; omega)).trans (tV.out j h1)
        go_wp2
        go_region_law (refine step_append_own2 rfl (.tmp 46) (.tmp 48) 22 rfl base 106 i0 _ 7 48 Tryz.underlying22 hi hz0 hz1 hz2 rfl (by decide) (.slice (some ⟨b, off, none⟩) n c) n (skCells l) (by simp [Act.eval]) own1.out ⟨V.heap.size, 0, none⟩ 1 1 X.cells.toList (by simp [Act.eval]) rfl new1.out (oneSlot X) l1.out l2.out l3.out ?_; intro v' w2 ho2 hg2 _; obtain ⟨a', c', hv', g0, g1, G⟩ := aft.out v' w2 ho2 hg2; clear ho2 hg2; subst hv')
        all_goals
          clear own1 new1 l1 l2 l3 aft
          go_wp2
          go_end0
          rw [HRR.out]
          exact ⟨rfl, G.out _ rfl⟩
  · have HRR : Hid (R = [x]) := by
      show R = [x]
      rw [HR.out]; unfold takeF; rw [if_pos hf]
    go_enter Tryz.func118, Tryz.ntmps118
    go_wp2
    go_end0
    rw [HRR.out]
    have hxc : x.cells = #[.int .i64 x.n, .int .i64 x.p.seq, .int .i64 x.p.time, .bool true, .bool x.p.e, .bool x.p.k, .string x.p.t] := by simp [Sk.cells, hf]
    refine ⟨rfl, ⟨.slice (some ⟨w.heap.size + 1, 0, none⟩) 1 1, ((HM.out.set 0 _).alloc _).alloc _, ?_⟩, ?_, fun j h1 h2 _ => ?_⟩
    · have h := World.ownsRow_lit (base := base) (e := 106) (size := 7) ((w.setCell ⟨M, 0, none⟩ (.slice (some ⟨w.heap.size + 1, 0, none⟩) 1 1)).alloc (.cells #[.int .i64 x.n, .int .i64 x.p.seq, .int .i64 x.p.time, .bool true, .bool x.p.e, .bool x.p.k, .string x.p.t] 106)) #[.int .i64 x.n, .int .i64 x.p.seq, .int .i64 x.p.time, .bool true, .bool x.p.e, .bool x.p.k, .string x.p.t] 1 (by simp; omega) (by unfold maxLen; omega) rfl
      simp only [World.size_alloc, World.size_setCell] at h
      rw [skCells_one, hxc]
      exact h
    · exact (((Below.refl base w).setCell (by exact hbM) _).alloc (by simp; omega) _).alloc (by simp; omega) _
    · rw [Below.heap_alloc _ _ _ (by simp; omega), Below.heap_alloc _ _ _ (by simp; omega), Below.heap_setCell _ _ _ _ (by exact h2)]

end Go.Proofs.YtnpaejknoipicagGreat

namespace Go.Proofs.YtnpaejknoipicagGreat
open Go.RowKit

/-- did a frame come to its end? -/
def addW (l : List Sk) (x : Sk) : Bool := decide (0 < (takeF l x).length) && x.p.e
/-- what is open then -/
def addO (l : List Sk) (x : Sk) : List Sk := if addW l x then [] else if (takeF l x).length = 4 then [] else takeF l x
/-- the frame's time, Key, Parts -/
def addT (l : List Sk) (x : Sk) : Int := if addW l x then ((takeF l x)[0]?.getD Sk.zero).p.time else 0
def addK (l : List Sk) (x : Sk) : Bool := addW l x && ((takeF l x)[0]?.getD Sk.zero).p.k
def addP (l : List Sk) (x : Sk) : List ByteArray := if addW l x then texts (takeF l x) else []

theorem Sl.same {w w' : World} {v : Value} {n size : Nat} {xs : List Value} (h : Sl w v n size xs) (hs : w.heap.size ≤ w'.heap.size) (hb : ∀ g, v.ownBlock = some g → w'.heap[g]? = w.heap[g]?) : Sl w' v n size xs := by
  obtain ⟨hl, h | ⟨b, off, c, rfl, hlt, hc⟩⟩ := h
  · exact ⟨hl, .inl h⟩
  · exact ⟨hl, .inr ⟨b, off, c, rfl, by omega, fun j u hj => (World.cell?_of_block (hb b rfl)).trans (hc j u hj)⟩⟩

theorem takeF_len (l : List Sk) (x : Sk) : (takeF l x).length ≤ l.length + 1 := by
  unfold takeF
  split
  · simp
  · split <;> simp

set_option maxHeartbeats 2000000 in
set_option maxRecDepth 100000 in
theorem add_any (base M : Nat) (l : List Sk) (x : Sk) (w : World) (ov : Value) (hM : Blk w M #[ov] 133) (hown : w.ownsRow base 106 7 ov l.length (skCells l)) (hbM : base ≤ M) (hnums : ∀ y ∈ l, 65536 ≤ y.n ∧ y.n ≤ 1000000000) (hlen : l.length ≤ 49) :
    Calls Tryz.prog 84 #[.pointer (some ⟨M, 0, none⟩), x.val] w fun e w' => ∃ pv, e = .returned (.tuple #[.agg #[.int .i64 (addT l x), .bool (addK l x), pv], .bool (addW l x)]) ∧ Strs w' pv (addP l x) ∧ (∀ g, pv.ownBlock = some g → base ≤ g ∧ ∃ cur, Blk w' g cur 9) ∧ Make base M w' (addO l x) ∧ Below base w w' ∧ ∀ j, j < w.heap.size → j ≠ M → some j ≠ ov.ownBlock → w'.heap[j]? = w.heap[j]? := by
  have hMw := hM.lt
  obtain ⟨X, hX⟩ : ∃ X, X = x := ⟨_, rfl⟩
  have HXV : Hid (X.val = .agg #[.int .i64 x.n, .int .i64 x.p.seq, .int .i64 x.p.time, .bool x.p.f, .bool x.p.e, .bool x.p.k, .string x.p.t]) := by show X.val = _; rw [hX]; rfl
  have htk := take_any base M l X ((w.alloc (.cells #[.int .i64 x.n, .int .i64 x.p.seq, .int .i64 x.p.time, .bool x.p.f, .bool x.p.e, .bool x.p.k, .string x.p.t] 106)).alloc (.cells #[.int .i64 0, .bool false, .slice none 0 0] 98)) ov ((hM.alloc _).alloc _) ((hown.alloc _).alloc _) hbM hnums (by omega)
  rw [HXV.out] at htk
  have HXE : Hid (X = x) := hX
  have HOV : Hid (∀ g, ov.ownBlock = some g → g < w.heap.size) := fun g hg => (hown.lt g hg).2
  obtain ⟨T, hT⟩ : ∃ T, T = takeF l X := ⟨_, rfl⟩
  rw [← hT] at htk
  have HT : Hid (T = takeF l x) := by show T = _; rw [hT, hX]
  have HTL : Hid (T.length ≤ 50) := by show _ ≤ _; rw [HT.out]; have := takeF_len l x; omega
  obtain ⟨a, c, hov⟩ := (Sls.of_owns hown).len
  clear hX hM hown hT
  simp only [Sk.val]
  go_enter Tryz.func84, Tryz.ntmps84
  go_wp2_with fail
  refine htk.mono ?_
  rintro e w1 ⟨rfl, ⟨ov1, kM, kO⟩, bel, oth⟩
  have k0 : Blk w1 w.heap.size #[.int .i64 x.n, .int .i64 x.p.seq, .int .i64 x.p.time, .bool x.p.f, .bool x.p.e, .bool x.p.k, .string x.p.t] 106 := (oth _ (by simp; omega) (by omega) (fun e => by have := HOV.out _ e.symm; omega)).trans ((Blk.new w _ _).alloc _)
  have k1 : Blk w1 (w.heap.size + 1) #[.int .i64 0, .bool false, .slice none 0 0] 98 := (oth _ (by simp) (by omega) (fun e => by have := HOV.out _ e.symm; omega)).trans (by
    have := Blk.new (w.alloc (.cells #[.int .i64 x.n, .int .i64 x.p.seq, .int .i64 x.p.time, .bool x.p.f, .bool x.p.e, .bool x.p.k, .string x.p.t] 106)) #[.int .i64 0, .bool false, .slice none 0 0] 98
    simp only [World.size_alloc] at this
    exact this)
  have B1 : Hid (Below base w w1) := (((Below.refl base w).alloc (by omega) _).alloc (by simp; omega) _).trans bel
  have OT1 : Hid (∀ j, j < w.heap.size → j ≠ M → some j ≠ ov.ownBlock → w1.heap[j]? = w.heap[j]?) := fun j h1 h2 h3 => by rw [oth j (by simp; omega) h2 h3, Below.heap_alloc _ _ _ (by simp; omega), Below.heap_alloc _ _ _ h1]
  obtain ⟨a1, c1, e1⟩ := (Sls.of_owns kO).len
  obtain ⟨m, hm⟩ : ∃ m, m = T.length := ⟨_, rfl⟩
  have HM : Hid (m = T.length) := hm
  rw [← hm] at e1 kO
  subst e1
  have KM : Hid (Blk w1 M #[.slice a1 m c1] 133) := kM
  have KO : Hid (w1.ownsRow base 106 7 (.slice a1 m c1) m (skCells T)) := kO
  have K1 : Hid (Blk w1 (w.heap.size + 1) #[.int .i64 0, .bool false, .slice none 0 0] 98) := k1
  have d0 := kM.one
  have mf := kM.free 0
  have xe := k0.seven.2.2.2.2.1
  obtain ⟨z0, z1, z2⟩ := k1.three
  have zf := k1.free
  have hs1 := k1.lt
  have hMs := kM.lt
  clear htk bel oth k0 k1 kM kO hm
  have hne1 : ¬ M = w.heap.size + 1 := by omega
  have hne2 : ¬ w.heap.size + 1 = M := by omega
  by_cases hw : 0 < m ∧ x.p.e = true
  · obtain ⟨hm0, hxe⟩ := hw
    have HWF : Hid (addW l x = true) := by
      show addW l x = true
      unfold addW
      rw [← HT.out, ← HM.out, hxe, decide_eq_true hm0]; rfl
    have hd : decide (0 < m) = true := decide_eq_true hm0
    cases T with
    | nil => have := HM.out; simp at this; omega
    | cons y r =>
    have hfo := frameOf_any (.slice a1 m c1) y r w1 (Sls.of_owns (by rw [← HM.out]; exact KO.out)) (by have := HTL.out; omega)
    have HS : Hid (addT l x = y.p.time ∧ addK l x = y.p.k ∧ addP l x = texts (y :: r) ∧ addO l x = []) := by
      refine ⟨?_, ?_, ?_, ?_⟩
      · unfold addT; rw [HWF.out, ← HT.out]; rfl
      · unfold addK; rw [HWF.out, ← HT.out]; rfl
      · unfold addP; rw [HWF.out, ← HT.out]; rfl
      · unfold addO; rw [HWF.out]; rfl
    go_wp2_with fail
    refine hfo.mono ?_
    rintro e w2 ⟨pv, rfl, hst, hfr, hb2⟩
    have kM2 := Blk.below KM.out hb2 (Blk.lt KM.out)
    have k12 := Blk.below K1.out hb2 (Blk.lt K1.out)
    have m0 := kM2.one
    have mf2 := kM2.free 0
    obtain ⟨y0, y1, y2⟩ := k12.three
    have yf := k12.free
    have hs2 := k12.lt
    have hM2 := kM2.lt
    obtain ⟨ap, cp, epv⟩ := hst.len
    obtain ⟨np, hnp⟩ : ∃ np, np = (texts (y :: r)).length := ⟨_, rfl⟩
    rw [← hnp] at epv
    subst epv
    have hz : Hid (w1.heap.size ≤ w2.heap.size) := hb2.size
    have HST : Hid (Strs w2 (.slice ap np cp) (texts (y :: r))) := hst
    have HFR : Hid (∀ g, (Value.slice ap np cp).ownBlock = some g → w1.heap.size ≤ g ∧ g < w2.heap.size) := fun g hg => by obtain ⟨h1, cur, h2⟩ := hfr g hg; exact ⟨h1, h2.lt⟩
    have HFB : Hid (∀ g, (Value.slice ap np cp).ownBlock = some g → ∃ cur, Blk w2 g cur 9) := fun g hg => (hfr g hg).2
    have KM2 : Hid (Blk w2 M #[.slice a1 m c1] 133) := kM2
    have OT2 : Hid (∀ j, j < w.heap.size → j ≠ M → some j ≠ ov.ownBlock → w2.heap[j]? = w.heap[j]?) := fun j h1 h2 h3 => (hb2.block j (by omega)).trans (OT1.out j h1 h2 h3)
    have B2 : Hid (Below base w w2) := B1.out.trans (hb2.mono (by have := B1.out.size; omega))
    clear hst hfr hb2 kM2 k12 hfo d0 mf z0 z1 z2 zf hnp
    go_wp2
    refine bodyPost_ret (v := .tuple #[.agg #[.int .i64 y.p.time, .bool y.p.k, .slice ap np cp], .bool true]) (by simp [results, Tryz.results84, go_sem, World.cell?_alloc_past, hs2, y0, y1, y2]) rfl ?_
    rw [HS.out.1, HS.out.2.1, HS.out.2.2.1, HS.out.2.2.2, HWF.out]
    refine ⟨_, rfl, ?_, fun g hg => ?_, ⟨.slice none 0 0, ?_, World.ownsRow_nil _ _ _ _⟩, ?_, fun j h1 h2 h3 => ?_⟩
    · refine Sl.same HST.out (by simp) (fun g hg => ?_)
      have h1 := HFR.out g hg
      have h2 : g ≠ w.heap.size + 1 := by omega
      have h3 : g ≠ M := by omega
      rw [Below.heap_alloc _ _ _ (by simp; omega), Below.heap_setCell _ _ _ _ (by exact h2), Below.heap_setCell _ _ _ _ (by exact h2), Below.heap_setCell _ _ _ _ (by exact h2), Below.heap_setCell _ _ _ _ (by exact h3)]
    · have h1 := HFR.out g hg
      obtain ⟨cur, hc⟩ := HFB.out g hg
      have h2 : g ≠ w.heap.size + 1 := by omega
      have h3 : g ≠ M := by omega
      exact ⟨by omega, cur, ((((hc.other (by exact h3) _).other (by exact h2) _).other (by exact h2) _).other (by exact h2) _).alloc _⟩
    · exact ((((KM2.out.set 0 _).other (by simpa using hne1) _).other (by simpa using hne1) _).other (by simpa using hne1) _).alloc _
    · exact ((((B2.out.setCell (by exact hbM) _).setCell (by simp; omega) _).setCell (by simp; omega) _).setCell (by simp; omega) _).alloc (by simp; omega) _
    · have h4 : j ≠ w.heap.size + 1 := by omega
      rw [Below.heap_alloc _ _ _ (by simp; omega), Below.heap_setCell _ _ _ _ (by exact h4), Below.heap_setCell _ _ _ _ (by exact h4), Below.heap_setCell _ _ _ _ (by exact h4), Below.heap_setCell _ _ _ _ (by exact h2)]
      exact OT2.out j h1 h2 h3
  · have HWF : Hid (addW l x = false) := by
      show addW l x = false
      unfold addW
      rw [← HT.out, ← HM.out]
      cases h : x.p.e
      · simp
      · simp only [Bool.and_true, decide_eq_false_iff_not]; intro h0; exact hw ⟨h0, h⟩
    have HS : Hid (addT l x = 0 ∧ addK l x = false ∧ addP l x = []) := by
      refine ⟨?_, ?_, ?_⟩
      · unfold addT; rw [HWF.out]; rfl
      · unfold addK; rw [HWF.out]; rfl
      · unfold addP; rw [HWF.out]; rfl
    have HO0 : Hid (addO l x = if m = 4 then [] else T) := by show addO l x = _; unfold addO; rw [HWF.out, ← HT.out, ← HM.out]; rfl
    have hg : decide (0 < m) = false ∨ decide (0 < m) = true ∧ x.p.e = false := by
      by_cases h : 0 < m
      · right
        refine ⟨decide_eq_true h, ?_⟩
        cases he : x.p.e
        · rfl
        · exact absurd ⟨h, he⟩ hw
      · left; exact decide_eq_false h
    have KNE : Hid (∀ g, (Value.slice a1 m c1).ownBlock = some g → g ≠ w.heap.size + 1) := fun g hg e => by
      obtain ⟨_, cur, h3⟩ := owns_blk KO.out hg
      exact Apart_type K1.out h3 (by decide) e.symm
    clear hw
    rcases hg with hd | ⟨hd, hxe⟩
    all_goals
      by_cases h4 : m = 4
      · have h4i : ((m : Int) == 4) = true := by simp; omega
        have HO4 : Hid (addO l x = []) := by show _ = _; rw [HO0.out, if_pos h4]
        clear h4
        go_wp2
        refine bodyPost_ret (v := .tuple #[.agg #[.int .i64 0, .bool false, .slice none 0 0], .bool false]) (by simp [results, Tryz.results84, go_sem, z0, z1, z2]) rfl ?_
        rw [HS.out.1, HS.out.2.1, HS.out.2.2, HO4.out, HWF.out]
        exact ⟨_, rfl, Strs.nil _, fun g hg => by simp [Value.ownBlock] at hg, ⟨_, (((KM.out.set 0 _).other (by simpa using hne1) _).other (by simpa using hne1) _).other (by simpa using hne1) _, World.ownsRow_nil _ _ _ _⟩, (((B1.out.setCell (by exact hbM) _).setCell (by simp; omega) _).setCell (by simp; omega) _).setCell (by simp; omega) _, fun j h1 h2 h3 => by
          have h4 : j ≠ w.heap.size + 1 := by omega
          rw [Below.heap_setCell _ _ _ _ (by exact h4), Below.heap_setCell _ _ _ _ (by exact h4), Below.heap_setCell _ _ _ _ (by exact h4), Below.heap_setCell _ _ _ _ (by exact h2)]
          exact OT1.out j h1 h2 h3⟩
      · have h4i : ((m : Int) == 4) = false := by simp; omega
        have HO4 : Hid (addO l x = T) := by show _ = _; rw [HO0.out, if_neg h4]
        clear h4
        go_wp2
        refine bodyPost_ret (v := .tuple #[.agg #[.int .i64 0, .bool false, .slice none 0 0], .bool false]) (by simp [results, Tryz.results84, go_sem, z0, z1, z2]) rfl ?_
        rw [HS.out.1, HS.out.2.1, HS.out.2.2, HO4.out, HWF.out]
        refine ⟨_, rfl, Strs.nil _, fun g hg => by simp [Value.ownBlock] at hg, ⟨_, ((KM.out.other (by simpa using hne1) _).other (by simpa using hne1) _).other (by simpa using hne1) _, ?_⟩, ((B1.out.setCell (by simp; omega) _).setCell (by simp; omega) _).setCell (by simp; omega) _, fun j h1 h2 h3 => by
          have h4 : j ≠ w.heap.size + 1 := by omega
          rw [Below.heap_setCell _ _ _ _ (by exact h4), Below.heap_setCell _ _ _ _ (by exact h4), Below.heap_setCell _ _ _ _ (by exact h4)]
          exact OT1.out j h1 h2 h3⟩
        rw [← HM.out]
        exact owns_same KO.out fun g hg => by
          have := KNE.out g hg
          rw [Below.heap_setCell _ _ _ _ (by exact this), Below.heap_setCell _ _ _ _ (by exact this), Below.heap_setCell _ _ _ _ (by exact this)]

end Go.Proofs.YtnpaejknoipicagGreat

namespace Go.Proofs.YtnpaejknoipicagGreat
open Go.RowKit

theorem blocks4 {w w1 : World} {A B C D : Array Value} {s t u v : TypeId} (hb : Below ((((w.alloc (.cells A s)).alloc (.cells B t)).alloc (.cells C u)).alloc (.cells D v)).heap.size ((((w.alloc (.cells A s)).alloc (.cells B t)).alloc (.cells C u)).alloc (.cells D v)) w1) :
    Blk w1 w.heap.size A s ∧ Blk w1 (w.heap.size + 1) B t ∧ Blk w1 (w.heap.size + 1 + 1) C u ∧ Blk w1 (w.heap.size + 1 + 1 + 1) D v ∧ Below w.heap.size w w1 ∧ w.heap.size + 1 + 1 + 1 + 1 ≤ w1.heap.size := by
  have hs := hb.size
  simp only [World.size_alloc] at hs
  have h2 := ((((Blk.new w A s).alloc (.cells B t)).alloc (.cells C u)).alloc (.cells D v)).below hb (by simp; omega)
  have h3 := (((Blk.new (w.alloc (.cells A s)) B t).alloc (.cells C u)).alloc (.cells D v)).below hb (by simp)
  have h4 := ((Blk.new ((w.alloc (.cells A s)).alloc (.cells B t)) C u).alloc (.cells D v)).below hb (by simp)
  have h5 := (Blk.new (((w.alloc (.cells A s)).alloc (.cells B t)).alloc (.cells C u)) D v).below hb (by simp)
  simp only [World.size_alloc] at h3 h4 h5
  exact ⟨h2, h3, h4, h5, (((((Below.refl _ w).alloc (Nat.le_refl _) _).alloc (by simp) _).alloc (by simp; omega) _).alloc (by simp; omega) _).trans (hb.mono (by simp; omega)), hs⟩

set_option maxHeartbeats 2000000 in
theorem frameAdd_no (ck : Int) (v : Value) (l : List Sk) (x : Sk) (w : World) (hv : Sls w v l)
    (hck : ∀ w' : World, Sls w' v l → Calls Tryz.prog 156 #[.agg #[v]] w' fun e w'' => e = .returned (.int .i64 ck) ∧ Below w'.heap.size w' w'')
    (E : Int) (hEE : E = if ck = 0 then x.chk else ck) (hE : ¬ E = 0) :
    Calls Tryz.prog 133 #[.agg #[v], x.val] w fun e w' => e = .returned (.tuple #[.agg #[.slice none 0 0], .agg #[.int .i64 0, .bool false, .slice none 0 0], .bool false, .int .i64 E]) ∧ Below w.heap.size w w' := by
  obtain ⟨a, c, hva⟩ := hv.len
  obtain ⟨n, hn⟩ : ∃ n, n = l.length := ⟨_, rfl⟩
  rw [← hn] at hva
  have HE : Hid (E = if ck = 0 then x.chk else ck) := hEE
  have HV : Hid (Sls w v l) := hv
  have HC : Hid (∀ w' : World, Sls w' v l → Calls Tryz.prog 156 #[.agg #[v]] w' fun e w'' => e = .returned (.int .i64 ck) ∧ Below w'.heap.size w' w'') := hck
  clear hv hn hEE hck
  subst hva
  have hsc := slotCheck_any x
  obtain ⟨xc, hxc⟩ : ∃ xc, xc = x.chk := ⟨_, rfl⟩
  rw [← hxc] at hsc
  have HX : Hid (xc = x.chk) := hxc
  have HS : Hid _ := hsc
  clear hsc hxc
  by_cases hp : ck = 0
  · have hEx : E = xc := by rw [HE.out, HX.out, if_pos hp]
    subst hp
    subst hEx
    obtain ⟨xn, seq, time, xf, xe, xk, xt⟩ := x
    simp only [Sk.val] at HS ⊢
    go_enter Tryz.func133, Tryz.ntmps133
    go_wp2_with fail
    refine (HC.out _ ((((HV.out.alloc _).alloc _).alloc _).alloc _)).mono ?_
    rintro e w1 ⟨rfl, hb1⟩
    obtain ⟨kb, kx, kr, kf, bb, hs1⟩ := blocks4 hb1
    have KR : Hid _ := kr
    have KF : Hid _ := kf
    have B1 : Hid _ := bb
    obtain ⟨e0, e1, e2, e3, e4, e5, e6⟩ := kx.seven
    clear hb1 kb kx kr kf bb
    go_wp2_with fail
    refine (HS.out _).mono ?_
    rintro e w2 ⟨rfl, hb2⟩
    have kr := Blk.below KR.out hb2 (Blk.lt KR.out)
    have kf := Blk.below KF.out hb2 (Blk.lt KF.out)
    have BB : Hid (Below w.heap.size w w2) := B1.out.trans (hb2.mono B1.out.size)
    have r0 := kr.one
    obtain ⟨r1, r2, r3⟩ := kf.three
    have rf := kr.free
    have ff := kf.free
    clear hb2 kr kf KR KF B1 e0 e1 e2 e3 e4 e5 e6
    go_wp2
    exact bodyPost_ret (v := .tuple #[.agg #[.slice none 0 0], .agg #[.int .i64 0, .bool false, .slice none 0 0], .bool false, .int .i64 E]) (by simp [results, Tryz.results133, go_sem, r0, r1, r2, r3]) rfl ⟨rfl, by
      have h := BB.out
      exact (((h.setCell (by simp; omega) _).setCell (by simp; omega) _).setCell (by simp; omega) _).setCell (by simp; omega) _⟩
  · have hEp : E = ck := by rw [HE.out, if_neg hp]
    subst hEp
    obtain ⟨xn, seq, time, xf, xe, xk, xt⟩ := x
    simp only [Sk.val]
    go_enter Tryz.func133, Tryz.ntmps133
    go_wp2_with fail
    refine (HC.out _ ((((HV.out.alloc _).alloc _).alloc _).alloc _)).mono ?_
    rintro e w1 ⟨rfl, hb1⟩
    obtain ⟨kb, kx, kr, kf, bb, hs1⟩ := blocks4 hb1
    have r0 := kr.one
    obtain ⟨r1, r2, r3⟩ := kf.three
    have rf := kr.free
    have ff := kf.free
    have BB : Hid _ := bb
    clear hb1 kb kx kr kf bb
    go_wp2
    exact bodyPost_ret (v := .tuple #[.agg #[.slice none 0 0], .agg #[.int .i64 0, .bool false, .slice none 0 0], .bool false, .int .i64 E]) (by simp [results, Tryz.results133, go_sem, r0, r1, r2, r3]) rfl ⟨rfl, by
      have h := BB.out
      exact (((h.setCell (by simp; omega) _).setCell (by simp; omega) _).setCell (by simp; omega) _).setCell (by simp; omega) _⟩

set_option maxHeartbeats 2000000 in
set_option maxRecDepth 100000 in
theorem frameAdd_ok (v : Value) (l : List Sk) (x : Sk) (w : World) (hv : Sls w v l)
    (hck : ∀ w' : World, Sls w' v l → Calls Tryz.prog 156 #[.agg #[v]] w' fun e w'' => e = .returned (.int .i64 0) ∧ Below w'.heap.size w' w'')
    (hl3 : l.length ≤ 3) (hl : ∀ y ∈ l, y.chk = 0) (hx : x.chk = 0) :
    Calls Tryz.prog 133 #[.agg #[v], x.val] w fun e w' => ∃ ov pv, e = .returned (.tuple #[.agg #[ov], .agg #[.int .i64 (addT l x), .bool (addK l x), pv], .bool (addW l x), .int .i64 0]) ∧
      (Sls w' ov (addO l x) ∧ Strs w' pv (addP l x) ∧ (∀ g, ov.ownBlock = some g → w.heap.size ≤ g ∧ g < w'.heap.size) ∧ ∀ g, pv.ownBlock = some g → w.heap.size ≤ g ∧ g < w'.heap.size) ∧ Below w.heap.size w w' := by
  obtain ⟨a, c, hva⟩ := hv.len
  have HV : Hid (Sls w v l) := hv
  have HC : Hid (∀ w' : World, Sls w' v l → Calls Tryz.prog 156 #[.agg #[v]] w' fun e w'' => e = .returned (.int .i64 0) ∧ Below w'.heap.size w' w'') := hck
  have HS : Hid (∀ w' : World, Calls Tryz.prog 83 #[x.val] w' fun e w'' => e = .returned (.int .i64 0) ∧ Below w'.heap.size w' w'') := fun w' => by rw [← hx]; exact slotCheck_any x w'
  have HKp : Hid (∀ w' : World, Sls w' v l → Calls Tryz.prog 68 #[v] w' fun e w'' => ∃ u, e = .returned u ∧ w''.ownsRow w'.heap.size 106 7 u l.length (skCells l) ∧ Below w'.heap.size w' w'') := fun w' hs => copyAll_any v l w' hs (by omega) (fun y hy => Sk.chk_short (hl y hy))
  have HCo : Hid (∀ w' : World, Calls Tryz.prog 85 #[x.val] w' fun e w'' => e = .returned x.val ∧ Below w'.heap.size w' w'') := fun w' => slotCopy_any x w' (Sk.chk_short hx)
  have HPu : Hid (∀ (K base : Nat) (hv' : Value) (w' : World), Blk w' K #[hv'] 133 → w'.ownsRow base 106 7 hv' l.length (skCells l) → base ≤ K →
      Calls Tryz.prog 84 #[.pointer (some ⟨K, 0, none⟩), x.val] w' fun e w'' => ∃ pv, e = .returned (.tuple #[.agg #[.int .i64 (addT l x), .bool (addK l x), pv], .bool (addW l x)]) ∧ Strs w'' pv (addP l x) ∧ (∀ g, pv.ownBlock = some g → base ≤ g ∧ ∃ cur, Blk w'' g cur 9) ∧ Make base K w'' (addO l x) ∧ Below base w' w'') := fun K base hv' w' h1 h2 h3 =>
    (add_any base K l x w' hv' h1 h2 h3 (fun y hy => by have := Sk.chk_zero (hl y hy); omega) (by omega)).mono fun e w'' ⟨pv, h1, h2, h3, h4, h5, _⟩ => ⟨pv, h1, h2, h3, h4, h5⟩
  obtain ⟨n, hn⟩ : ∃ n, n = l.length := ⟨_, rfl⟩
  rw [← hn] at hva
  rw [← hn] at HKp HPu
  obtain ⟨rT, hrT⟩ : ∃ rT, rT = addT l x := ⟨_, rfl⟩
  obtain ⟨rK, hrK⟩ : ∃ rK, rK = addK l x := ⟨_, rfl⟩
  obtain ⟨rW, hrW⟩ : ∃ rW, rW = addW l x := ⟨_, rfl⟩
  obtain ⟨rO, hrO⟩ : ∃ rO, rO = addO l x := ⟨_, rfl⟩
  obtain ⟨rP, hrP⟩ : ∃ rP, rP = addP l x := ⟨_, rfl⟩
  rw [← hrT, ← hrK, ← hrW, ← hrO, ← hrP]
  rw [← hrT, ← hrK, ← hrW, ← hrO, ← hrP] at HPu
  clear hv hn hck hrT hrK hrW hrO hrP hx hl3 hl
  subst hva
  obtain ⟨xn, seq, time, xf, xe, xk, xt⟩ := x
  simp only [Sk.val] at HS HCo HPu ⊢
  go_enter Tryz.func133, Tryz.ntmps133
  go_wp2_with fail
  refine (HC.out _ ((((HV.out.alloc _).alloc _).alloc _).alloc _)).mono ?_
  rintro e w1 ⟨rfl, hb1⟩
  obtain ⟨kb, kx, kr, kf, bb, hs1⟩ := blocks4 hb1
  have v1 : Hid (Sls w1 (.slice a n c) l) := ((((HV.out.alloc _).alloc _).alloc _).alloc _).below hb1
  have KB1 : Hid _ := kb
  have KX1 : Hid _ := kx
  have KR1 : Hid _ := kr
  have KF1 : Hid _ := kf
  have B1 : Hid _ := bb
  obtain ⟨e0, e1, e2, e3, e4, e5, e6⟩ := kx.seven
  clear hb1 kb kx kr kf bb HC HV
  go_wp2_with fail
  refine (HS.out _).mono ?_
  rintro e w2 ⟨rfl, hb2⟩
  have KB2 : Hid _ := Blk.below KB1.out hb2 (Blk.lt KB1.out)
  have KX2 : Hid _ := Blk.below KX1.out hb2 (Blk.lt KX1.out)
  have KR2 : Hid _ := Blk.below KR1.out hb2 (Blk.lt KR1.out)
  have KF2 : Hid _ := Blk.below KF1.out hb2 (Blk.lt KF1.out)
  have v2 : Hid (Sls w2 (.slice a n c) l) := v1.out.below hb2
  have B2 : Hid (Below w.heap.size w w2) := B1.out.trans (hb2.mono B1.out.size)
  have f0 := Blk.one KB2.out
  clear hb2 KB1 KX1 KR1 KF1 B1 v1 e0 e1 e2 e3 e4 e5 e6 HS
  go_wp2_with fail
  refine (HKp.out _ v2.out).mono ?_
  rintro e w3 ⟨u, rfl, ho3, hb3⟩
  obtain ⟨a', c', hu⟩ := Sl.len (Sl.of_owns ho3)
  have KX3 : Hid _ := Blk.below KX2.out hb3 (Blk.lt KX2.out)
  have KR3 : Hid _ := Blk.below KR2.out hb3 (Blk.lt KR2.out)
  have KF3 : Hid _ := Blk.below KF2.out hb3 (Blk.lt KF2.out)
  have B3 : Hid (Below w.heap.size w w3) := B2.out.trans (hb3.mono B2.out.size)
  obtain ⟨e0, e1, e2, e3, e4, e5, e6⟩ := Blk.seven KX3.out
  have hle3 := hb3.size
  have hr2 := Blk.lt KR2.out
  have hf2 := Blk.lt KF2.out
  subst hu
  have HO3 : Hid (w3.ownsRow w2.heap.size 106 7 (.slice a' n c') n (skCells l)) := ho3
  clear hb3 ho3 f0 v2 KB2 KX2 HKp
  have lt3 : w.heap.size + 1 < w3.heap.size := by omega
  go_wp2_with fail
  refine (HCo.out _).mono ?_
  rintro e w4 ⟨rfl, hb4⟩
  have k4 := Blk.below (Blk.new w3 #[.slice a' n c'] 133) hb4 (by simp)
  have KR4 : Hid _ := Blk.below (Blk.alloc KR3.out (.cells #[.slice a' n c'] 133)) hb4 (by have := Blk.lt KR3.out; simp; omega)
  have KF4 : Hid _ := Blk.below (Blk.alloc KF3.out (.cells #[.slice a' n c'] 133)) hb4 (by have := Blk.lt KF3.out; simp; omega)
  have ho4 := owns_below (HO3.out.alloc (.cells #[.slice a' n c'] 133)) hb4 (Nat.le_refl _)
  have hs4 := hb4.size
  simp only [World.size_alloc] at hs4
  have B4 : Hid (Below w.heap.size w w4) := (B3.out.alloc B3.out.size _).trans (hb4.mono (by have := B3.out.size; simp; omega))
  clear hb4 KX3 KR3 KF3 B3 HO3 e0 e1 e2 e3 e4 e5 e6 HCo
  go_wp2_with fail
  refine (HPu.out w3.heap.size w2.heap.size _ w4 k4 ho4 (by omega)).mono ?_
  rintro e w5 ⟨pv, rfl, hst, hfr, ⟨ov, km, ko⟩, hb5⟩
  have kr5 := Blk.below KR4.out hb5 hr2
  have kf5 := Blk.below KF4.out hb5 hf2
  have g0 := km.one
  have r0 := Blk.one kr5
  obtain ⟨r1, r2, r3⟩ := Blk.three kf5
  have rf := Blk.free kr5
  have ff := Blk.free kf5
  have hr5 := Blk.lt kr5
  have hf5 := Blk.lt kf5
  have hm5 := Blk.lt km
  have B5 : Hid (Below w.heap.size w w5) := B4.out.trans (hb5.mono (by have := B2.out.size; omega))
  have hw2 : w.heap.size ≤ w2.heap.size := B2.out.size
  obtain ⟨ah, ch, eh⟩ := (Sls.of_owns ko).len
  obtain ⟨ap, cp, ep⟩ := hst.len
  subst eh
  subst ep
  have FIN : Hid (∀ w6 : World, w5.heap.size ≤ w6.heap.size → (∀ j, w2.heap.size ≤ j → j < w5.heap.size → w6.heap[j]? = w5.heap[j]?) → Sls w6 (.slice ah rO.length ch) rO ∧ Strs w6 (.slice ap rP.length cp) rP ∧ (∀ g, (Value.slice ah rO.length ch).ownBlock = some g → w.heap.size ≤ g ∧ g < w6.heap.size) ∧ ∀ g, (Value.slice ap rP.length cp).ownBlock = some g → w.heap.size ≤ g ∧ g < w6.heap.size) := fun w6 h1 h2 =>
    ⟨Sl.same (Sls.of_owns ko) h1 (fun g hg => by obtain ⟨h3, cur, h4⟩ := owns_blk ko hg; exact h2 g h3 h4.lt), Sl.same hst h1 (fun g hg => by obtain ⟨h3, cur, h4⟩ := hfr g hg; exact h2 g h3 h4.lt), fun g hg => by obtain ⟨h3, cur, h4⟩ := owns_blk ko hg; have := h4.lt; omega, fun g hg => by obtain ⟨h3, cur, h4⟩ := hfr g hg; have := h4.lt; omega⟩
  clear hb5 kr5 kf5 k4 ho4 KR4 KF4 B4 HPu hst hfr km ko
  have hne5 : ¬ w3.heap.size = w.heap.size + 1 + 1 := by omega
  have hne6 : ¬ w3.heap.size = w.heap.size + 1 + 1 + 1 := by omega
  have hne7 : ¬ w.heap.size + 1 + 1 = w3.heap.size := by omega
  have hne8 : ¬ w.heap.size + 1 + 1 + 1 = w3.heap.size := by omega
  go_wp2_with fail
  go_region
  all_goals
    go_wp2
    refine bodyPost_ret (v := .tuple #[.agg #[.slice ah rO.length ch], .agg #[.int .i64 rT, .bool rK, .slice ap rP.length cp], .bool rW, .int .i64 0]) (by simp [results, Tryz.results133, go_sem, r0, r1, r2, r3, hr5, hf5]) rfl ⟨_, _, rfl, ?_⟩
    refine ⟨FIN.out _ (by simp) (fun j h1 h2 => ?_), ?_⟩
    · have e1 : j ≠ w.heap.size + 1 + 1 := by omega
      have e2 : j ≠ w.heap.size + 1 + 1 + 1 := by omega
      show (World.alloc _ _).heap[j]? = _
      rw [Below.heap_alloc _ _ _ (by simp; omega), Below.heap_setCell _ _ _ _ (by exact e2), Below.heap_setCell _ _ _ _ (by exact e2), Below.heap_setCell _ _ _ _ (by exact e2), Below.heap_setCell _ _ _ _ (by exact e1)]
    · exact (((((B5.out.setCell (by simp; omega) _).setCell (by simp; omega) _).setCell (by simp; omega) _).setCell (by simp; omega) _).alloc (by have := B5.out.size; simp; omega) _).drew

end Go.Proofs.YtnpaejknoipicagGreat

namespace Go.Proofs.YtnpaejknoipicagGreat
open Go.RowKit

end Go.Proofs.YtnpaejknoipicagGreat

namespace Go.Proofs.YtnpaejknoipicagGreat
open Go.RowKit

end Go.Proofs.YtnpaejknoipicagGreat

namespace Go.Proofs.YtnpaejknoipicagGreat
open Go.RowKit Go.Sort

structure Fr where
  time : Int
  key : Bool
  parts : List ByteArray
deriving DecidableEq
def Fr.zero : Fr := ⟨0, false, []⟩

/-- three cells that show a frame -/
def At3 (w : World) (b off : Nat) (f : Fr) : Prop := ∃ pv, w.cell? ⟨b, off, none⟩ = some (.int .i64 f.time) ∧ w.cell? ⟨b, off + 1, none⟩ = some (.bool f.key) ∧ w.cell? ⟨b, off + 2, none⟩ = some pv ∧ Strs w pv f.parts ∧ f.parts.length ≤ 9223372036854775807
theorem At3.below {w w' : World} {b off : Nat} {f : Fr} (h : At3 w b off f) (hb : Below w.heap.size w w') (hB : b < w.heap.size) : At3 w' b off f := by
  obtain ⟨pv, h0, h1, h2, h3, h4⟩ := h
  exact ⟨pv, (hb.cell hB).trans h0, (hb.cell hB).trans h1, (hb.cell hB).trans h2, h3.below hb, h4⟩
/-- v shows these frames in world w -/
def Frs (w : World) (v : Value) (l : List Fr) : Prop := ∃ ao c, v = .slice ao l.length c ∧ ∀ k, k < l.length → ∃ b off, ao = some ⟨b, off, none⟩ ∧ b < w.heap.size ∧ At3 w b (off + k * 3) (l[k]?.getD Fr.zero)
theorem Frs.below {w w' : World} {v : Value} {l : List Fr} (h : Frs w v l) (hb : Below w.heap.size w w') : Frs w' v l := by
  obtain ⟨ao, c, hv, hc⟩ := h
  refine ⟨ao, c, hv, fun k hk => ?_⟩
  obtain ⟨b, off, h1, h2, h3⟩ := hc k hk
  exact ⟨b, off, h1, Nat.lt_of_lt_of_le h2 hb.size, h3.below hb h2⟩
theorem Frs.len {w : World} {v : Value} {l : List Fr} (h : Frs w v l) : ∃ a c, v = .slice a l.length c := by
  obtain ⟨ao, c, hv, _⟩ := h
  exact ⟨ao, c, hv⟩
theorem Frs.nil (w : World) : Frs w (.slice none 0 0) [] := ⟨none, 0, rfl, fun _ hk => absurd hk (Nat.not_lt_zero _)⟩

end Go.Proofs.YtnpaejknoipicagGreat

namespace Go.Proofs.YtnpaejknoipicagGreat
open Go.RowKit

/-- one slot more: what is open, which frames came -/
def stepA (s : List Sk × List Fr) (x : Sk) : List Sk × List Fr := (addO s.1 x, if addW s.1 x then s.2 ++ [⟨addT s.1 x, addK s.1 x, addP s.1 x⟩] else s.2)
def upA (l : List Sk) (k : Nat) : List Sk × List Fr := (l.take k).foldl stepA ([], [])
/-- the frames of slots -/
def framesS (l : List Sk) : List Fr := (upA l l.length).2
theorem upA_succ (l : List Sk) (k : Nat) (hk : k < l.length) : upA l (k + 1) = stepA (upA l k) (l[k]?.getD Sk.zero) := by
  unfold upA
  rw [take_one hk Sk.zero, List.foldl_append]
  rfl
theorem addO_len (l : List Sk) (x : Sk) (h : l.length ≤ 3) : (addO l x).length ≤ 3 := by
  have := takeF_len l x
  unfold addO
  split
  · simp
  · split
    · simp
    · omega
theorem takeF_mem {l : List Sk} {x y : Sk} (h : y ∈ takeF l x) : y ∈ l ∨ y = x := by
  unfold takeF at h
  split at h
  · right; simpa using h
  · split at h
    · simpa using h
    · simp at h
theorem addO_mem {l : List Sk} {x y : Sk} (h : y ∈ addO l x) : y ∈ l ∨ y = x := by
  unfold addO at h
  split at h
  · simp at h
  · split at h
    · simp at h
    · exact takeF_mem h
theorem addP_len (l : List Sk) (x : Sk) (h : l.length ≤ 3) : (addP l x).length ≤ 4 := by
  have := takeF_len l x
  unfold addP
  split
  · simp [texts]; omega
  · simp

def frCells (ps : List (Fr × Value)) : List Value := ps.flatMap fun p => [.int .i64 p.1.time, .bool p.1.key, p.2]
theorem frCells_len (ps : List (Fr × Value)) : (frCells ps).length = ps.length * 3 := by
  induction ps with
  | nil => rfl
  | cons p r ih => simp only [frCells, List.flatMap_cons, List.length_append] at ih ⊢; rw [ih]; simp; omega
theorem frCells_append (l m : List (Fr × Value)) : frCells (l ++ m) = frCells l ++ frCells m := by simp [frCells]
theorem frCells_at (ps : List (Fr × Value)) : ∀ (k i : Nat) (p : Fr × Value), i < 3 → ps[k]? = some p → (frCells ps)[k * 3 + i]? = [Value.int .i64 p.1.time, .bool p.1.key, p.2][i]? := by
  induction ps with
  | nil => intro k i p _ h; simp at h
  | cons x r ih =>
    intro k i p hi hk
    simp only [frCells, List.flatMap_cons] at ih ⊢
    cases k with
    | zero =>
      simp at hk
      subst hk
      rw [List.getElem?_append_left (by simp; omega)]
      simp
    | succ k =>
      rw [List.getElem?_append_right (by simp; omega)]
      simp only [List.length_cons, List.length_nil]
      rw [show (k + 1) * 3 + i - (0 + 1 + 1 + 1) = k * 3 + i by omega]
      exact ih k i p hi (by simpa using hk)

/-- a frame's value shows its texts, in a block of strings -/
def Good (w : World) (p : Fr × Value) : Prop := Strs w p.2 p.1.parts ∧ p.1.parts.length ≤ 4 ∧ ∀ g, p.2.ownBlock = some g → ∃ cur, Blk w g cur 9
def Outs (base : Nat) (w : World) (v : Value) (l : List Fr) : Prop := ∃ ps : List (Fr × Value), ps.map Prod.fst = l ∧ w.ownsRow base 98 3 v ps.length (frCells ps) ∧ ∀ p ∈ ps, Good w p
theorem Good.same {w w' : World} {p : Fr × Value} (h : Good w p) (hs : w.heap.size ≤ w'.heap.size) (h1 : ∀ g cur, Blk w g cur 9 → w'.heap[g]? = w.heap[g]?) : Good w' p :=
  ⟨Sl.same h.1 hs (fun g hg => by obtain ⟨cur, hc⟩ := h.2.2 g hg; exact h1 g cur hc), h.2.1, fun g hg => by obtain ⟨cur, hc⟩ := h.2.2 g hg; exact ⟨cur, (h1 g cur hc).trans hc⟩⟩
theorem Outs.same {base : Nat} {w w' : World} {v : Value} {l : List Fr} (h : Outs base w v l) (hs : w.heap.size ≤ w'.heap.size) (h1 : ∀ g cur, Blk w g cur 9 → w'.heap[g]? = w.heap[g]?) (h2 : ∀ g cur, Blk w g cur 98 → w'.heap[g]? = w.heap[g]?) : Outs base w' v l := by
  obtain ⟨ps, hp, ho, hg⟩ := h
  exact ⟨ps, hp, owns_same ho (fun g hgg => by obtain ⟨_, cur, hc⟩ := owns_blk ho hgg; exact h2 g cur hc), fun p hpp => (hg p hpp).same hs h1⟩
theorem Outs.below {base : Nat} {w w' : World} {v : Value} {l : List Fr} (h : Outs base w v l) (hb : Below w.heap.size w w') : Outs base w' v l :=
  h.same hb.size (fun g _ hc => hb.block g hc.lt) (fun g _ hc => hb.block g hc.lt)
theorem Outs.len {base : Nat} {w : World} {v : Value} {l : List Fr} (h : Outs base w v l) : ∃ a c, v = .slice a l.length c := by
  obtain ⟨ps, hp, ho, _⟩ := h
  have := Sl.len (Sl.of_owns ho)
  rw [← hp, List.length_map]
  exact this
theorem Tryz.infoFrm : (Tryz.prog.info? 98).map (fun i => (i.zero, i.size, i.bytes)) = some (some (.agg #[.int .i64 0, .bool false, .slice none 0 0]), 3, 40) := by kernel_rfl

end Go.Proofs.YtnpaejknoipicagGreat

namespace Go.Proofs.YtnpaejknoipicagGreat

end Go.Proofs.YtnpaejknoipicagGreat

namespace Go.Proofs.YtnpaejknoipicagGreat
open Go.RowKit Go.Sort

/-- what is wrong of an open slot, by the one ahead of it -/
def badO (prev : Option Sk) (x : Sk) : Bool := match prev with
  | none => !x.p.f || x.p.e
  | some a => x.p.e || !nextB a x
def ogo : Option Sk → List Sk → Int
  | _, [] => 0
  | prev, x :: r => if x.chk = 0 then (if badO prev x = true then 4 else ogo (some x) r) else x.chk
/-- what is said of a builder: D1, slot by slot -/
def ochk (l : List Sk) : Int := if 4 ≤ l.length then 2 else ogo none l

theorem ogo_split (x : Sk) (s : List Sk) : ∀ (r : List Sk) (prev : Option Sk), ogo prev r = 0 → ogo prev (r ++ x :: s) = ogo (r.foldl (fun _ y => some y) prev) (x :: s)
  | [], _, _ => rfl
  | y :: r, prev, h => by
    simp only [List.cons_append, List.foldl_cons]
    by_cases hy : y.chk = 0
    · by_cases h2 : badO prev y = true
      · simp [ogo, hy, h2] at h
      · have h' : ogo (some y) r = 0 := by simpa [ogo, hy, h2] using h
        rw [← ogo_split x s r (some y) h']
        conv => lhs; unfold ogo
        rw [if_pos hy, if_neg h2]
    · simp [ogo, hy] at h
theorem olast_at (l : List Sk) (p : Option Sk) (k : Nat) (hk : k ≤ l.length) : (l.take k).foldl (fun _ y => some y) p = if k = 0 then p else some (l[k - 1]?.getD Sk.zero) := by
  cases k with
  | zero => simp
  | succ k =>
    rw [take_one (by omega) Sk.zero, List.foldl_append]
    simp
theorem ogo_all : ∀ (l : List Sk) (prev : Option Sk), ogo prev l = 0 → ∀ x ∈ l, x.chk = 0
  | [], _, _, _, hx => absurd hx List.not_mem_nil
  | y :: r, prev, h, x, hx => by
    by_cases hy : y.chk = 0
    · by_cases h2 : badO prev y = true
      · simp [ogo, hy, h2] at h
      · rcases List.mem_cons.1 hx with rfl | hx
        · exact hy
        · exact ogo_all r (some y) (by simpa [ogo, hy, h2] using h) x hx
    · simp [ogo, hy] at h

end Go.Proofs.YtnpaejknoipicagGreat

namespace Go.Proofs.YtnpaejknoipicagGreat

end Go.Proofs.YtnpaejknoipicagGreat
