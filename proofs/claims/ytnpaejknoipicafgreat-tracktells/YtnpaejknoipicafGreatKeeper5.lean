/-
  Contract: the keeper's put.
-/
import Derived.Test.YtnpaejknoipicafGreatKeeper4
import Derived.Lib.QuietBelow
namespace Go.Proofs.YtnpaejknoipicafGreat
open Go.RowKit Go.Sort

/-- what comes of a slot that is put -/
def putF (next : Int) (h : List Sk) (x : Sk) : Int × List Sk × List Sk :=
  if x.n < (if next = 0 then x.n else next) then ((if next = 0 then x.n else next), h, [])
  else if (h.any fun y => y.n == x.n) then ((if next = 0 then x.n else next), h, [])
  else relF 4 (if next = 0 then x.n else next) (insF h x) []

theorem nums_ins {h : List Sk} {x : Sk} (hn : Nums h) (hx : 65536 ≤ x.n ∧ x.n ≤ 1000000000) : Nums (insF h x) := fun y hy => by
  simp only [insF, putAt, List.mem_append, List.mem_cons] at hy
  rcases hy with hy | rfl | hy
  · exact hn y (List.mem_of_mem_take hy)
  · exact hx
  · exact hn y (List.mem_of_mem_drop hy)

set_option maxHeartbeats 2000000 in
set_option maxRecDepth 100000 in
theorem put_any (base K : Nat) (next : Int) (hv : Value) (h : List Sk) (x : Sk) (w : World) (hK : Blk w K #[.int .i64 next, hv, .slice none 0 0] 219) (hown : w.ownsRow base 91 7 hv h.length (skCells h)) (hbase : base ≤ w.heap.size) (hbK : base ≤ K)
    (hnums : Nums h) (hx : 65536 ≤ x.n ∧ x.n ≤ 1000000000) (hn0 : next = 0 ∨ 65536 ≤ next ∧ next ≤ 1000000001) (hlen : h.length ≤ 50) :
    Calls Tryz.prog 160 #[.pointer (some ⟨K, 0, none⟩), x.val] w fun e w' => e = .returned (.tuple #[]) ∧ Keep base K w' (putF next h x).1 (putF next h x).2.1 (putF next h x).2.2 ∧ Below base w w' := by
  obtain ⟨c0, c1, c2⟩ := hK.three
  have hKw := hK.lt
  have hfr := hK.free 0
  have HK : Hid (Blk w K #[.int .i64 next, hv, .slice none 0 0] 219) := hK
  have HO : Hid (w.ownsRow base 91 7 hv h.length (skCells h)) := hown
  obtain ⟨t, ht⟩ : ∃ t, t = h.any fun y => y.n == x.n := ⟨_, rfl⟩
  obtain ⟨R, hR⟩ : ∃ R, R = putF next h x := ⟨_, rfl⟩
  rw [← hR]
  have HR : Hid (R = putF next h x) := hR
  have HT : Hid (t = h.any fun y => y.n == x.n) := ht
  clear hK hown hR ht
  simp only [Sk.val]
  by_cases h0 : next = 0
  · subst h0
    go_enter Tryz.func160, Tryz.ntmps160
    go_wp2
    obtain ⟨W, hW⟩ : ∃ W, W = (w.setCell ⟨K, 0, none⟩ (.int .i64 x.n)).alloc (.cells #[.int .i64 x.n, .int .i64 x.p.seq, .int .i64 x.p.time, .bool x.p.f, .bool x.p.e, .bool x.p.k, .string x.p.t] 91) := ⟨_, rfl⟩
    have kW : Blk W K #[.int .i64 x.n, hv, .slice none 0 0] 219 := by rw [hW]; exact (HK.out.set 0 _).alloc _
    have xW : Blk W w.heap.size x.cells 91 := by rw [hW]; exact by have := Blk.new (w.setCell ⟨K, 0, none⟩ (.int .i64 x.n)) x.cells 91; simp only [World.size_setCell] at this; exact this
    have oW : W.ownsRow base 91 7 hv h.length (skCells h) := by rw [hW]; exact (hold_own HO.out HK.out rfl).alloc _
    have bW : Below base w W := by rw [hW]; exact ((Below.refl base w).setCell (by exact hbK) _).alloc (by simp; omega) _
    rw [← hW]
    clear hW
    obtain ⟨d0, d1, d2⟩ := kW.three
    obtain ⟨e0, e1, e2, e3, e4, e5, e6⟩ := xW.seven
    have r0 := cell_regrown d0
    have s0 := cell_regrown e0
    have cH : ∀ d os, Calls Tryz.prog 170 #[.pointer (some ⟨K, 0, none⟩), .int .i64 x.n] (grow (redrawn W d) os) fun e w'' => e = .returned (.bool t) ∧ ∃ p : Regrown, w'' = grow (redrawn W p.d) p.os := fun d os =>
      Calls.regrown_of (by rw [HT.out]; exact holds_any K x.n hv (.slice none 0 0) h x.n _ (kW.below (below_regrown W d os) kW.lt) ((Sls.of_owns oW).below (below_regrown W d os)) (by omega))
    have KW : Hid (Blk W K #[.int .i64 x.n, hv, .slice none 0 0] 219) := kW
    have XW : Hid (Blk W w.heap.size x.cells 91) := xW
    have OW : Hid (W.ownsRow base 91 7 hv h.length (skCells h)) := oW
    have BW : Hid (Below base w W) := bW
    clear kW xW oW bW d0 d1 d2 e0 e1 e2 e3 e4 e5 e6 c0 c1 c2
    refine wp_region_quiet_below (by kernel_rfl) (by kernel_rfl) ?_
    repeat (quiet_step (exact cH _ _))
    refine wpQuiet_nil ?_
    intro _ hw'
    obtain ⟨⟨dq, osq⟩, hw''⟩ := hw'
    subst hw''
    have bR := below_regrown W dq osq
    obtain ⟨V, hV⟩ : ∃ V, V = grow (redrawn W dq) osq := ⟨_, rfl⟩
    rw [← hV] at bR
    have kV := KW.out.below bR KW.out.lt
    have xV := XW.out.below bR XW.out.lt
    have oV := owns_below OW.out bR (Nat.le_refl _)
    have bV : Below base w V := BW.out.trans (bR.mono (by have := BW.out.size; omega))
    rw [← hV]
    clear hV bR KW XW OW BW r0 s0 cH
    cases t
    · obtain ⟨e0, e1, e2, e3, e4, e5, e6⟩ := xV.seven
      have hR2 : R = relF 4 x.n (insF h x) [] := by rw [HR.out]; unfold putF; rw [if_pos rfl]; rw [if_neg (by omega), if_neg (by rw [← HT.out]; decide)]
      have hgl := give_let 4 (insF h x).length (insF h x) (Nat.le_refl _) (letF x.n (insF h x) []).2.1.length x.n []
      have hil := insF_len h x
      have KV : Hid _ := kV
      have BV : Hid _ := bV
      have OV : Hid _ := oV
      clear kV xV oV bV
      go_wp2_with fail
      refine (hold_any base K x.n hv (.slice none 0 0) h x V KV.out OV.out (by omega) (by have := BV.out.size; omega) hbK).mono ?_
      rintro e w2 ⟨rfl, hv2, k2, o2, b2⟩
      have K2 : Hid (Keep base K w2 x.n (insF h x) []) := Keep.of_owns k2 (by rw [hil]; exact o2)
      clear k2 o2 e0 e1 e2 e3 e4 e5 e6
      go_wp2_with fail
      have f3 := letF_facts (insF h x) x.n [] (nums_ins hnums hx) (by omega)
      refine (letOut_any base K x.n (insF h x) [] w2 K2.out hbK (nums_ins hnums hx) (by omega) (by rw [hil]; simp; omega)).mono ?_
      rintro e w3 ⟨rfl, k3, b3⟩
      have K3 : Hid _ := k3
      clear k3
      go_wp2_with fail
      refine (giveUpTo_any base K 4 _ _ _ w3 K3.out hbK f3.1 f3.2.1 (by rw [f3.2.2, hil]; simp; omega)).mono ?_
      rintro e w4 ⟨rfl, k4, b4⟩
      rw [hgl (Nat.le_refl _)] at k4
      go_wp2
      go_end0
      rw [hR2]
      exact ⟨rfl, k4, ((BV.out.trans b2).trans b3).trans b4⟩
    · have hR2 : R = (x.n, h, []) := by rw [HR.out]; unfold putF; rw [if_pos rfl]; rw [if_neg (by omega), if_pos (by rw [← HT.out])]
      have KV : Hid (Keep base K V x.n h []) := Keep.of_owns kV oV
      have BV : Hid _ := bV
      clear kV xV oV bV
      go_wp2
      refine bodyPost_ret (results_none rfl _ _ _) rfl ?_
      rw [hR2]
      exact ⟨rfl, KV.out, BV.out⟩
  · have hne : (next == 0) = false := by simpa using h0
    by_cases hlt : x.n < next
    · have hR2 : R = (next, h, []) := by rw [HR.out]; unfold putF; rw [if_neg h0, if_pos hlt]
      have hd : decide (x.n < next) = true := decide_eq_true hlt
      have HH : Hid (Keep base K w next h []) := Keep.of_owns HK.out HO.out
      go_enter Tryz.func160, Tryz.ntmps160
      go_wp2
      go_quiet (fail)
      go_wp2
      refine bodyPost_ret (results_none rfl _ _ _) rfl ?_
      rw [hR2]
      exact ⟨rfl, (Keep.of_owns (HK.out.alloc _) (HO.out.alloc _)).drewN nq, below_drewN ((Below.refl base w).alloc hbase _) nq⟩
    · have hd : decide (x.n < next) = false := decide_eq_false hlt
      go_enter Tryz.func160, Tryz.ntmps160
      go_wp2
      obtain ⟨W, hW⟩ : ∃ W, W = w.alloc (.cells #[.int .i64 x.n, .int .i64 x.p.seq, .int .i64 x.p.time, .bool x.p.f, .bool x.p.e, .bool x.p.k, .string x.p.t] 91) := ⟨_, rfl⟩
      have kW : Blk W K #[.int .i64 next, hv, .slice none 0 0] 219 := by rw [hW]; exact HK.out.alloc _
      have xW : Blk W w.heap.size x.cells 91 := by rw [hW]; exact Blk.new w _ _
      have oW : W.ownsRow base 91 7 hv h.length (skCells h) := by rw [hW]; exact HO.out.alloc _
      have bW : Below base w W := by rw [hW]; exact (Below.refl base w).alloc hbase _
      rw [← hW]
      clear hW
      obtain ⟨d0, d1, d2⟩ := kW.three
      obtain ⟨e0, e1, e2, e3, e4, e5, e6⟩ := xW.seven
      have r0 := cell_regrown d0
      have s0 := cell_regrown e0
      have cH : ∀ d os, Calls Tryz.prog 170 #[.pointer (some ⟨K, 0, none⟩), .int .i64 x.n] (grow (redrawn W d) os) fun e w'' => e = .returned (.bool t) ∧ ∃ p : Regrown, w'' = grow (redrawn W p.d) p.os := fun d os =>
        Calls.regrown_of (by rw [HT.out]; exact holds_any K next hv (.slice none 0 0) h x.n _ (kW.below (below_regrown W d os) kW.lt) ((Sls.of_owns oW).below (below_regrown W d os)) (by omega))
      have KW : Hid (Blk W K #[.int .i64 next, hv, .slice none 0 0] 219) := kW
      have XW : Hid (Blk W w.heap.size x.cells 91) := xW
      have OW : Hid (W.ownsRow base 91 7 hv h.length (skCells h)) := oW
      have BW : Hid (Below base w W) := bW
      clear kW xW oW bW d0 d1 d2 e0 e1 e2 e3 e4 e5 e6 c0 c1 c2
      refine wp_region_quiet_below (by kernel_rfl) (by kernel_rfl) ?_
      repeat (quiet_step (exact cH _ _))
      refine wpQuiet_nil ?_
      intro _ hw'
      obtain ⟨⟨dq, osq⟩, hw''⟩ := hw'
      subst hw''
      have bR := below_regrown W dq osq
      obtain ⟨V, hV⟩ : ∃ V, V = grow (redrawn W dq) osq := ⟨_, rfl⟩
      rw [← hV] at bR
      have kV := KW.out.below bR KW.out.lt
      have xV := XW.out.below bR XW.out.lt
      have oV := owns_below OW.out bR (Nat.le_refl _)
      have bV : Below base w V := BW.out.trans (bR.mono (by have := BW.out.size; omega))
      rw [← hV]
      clear hV bR KW XW OW BW r0 s0 cH
      cases t
      · obtain ⟨e0, e1, e2, e3, e4, e5, e6⟩ := xV.seven
        have hR2 : R = relF 4 next (insF h x) [] := by rw [HR.out]; unfold putF; rw [if_neg h0]; rw [if_neg (by omega), if_neg (by rw [← HT.out]; decide)]
        have hgl := give_let 4 (insF h x).length (insF h x) (Nat.le_refl _) (letF next (insF h x) []).2.1.length next []
        have hil := insF_len h x
        have KV : Hid _ := kV
        have BV : Hid _ := bV
        have OV : Hid _ := oV
        clear kV xV oV bV
        go_wp2_with fail
        refine (hold_any base K next hv (.slice none 0 0) h x V KV.out OV.out (by omega) (by have := BV.out.size; omega) hbK).mono ?_
        rintro e w2 ⟨rfl, hv2, k2, o2, b2⟩
        have K2 : Hid (Keep base K w2 next (insF h x) []) := Keep.of_owns k2 (by rw [hil]; exact o2)
        clear k2 o2 e0 e1 e2 e3 e4 e5 e6
        go_wp2_with fail
        have f3 := letF_facts (insF h x) next [] (nums_ins hnums hx) (by omega)
        refine (letOut_any base K next (insF h x) [] w2 K2.out hbK (nums_ins hnums hx) (by omega) (by rw [hil]; simp; omega)).mono ?_
        rintro e w3 ⟨rfl, k3, b3⟩
        have K3 : Hid _ := k3
        clear k3
        go_wp2_with fail
        refine (giveUpTo_any base K 4 _ _ _ w3 K3.out hbK f3.1 f3.2.1 (by rw [f3.2.2, hil]; simp; omega)).mono ?_
        rintro e w4 ⟨rfl, k4, b4⟩
        rw [hgl (Nat.le_refl _)] at k4
        go_wp2
        go_end0
        rw [hR2]
        exact ⟨rfl, k4, ((BV.out.trans b2).trans b3).trans b4⟩
      · have hR2 : R = (next, h, []) := by rw [HR.out]; unfold putF; rw [if_neg h0]; rw [if_neg (by omega), if_pos (by rw [← HT.out])]
        have KV : Hid (Keep base K V next h []) := Keep.of_owns kV oV
        have BV : Hid _ := bV
        clear kV xV oV bV
        go_wp2
        refine bodyPost_ret (results_none rfl _ _ _) rfl ?_
        rw [hR2]
        exact ⟨rfl, KV.out, BV.out⟩

end Go.Proofs.YtnpaejknoipicafGreat
