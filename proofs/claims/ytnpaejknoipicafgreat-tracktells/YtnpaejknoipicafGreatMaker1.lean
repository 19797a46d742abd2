/-
  Contracts: the maker's take.
-/
import Derived.Test.YtnpaejknoipicafGreatFrameOf
import Derived.Test.YtnpaejknoipicafGreatCopyMany
import Derived.Lib.QuietBelow
import Derived.Deep.QuietTactic
import Derived.BigQuiet
namespace Go.Proofs.YtnpaejknoipicafGreat
open Go.RowKit Go.Sort

/-- the last one of slots -/
def lastSk (l : List Sk) : Sk := l[l.length - 1]?.getD Sk.zero
/-- what is open behind a slot -/
def takeF (l : List Sk) (x : Sk) : List Sk := if x.p.f then [x] else if 0 < l.length ∧ folB (lastSk l) x = true then l ++ [x] else []

/-- a maker's block and what its slice shows -/
def Make (base M : Nat) (w : World) (l : List Sk) : Prop := ∃ ov, Blk w M #[ov] 143 ∧ w.ownsRow base 91 7 ov l.length (skCells l)

theorem Blk.one {w : World} {b : Nat} {t : TypeId} {x0 : Value} (h : Blk w b #[x0] t) : w.cell? ⟨b, 0, none⟩ = some x0 := h.cell rfl

set_option maxHeartbeats 2000000 in
set_option maxRecDepth 100000 in
theorem take_any (base M : Nat) (l : List Sk) (x : Sk) (w : World) (ov : Value) (hM : Blk w M #[ov] 143) (hown : w.ownsRow base 91 7 ov l.length (skCells l)) (hbM : base ≤ M) (hnums : ∀ y ∈ l, 65536 ≤ y.n ∧ y.n ≤ 1000000000) (hlen : l.length ≤ 50) :
    Calls Tryz.prog 138 #[.pointer (some ⟨M, 0, none⟩), x.val] w fun e w' => e = .returned (.tuple #[]) ∧ Make base M w' (takeF l x) ∧ Below base w w' ∧ ∀ j, j < w.heap.size → j ≠ M → some j ≠ ov.ownBlock → w'.heap[j]? = w.heap[j]? := by
  obtain ⟨i0, hi, hz0, hz1, hz2⟩ := info_parts Tryz.infoSlot
  obtain ⟨a, c, hov⟩ := (Sls.of_owns hown).len
  have hMw := hM.lt
  have c0 := hM.one
  have f0 := hM.free 0
  obtain ⟨n, hn⟩ : ∃ n, n = l.length := ⟨_, rfl⟩
  rw [← hn] at hov hown hlen
  have HN : Hid (n = l.length) := hn
  have HM : Hid (Blk w M #[ov] 143) := hM
  have HO : Hid (w.ownsRow base 91 7 ov n (skCells l)) := hown
  have KNE : Hid (∀ g, ov.ownBlock = some g → M ≠ g) := fun g hg e => by
    obtain ⟨_, cur, h3⟩ := owns_blk hown hg
    exact Apart_type hM h3 (by decide) e
  obtain ⟨R, hR⟩ : ∃ R, R = takeF l x := ⟨_, rfl⟩
  rw [← hR]
  have HR : Hid (R = takeF l x) := hR
  clear hM hown hn hR
  subst hov
  simp only [Sk.val]
  have hM1 : M < w.heap.size + 1 := by omega
  cases hf : x.p.f
  · by_cases hn0 : n = 0
    · have HRR : Hid (R = []) := by
        show R = []
        rw [HR.out]; unfold takeF
        rw [if_neg (by simp [hf]), if_neg (by rw [← HN.out]; omega)]
      subst hn0
      go_enter Tryz.func138, Tryz.ntmps138
      go_wp2
      have hd : decide ((0 : Int) ≤ -1) = false := rfl
      go_quiet (fail)
      go_wp2
      go_end0
      rw [HRR.out]
      refine ⟨rfl, ⟨.slice none 0 0, ?_, World.ownsRow_nil _ _ _ _⟩, ?_, fun j h1 h2 _ => ?_⟩
      · exact Blk.set (show Blk ((w.alloc _).drewN nq) M _ _ from HM.out.alloc _) 0 _
      · exact (below_drewN ((Below.refl base w).alloc (by omega) _) nq).setCell (by exact hbM) _
      · rw [Below.heap_setCell _ _ _ _ (by exact h2)]
        exact Below.heap_alloc w _ j h1
    · obtain ⟨y, hy⟩ : ∃ y, y = lastSk l := ⟨_, rfl⟩
      have HY : Hid (y = lastSk l) := hy
      have hyb : 65536 ≤ y.n ∧ y.n ≤ 1000000000 := by
        rw [hy]; unfold lastSk
        have hlt : l.length - 1 < l.length := by rw [← HN.out]; omega
        rw [List.getElem?_eq_getElem hlt, Option.getD_some]
        exact hnums _ (List.getElem_mem hlt)
      obtain ⟨ao, cc, hvv, hpp⟩ := (Sls.of_owns (l := l) (by rw [← HN.out]; exact HO.out)).parts
      obtain ⟨b, off, hao, hbl, hat⟩ := hpp (l.length - 1) (by rw [← HN.out]; omega)
      rw [show l[l.length - 1]?.getD Sk.zero = y from hy.symm] at hat
      rw [hao] at hvv
      injection hvv with e1 e2 e3
      subst e1
      obtain ⟨n1, hn1⟩ : ∃ n1, n1 = l.length - 1 := ⟨_, rfl⟩
      rw [← hn1] at hat
      have hnn : (n : Int) - 1 = (n1 : Int) := by have := HN.out; omega
      have hn1n : (n1 : Int) < (n : Int) := by omega
      have hn10 : (0 : Int) ≤ (n1 : Int) := by omega
      have hd : decide ((0 : Int) ≤ (n1 : Int)) = true := decide_eq_true hn10
      have hwr : IntKind.i64.wrap (n1 : Int) = (n1 : Int) := by rw [IntKind.wrap_i64]; omega
      obtain ⟨t, ht⟩ : ∃ t, t = folB y x := ⟨_, rfl⟩
      have HT : Hid (t = folB y x) := ht
      obtain ⟨X, hX⟩ : ∃ X, X = x := ⟨_, rfl⟩
      have HX : Hid (X = x) := hX
      have HXV : Hid (X.val = .agg #[.int .i64 x.n, .int .i64 x.p.seq, .int .i64 x.p.time, .bool false, .bool x.p.e, .bool x.p.k, .string x.p.t]) := by show X.val = _; rw [hX]; simp [Sk.val, hf]
      have HXC : Hid (X.cells = #[.int .i64 x.n, .int .i64 x.p.seq, .int .i64 x.p.time, .bool false, .bool x.p.e, .bool x.p.k, .string x.p.t]) := by show X.cells = _; rw [hX]; simp [Sk.cells, hf]
      clear hn1 hy ht hX e2 e3 hao
      go_enter Tryz.func138, Tryz.ntmps138
      go_wp2
      obtain ⟨W, hW⟩ : ∃ W, W = w.alloc (.cells #[.int .i64 x.n, .int .i64 x.p.seq, .int .i64 x.p.time, .bool false, .bool x.p.e, .bool x.p.k, .string x.p.t] 91) := ⟨_, rfl⟩
      have kW : Blk W M #[.slice (some ⟨b, off, none⟩) n c] 143 := by rw [hW]; exact HM.out.alloc _
      have xW : Blk W w.heap.size #[.int .i64 x.n, .int .i64 x.p.seq, .int .i64 x.p.time, .bool false, .bool x.p.e, .bool x.p.k, .string x.p.t] 91 := by rw [hW]; exact Blk.new w _ _
      have oW : W.ownsRow base 91 7 (.slice (some ⟨b, off, none⟩) n c) n (skCells l) := by rw [hW]; exact HO.out.alloc _
      have bW : Below base w W := by rw [hW]; exact (Below.refl base w).alloc (by omega) _
      have tW : Hid (∀ j, j < w.heap.size → W.heap[j]? = w.heap[j]?) := fun j hj => by rw [hW]; exact Below.heap_alloc w _ j hj
      have sW : Hid (w.heap.size ≤ W.heap.size) := by show _ ≤ _; rw [hW]; simp
      have aW : At7 W b (off + n1 * 7) y := hat.below (B := w.heap.size) (by rw [hW]; exact (Below.refl _ w).alloc (Nat.le_refl _) _) hbl
      rw [← hW]
      clear hW c0 f0 hat
      obtain ⟨y0, y1, y2, y3, y4, y5, y6⟩ := aW
      obtain ⟨x0, x1, x2, x3, x4, x5, x6⟩ := xW.seven
      have m0 := cell_regrown kW.one
      have q0 := cell_regrown y0
      have q1 := cell_regrown y1
      have q2 := cell_regrown y2
      have q3 := cell_regrown y3
      have q4 := cell_regrown y4
      have q5 := cell_regrown y5
      have q6 := cell_regrown y6
      have z0 := cell_regrown x0
      have z1 := cell_regrown x1
      have z2 := cell_regrown x2
      have z3 := cell_regrown x3
      have z4 := cell_regrown x4
      have z5 := cell_regrown x5
      have z6 := cell_regrown x6
      have cF : ∀ d os, Calls Tryz.prog 164 #[.agg #[.int .i64 y.n, .int .i64 y.p.seq, .int .i64 y.p.time, .bool y.p.f, .bool y.p.e, .bool y.p.k, .string y.p.t], .agg #[.int .i64 x.n, .int .i64 x.p.seq, .int .i64 x.p.time, .bool false, .bool x.p.e, .bool x.p.k, .string x.p.t]] (grow (redrawn W d) os) fun e w'' => e = .returned (.bool t) ∧ ∃ p : Regrown, w'' = grow (redrawn W p.d) p.os := fun d os =>
        Calls.regrown_of (by
          have h := follows_any y X (grow (redrawn W d) os) (by omega)
          rw [HXV.out, HX.out, ← HT.out] at h
          exact h)
      have KW : Hid (Blk W M #[.slice (some ⟨b, off, none⟩) n c] 143) := kW
      have XW : Hid (Blk W w.heap.size #[.int .i64 x.n, .int .i64 x.p.seq, .int .i64 x.p.time, .bool false, .bool x.p.e, .bool x.p.k, .string x.p.t] 91) := xW
      have OW : Hid (W.ownsRow base 91 7 (.slice (some ⟨b, off, none⟩) n c) n (skCells l)) := oW
      have BW : Hid (Below base w W) := bW
      clear kW xW oW bW y0 y1 y2 y3 y4 y5 y6 x0 x1 x2 x3 x4 x5 x6
      refine wp_region_quiet_below (by kernel_rfl) (by kernel_rfl) ?_
      repeat (quiet_step (exact cF _ _))
      refine wpQuiet_nil ?_
      intro _ hw'
      obtain ⟨⟨dq, osq⟩, hw''⟩ := hw'
      subst hw''
      have bR := below_regrown W dq osq
      obtain ⟨V, hV⟩ : ∃ V, V = grow (redrawn W dq) osq := ⟨_, rfl⟩
      rw [← hV] at bR
      have kV : Hid (Blk V M #[.slice (some ⟨b, off, none⟩) n c] 143) := KW.out.below bR KW.out.lt
      have xV : Hid (Blk V w.heap.size #[.int .i64 x.n, .int .i64 x.p.seq, .int .i64 x.p.time, .bool false, .bool x.p.e, .bool x.p.k, .string x.p.t] 91) := XW.out.below bR XW.out.lt
      have oV : Hid (V.ownsRow base 91 7 (.slice (some ⟨b, off, none⟩) n c) n (skCells l)) := owns_below OW.out bR (Nat.le_refl _)
      have bV : Hid (Below base w V) := BW.out.trans (bR.mono (by have := BW.out.size; omega))
      have tV : Hid (∀ j, j < w.heap.size → V.heap[j]? = w.heap[j]?) := fun j hj => (bR.block j (by have := sW.out; omega)).trans (tW.out j hj)
      have sV : Hid (w.heap.size ≤ V.heap.size) := Nat.le_trans sW.out bR.size
      rw [← hV]
      clear hV bR KW XW OW BW m0 q0 q1 q2 q3 q4 q5 q6 z0 z1 z2 z3 z4 z5 z6 cF
      have c0 := kV.out.one
      have f0 := kV.out.free 0
      have hMV := kV.out.lt
      cases t
      · have HRR : Hid (R = []) := by
          show R = []
          rw [HR.out]; unfold takeF
          rw [if_neg (by simp [hf]), if_neg (fun h => by rw [← HY.out, ← HT.out] at h; cases h.2)]
        go_wp2
        go_end0
        rw [HRR.out]
        exact ⟨rfl, ⟨.slice none 0 0, kV.out.set 0 _, World.ownsRow_nil _ _ _ _⟩, bV.out.setCell (by exact hbM) _, fun j h1 h2 _ => by rw [Below.heap_setCell _ _ _ _ (by exact h2)]; exact tV.out j h1⟩
      · have HRR : Hid (R = l ++ [x]) := by
          show R = _
          rw [HR.out]; unfold takeF
          rw [if_neg (by simp [hf]), if_pos ⟨by rw [← HN.out]; omega, by rw [← HY.out, ← HT.out]⟩]
        obtain ⟨x0, x1, x2, x3, x4, x5, x6⟩ := xV.out.seven
        have hbV : base ≤ V.heap.size := by omega
        have own1 : Hid ((V.alloc (.cells #[.int .i64 x.n, .int .i64 x.p.seq, .int .i64 x.p.time, .bool false, .bool x.p.e, .bool x.p.k, .string x.p.t] 91)).drew.ownsRow base 91 7 (.slice (some ⟨b, off, none⟩) n c) n (skCells l)) := oV.out.alloc _
        have new1 : Hid (∀ j u, X.cells.toList[j]? = some u → (V.alloc (.cells #[.int .i64 x.n, .int .i64 x.p.seq, .int .i64 x.p.time, .bool false, .bool x.p.e, .bool x.p.k, .string x.p.t] 91)).drew.cell? ((⟨V.heap.size, 0, none⟩ : Addr).add j) = some u) := by
          show ∀ j u, _ → _
          rw [← HXC.out]
          exact newSlot rfl
        have l1 : Hid (n + 1 ≤ maxLen) := by show _ ≤ _; unfold maxLen; omega
        have l2 : Hid ((n + 1) * 48 ≤ 140737488355328) := by show _ ≤ _; omega
        have l3 : Hid (base ≤ (V.alloc (.cells #[.int .i64 x.n, .int .i64 x.p.seq, .int .i64 x.p.time, .bool false, .bool x.p.e, .bool x.p.k, .string x.p.t] 91)).drew.heap.size) := by show _ ≤ (V.alloc _).heap.size; simp; omega
        have aft : Hid (∀ v' w2, w2.ownsRow base 91 7 v' (n + 1) (skCells l ++ X.cells.toList) → (V.alloc (.cells #[.int .i64 x.n, .int .i64 x.p.seq, .int .i64 x.p.time, .bool false, .bool x.p.e, .bool x.p.k, .string x.p.t] 91)).drew.grownBy w2 (Value.slice (some ⟨b, off, none⟩) n c).ownBlock →
            ∃ a' c', v' = .slice a' (n + 1) c' ∧ w2.cell? ⟨M, 0, none⟩ = some (.slice (some ⟨b, off, none⟩) n c) ∧ w2.frozen? ⟨M, 0, none⟩ = false ∧
              Hid (∀ w3, Hid (w3 = w2.setCell ⟨M, 0, none⟩ (.slice a' (n + 1) c')) → Make base M w3 (l ++ [x]) ∧ Below base w w3 ∧ ∀ j, j < w.heap.size → j ≠ M → some j ≠ (Value.slice (some ⟨b, off, none⟩) n c).ownBlock → w3.heap[j]? = w.heap[j]?)) := fun v' w2 ho2 hg2 => by
          obtain ⟨a', c', hv'⟩ := Sl.len (Sl.of_owns ho2)
          have hMb : some M ≠ (Value.slice (some ⟨b, off, none⟩) n c).ownBlock := fun e => KNE.out M e.symm rfl
          have k2 : Blk w2 M #[.slice (some ⟨b, off, none⟩) n c] 143 := (hg2.block M (by show M < (V.alloc _).heap.size; simp; omega) hMb).trans (kV.out.alloc _)
          refine ⟨a', c', hv', k2.one, k2.free 0, fun w3 hw3 => ⟨⟨.slice a' (n + 1) c', by rw [hw3.out]; exact k2.set 0 _, ?_⟩, ?_, fun j h1 h2 h3 => ?_⟩⟩
          · have e : (l ++ [x]).length = n + 1 := by rw [List.length_append, ← HN.out]; rfl
            rw [e, skCells_append, skCells_one, ← HX.out, hw3.out, ← hv']
            refine owns_same ho2 fun g hg => Below.heap_setCell _ _ _ _ (fun e => ?_)
            obtain ⟨_, cur, h3⟩ := owns_blk ho2 hg
            exact Apart_type k2 h3 (by decide) e.symm
          · rw [hw3.out]
            exact (((bV.out.alloc (by omega) _).drew).grown hg2 (by show _ ≤ (V.alloc _).heap.size; simp; omega) (fun j hj => (oV.out.lt j hj).1)).setCell (by exact hbM) _
          · rw [hw3.out, Below.heap_setCell _ _ _ _ (by exact h2), hg2.block j (by have := sV.out; show _ < (V.alloc _).heap.size; simp; omega) h3]
            exact (Below.heap_alloc V _ j (by have := sV.out; omega)).trans (tV.out j h1)
        go_wp2
        go_region_law (refine step_append_own2 rfl (.tmp 46) (.tmp 48) 55 rfl base 91 i0 _ 7 48 Tryz.underlying55 hi hz0 hz1 hz2 rfl (by decide) (.slice (some ⟨b, off, none⟩) n c) n (skCells l) (by simp [Act.eval]) own1.out ⟨V.heap.size, 0, none⟩ 1 1 X.cells.toList (by simp [Act.eval]) rfl new1.out (oneSlot X) l1.out l2.out l3.out ?_; intro v' w2 ho2 hg2 _; obtain ⟨a', c', hv', g0, g1, G⟩ := aft.out v' w2 ho2 hg2; clear ho2 hg2; subst hv')
        all_goals
          clear own1 new1 l1 l2 l3 aft
          go_wp2
          go_end0
          rw [HRR.out]
          exact ⟨rfl, G.out _ rfl⟩
  · have HRR : Hid (R = [x]) := by
      show R = [x]
      rw [HR.out]; unfold takeF; rw [if_pos hf]
    go_enter Tryz.func138, Tryz.ntmps138
    go_wp2
    go_end0
    rw [HRR.out]
    have hxc : x.cells = #[.int .i64 x.n, .int .i64 x.p.seq, .int .i64 x.p.time, .bool true, .bool x.p.e, .bool x.p.k, .string x.p.t] := by simp [Sk.cells, hf]
    refine ⟨rfl, ⟨.slice (some ⟨w.heap.size + 1, 0, none⟩) 1 1, ((HM.out.set 0 _).alloc _).alloc _, ?_⟩, ?_, fun j h1 h2 _ => ?_⟩
    · have h := World.ownsRow_lit (base := base) (e := 91) (size := 7) ((w.setCell ⟨M, 0, none⟩ (.slice (some ⟨w.heap.size + 1, 0, none⟩) 1 1)).alloc (.cells #[.int .i64 x.n, .int .i64 x.p.seq, .int .i64 x.p.time, .bool true, .bool x.p.e, .bool x.p.k, .string x.p.t] 91)) #[.int .i64 x.n, .int .i64 x.p.seq, .int .i64 x.p.time, .bool true, .bool x.p.e, .bool x.p.k, .string x.p.t] 1 (by simp; omega) (by unfold maxLen; omega) rfl
      simp only [World.size_alloc, World.size_setCell] at h
      rw [skCells_one, hxc]
      exact h
    · exact (((Below.refl base w).setCell (by exact hbM) _).alloc (by simp; omega) _).alloc (by simp; omega) _
    · rw [Below.heap_alloc _ _ _ (by simp; omega), Below.heap_alloc _ _ _ (by simp; omega), Below.heap_setCell _ _ _ _ (by exact h2)]

end Go.Proofs.YtnpaejknoipicafGreat
