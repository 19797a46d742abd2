/-
 Contract: wire.sumOf of three flags.
-/
import Derived.Test.YtnpaejknoipicagGreatMgDeskPaused1
import Derived.Lib.QuietBelow
import Derived.Deep.QuietTactic
import Derived.BigQuiet
namespace Go.Proofs.YtnpaejknoipicagGreat
open Go.RowKit Go.Sort
def lastSk (l : List Sk) : Sk := l[l.length - 1]?.getD Sk.zero
def takeF (l : List Sk) (x : Sk) : List Sk := if x.p.f then [x] else if 0 < l.length ∧ folB (lastSk l) x = true then l ++ [x] else []
def Make (base M : Nat) (w : World) (l : List Sk) : Prop := ∃ ov, Blk w M #[ov] 133 ∧ w.ownsRow base 106 7 ov l.length (skCells l)
theorem Blk.one {w : World} {b : Nat} {t : TypeId} {x0 : Value} (h : Blk w b #[x0] t) : w.cell? ⟨b, 0, none⟩ = some x0 := h.cell rfl
set_option maxHeartbeats 2000000 in
set_option maxRecDepth 100000 in
theorem take_any (base M : Nat) (l : List Sk) (x : Sk) (w : World) (ov : Value) (hM : Blk w M #[ov] 133) (hown : w.ownsRow base 106 7 ov l.length (skCells l)) (hbM : base ≤ M) (hnums : ∀ y ∈ l, 65536 ≤ y.n ∧ y.n ≤ 1000000000) (hlen : l.length ≤ 50) :
  Calls Tryz.prog 118 #[.pointer (some ⟨M, 0, none⟩), x.val] w fun e w' => e = .returned (.tuple #[]) ∧ Make base M w' (takeF l x) ∧ Below base w w' ∧ ∀ j, j < w.heap.size → j ≠ M → some j ≠ ov.ownBlock → w'.heap[j]? = w.heap[j]? := by
 obtain ⟨i0, hi, hz0, hz1, hz2⟩ := info_parts Tryz.infoSlot
 obtain ⟨a, c, hov⟩ := (Sls.of_owns hown).len
 have hMw := hM.lt
 have c0 := hM.one
 have f0 := hM.free 0
 obtain ⟨n, hn⟩ : ∃ n, n = l.length := ⟨_, rfl⟩
 rw [← hn] at hov hown hlen
 have HN : Hid (n = l.length) := hn
 have HM : Hid (Blk w M #[ov] 133) := hM
 have HO : Hid (w.ownsRow base 106 7 ov n (skCells l)) := hown
 have KNE : Hid (∀ g, ov.ownBlock = some g → M ≠ g) := fun g hg e => by
  obtain ⟨_, cur, h3⟩ := owns_blk hown hg
  exact Apart_type hM h3 (by decide) e
 obtain ⟨R, hR⟩ : ∃ R, R = takeF l x := ⟨_, rfl⟩
 rw [← hR]
 have HR : Hid (R = takeF l x) := hR
 clear hM hown hn hR
 subst hov
 simp only [Sk.val]
 have hM1 : M < w.heap.size + 1 := by omega
 cases hf : x.p.f
 ·by_cases hn0 : n = 0
  ·have HRR : Hid (R = []) := by
    show R = []
    rw [HR.out]; unfold takeF
    rw [if_neg (by simp [hf]), if_neg (by rw [← HN.out]; omega)]
   subst hn0
   go_enter Tryz.func118, Tryz.ntmps118
   go_wp2
   have hd : decide ((0 : Int) ≤ -1) = false := rfl
   go_quiet (fail)
   go_wp2
   go_end0
   rw [HRR.out]
   refine ⟨rfl, ⟨.slice none 0 0, ?_, World.ownsRow_nil _ _ _ _⟩, ?_, fun j h1 h2 _ => ?_⟩
   ·exact Blk.set (show Blk ((w.alloc _).drewN nq) M _ _ from HM.out.alloc _) 0 _
   ·exact (below_drewN ((Below.refl base w).alloc (by omega) _) nq).setCell (by exact hbM) _
   ·rw [Below.heap_setCell _ _ _ _ (by exact h2)]
    exact Below.heap_alloc w _ j h1
  ·obtain ⟨y, hy⟩ : ∃ y, y = lastSk l := ⟨_, rfl⟩
   have HY : Hid (y = lastSk l) := hy
   have hyb : 65536 ≤ y.n ∧ y.n ≤ 1000000000 := by
    rw [hy]; unfold lastSk
    have hlt : l.length - 1 < l.length := by rw [← HN.out]; omega
    rw [List.getElem?_eq_getElem hlt, Option.getD_some]
    exact hnums _ (List.getElem_mem hlt)
   obtain ⟨ao, cc, hvv, hpp⟩ := (Sls.of_owns (l := l) (by rw [← HN.out]; exact HO.out)).parts
   obtain ⟨b, off, hao, hbl, hat⟩ := hpp (l.length - 1) (by rw [← HN.out]; omega)
   rw [show l[l.length - 1]?.getD Sk.zero = y from hy.symm] at hat
   rw [hao] at hvv
   injection hvv with e1 e2 e3
   subst e1
   obtain ⟨n1, hn1⟩ : ∃ n1, n1 = l.length - 1 := ⟨_, rfl⟩
   rw [← hn1] at hat
   have hnn : (n : Int) - 1 = (n1 : Int) := by have := HN.out; omega
   have hn1n : (n1 : Int) < (n : Int) := by omega
   have hn10 : (0 : Int) ≤ (n1 : Int) := by omega
   have hd : decide ((0 : Int) ≤ (n1 : Int)) = true := decide_eq_true hn10
   have hwr : IntKind.i64.wrap (n1 : Int) = (n1 : Int) := by rw [IntKind.wrap_i64]; omega
   obtain ⟨t, ht⟩ : ∃ t, t = folB y x := ⟨_, rfl⟩
   have HT : Hid (t = folB y x) := ht
   obtain ⟨X, hX⟩ : ∃ X, X = x := ⟨_, rfl⟩
   have HX : Hid (X = x) := hX
   have HXV : Hid (X.val = .agg #[.int .i64 x.n, .int .i64 x.p.seq, .int .i64 x.p.time, .bool false, .bool x.p.e, .bool x.p.k, .string x.p.t]) := by show X.val = _; rw [hX]; simp [Sk.val, hf]
   have HXC : Hid (X.cells = #[.int .i64 x.n, .int .i64 x.p.seq, .int .i64 x.p.time, .bool false, .bool x.p.e, .bool x.p.k, .string x.p.t]) := by show X.cells = _; rw [hX]; simp [Sk.cells, hf]
   clear hn1 hy ht hX e2 e3 hao
   go_enter Tryz.func118, Tryz.ntmps118
   go_wp2
   obtain ⟨W, hW⟩ : ∃ W, W = w.alloc (.cells #[.int .i64 x.n, .int .i64 x.p.seq, .int .i64 x.p.time, .bool false, .bool x.p.e, .bool x.p.k, .string x.p.t] 106) := ⟨_, rfl⟩
   have kW : Blk W M #[.slice (some ⟨b, off, none⟩) n c] 133 := by rw [hW]; exact HM.out.alloc _
   have xW : Blk W w.heap.size #[.int .i64 x.n, .int .i64 x.p.seq, .int .i64 x.p.time, .bool false, .bool x.p.e, .bool x.p.k, .string x.p.t] 106 := by rw [hW]; exact Blk.new w _ _
   have oW : W.ownsRow base 106 7 (.slice (some ⟨b, off, none⟩) n c) n (skCells l) := by rw [hW]; exact HO.out.alloc _
   have bW : Below base w W := by rw [hW]; exact (Below.refl base w).alloc (by omega) _
   have tW : Hid (∀ j, j < w.heap.size → W.heap[j]? = w.heap[j]?) := fun j hj => by rw [hW]; exact Below.heap_alloc w _ j hj
   have sW : Hid (w.heap.size ≤ W.heap.size) := by show _ ≤ _; rw [hW]; simp
   have aW : At7 W b (off + n1 * 7) y := hat.below (B := w.heap.size) (by rw [hW]; exact (Below.refl _ w).alloc (Nat.le_refl _) _) hbl
   rw [← hW]
   clear hW c0 f0 hat
   obtain ⟨y0, y1, y2, y3, y4, y5, y6⟩ := aW
   obtain ⟨x0, x1, x2, x3, x4, x5, x6⟩ := xW.seven
   have m0 := cell_regrown kW.one
   have q0 := cell_regrown y0
   have q1 := cell_regrown y1
   have q2 := cell_regrown y2
   have q3 := cell_regrown y3
   have q4 := cell_regrown y4
   have q5 := cell_regrown y5
   have q6 := cell_regrown y6
   have z0 := cell_regrown x0
   have z1 := cell_regrown x1
   have z2 := cell_regrown x2
   have z3 := cell_regrown x3
   have z4 := cell_regrown x4
   have z5 := cell_regrown x5
   have z6 := cell_regrown x6
   have cF : ∀ d os, Calls Tryz.prog 150 #[.agg #[.int .i64 y.n, .int .i64 y.p.seq, .int .i64 y.p.time, .bool y.p.f, .bool y.p.e, .bool y.p.k, .string y.p.t], .agg #[.int .i64 x.n, .int .i64 x.p.seq, .int .i64 x.p.time, .bool false, .bool x.p.e, .bool x.p.k, .string x.p.t]] (grow (redrawn W d) os) fun e w'' => e = .returned (.bool t) ∧ ∃ p : Regrown, w'' = grow (redrawn W p.d) p.os := fun d os =>
    Calls.regrown_of (by
     have h := follows_any y X (grow (redrawn W d) os) (by omega)
     rw [HXV.out, HX.out, ← HT.out] at h
     exact h)
   have KW : Hid (Blk W M #[.slice (some ⟨b, off, none⟩) n c] 133) := kW
   have XW : Hid (Blk W w.heap.size #[.int .i64 x.n, .int .i64 x.p.seq, .int .i64 x.p.time, .bool false, .bool x.p.e, .bool x.p.k, .string x.p.t] 106) := xW
   have OW : Hid (W.ownsRow base 106 7 (.slice (some ⟨b, off, none⟩) n c) n (skCells l)) := oW
   have BW : Hid (Below base w W) := bW
   clear kW xW oW bW y0 y1 y2 y3 y4 y5 y6 x0 x1 x2 x3 x4 x5 x6
   refine wp_region_quiet_below (by kernel_rfl) (by kernel_rfl) ?_
   repeat (quiet_step (exact cF _ _))
   refine wpQuiet_nil ?_
   intro _ hw'
   obtain ⟨⟨dq, osq⟩, hw''⟩ := hw'
   subst hw''
   have bR := below_regrown W dq osq
   obtain ⟨V, hV⟩ : ∃ V, V = grow (redrawn W dq) osq := ⟨_, rfl⟩
   rw [← hV] at bR
   have kV : Hid (Blk V M #[.slice (some ⟨b, off, none⟩) n c] 133) := KW.out.below bR KW.out.lt
   have xV : Hid (Blk V w.heap.size #[.int .i64 x.n, .int .i64 x.p.seq, .int .i64 x.p.time, .bool false, .bool x.p.e, .bool x.p.k, .string x.p.t] 106) := XW.out.below bR XW.out.lt
   have oV : Hid (V.ownsRow base 106 7 (.slice (some ⟨b, off, none⟩) n c) n (skCells l)) := owns_below OW.out bR (Nat.le_refl _)
   have bV : Hid (Below base w V) := BW.out.trans (bR.mono (by have := BW.out.size; omega))
   have tV : Hid (∀ j, j < w.heap.size → V.heap[j]? = w.heap[j]?) := fun j hj => (bR.block j (by have := sW.out; omega)).trans (tW.out j hj)
   have sV : Hid (w.heap.size ≤ V.heap.size) := Nat.le_trans sW.out bR.size
   rw [← hV]
   clear hV bR KW XW OW BW m0 q0 q1 q2 q3 q4 q5 q6 z0 z1 z2 z3 z4 z5 z6 cF
   have c0 := kV.out.one
   have f0 := kV.out.free 0
   have hMV := kV.out.lt
   cases t
   ·have HRR : Hid (R = []) := by
     show R = []
     rw [HR.out]; unfold takeF
     rw [if_neg (by simp [hf]), if_neg (fun h => by rw [← HY.out, ← HT.out] at h; cases h.2)]
    go_wp2
    go_end0
    rw [HRR.out]
    exact ⟨rfl, ⟨.slice none 0 0, kV.out.set 0 _, World.ownsRow_nil _ _ _ _⟩, bV.out.setCell (by exact hbM) _, fun j h1 h2 _ => by rw [Below.heap_setCell _ _ _ _ (by exact h2)]; exact tV.out j h1⟩
   ·have HRR : Hid (R = l ++ [x]) := by
     show R = _
     rw [HR.out]; unfold takeF
     rw [if_neg (by simp [hf]), if_pos ⟨by rw [← HN.out]; omega, by rw [← HY.out, ← HT.out]⟩]
    obtain ⟨x0, x1, x2, x3, x4, x5, x6⟩ := xV.out.seven
    have hbV : base ≤ V.heap.size := by omega
    have own1 : Hid ((V.alloc (.cells #[.int .i64 x.n, .int .i64 x.p.seq, .int .i64 x.p.time, .bool false, .bool x.p.e, .bool x.p.k, .string x.p.t] 106)).drew.ownsRow base 106 7 (.slice (some ⟨b, off, none⟩) n c) n (skCells l)) := oV.out.alloc _
    have new1 : Hid (∀ j u, X.cells.toList[j]? = some u → (V.alloc (.cells #[.int .i64 x.n, .int .i64 x.p.seq, .int .i64 x.p.time, .bool false, .bool x.p.e, .bool x.p.k, .string x.p.t] 106)).drew.cell? ((⟨V.heap.size, 0, none⟩ : Addr).add j) = some u) := by
     show ∀ j u, _ → _
     rw [← HXC.out]
     exact newSlot rfl
    have l1 : Hid (n + 1 ≤ maxLen) := by show _ ≤ _; unfold maxLen; omega
    have l2 : Hid ((n + 1) * 48 ≤ 140737488355328) := by show _ ≤ _; omega
    have l3 : Hid (base ≤ (V.alloc (.cells #[.int .i64 x.n, .int .i64 x.p.seq, .int .i64 x.p.time, .bool false, .bool x.p.e, .bool x.p.k, .string x.p.t] 106)).drew.heap.size) := by show _ ≤ (V.alloc _).heap.size; simp; omega
    have aft : Hid (∀ v' w2, w2.ownsRow base 106 7 v' (n + 1) (skCells l ++ X.cells.toList) → (V.alloc (.cells #[.int .i64 x.n, .int .i64 x.p.seq, .int .i64 x.p.time, .bool false, .bool x.p.e, .bool x.p.k, .string x.p.t] 106)).drew.grownBy w2 (Value.slice (some ⟨b, off, none⟩) n c).ownBlock →
      ∃ a' c', v' = .slice a' (n + 1) c' ∧ w2.cell? ⟨M, 0, none⟩ = some (.slice (some ⟨b, off, none⟩) n c) ∧ w2.frozen? ⟨M, 0, none⟩ = false ∧
       Hid (∀ w3, Hid (w3 = w2.setCell ⟨M, 0, none⟩ (.slice a' (n + 1) c')) → Make base M w3 (l ++ [x]) ∧ Below base w w3 ∧ ∀ j, j < w.heap.size → j ≠ M → some j ≠ (Value.slice (some ⟨b, off, none⟩) n c).ownBlock → w3.heap[j]? = w.heap[j]?)) := fun v' w2 ho2 hg2 => by
     obtain ⟨a', c', hv'⟩ := Sl.len (Sl.of_owns ho2)
     have hMb : some M ≠ (Value.slice (some ⟨b, off, none⟩) n c).ownBlock := fun e => KNE.out M e.symm rfl
     have k2 : Blk w2 M #[.slice (some ⟨b, off, none⟩) n c] 133 := (hg2.block M (by show M < (V.alloc _).heap.size; simp; omega) hMb).trans (kV.out.alloc _)
     refine ⟨a', c', hv', k2.one, k2.free 0, fun w3 hw3 => ⟨⟨.slice a' (n + 1) c', by rw [hw3.out]; exact k2.set 0 _, ?_⟩, ?_, fun j h1 h2 h3 => ?_⟩⟩
     ·have e : (l ++ [x]).length = n + 1 := by rw [List.length_append, ← HN.out]; rfl
      rw [e, skCells_append, skCells_one, ← HX.out, hw3.out, ← hv']
      refine owns_same ho2 fun g hg => Below.heap_setCell _ _ _ _ (fun e => ?_)
      obtain ⟨_, cur, h3⟩ := owns_blk ho2 hg
      exact Apart_type k2 h3 (by decide) e.symm
     ·rw [hw3.out]
      exact (((bV.out.alloc (by omega) _).drew).grown hg2 (by show _ ≤ (V.alloc _).heap.size; simp; omega) (fun j hj => (oV.out.lt j hj).1)).setCell (by exact hbM) _
     ·rw [hw3.out, Below.heap_setCell _ _ _ _ (by exact h2), hg2.block j (by have := sV.out; show _ < (V.alloc _).heap.size; simp; omega) h3]
      exact (Below.heap_alloc V _ j (by have := sV.out; omega)).trans (tV.out j h1)
    go_wp2
    go_region_law (refine step_append_own2 rfl (.tmp 46) (.tmp 48) 22 rfl base 106 i0 _ 7 48 Tryz.underlying22 hi hz0 hz1 hz2 rfl (by decide) (.slice (some ⟨b, off, none⟩) n c) n (skCells l) (by simp [Act.eval]) own1.out ⟨V.heap.size, 0, none⟩ 1 1 X.cells.toList (by simp [Act.eval]) rfl new1.out (oneSlot X) l1.out l2.out l3.out ?_; intro v' w2 ho2 hg2 _; obtain ⟨a', c', hv', g0, g1, G⟩ := aft.out v' w2 ho2 hg2; clear ho2 hg2; subst hv')
    all_goals
     clear own1 new1 l1 l2 l3 aft
     go_wp2
     go_end0
     rw [HRR.out]
     exact ⟨rfl, G.out _ rfl⟩
 ·have HRR : Hid (R = [x]) := by
   show R = [x]
   rw [HR.out]; unfold takeF; rw [if_pos hf]
  go_enter Tryz.func118, Tryz.ntmps118
  go_wp2
  go_end0
  rw [HRR.out]
  have hxc : x.cells = #[.int .i64 x.n, .int .i64 x.p.seq, .int .i64 x.p.time, .bool true, .bool x.p.e, .bool x.p.k, .string x.p.t] := by simp [Sk.cells, hf]
  refine ⟨rfl, ⟨.slice (some ⟨w.heap.size + 1, 0, none⟩) 1 1, ((HM.out.set 0 _).alloc _).alloc _, ?_⟩, ?_, fun j h1 h2 _ => ?_⟩
  ·have h := World.ownsRow_lit (base := base) (e := 106) (size := 7) ((w.setCell ⟨M, 0, none⟩ (.slice (some ⟨w.heap.size + 1, 0, none⟩) 1 1)).alloc (.cells #[.int .i64 x.n, .int .i64 x.p.seq, .int .i64 x.p.time, .bool true, .bool x.p.e, .bool x.p.k, .string x.p.t] 106)) #[.int .i64 x.n, .int .i64 x.p.seq, .int .i64 x.p.time, .bool true, .bool x.p.e, .bool x.p.k, .string x.p.t] 1 (by simp; omega) (by unfold maxLen; omega) rfl
   simp only [World.size_alloc, World.size_setCell] at h
   rw [skCells_one, hxc]
   exact h
  ·exact (((Below.refl base w).setCell (by exact hbM) _).alloc (by simp; omega) _).alloc (by simp; omega) _
  ·rw [Below.heap_alloc _ _ _ (by simp; omega), Below.heap_alloc _ _ _ (by simp; omega), Below.heap_setCell _ _ _ _ (by exact h2)]
end Go.Proofs.YtnpaejknoipicagGreat
namespace Go.Proofs.YtnpaejknoipicagGreat
open Go.RowKit
def addW (l : List Sk) (x : Sk) : Bool := decide (0 < (takeF l x).length) && x.p.e
def addO (l : List Sk) (x : Sk) : List Sk := if addW l x then [] else if (takeF l x).length = 4 then [] else takeF l x
def addT (l : List Sk) (x : Sk) : Int := if addW l x then ((takeF l x)[0]?.getD Sk.zero).p.time else 0
def addK (l : List Sk) (x : Sk) : Bool := addW l x && ((takeF l x)[0]?.getD Sk.zero).p.k
def addP (l : List Sk) (x : Sk) : List ByteArray := if addW l x then texts (takeF l x) else []
theorem Sl.same {w w' : World} {v : Value} {n size : Nat} {xs : List Value} (h : Sl w v n size xs) (hs : w.heap.size ≤ w'.heap.size) (hb : ∀ g, v.ownBlock = some g → w'.heap[g]? = w.heap[g]?) : Sl w' v n size xs := by
 obtain ⟨hl, h | ⟨b, off, c, rfl, hlt, hc⟩⟩ := h
 ·exact ⟨hl, .inl h⟩
 ·exact ⟨hl, .inr ⟨b, off, c, rfl, by omega, fun j u hj => (World.cell?_of_block (hb b rfl)).trans (hc j u hj)⟩⟩
theorem takeF_len (l : List Sk) (x : Sk) : (takeF l x).length ≤ l.length + 1 := by
 unfold takeF
 split
 ·simp
 ·split <;> simp
set_option maxHeartbeats 2000000 in
set_option maxRecDepth 100000 in
theorem add_any (base M : Nat) (l : List Sk) (x : Sk) (w : World) (ov : Value) (hM : Blk w M #[ov] 133) (hown : w.ownsRow base 106 7 ov l.length (skCells l)) (hbM : base ≤ M) (hnums : ∀ y ∈ l, 65536 ≤ y.n ∧ y.n ≤ 1000000000) (hlen : l.length ≤ 49) :
  Calls Tryz.prog 84 #[.pointer (some ⟨M, 0, none⟩), x.val] w fun e w' => ∃ pv, e = .returned (.tuple #[.agg #[.int .i64 (addT l x), .bool (addK l x), pv], .bool (addW l x)]) ∧ Strs w' pv (addP l x) ∧ (∀ g, pv.ownBlock = some g → base ≤ g ∧ ∃ cur, Blk w' g cur 9) ∧ Make base M w' (addO l x) ∧ Below base w w' ∧ ∀ j, j < w.heap.size → j ≠ M → some j ≠ ov.ownBlock → w'.heap[j]? = w.heap[j]? := by
 have hMw := hM.lt
 obtain ⟨X, hX⟩ : ∃ X, X = x := ⟨_, rfl⟩
 have HXV : Hid (X.val = .agg #[.int .i64 x.n, .int .i64 x.p.seq, .int .i64 x.p.time, .bool x.p.f, .bool x.p.e, .bool x.p.k, .string x.p.t]) := by show X.val = _; rw [hX]; rfl
 have htk := take_any base M l X ((w.alloc (.cells #[.int .i64 x.n, .int .i64 x.p.seq, .int .i64 x.p.time, .bool x.p.f, .bool x.p.e, .bool x.p.k, .string x.p.t] 106)).alloc (.cells #[.int .i64 0, .bool false, .slice none 0 0] 98)) ov ((hM.alloc _).alloc _) ((hown.alloc _).alloc _) hbM hnums (by omega)
 rw [HXV.out] at htk
 have HXE : Hid (X = x) := hX
 have HOV : Hid (∀ g, ov.ownBlock = some g → g < w.heap.size) := fun g hg => (hown.lt g hg).2
 obtain ⟨T, hT⟩ : ∃ T, T = takeF l X := ⟨_, rfl⟩
 rw [← hT] at htk
 have HT : Hid (T = takeF l x) := by show T = _; rw [hT, hX]
 have HTL : Hid (T.length ≤ 50) := by show _ ≤ _; rw [HT.out]; have := takeF_len l x; omega
 obtain ⟨a, c, hov⟩ := (Sls.of_owns hown).len
 clear hX hM hown hT
 simp only [Sk.val]
 go_enter Tryz.func84, Tryz.ntmps84
 go_wp2_with fail
 refine htk.mono ?_
 rintro e w1 ⟨rfl, ⟨ov1, kM, kO⟩, bel, oth⟩
 have k0 : Blk w1 w.heap.size #[.int .i64 x.n, .int .i64 x.p.seq, .int .i64 x.p.time, .bool x.p.f, .bool x.p.e, .bool x.p.k, .string x.p.t] 106 := (oth _ (by simp; omega) (by omega) (fun e => by have := HOV.out _ e.symm; omega)).trans ((Blk.new w _ _).alloc _)
 have k1 : Blk w1 (w.heap.size + 1) #[.int .i64 0, .bool false, .slice none 0 0] 98 := (oth _ (by simp) (by omega) (fun e => by have := HOV.out _ e.symm; omega)).trans (by
  have := Blk.new (w.alloc (.cells #[.int .i64 x.n, .int .i64 x.p.seq, .int .i64 x.p.time, .bool x.p.f, .bool x.p.e, .bool x.p.k, .string x.p.t] 106)) #[.int .i64 0, .bool false, .slice none 0 0] 98
  simp only [World.size_alloc] at this
  exact this)
 have B1 : Hid (Below base w w1) := (((Below.refl base w).alloc (by omega) _).alloc (by simp; omega) _).trans bel
 have OT1 : Hid (∀ j, j < w.heap.size → j ≠ M → some j ≠ ov.ownBlock → w1.heap[j]? = w.heap[j]?) := fun j h1 h2 h3 => by rw [oth j (by simp; omega) h2 h3, Below.heap_alloc _ _ _ (by simp; omega), Below.heap_alloc _ _ _ h1]
 obtain ⟨a1, c1, e1⟩ := (Sls.of_owns kO).len
 obtain ⟨m, hm⟩ : ∃ m, m = T.length := ⟨_, rfl⟩
 have HM : Hid (m = T.length) := hm
 rw [← hm] at e1 kO
 subst e1
 have KM : Hid (Blk w1 M #[.slice a1 m c1] 133) := kM
 have KO : Hid (w1.ownsRow base 106 7 (.slice a1 m c1) m (skCells T)) := kO
 have K1 : Hid (Blk w1 (w.heap.size + 1) #[.int .i64 0, .bool false, .slice none 0 0] 98) := k1
 have d0 := kM.one
 have mf := kM.free 0
 have xe := k0.seven.2.2.2.2.1
 obtain ⟨z0, z1, z2⟩ := k1.three
 have zf := k1.free
 have hs1 := k1.lt
 have hMs := kM.lt
 clear htk bel oth k0 k1 kM kO hm
 have hne1 : ¬ M = w.heap.size + 1 := by omega
 have hne2 : ¬ w.heap.size + 1 = M := by omega
 by_cases hw : 0 < m ∧ x.p.e = true
 ·obtain ⟨hm0, hxe⟩ := hw
  have HWF : Hid (addW l x = true) := by
   show addW l x = true
   unfold addW
   rw [← HT.out, ← HM.out, hxe, decide_eq_true hm0]; rfl
  have hd : decide (0 < m) = true := decide_eq_true hm0
  cases T with
  | nil => have := HM.out; simp at this; omega
  | cons y r =>
  have hfo := frameOf_any (.slice a1 m c1) y r w1 (Sls.of_owns (by rw [← HM.out]; exact KO.out)) (by have := HTL.out; omega)
  have HS : Hid (addT l x = y.p.time ∧ addK l x = y.p.k ∧ addP l x = texts (y :: r) ∧ addO l x = []) := by
   refine ⟨?_, ?_, ?_, ?_⟩
   ·unfold addT; rw [HWF.out, ← HT.out]; rfl
   ·unfold addK; rw [HWF.out, ← HT.out]; rfl
   ·unfold addP; rw [HWF.out, ← HT.out]; rfl
   ·unfold addO; rw [HWF.out]; rfl
  go_wp2_with fail
  refine hfo.mono ?_
  rintro e w2 ⟨pv, rfl, hst, hfr, hb2⟩
  have kM2 := Blk.below KM.out hb2 (Blk.lt KM.out)
  have k12 := Blk.below K1.out hb2 (Blk.lt K1.out)
  have m0 := kM2.one
  have mf2 := kM2.free 0
  obtain ⟨y0, y1, y2⟩ := k12.three
  have yf := k12.free
  have hs2 := k12.lt
  have hM2 := kM2.lt
  obtain ⟨ap, cp, epv⟩ := hst.len
  obtain ⟨np, hnp⟩ : ∃ np, np = (texts (y :: r)).length := ⟨_, rfl⟩
  rw [← hnp] at epv
  subst epv
  have hz : Hid (w1.heap.size ≤ w2.heap.size) := hb2.size
  have HST : Hid (Strs w2 (.slice ap np cp) (texts (y :: r))) := hst
  have HFR : Hid (∀ g, (Value.slice ap np cp).ownBlock = some g → w1.heap.size ≤ g ∧ g < w2.heap.size) := fun g hg => by obtain ⟨h1, cur, h2⟩ := hfr g hg; exact ⟨h1, h2.lt⟩
  have HFB : Hid (∀ g, (Value.slice ap np cp).ownBlock = some g → ∃ cur, Blk w2 g cur 9) := fun g hg => (hfr g hg).2
  have KM2 : Hid (Blk w2 M #[.slice a1 m c1] 133) := kM2
  have OT2 : Hid (∀ j, j < w.heap.size → j ≠ M → some j ≠ ov.ownBlock → w2.heap[j]? = w.heap[j]?) := fun j h1 h2 h3 => (hb2.block j (by omega)).trans (OT1.out j h1 h2 h3)
  have B2 : Hid (Below base w w2) := B1.out.trans (hb2.mono (by have := B1.out.size; omega))
  clear hst hfr hb2 kM2 k12 hfo d0 mf z0 z1 z2 zf hnp
  go_wp2
  refine bodyPost_ret (v := .tuple #[.agg #[.int .i64 y.p.time, .bool y.p.k, .slice ap np cp], .bool true]) (by simp [results, Tryz.results84, go_sem, World.cell?_alloc_past, hs2, y0, y1, y2]) rfl ?_
  rw [HS.out.1, HS.out.2.1, HS.out.2.2.1, HS.out.2.2.2, HWF.out]
  refine ⟨_, rfl, ?_, fun g hg => ?_, ⟨.slice none 0 0, ?_, World.ownsRow_nil _ _ _ _⟩, ?_, fun j h1 h2 h3 => ?_⟩
  ·refine Sl.same HST.out (by simp) (fun g hg => ?_)
   have h1 := HFR.out g hg
   have h2 : g ≠ w.heap.size + 1 := by omega
   have h3 : g ≠ M := by omega
   rw [Below.heap_alloc _ _ _ (by simp; omega), Below.heap_setCell _ _ _ _ (by exact h2), Below.heap_setCell _ _ _ _ (by exact h2), Below.heap_setCell _ _ _ _ (by exact h2), Below.heap_setCell _ _ _ _ (by exact h3)]
  ·have h1 := HFR.out g hg
   obtain ⟨cur, hc⟩ := HFB.out g hg
   have h2 : g ≠ w.heap.size + 1 := by omega
   have h3 : g ≠ M := by omega
   exact ⟨by omega, cur, ((((hc.other (by exact h3) _).other (by exact h2) _).other (by exact h2) _).other (by exact h2) _).alloc _⟩
  ·exact ((((KM2.out.set 0 _).other (by simpa using hne1) _).other (by simpa using hne1) _).other (by simpa using hne1) _).alloc _
  ·exact ((((B2.out.setCell (by exact hbM) _).setCell (by simp; omega) _).setCell (by simp; omega) _).setCell (by simp; omega) _).alloc (by simp; omega) _
  ·have h4 : j ≠ w.heap.size + 1 := by omega
   rw [Below.heap_alloc _ _ _ (by simp; omega), Below.heap_setCell _ _ _ _ (by exact h4), Below.heap_setCell _ _ _ _ (by exact h4), Below.heap_setCell _ _ _ _ (by exact h4), Below.heap_setCell _ _ _ _ (by exact h2)]
   exact OT2.out j h1 h2 h3
 ·have HWF : Hid (addW l x = false) := by
   show addW l x = false
   unfold addW
   rw [← HT.out, ← HM.out]
   cases h : x.p.e
   ·simp
   ·simp only [Bool.and_true, decide_eq_false_iff_not]; intro h0; exact hw ⟨h0, h⟩
  have HS : Hid (addT l x = 0 ∧ addK l x = false ∧ addP l x = []) := by
   refine ⟨?_, ?_, ?_⟩
   ·unfold addT; rw [HWF.out]; rfl
   ·unfold addK; rw [HWF.out]; rfl
   ·unfold addP; rw [HWF.out]; rfl
  have HO0 : Hid (addO l x = if m = 4 then [] else T) := by show addO l x = _; unfold addO; rw [HWF.out, ← HT.out, ← HM.out]; rfl
  have hg : decide (0 < m) = false ∨ decide (0 < m) = true ∧ x.p.e = false := by
   by_cases h : 0 < m
   ·right
    refine ⟨decide_eq_true h, ?_⟩
    cases he : x.p.e
    ·rfl
    ·exact absurd ⟨h, he⟩ hw
   ·left; exact decide_eq_false h
  have KNE : Hid (∀ g, (Value.slice a1 m c1).ownBlock = some g → g ≠ w.heap.size + 1) := fun g hg e => by
   obtain ⟨_, cur, h3⟩ := owns_blk KO.out hg
   exact Apart_type K1.out h3 (by decide) e.symm
  clear hw
  rcases hg with hd | ⟨hd, hxe⟩
  all_goals
   by_cases h4 : m = 4
   ·have h4i : ((m : Int) == 4) = true := by simp; omega
    have HO4 : Hid (addO l x = []) := by show _ = _; rw [HO0.out, if_pos h4]
    clear h4
    go_wp2
    refine bodyPost_ret (v := .tuple #[.agg #[.int .i64 0, .bool false, .slice none 0 0], .bool false]) (by simp [results, Tryz.results84, go_sem, z0, z1, z2]) rfl ?_
    rw [HS.out.1, HS.out.2.1, HS.out.2.2, HO4.out, HWF.out]
    exact ⟨_, rfl, Strs.nil _, fun g hg => by simp [Value.ownBlock] at hg, ⟨_, (((KM.out.set 0 _).other (by simpa using hne1) _).other (by simpa using hne1) _).other (by simpa using hne1) _, World.ownsRow_nil _ _ _ _⟩, (((B1.out.setCell (by exact hbM) _).setCell (by simp; omega) _).setCell (by simp; omega) _).setCell (by simp; omega) _, fun j h1 h2 h3 => by
     have h4 : j ≠ w.heap.size + 1 := by omega
     rw [Below.heap_setCell _ _ _ _ (by exact h4), Below.heap_setCell _ _ _ _ (by exact h4), Below.heap_setCell _ _ _ _ (by exact h4), Below.heap_setCell _ _ _ _ (by exact h2)]
     exact OT1.out j h1 h2 h3⟩
   ·have h4i : ((m : Int) == 4) = false := by simp; omega
    have HO4 : Hid (addO l x = T) := by show _ = _; rw [HO0.out, if_neg h4]
    clear h4
    go_wp2
    refine bodyPost_ret (v := .tuple #[.agg #[.int .i64 0, .bool false, .slice none 0 0], .bool false]) (by simp [results, Tryz.results84, go_sem, z0, z1, z2]) rfl ?_
    rw [HS.out.1, HS.out.2.1, HS.out.2.2, HO4.out, HWF.out]
    refine ⟨_, rfl, Strs.nil _, fun g hg => by simp [Value.ownBlock] at hg, ⟨_, ((KM.out.other (by simpa using hne1) _).other (by simpa using hne1) _).other (by simpa using hne1) _, ?_⟩, ((B1.out.setCell (by simp; omega) _).setCell (by simp; omega) _).setCell (by simp; omega) _, fun j h1 h2 h3 => by
     have h4 : j ≠ w.heap.size + 1 := by omega
     rw [Below.heap_setCell _ _ _ _ (by exact h4), Below.heap_setCell _ _ _ _ (by exact h4), Below.heap_setCell _ _ _ _ (by exact h4)]
     exact OT1.out j h1 h2 h3⟩
    rw [← HM.out]
    exact owns_same KO.out fun g hg => by
     have := KNE.out g hg
     rw [Below.heap_setCell _ _ _ _ (by exact this), Below.heap_setCell _ _ _ _ (by exact this), Below.heap_setCell _ _ _ _ (by exact this)]
end Go.Proofs.YtnpaejknoipicagGreat
namespace Go.Proofs.YtnpaejknoipicagGreat
def letF : Int → List Sk → List Sk → Int × List Sk × List Sk
 | next, [], o => (next, [], o)
 | next, x :: r, o => if x.n = next then letF (next + 1) r (o ++ [x]) else (next, x :: r, o)
def giveF (most : Nat) : Nat → Int → List Sk → List Sk → Int × List Sk × List Sk
 | 0, next, h, o => (next, h, o)
 | _ + 1, next, [], o => (next, [], o)
 | f + 1, next, x :: r, o => if r.length + 1 ≤ most then (next, x :: r, o) else giveF most f (letF x.n (x :: r) o).1 (letF x.n (x :: r) o).2.1 (letF x.n (x :: r) o).2.2
def relF (most : Nat) : Int → List Sk → List Sk → Int × List Sk × List Sk
 | next, [], o => (next, [], o)
 | next, x :: r, o => if x.n = next then relF most (next + 1) r (o ++ [x]) else if r.length + 1 ≤ most then (next, x :: r, o) else relF most (x.n + 1) r (o ++ [x])
theorem letF_len : ∀ (h : List Sk) (next : Int) (o : List Sk), (letF next h o).2.1.length ≤ h.length
 | [], _, _ => Nat.le_refl _
 | x :: r, next, o => by
  unfold letF
  split
  ·have := letF_len r (next + 1) (o ++ [x]); simp; omega
  ·exact Nat.le_refl _
theorem letF_first (x : Sk) (r o : List Sk) : letF x.n (x :: r) o = letF (x.n + 1) r (o ++ [x]) := by simp [letF]
theorem give_let (most : Nat) : ∀ (k : Nat) (h : List Sk), h.length ≤ k → ∀ (f : Nat) (next : Int) (o : List Sk), (letF next h o).2.1.length ≤ f →
  giveF most f (letF next h o).1 (letF next h o).2.1 (letF next h o).2.2 = relF most next h o
 | _, [], _, f, next, o, _ => by cases f <;> simp [letF, giveF, relF]
 | 0, _ :: _, hk, _, _, _, _ => by simp at hk
 | k + 1, x :: r, hk, f, next, o, hf => by
  simp only [List.length_cons] at hk
  by_cases h : x.n = next
  ·simp only [letF, relF, if_pos h] at hf ⊢
   exact give_let most k r (by omega) f (next + 1) (o ++ [x]) hf
  ·simp only [letF, relF, if_neg h] at hf ⊢
   cases f with
   | zero => simp at hf
   | succ f =>
    by_cases hm : r.length + 1 ≤ most
    ·simp only [giveF, if_pos hm]
    ·simp only [giveF, if_neg hm, letF_first]
     have := letF_len r (x.n + 1) (o ++ [x])
     simp only [List.length_cons] at hf
     exact give_let most k r (by omega) f (x.n + 1) (o ++ [x]) (by omega)
def upB : Int → List Sk → Bool
 | _, [] => true
 | n, x :: r => decide (n < x.n) && upB x.n r
def Right (next : Int) (l : List Sk) : Prop :=
 (next = 0 ∧ l = [] ∨ 65536 ≤ next ∧ next ≤ 1000000001) ∧ l.length ≤ 4 ∧ (∀ x ∈ l, x.chk = 0) ∧ upB next l = true
def bgo (next : Int) : Int → List Sk → Int
 | _, [] => 0
 | last, x :: r => if x.chk = 0 then (if x.n ≤ next ∨ x.n ≤ last then 4 else bgo next x.n r) else x.chk
def nextBad (next : Int) : Bool := !(next == 0) && !(decide (65536 ≤ next) && decide (next ≤ 1000000001))
def bchk (next : Int) (l : List Sk) : Int :=
 if nextBad next then 3 else if 4 < l.length then 2 else if bgo next next l = 0 then (if next = 0 ∧ 0 < l.length then 4 else 0) else bgo next next l
theorem bgo_zero (next : Int) : ∀ (l : List Sk) (last : Int), next ≤ last → (bgo next last l = 0 ↔ (∀ x ∈ l, x.chk = 0) ∧ upB last l = true)
 | [], _, _ => by simp [bgo, upB]
 | x :: r, last, hl => by
  simp only [bgo, upB, List.mem_cons, forall_eq_or_imp]
  by_cases h : x.chk = 0
  ·rw [if_pos h]
   by_cases h2 : x.n ≤ next ∨ x.n ≤ last
   ·rw [if_pos h2]
    have : decide (last < x.n) = false := decide_eq_false (by omega)
    rw [this]; simp
   ·rw [if_neg h2, bgo_zero next r x.n (by omega)]
    have : decide (last < x.n) = true := decide_eq_true (by omega)
    rw [this]; simp [h]
  ·rw [if_neg h]; simp [h]
theorem nextBad_false {next : Int} : nextBad next = false ↔ next = 0 ∨ 65536 ≤ next ∧ next ≤ 1000000001 := by
 simp [nextBad]; omega
theorem bchk_right (next : Int) (l : List Sk) : bchk next l = 0 ↔ Right next l := by
 unfold bchk Right
 cases hb : nextBad next
 ·have hn := nextBad_false.1 hb
  rw [if_neg (by simp)]
  by_cases h4 : 4 < l.length
  ·rw [if_pos h4]; simp; omega
  ·rw [if_neg h4]
   by_cases hg : bgo next next l = 0
   ·rw [if_pos hg]
    have h := (bgo_zero next l next (Int.le_refl _)).1 hg
    by_cases h0 : next = 0 ∧ 0 < l.length
    ·rw [if_pos h0]
     constructor
     ·intro h; omega
     ·rintro ⟨h1, _⟩
      rcases h1 with ⟨_, h1⟩ | h1
      ·rw [h1] at h0; simp at h0
      ·omega
    ·rw [if_neg h0]
     refine ⟨fun _ => ⟨?_, by omega, h.1, h.2⟩, fun _ => rfl⟩
     rcases hn with hn | hn
     ·left; exact ⟨hn, List.eq_nil_of_length_eq_zero (by omega)⟩
     ·right; exact hn
   ·rw [if_neg hg]
    constructor
    ·intro h; exact absurd h hg
    ·rintro ⟨_, _, h1, h2⟩
     exact absurd ((bgo_zero next l next (Int.le_refl _)).2 ⟨h1, h2⟩) hg
 ·rw [if_pos rfl]
  constructor
  ·intro h; omega
  ·rintro ⟨h1, _⟩
   have : nextBad next = false := nextBad_false.2 (by rcases h1 with ⟨h, _⟩ | h <;> omega)
   rw [this] at hb; cases hb
theorem Sk.chk_zero {x : Sk} (h : x.chk = 0) : 65536 ≤ x.n ∧ x.n ≤ 1000000000 ∧ x.p.chk = 0 ∧ x.n % 65536 = x.p.seq := by
 cases hb : Cn.isNB x.n
 ·rw [Sk.chk_range hb] at h; omega
 ·have := Cn.isNB_iff.1 hb
  by_cases hc : x.p.chk = 0
  ·by_cases hs : x.n % 65536 = x.p.seq
   ·exact ⟨this.1, this.2, hc, hs⟩
   ·rw [Sk.chk_seq hb hc hs] at h; omega
  ·rw [Sk.chk_pkt hb hc] at h; exact absurd h hc
theorem Sk.chk_short {x : Sk} (h : x.chk = 0) : x.p.t.size ≤ 8 := by
 have hc := (Sk.chk_zero h).2.2.1
 unfold Pk.chk at hc
 by_cases h1 : x.p.seq < 0
 ·rw [if_pos h1] at hc; omega
 rw [if_neg h1] at hc
 by_cases h2 : 65535 < x.p.seq
 ·rw [if_pos h2] at hc; omega
 rw [if_neg h2] at hc
 by_cases h3 : x.p.time < 0
 ·rw [if_pos h3] at hc; omega
 rw [if_neg h3] at hc
 by_cases h4 : 1000000 < x.p.time
 ·rw [if_pos h4] at hc; omega
 rw [if_neg h4] at hc
 by_cases h5 : 8 < (x.p.t.size : Int)
 ·rw [if_pos h5] at hc; omega
 omega
end Go.Proofs.YtnpaejknoipicagGreat
namespace Go.Proofs.YtnpaejknoipicagGreat
open Go.RowKit
theorem blocks4 {w w1 : World} {A B C D : Array Value} {s t u v : TypeId} (hb : Below ((((w.alloc (.cells A s)).alloc (.cells B t)).alloc (.cells C u)).alloc (.cells D v)).heap.size ((((w.alloc (.cells A s)).alloc (.cells B t)).alloc (.cells C u)).alloc (.cells D v)) w1) :
  Blk w1 w.heap.size A s ∧ Blk w1 (w.heap.size + 1) B t ∧ Blk w1 (w.heap.size + 1 + 1) C u ∧ Blk w1 (w.heap.size + 1 + 1 + 1) D v ∧ Below w.heap.size w w1 ∧ w.heap.size + 1 + 1 + 1 + 1 ≤ w1.heap.size := by
 have hs := hb.size
 simp only [World.size_alloc] at hs
 have h2 := ((((Blk.new w A s).alloc (.cells B t)).alloc (.cells C u)).alloc (.cells D v)).below hb (by simp; omega)
 have h3 := (((Blk.new (w.alloc (.cells A s)) B t).alloc (.cells C u)).alloc (.cells D v)).below hb (by simp)
 have h4 := ((Blk.new ((w.alloc (.cells A s)).alloc (.cells B t)) C u).alloc (.cells D v)).below hb (by simp)
 have h5 := (Blk.new (((w.alloc (.cells A s)).alloc (.cells B t)).alloc (.cells C u)) D v).below hb (by simp)
 simp only [World.size_alloc] at h3 h4 h5
 exact ⟨h2, h3, h4, h5, (((((Below.refl _ w).alloc (Nat.le_refl _) _).alloc (by simp) _).alloc (by simp; omega) _).alloc (by simp; omega) _).trans (hb.mono (by simp; omega)), hs⟩
set_option maxHeartbeats 2000000 in
theorem frameAdd_no (ck : Int) (v : Value) (l : List Sk) (x : Sk) (w : World) (hv : Sls w v l)
  (hck : ∀ w' : World, Sls w' v l → Calls Tryz.prog 156 #[.agg #[v]] w' fun e w'' => e = .returned (.int .i64 ck) ∧ Below w'.heap.size w' w'')
  (E : Int) (hEE : E = if ck = 0 then x.chk else ck) (hE : ¬ E = 0) :
  Calls Tryz.prog 133 #[.agg #[v], x.val] w fun e w' => e = .returned (.tuple #[.agg #[.slice none 0 0], .agg #[.int .i64 0, .bool false, .slice none 0 0], .bool false, .int .i64 E]) ∧ Below w.heap.size w w' := by
 obtain ⟨a, c, hva⟩ := hv.len
 obtain ⟨n, hn⟩ : ∃ n, n = l.length := ⟨_, rfl⟩
 rw [← hn] at hva
 have HE : Hid (E = if ck = 0 then x.chk else ck) := hEE
 have HV : Hid (Sls w v l) := hv
 have HC : Hid (∀ w' : World, Sls w' v l → Calls Tryz.prog 156 #[.agg #[v]] w' fun e w'' => e = .returned (.int .i64 ck) ∧ Below w'.heap.size w' w'') := hck
 clear hv hn hEE hck
 subst hva
 have hsc := slotCheck_any x
 obtain ⟨xc, hxc⟩ : ∃ xc, xc = x.chk := ⟨_, rfl⟩
 rw [← hxc] at hsc
 have HX : Hid (xc = x.chk) := hxc
 have HS : Hid _ := hsc
 clear hsc hxc
 by_cases hp : ck = 0
 ·have hEx : E = xc := by rw [HE.out, HX.out, if_pos hp]
  subst hp
  subst hEx
  obtain ⟨xn, seq, time, xf, xe, xk, xt⟩ := x
  simp only [Sk.val] at HS ⊢
  go_enter Tryz.func133, Tryz.ntmps133
  go_wp2_with fail
  refine (HC.out _ ((((HV.out.alloc _).alloc _).alloc _).alloc _)).mono ?_
  rintro e w1 ⟨rfl, hb1⟩
  obtain ⟨kb, kx, kr, kf, bb, hs1⟩ := blocks4 hb1
  have KR : Hid _ := kr
  have KF : Hid _ := kf
  have B1 : Hid _ := bb
  obtain ⟨e0, e1, e2, e3, e4, e5, e6⟩ := kx.seven
  clear hb1 kb kx kr kf bb
  go_wp2_with fail
  refine (HS.out _).mono ?_
  rintro e w2 ⟨rfl, hb2⟩
  have kr := Blk.below KR.out hb2 (Blk.lt KR.out)
  have kf := Blk.below KF.out hb2 (Blk.lt KF.out)
  have BB : Hid (Below w.heap.size w w2) := B1.out.trans (hb2.mono B1.out.size)
  have r0 := kr.one
  obtain ⟨r1, r2, r3⟩ := kf.three
  have rf := kr.free
  have ff := kf.free
  clear hb2 kr kf KR KF B1 e0 e1 e2 e3 e4 e5 e6
  go_wp2
  exact bodyPost_ret (v := .tuple #[.agg #[.slice none 0 0], .agg #[.int .i64 0, .bool false, .slice none 0 0], .bool false, .int .i64 E]) (by simp [results, Tryz.results133, go_sem, r0, r1, r2, r3]) rfl ⟨rfl, by
   have h := BB.out
   exact (((h.setCell (by simp; omega) _).setCell (by simp; omega) _).setCell (by simp; omega) _).setCell (by simp; omega) _⟩
 ·have hEp : E = ck := by rw [HE.out, if_neg hp]
  subst hEp
  obtain ⟨xn, seq, time, xf, xe, xk, xt⟩ := x
  simp only [Sk.val]
  go_enter Tryz.func133, Tryz.ntmps133
  go_wp2_with fail
  refine (HC.out _ ((((HV.out.alloc _).alloc _).alloc _).alloc _)).mono ?_
  rintro e w1 ⟨rfl, hb1⟩
  obtain ⟨kb, kx, kr, kf, bb, hs1⟩ := blocks4 hb1
  have r0 := kr.one
  obtain ⟨r1, r2, r3⟩ := kf.three
  have rf := kr.free
  have ff := kf.free
  have BB : Hid _ := bb
  clear hb1 kb kx kr kf bb
  go_wp2
  exact bodyPost_ret (v := .tuple #[.agg #[.slice none 0 0], .agg #[.int .i64 0, .bool false, .slice none 0 0], .bool false, .int .i64 E]) (by simp [results, Tryz.results133, go_sem, r0, r1, r2, r3]) rfl ⟨rfl, by
   have h := BB.out
   exact (((h.setCell (by simp; omega) _).setCell (by simp; omega) _).setCell (by simp; omega) _).setCell (by simp; omega) _⟩
set_option maxHeartbeats 2000000 in
set_option maxRecDepth 100000 in
theorem frameAdd_ok (v : Value) (l : List Sk) (x : Sk) (w : World) (hv : Sls w v l)
  (hck : ∀ w' : World, Sls w' v l → Calls Tryz.prog 156 #[.agg #[v]] w' fun e w'' => e = .returned (.int .i64 0) ∧ Below w'.heap.size w' w'')
  (hl3 : l.length ≤ 3) (hl : ∀ y ∈ l, y.chk = 0) (hx : x.chk = 0) :
  Calls Tryz.prog 133 #[.agg #[v], x.val] w fun e w' => ∃ ov pv, e = .returned (.tuple #[.agg #[ov], .agg #[.int .i64 (addT l x), .bool (addK l x), pv], .bool (addW l x), .int .i64 0]) ∧
   (Sls w' ov (addO l x) ∧ Strs w' pv (addP l x) ∧ (∀ g, ov.ownBlock = some g → w.heap.size ≤ g ∧ g < w'.heap.size) ∧ ∀ g, pv.ownBlock = some g → w.heap.size ≤ g ∧ g < w'.heap.size) ∧ Below w.heap.size w w' := by
 obtain ⟨a, c, hva⟩ := hv.len
 have HV : Hid (Sls w v l) := hv
 have HC : Hid (∀ w' : World, Sls w' v l → Calls Tryz.prog 156 #[.agg #[v]] w' fun e w'' => e = .returned (.int .i64 0) ∧ Below w'.heap.size w' w'') := hck
 have HS : Hid (∀ w' : World, Calls Tryz.prog 83 #[x.val] w' fun e w'' => e = .returned (.int .i64 0) ∧ Below w'.heap.size w' w'') := fun w' => by rw [← hx]; exact slotCheck_any x w'
 have HKp : Hid (∀ w' : World, Sls w' v l → Calls Tryz.prog 68 #[v] w' fun e w'' => ∃ u, e = .returned u ∧ w''.ownsRow w'.heap.size 106 7 u l.length (skCells l) ∧ Below w'.heap.size w' w'') := fun w' hs => copyAll_any v l w' hs (by omega) (fun y hy => Sk.chk_short (hl y hy))
 have HCo : Hid (∀ w' : World, Calls Tryz.prog 85 #[x.val] w' fun e w'' => e = .returned x.val ∧ Below w'.heap.size w' w'') := fun w' => slotCopy_any x w' (Sk.chk_short hx)
 have HPu : Hid (∀ (K base : Nat) (hv' : Value) (w' : World), Blk w' K #[hv'] 133 → w'.ownsRow base 106 7 hv' l.length (skCells l) → base ≤ K →
   Calls Tryz.prog 84 #[.pointer (some ⟨K, 0, none⟩), x.val] w' fun e w'' => ∃ pv, e = .returned (.tuple #[.agg #[.int .i64 (addT l x), .bool (addK l x), pv], .bool (addW l x)]) ∧ Strs w'' pv (addP l x) ∧ (∀ g, pv.ownBlock = some g → base ≤ g ∧ ∃ cur, Blk w'' g cur 9) ∧ Make base K w'' (addO l x) ∧ Below base w' w'') := fun K base hv' w' h1 h2 h3 =>
  (add_any base K l x w' hv' h1 h2 h3 (fun y hy => by have := Sk.chk_zero (hl y hy); omega) (by omega)).mono fun e w'' ⟨pv, h1, h2, h3, h4, h5, _⟩ => ⟨pv, h1, h2, h3, h4, h5⟩
 obtain ⟨n, hn⟩ : ∃ n, n = l.length := ⟨_, rfl⟩
 rw [← hn] at hva
 rw [← hn] at HKp HPu
 obtain ⟨rT, hrT⟩ : ∃ rT, rT = addT l x := ⟨_, rfl⟩
 obtain ⟨rK, hrK⟩ : ∃ rK, rK = addK l x := ⟨_, rfl⟩
 obtain ⟨rW, hrW⟩ : ∃ rW, rW = addW l x := ⟨_, rfl⟩
 obtain ⟨rO, hrO⟩ : ∃ rO, rO = addO l x := ⟨_, rfl⟩
 obtain ⟨rP, hrP⟩ : ∃ rP, rP = addP l x := ⟨_, rfl⟩
 rw [← hrT, ← hrK, ← hrW, ← hrO, ← hrP]
 rw [← hrT, ← hrK, ← hrW, ← hrO, ← hrP] at HPu
 clear hv hn hck hrT hrK hrW hrO hrP hx hl3 hl
 subst hva
 obtain ⟨xn, seq, time, xf, xe, xk, xt⟩ := x
 simp only [Sk.val] at HS HCo HPu ⊢
 go_enter Tryz.func133, Tryz.ntmps133
 go_wp2_with fail
 refine (HC.out _ ((((HV.out.alloc _).alloc _).alloc _).alloc _)).mono ?_
 rintro e w1 ⟨rfl, hb1⟩
 obtain ⟨kb, kx, kr, kf, bb, hs1⟩ := blocks4 hb1
 have v1 : Hid (Sls w1 (.slice a n c) l) := ((((HV.out.alloc _).alloc _).alloc _).alloc _).below hb1
 have KB1 : Hid _ := kb
 have KX1 : Hid _ := kx
 have KR1 : Hid _ := kr
 have KF1 : Hid _ := kf
 have B1 : Hid _ := bb
 obtain ⟨e0, e1, e2, e3, e4, e5, e6⟩ := kx.seven
 clear hb1 kb kx kr kf bb HC HV
 go_wp2_with fail
 refine (HS.out _).mono ?_
 rintro e w2 ⟨rfl, hb2⟩
 have KB2 : Hid _ := Blk.below KB1.out hb2 (Blk.lt KB1.out)
 have KX2 : Hid _ := Blk.below KX1.out hb2 (Blk.lt KX1.out)
 have KR2 : Hid _ := Blk.below KR1.out hb2 (Blk.lt KR1.out)
 have KF2 : Hid _ := Blk.below KF1.out hb2 (Blk.lt KF1.out)
 have v2 : Hid (Sls w2 (.slice a n c) l) := v1.out.below hb2
 have B2 : Hid (Below w.heap.size w w2) := B1.out.trans (hb2.mono B1.out.size)
 have f0 := Blk.one KB2.out
 clear hb2 KB1 KX1 KR1 KF1 B1 v1 e0 e1 e2 e3 e4 e5 e6 HS
 go_wp2_with fail
 refine (HKp.out _ v2.out).mono ?_
 rintro e w3 ⟨u, rfl, ho3, hb3⟩
 obtain ⟨a', c', hu⟩ := Sl.len (Sl.of_owns ho3)
 have KX3 : Hid _ := Blk.below KX2.out hb3 (Blk.lt KX2.out)
 have KR3 : Hid _ := Blk.below KR2.out hb3 (Blk.lt KR2.out)
 have KF3 : Hid _ := Blk.below KF2.out hb3 (Blk.lt KF2.out)
 have B3 : Hid (Below w.heap.size w w3) := B2.out.trans (hb3.mono B2.out.size)
 obtain ⟨e0, e1, e2, e3, e4, e5, e6⟩ := Blk.seven KX3.out
 have hle3 := hb3.size
 have hr2 := Blk.lt KR2.out
 have hf2 := Blk.lt KF2.out
 subst hu
 have HO3 : Hid (w3.ownsRow w2.heap.size 106 7 (.slice a' n c') n (skCells l)) := ho3
 clear hb3 ho3 f0 v2 KB2 KX2 HKp
 have lt3 : w.heap.size + 1 < w3.heap.size := by omega
 go_wp2_with fail
 refine (HCo.out _).mono ?_
 rintro e w4 ⟨rfl, hb4⟩
 have k4 := Blk.below (Blk.new w3 #[.slice a' n c'] 133) hb4 (by simp)
 have KR4 : Hid _ := Blk.below (Blk.alloc KR3.out (.cells #[.slice a' n c'] 133)) hb4 (by have := Blk.lt KR3.out; simp; omega)
 have KF4 : Hid _ := Blk.below (Blk.alloc KF3.out (.cells #[.slice a' n c'] 133)) hb4 (by have := Blk.lt KF3.out; simp; omega)
 have ho4 := owns_below (HO3.out.alloc (.cells #[.slice a' n c'] 133)) hb4 (Nat.le_refl _)
 have hs4 := hb4.size
 simp only [World.size_alloc] at hs4
 have B4 : Hid (Below w.heap.size w w4) := (B3.out.alloc B3.out.size _).trans (hb4.mono (by have := B3.out.size; simp; omega))
 clear hb4 KX3 KR3 KF3 B3 HO3 e0 e1 e2 e3 e4 e5 e6 HCo
 go_wp2_with fail
 refine (HPu.out w3.heap.size w2.heap.size _ w4 k4 ho4 (by omega)).mono ?_
 rintro e w5 ⟨pv, rfl, hst, hfr, ⟨ov, km, ko⟩, hb5⟩
 have kr5 := Blk.below KR4.out hb5 hr2
 have kf5 := Blk.below KF4.out hb5 hf2
 have g0 := km.one
 have r0 := Blk.one kr5
 obtain ⟨r1, r2, r3⟩ := Blk.three kf5
 have rf := Blk.free kr5
 have ff := Blk.free kf5
 have hr5 := Blk.lt kr5
 have hf5 := Blk.lt kf5
 have hm5 := Blk.lt km
 have B5 : Hid (Below w.heap.size w w5) := B4.out.trans (hb5.mono (by have := B2.out.size; omega))
 have hw2 : w.heap.size ≤ w2.heap.size := B2.out.size
 obtain ⟨ah, ch, eh⟩ := (Sls.of_owns ko).len
 obtain ⟨ap, cp, ep⟩ := hst.len
 subst eh
 subst ep
 have FIN : Hid (∀ w6 : World, w5.heap.size ≤ w6.heap.size → (∀ j, w2.heap.size ≤ j → j < w5.heap.size → w6.heap[j]? = w5.heap[j]?) → Sls w6 (.slice ah rO.length ch) rO ∧ Strs w6 (.slice ap rP.length cp) rP ∧ (∀ g, (Value.slice ah rO.length ch).ownBlock = some g → w.heap.size ≤ g ∧ g < w6.heap.size) ∧ ∀ g, (Value.slice ap rP.length cp).ownBlock = some g → w.heap.size ≤ g ∧ g < w6.heap.size) := fun w6 h1 h2 =>
  ⟨Sl.same (Sls.of_owns ko) h1 (fun g hg => by obtain ⟨h3, cur, h4⟩ := owns_blk ko hg; exact h2 g h3 h4.lt), Sl.same hst h1 (fun g hg => by obtain ⟨h3, cur, h4⟩ := hfr g hg; exact h2 g h3 h4.lt), fun g hg => by obtain ⟨h3, cur, h4⟩ := owns_blk ko hg; have := h4.lt; omega, fun g hg => by obtain ⟨h3, cur, h4⟩ := hfr g hg; have := h4.lt; omega⟩
 clear hb5 kr5 kf5 k4 ho4 KR4 KF4 B4 HPu hst hfr km ko
 have hne5 : ¬ w3.heap.size = w.heap.size + 1 + 1 := by omega
 have hne6 : ¬ w3.heap.size = w.heap.size + 1 + 1 + 1 := by omega
 have hne7 : ¬ w.heap.size + 1 + 1 = w3.heap.size := by omega
 have hne8 : ¬ w.heap.size + 1 + 1 + 1 = w3.heap.size := by omega
 go_wp2_with fail
 go_region
 all_goals
  go_wp2
  refine bodyPost_ret (v := .tuple #[.agg #[.slice ah rO.length ch], .agg #[.int .i64 rT, .bool rK, .slice ap rP.length cp], .bool rW, .int .i64 0]) (by simp [results, Tryz.results133, go_sem, r0, r1, r2, r3, hr5, hf5]) rfl ⟨_, _, rfl, ?_⟩
  refine ⟨FIN.out _ (by simp) (fun j h1 h2 => ?_), ?_⟩
  ·have e1 : j ≠ w.heap.size + 1 + 1 := by omega
   have e2 : j ≠ w.heap.size + 1 + 1 + 1 := by omega
   show (World.alloc _ _).heap[j]? = _
   rw [Below.heap_alloc _ _ _ (by simp; omega), Below.heap_setCell _ _ _ _ (by exact e2), Below.heap_setCell _ _ _ _ (by exact e2), Below.heap_setCell _ _ _ _ (by exact e2), Below.heap_setCell _ _ _ _ (by exact e1)]
  ·exact (((((B5.out.setCell (by simp; omega) _).setCell (by simp; omega) _).setCell (by simp; omega) _).setCell (by simp; omega) _).alloc (by have := B5.out.size; simp; omega) _).drew
def strB (a b : ByteArray) : Bool := a.toList == b.toList
theorem strB_iff (a b : ByteArray) : strB a b = true ↔ a = b := by
 unfold strB
 rw [beq_iff_eq, ByteArray.toList_eq, ByteArray.toList_eq]
 constructor
 ·intro h; exact ByteArray.ext (Array.ext' h)
 ·intro h; rw [h]
def sameS : List ByteArray → List ByteArray → Bool
 | [], [] => true
 | x :: r, y :: s => strB x y && sameS r s
 | _, _ => false
theorem sameS_iff : ∀ (l m : List ByteArray), sameS l m = true ↔ l = m
 | [], [] => by simp [sameS]
 | x :: r, y :: s => by simp [sameS, strB_iff, sameS_iff r s]
 | [], _ :: _ => by simp [sameS]
 | _ :: _, [] => by simp [sameS]
theorem sameS_len {l m : List ByteArray} (h : ¬ l.length = m.length) : sameS l m = false := by
 cases hb : sameS l m
 ·rfl
 ·rw [sameS_iff] at hb; exact absurd (by rw [hb]) h
theorem sameS_at {l m : List ByteArray} {k : Nat} (hx : ¬ (l[k]?.getD ByteArray.empty) = (m[k]?.getD ByteArray.empty)) : sameS l m = false := by
 cases hb : sameS l m
 ·rfl
 ·rw [sameS_iff] at hb
  subst hb
  exact absurd rfl hx
theorem sameS_ext {l m : List ByteArray} (hl : l.length = m.length) (h : ∀ k, k < l.length → (l[k]?.getD ByteArray.empty) = (m[k]?.getD ByteArray.empty)) : sameS l m = true := by
 rw [sameS_iff]
 refine List.ext_getElem hl fun k h1 h2 => ?_
 have := h k h1
 rw [List.getElem?_eq_getElem h1, List.getElem?_eq_getElem h2] at this
 exact this
def sameFB (t1 t2 : Int) (k1 k2 : Bool) (l m : List ByteArray) : Bool := t1 == t2 && (k1 == k2 && sameS l m)
set_option maxHeartbeats 1600000 in
theorem sameFrame_any (t1 t2 : Int) (k1 k2 : Bool) (u v : Value) (l m : List ByteArray) (w : World) (hu : Strs w u l) (hv : Strs w v m) (hlen : l.length ≤ 9223372036854775807) :
  Calls Tryz.prog 53 #[.agg #[.int .i64 t1, .bool k1, u], .agg #[.int .i64 t2, .bool k2, v]] w fun e w' => e = .returned (.bool (sameFB t1 t2 k1 k2 l m)) ∧ Below w.heap.size w w' := by
 obtain ⟨ao, c, hua, hc⟩ := hu.parts
 obtain ⟨bo, d, hva, hd⟩ := hv.parts
 have HC : Hid (∀ k, k < l.length → ∃ b off, ao = some ⟨b, off, none⟩ ∧ b < w.heap.size ∧ w.cell? ⟨b, off + k, none⟩ = some (.string (l[k]?.getD ByteArray.empty))) := hc
 have HD : Hid (∀ k, k < m.length → ∃ b off, bo = some ⟨b, off, none⟩ ∧ b < w.heap.size ∧ w.cell? ⟨b, off + k, none⟩ = some (.string (m[k]?.getD ByteArray.empty))) := hd
 obtain ⟨n, hn⟩ : ∃ n, n = l.length := ⟨_, rfl⟩
 obtain ⟨p, hp⟩ : ∃ p, p = m.length := ⟨_, rfl⟩
 have HN : Hid (n = l.length) := hn
 have HP : Hid (p = m.length) := hp
 rw [← hn] at hua hlen
 rw [← hp] at hva
 obtain ⟨R, hR⟩ : ∃ R, R = sameFB t1 t2 k1 k2 l m := ⟨_, rfl⟩
 rw [← hR]
 have HR : Hid (R = sameFB t1 t2 k1 k2 l m) := hR
 clear hu hv hn hp hc hd hR
 subst hua hva
 by_cases ht : ¬ t1 = t2
 ·have h1 : (t1 != t2) = true := by simpa using ht
  have HRR : Hid (R = false) := by show R = false; rw [HR.out]; unfold sameFB; simp [ht]
  clear ht
  go_enter Tryz.func53, Tryz.ntmps53
  go_wp2
  go_ret
  exact ⟨by rw [HRR.out]; rfl, by go_grown⟩
 replace ht : t1 = t2 := Decidable.not_not.1 ht
 subst ht
 by_cases hk : ¬ k1 = k2
 ·have HRR : Hid (R = false) := by show R = false; rw [HR.out]; unfold sameFB; simp [hk]
  have h1 : (k1 == k2) = false := by simpa using hk
  clear hk
  go_enter Tryz.func53, Tryz.ntmps53
  go_wp2
  go_ret
  exact ⟨by rw [HRR.out]; rfl, by go_grown⟩
 replace hk : k1 = k2 := Decidable.not_not.1 hk
 subst hk
 have HR2 : Hid (R = sameS l m) := by show R = _; rw [HR.out]; unfold sameFB; simp
 clear HR
 by_cases hnp : ¬ n = p
 ·have h1 : ((n : Int) != (p : Int)) = true := by simp; omega
  have HRR : Hid (R = false) := by show R = false; rw [HR2.out]; exact sameS_len (by rw [← HN.out, ← HP.out]; exact hnp)
  clear hnp
  go_enter Tryz.func53, Tryz.ntmps53
  go_wp2
  go_ret
  exact ⟨by rw [HRR.out]; rfl, by go_grown⟩
 replace hnp : n = p := Decidable.not_not.1 hnp
 subst hnp
 go_enter Tryz.func53, Tryz.ntmps53
 go_wp2
 go_loopw [5] (fun i wr => ∃ (k q : Nat), k ≤ n ∧ i = .int .i64 k ∧ Hid (∀ j, j < k → (l[j]?.getD ByteArray.empty) = (m[j]?.getD ByteArray.empty)) ∧ wr = ((w.alloc (.cells #[.int .i64 t1, .bool k1, .slice ao n c] 98)).alloc (.cells #[.int .i64 t1, .bool k1, .slice bo n d] 98)).drewN q)
  (fun i _ => n - (intOf i).toNat)
 case atStart => exact ⟨0, 0, Nat.zero_le _, rfl, (show ∀ j, j < 0 → _ from fun j hj => absurd hj (Nat.not_lt_zero _)), rfl⟩
 case round =>
  obtain ⟨k, q, hk, rfl, HK, rfl⟩ := hrel
  by_cases hlt : k < n
  ·obtain ⟨b, off, rfl, hbb, hat⟩ := HC.out k (by rw [← HN.out]; exact hlt)
   obtain ⟨b2, off2, rfl, hbb2, hat2⟩ := HD.out k (by rw [← HP.out]; exact hlt)
   obtain ⟨x, hx⟩ : ∃ x, x = l[k]?.getD ByteArray.empty := ⟨_, rfl⟩
   obtain ⟨y, hy⟩ : ∃ y, y = m[k]?.getD ByteArray.empty := ⟨_, rfl⟩
   rw [← hx] at hat
   rw [← hy] at hat2
   have HX : Hid (x = l[k]?.getD ByteArray.empty) := hx
   have HY : Hid (y = m[k]?.getD ByteArray.empty) := hy
   obtain ⟨t, ht⟩ : ∃ t, t = strB x y := ⟨_, rfl⟩
   have HT : Hid (t = strB x y) := ht
   have hne : (x.toList == y.toList) = t := by rw [ht]; rfl
   have hlti : (k : Int) < (n : Int) := by omega
   have hq1 : b < w.heap.size + 1 := by omega
   have hq2 : b2 < w.heap.size + 1 := by omega
   clear hx hy ht
   cases t
   ·go_wp2
    go_quiet (fail)
    go_wp2
    go_ret
    refine ⟨?_, below_drewN (below_drewN (((Below.refl _ w).alloc (Nat.le_refl _) _).alloc (by simp) _) _) _⟩
    rw [HR2.out, sameS_at (k := k) (fun e => by rw [← HX.out, ← HY.out, ← strB_iff, ← HT.out] at e; cases e)]
    rfl
   ·go_wp2
    go_quiet (fail)
    go_wp2
    go_roundw
    case rel =>
     refine ⟨k + 1, _, by omega, by go_num, (show ∀ j, j < k + 1 → _ from fun j hj => ?_), rfl⟩
     by_cases e : j = k
     ·subst e
      rw [← HX.out, ← HY.out, ← strB_iff]; exact HT.out.symm
     ·exact HK.out j (by omega)
    case measure => simp [intOf]; omega
  ·have hkl : k = n := by omega
   subst hkl
   go_wp2
   go_ret
   refine ⟨?_, below_drewN (((Below.refl _ w).alloc (Nat.le_refl _) _).alloc (by simp) _) _⟩
   rw [HR2.out, sameS_ext (HN.out.symm.trans HP.out) (fun j hj => HK.out j (by rw [HN.out]; exact hj))]
   rfl
end Go.Proofs.YtnpaejknoipicagGreat
namespace Go.Proofs.YtnpaejknoipicagGreat
open Go.RowKit Go.Sort
structure Fr where
 time : Int
 key : Bool
 parts : List ByteArray
deriving DecidableEq
def Fr.zero : Fr := ⟨0, false, []⟩
def At3 (w : World) (b off : Nat) (f : Fr) : Prop := ∃ pv, w.cell? ⟨b, off, none⟩ = some (.int .i64 f.time) ∧ w.cell? ⟨b, off + 1, none⟩ = some (.bool f.key) ∧ w.cell? ⟨b, off + 2, none⟩ = some pv ∧ Strs w pv f.parts ∧ f.parts.length ≤ 9223372036854775807
theorem At3.below {w w' : World} {b off : Nat} {f : Fr} (h : At3 w b off f) (hb : Below w.heap.size w w') (hB : b < w.heap.size) : At3 w' b off f := by
 obtain ⟨pv, h0, h1, h2, h3, h4⟩ := h
 exact ⟨pv, (hb.cell hB).trans h0, (hb.cell hB).trans h1, (hb.cell hB).trans h2, h3.below hb, h4⟩
def Frs (w : World) (v : Value) (l : List Fr) : Prop := ∃ ao c, v = .slice ao l.length c ∧ ∀ k, k < l.length → ∃ b off, ao = some ⟨b, off, none⟩ ∧ b < w.heap.size ∧ At3 w b (off + k * 3) (l[k]?.getD Fr.zero)
theorem Frs.below {w w' : World} {v : Value} {l : List Fr} (h : Frs w v l) (hb : Below w.heap.size w w') : Frs w' v l := by
 obtain ⟨ao, c, hv, hc⟩ := h
 refine ⟨ao, c, hv, fun k hk => ?_⟩
 obtain ⟨b, off, h1, h2, h3⟩ := hc k hk
 exact ⟨b, off, h1, Nat.lt_of_lt_of_le h2 hb.size, h3.below hb h2⟩
theorem Frs.len {w : World} {v : Value} {l : List Fr} (h : Frs w v l) : ∃ a c, v = .slice a l.length c := by
 obtain ⟨ao, c, hv, _⟩ := h
 exact ⟨ao, c, hv⟩
theorem Frs.nil (w : World) : Frs w (.slice none 0 0) [] := ⟨none, 0, rfl, fun _ hk => absurd hk (Nat.not_lt_zero _)⟩
theorem sameFB_iff (f g : Fr) : sameFB f.time g.time f.key g.key f.parts g.parts = true ↔ f = g := by
 obtain ⟨a, b, c⟩ := f
 obtain ⟨d, e, h⟩ := g
 simp [sameFB, sameS_iff]
def sameFs (l m : List Fr) : Bool := decide (l = m)
theorem sameFs_len {l m : List Fr} (h : ¬ l.length = m.length) : sameFs l m = false := decide_eq_false fun e => h (by rw [e])
theorem sameFs_at {l m : List Fr} {k : Nat} (hx : ¬ (l[k]?.getD Fr.zero) = (m[k]?.getD Fr.zero)) : sameFs l m = false := decide_eq_false fun e => hx (by rw [e])
theorem sameFs_ext {l m : List Fr} (hl : l.length = m.length) (h : ∀ k, k < l.length → (l[k]?.getD Fr.zero) = (m[k]?.getD Fr.zero)) : sameFs l m = true := by
 refine decide_eq_true (List.ext_getElem hl fun k h1 h2 => ?_)
 have := h k h1
 rw [List.getElem?_eq_getElem h1, List.getElem?_eq_getElem h2] at this
 exact this
set_option maxHeartbeats 1600000 in
theorem sameFrames_any (u v : Value) (l m : List Fr) (w : World) (hu : Frs w u l) (hv : Frs w v m) (hlen : l.length ≤ 9223372036854775807) :
  Calls Tryz.prog 17 #[u, v] w fun e w' => e = .returned (.bool (sameFs l m)) ∧ Below w.heap.size w w' := by
 obtain ⟨ao, c, rfl, hc⟩ := hu
 obtain ⟨bo, d, rfl, hd⟩ := hv
 by_cases hlm : l.length = m.length
 ·have HC : Hid (∀ k, k < l.length → ∃ b off, ao = some ⟨b, off, none⟩ ∧ b < w.heap.size ∧ At3 w b (off + k * 3) (l[k]?.getD Fr.zero)) := hc
  have HD : Hid (∀ k, k < m.length → ∃ b off, bo = some ⟨b, off, none⟩ ∧ b < w.heap.size ∧ At3 w b (off + k * 3) (m[k]?.getD Fr.zero)) := hd
  obtain ⟨n, hn⟩ : ∃ n, n = l.length := ⟨_, rfl⟩
  have HN : Hid (n = l.length) := hn
  have HM : Hid (n = m.length) := hn.trans hlm
  rw [← hlm, ← hn]
  rw [← hn] at hlen
  clear hc hd hn hlm
  go_enter Tryz.func17, Tryz.ntmps17
  go_wp2
  go_loopw [5] (fun i wr => ∃ k : Nat, k ≤ n ∧ i = .int .i64 k ∧ Hid (∀ j, j < k → (l[j]?.getD Fr.zero) = (m[j]?.getD Fr.zero)) ∧ Hid (Below w.heap.size w wr))
   (fun i _ => n - (intOf i).toNat)
  case atStart => exact ⟨0, Nat.zero_le _, rfl, (show ∀ j, j < 0 → _ from fun j hj => absurd hj (Nat.not_lt_zero _)), Below.refl _ _⟩
  case round =>
   obtain ⟨k, hk, rfl, HK, HB⟩ := hrel
   by_cases hlt : k < n
   ·obtain ⟨b, off, rfl, hb, hat⟩ := HC.out k (by rw [← HN.out]; exact hlt)
    obtain ⟨b2, off2, rfl, hb2, hat2⟩ := HD.out k (by rw [← HM.out]; exact hlt)
    obtain ⟨x, hx⟩ : ∃ x, x = l[k]?.getD Fr.zero := ⟨_, rfl⟩
    obtain ⟨y, hy⟩ : ∃ y, y = m[k]?.getD Fr.zero := ⟨_, rfl⟩
    rw [← hx] at hat
    rw [← hy] at hat2
    have HX : Hid (x = l[k]?.getD Fr.zero) := hx
    have HY : Hid (y = m[k]?.getD Fr.zero) := hy
    obtain ⟨pv, c0, c1, c2, c3, c4⟩ := hat.below HB.out hb
    obtain ⟨qv, d0, d1, d2, d3, d4⟩ := hat2.below HB.out hb2
    obtain ⟨a1, a2, rfl⟩ := c3.len
    obtain ⟨b3, b4, rfl⟩ := d3.len
    obtain ⟨t, ht⟩ : ∃ t, t = sameFB x.time y.time x.key y.key x.parts y.parts := ⟨_, rfl⟩
    have HT : Hid (t = sameFB x.time y.time x.key y.key x.parts y.parts) := ht
    have cF : ∀ d os, Calls Tryz.prog 53 #[.agg #[.int .i64 x.time, .bool x.key, .slice a1 x.parts.length a2], .agg #[.int .i64 y.time, .bool y.key, .slice b3 y.parts.length b4]] (grow (redrawn wr d) os) fun e w'' => e = .returned (.bool t) ∧ ∃ p : Regrown, w'' = grow (redrawn wr p.d) p.os := fun d os =>
     Calls.regrown_of (by
      rw [ht]
      exact sameFrame_any _ _ _ _ _ _ _ _ _ (c3.below (below_regrown wr d os)) (d3.below (below_regrown wr d os)) c4)
    have z0 := cell_regrown c0
    have z1 := cell_regrown c1
    have z2 := cell_regrown c2
    have q0 := cell_regrown d0
    have q1 := cell_regrown d1
    have q2 := cell_regrown d2
    have hlti : (k : Int) < (n : Int) := by omega
    clear hx hy ht c0 c1 c2 c3 c4 d0 d1 d2 d3 d4 hat hat2
    go_wp2
    refine wp_region_quiet_below (by kernel_rfl) (by kernel_rfl) ?_
    repeat (quiet_step (exact cF _ _))
    refine wpQuiet_nil ?_
    intro _ hw'
    obtain ⟨⟨dq, osq⟩, hw''⟩ := hw'
    subst hw''
    have bR := below_regrown wr dq osq
    obtain ⟨V, hV⟩ : ∃ V, V = grow (redrawn wr dq) osq := ⟨_, rfl⟩
    rw [← hV] at bR
    have bV : Hid (Below w.heap.size w V) := HB.out.trans (bR.mono HB.out.size)
    rw [← hV]
    clear hV bR cF q0 q1 q2 z0 z1 z2
    cases t
    ·go_wp2
     go_ret
     exact ⟨by rw [sameFs_at (k := k) (fun e => by rw [← HX.out, ← HY.out, ← sameFB_iff, ← HT.out] at e; cases e)]; rfl, bV.out⟩
    ·go_wp2
     go_roundw
     case rel =>
      refine ⟨k + 1, by omega, by go_num, (show ∀ j, j < k + 1 → _ from fun j hj => ?_), bV.out⟩
      by_cases e : j = k
      ·subst e
       rw [← HX.out, ← HY.out, ← sameFB_iff]; exact HT.out.symm
      ·exact HK.out j (by omega)
     case measure => simp [intOf]; omega
   ·have hkl : k = n := by omega
    subst hkl
    go_wp2
    go_ret
    exact ⟨by rw [sameFs_ext (HN.out.symm.trans HM.out) (fun j hj => HK.out j (by rw [HN.out]; exact hj))]; rfl, HB.out⟩
 ·have hlm2 : ((l.length : Int) != (m.length : Int)) = true := by simp; omega
  have HLM : Hid (¬ l.length = m.length) := hlm
  clear hlm
  go_enter Tryz.func17, Tryz.ntmps17
  go_wp2
  go_ret
  exact ⟨by rw [sameFs_len HLM.out]; rfl, Below.refl _ _⟩
end Go.Proofs.YtnpaejknoipicagGreat
namespace Go.Proofs.YtnpaejknoipicagGreat
open Go.RowKit
def stepA (s : List Sk × List Fr) (x : Sk) : List Sk × List Fr := (addO s.1 x, if addW s.1 x then s.2 ++ [⟨addT s.1 x, addK s.1 x, addP s.1 x⟩] else s.2)
def upA (l : List Sk) (k : Nat) : List Sk × List Fr := (l.take k).foldl stepA ([], [])
def framesS (l : List Sk) : List Fr := (upA l l.length).2
theorem upA_succ (l : List Sk) (k : Nat) (hk : k < l.length) : upA l (k + 1) = stepA (upA l k) (l[k]?.getD Sk.zero) := by
 unfold upA
 rw [take_one hk Sk.zero, List.foldl_append]
 rfl
theorem addO_len (l : List Sk) (x : Sk) (h : l.length ≤ 3) : (addO l x).length ≤ 3 := by
 have := takeF_len l x
 unfold addO
 split
 ·simp
 ·split
  ·simp
  ·omega
theorem takeF_mem {l : List Sk} {x y : Sk} (h : y ∈ takeF l x) : y ∈ l ∨ y = x := by
 unfold takeF at h
 split at h
 ·right; simpa using h
 ·split at h
  ·simpa using h
  ·simp at h
theorem addO_mem {l : List Sk} {x y : Sk} (h : y ∈ addO l x) : y ∈ l ∨ y = x := by
 unfold addO at h
 split at h
 ·simp at h
 ·split at h
  ·simp at h
  ·exact takeF_mem h
theorem addP_len (l : List Sk) (x : Sk) (h : l.length ≤ 3) : (addP l x).length ≤ 4 := by
 have := takeF_len l x
 unfold addP
 split
 ·simp [texts]; omega
 ·simp
def frCells (ps : List (Fr × Value)) : List Value := ps.flatMap fun p => [.int .i64 p.1.time, .bool p.1.key, p.2]
theorem frCells_len (ps : List (Fr × Value)) : (frCells ps).length = ps.length * 3 := by
 induction ps with
 | nil => rfl
 | cons p r ih => simp only [frCells, List.flatMap_cons, List.length_append] at ih ⊢; rw [ih]; simp; omega
theorem frCells_append (l m : List (Fr × Value)) : frCells (l ++ m) = frCells l ++ frCells m := by simp [frCells]
theorem frCells_at (ps : List (Fr × Value)) : ∀ (k i : Nat) (p : Fr × Value), i < 3 → ps[k]? = some p → (frCells ps)[k * 3 + i]? = [Value.int .i64 p.1.time, .bool p.1.key, p.2][i]? := by
 induction ps with
 | nil => intro k i p _ h; simp at h
 | cons x r ih =>
  intro k i p hi hk
  simp only [frCells, List.flatMap_cons] at ih ⊢
  cases k with
  | zero =>
   simp at hk
   subst hk
   rw [List.getElem?_append_left (by simp; omega)]
   simp
  | succ k =>
   rw [List.getElem?_append_right (by simp; omega)]
   simp only [List.length_cons, List.length_nil]
   rw [show (k + 1) * 3 + i - (0 + 1 + 1 + 1) = k * 3 + i by omega]
   exact ih k i p hi (by simpa using hk)
def Good (w : World) (p : Fr × Value) : Prop := Strs w p.2 p.1.parts ∧ p.1.parts.length ≤ 4 ∧ ∀ g, p.2.ownBlock = some g → ∃ cur, Blk w g cur 9
def Outs (base : Nat) (w : World) (v : Value) (l : List Fr) : Prop := ∃ ps : List (Fr × Value), ps.map Prod.fst = l ∧ w.ownsRow base 98 3 v ps.length (frCells ps) ∧ ∀ p ∈ ps, Good w p
theorem Good.same {w w' : World} {p : Fr × Value} (h : Good w p) (hs : w.heap.size ≤ w'.heap.size) (h1 : ∀ g cur, Blk w g cur 9 → w'.heap[g]? = w.heap[g]?) : Good w' p :=
 ⟨Sl.same h.1 hs (fun g hg => by obtain ⟨cur, hc⟩ := h.2.2 g hg; exact h1 g cur hc), h.2.1, fun g hg => by obtain ⟨cur, hc⟩ := h.2.2 g hg; exact ⟨cur, (h1 g cur hc).trans hc⟩⟩
theorem Outs.same {base : Nat} {w w' : World} {v : Value} {l : List Fr} (h : Outs base w v l) (hs : w.heap.size ≤ w'.heap.size) (h1 : ∀ g cur, Blk w g cur 9 → w'.heap[g]? = w.heap[g]?) (h2 : ∀ g cur, Blk w g cur 98 → w'.heap[g]? = w.heap[g]?) : Outs base w' v l := by
 obtain ⟨ps, hp, ho, hg⟩ := h
 exact ⟨ps, hp, owns_same ho (fun g hgg => by obtain ⟨_, cur, hc⟩ := owns_blk ho hgg; exact h2 g cur hc), fun p hpp => (hg p hpp).same hs h1⟩
theorem Outs.below {base : Nat} {w w' : World} {v : Value} {l : List Fr} (h : Outs base w v l) (hb : Below w.heap.size w w') : Outs base w' v l :=
 h.same hb.size (fun g _ hc => hb.block g hc.lt) (fun g _ hc => hb.block g hc.lt)
theorem Outs.len {base : Nat} {w : World} {v : Value} {l : List Fr} (h : Outs base w v l) : ∃ a c, v = .slice a l.length c := by
 obtain ⟨ps, hp, ho, _⟩ := h
 have := Sl.len (Sl.of_owns ho)
 rw [← hp, List.length_map]
 exact this
theorem Outs.frs {base : Nat} {w : World} {v : Value} {l : List Fr} (h : Outs base w v l) : Frs w v l := by
 obtain ⟨ps, hp, ho, hg⟩ := h
 have hll : l.length = ps.length := by rw [← hp, List.length_map]
 obtain ⟨_, ⟨h0, a, c, rfl⟩ | ⟨b, off, c, rfl, hb, hc⟩⟩ := Sl.of_owns ho
 ·exact ⟨a, c, by rw [hll, h0], fun k hk => by omega⟩
 ·refine ⟨_, c, by rw [hll], fun k hk => ⟨b, off, rfl, hb, ?_⟩⟩
  have hk' : k < ps.length := by omega
  have hpk : ps[k]? = some ps[k] := List.getElem?_eq_getElem hk'
  have hlk : l[k]?.getD Fr.zero = ps[k].1 := by
   rw [← hp, List.getElem?_map, hpk]; rfl
  have g : ∀ i u, i < 3 → [Value.int .i64 ps[k].1.time, .bool ps[k].1.key, ps[k].2][i]? = some u → w.cell? ⟨b, off + k * 3 + i, none⟩ = some u := fun i u hi hu => by
   rw [Nat.add_assoc]
   exact hc (k * 3 + i) u (by rw [frCells_at ps k i _ hi hpk]; exact hu)
  have hgd := hg ps[k] (List.getElem_mem hk')
  rw [hlk]
  exact ⟨ps[k].2, g 0 _ (by omega) rfl, g 1 _ (by omega) rfl, g 2 _ (by omega) rfl, hgd.1, by have := hgd.2.1; omega⟩
theorem Tryz.infoFrm : (Tryz.prog.info? 98).map (fun i => (i.zero, i.size, i.bytes)) = some (some (.agg #[.int .i64 0, .bool false, .slice none 0 0]), 3, 40) := by kernel_rfl
def SameOn (S : Nat → Prop) (w w' : World) : Prop := w.heap.size ≤ w'.heap.size ∧ ∀ g, g < w.heap.size → S g → w'.heap[g]? = w.heap[g]?
theorem SameOn.of_below {S : Nat → Prop} {w w' : World} (h : Below w.heap.size w w') : SameOn S w w' := ⟨h.size, fun g hg _ => h.block g hg⟩
theorem SameOn.trans {S : Nat → Prop} {a b c : World} (h : SameOn S a b) (k : SameOn S b c) : SameOn S a c := ⟨Nat.le_trans h.1 k.1, fun g hg hs => (k.2 g (Nat.lt_of_lt_of_le hg h.1) hs).trans (h.2 g hg hs)⟩
theorem SameOn.grown {S : Nat → Prop} {w w' : World} {row : Option Nat} (h : w.grownBy w' row) (hr : ∀ g, S g → some g ≠ row) : SameOn S w w' := ⟨h.size, fun g hg hs => h.block g hg (hr g hs)⟩
theorem SameOn.setCell {S : Nat → Prop} {w : World} {a : Addr} (h : ∀ g, S g → g ≠ a.block) (v : Value) : SameOn S w (w.setCell a v) := ⟨by simp, fun g _ hs => Below.heap_setCell _ _ _ _ (h g hs)⟩
theorem SameOn.alloc {S : Nat → Prop} {w : World} (o : Obj) : SameOn S w (w.alloc o) := SameOn.of_below ((Below.refl _ w).alloc (Nat.le_refl _) _)
theorem SameOn.mono {S S' : Nat → Prop} {w w' : World} (h : SameOn S w w') (hs : ∀ g, S' g → S g) : SameOn S' w w' := ⟨h.1, fun g hg h2 => h.2 g hg (hs g h2)⟩
theorem SameOn.mono' {S S' : Nat → Prop} {w w' : World} (h : SameOn S w w') (hs : ∀ g, g < w.heap.size → S' g → S g) : SameOn S' w w' := ⟨h.1, fun g hg h2 => h.2 g hg (hs g hg h2)⟩
theorem SameOn.refl (S : Nat → Prop) (w : World) : SameOn S w w := ⟨Nat.le_refl _, fun _ _ _ => rfl⟩
def StrsIn (S : Nat → Prop) (w : World) (v : Value) (l : List ByteArray) : Prop := Strs w v l ∧ l.length ≤ 9223372036854775807 ∧ ∀ g, v.ownBlock = some g → 0 < l.length → S g ∧ g < w.heap.size
def At3In (S : Nat → Prop) (w : World) (b off : Nat) (f : Fr) : Prop := ∃ pv, w.cell? ⟨b, off, none⟩ = some (.int .i64 f.time) ∧ w.cell? ⟨b, off + 1, none⟩ = some (.bool f.key) ∧ w.cell? ⟨b, off + 2, none⟩ = some pv ∧ StrsIn S w pv f.parts
def FrsIn (S : Nat → Prop) (w : World) (v : Value) (l : List Fr) : Prop := ∃ ao c, v = .slice ao l.length c ∧ l.length ≤ c ∧ c ≤ 9223372036854775807 ∧ ∀ k, k < l.length → ∃ b off, ao = some ⟨b, off, none⟩ ∧ b < w.heap.size ∧ S b ∧ At3In S w b (off + k * 3) (l[k]?.getD Fr.zero)
def GrsIn (S : Nat → Prop) (w : World) (v : Value) (L : List (List Fr)) : Prop := ∃ ao c, v = .slice ao L.length c ∧ L.length ≤ c ∧ c ≤ 9223372036854775807 ∧ ∀ k, k < L.length → ∃ b off, ao = some ⟨b, off, none⟩ ∧ b < w.heap.size ∧ S b ∧ ∃ sv, w.cell? ⟨b, off + k, none⟩ = some sv ∧ FrsIn S w sv (L[k]?.getD [])
theorem StrsIn.to {S S' : Nat → Prop} {w w' : World} {v : Value} {l : List ByteArray} (h : StrsIn S w v l) (hs : SameOn S w w') (hm : ∀ g, g < w.heap.size → S g → S' g) : StrsIn S' w' v l := by
 obtain ⟨⟨h1, h2⟩, h3, h4⟩ := h
 refine ⟨⟨h1, ?_⟩, h3, fun g hg h0 => ⟨hm g (h4 g hg h0).2 (h4 g hg h0).1, Nat.lt_of_lt_of_le (h4 g hg h0).2 hs.1⟩⟩
 rcases h2 with h2 | ⟨b, off, c, rfl, hlt, hc⟩
 ·exact .inl h2
 ·by_cases h0 : 0 < l.length
  ·exact .inr ⟨b, off, c, rfl, Nat.lt_of_lt_of_le hlt hs.1, fun j u hj => (World.cell?_of_block (hs.2 b hlt (h4 b rfl h0).1)).trans (hc j u hj)⟩
  ·refine .inl ⟨by omega, some ⟨b, off, none⟩, c, by congr 1; omega⟩
theorem At3In.to {S S' : Nat → Prop} {w w' : World} {b off : Nat} {f : Fr} (h : At3In S w b off f) (hs : SameOn S w w') (hm : ∀ g, g < w.heap.size → S g → S' g) (hb : b < w.heap.size) (hS : S b) : At3In S' w' b off f := by
 obtain ⟨pv, h1, h2, h3, h4⟩ := h
 have g : ∀ j, w'.cell? ⟨b, j, none⟩ = w.cell? ⟨b, j, none⟩ := fun j => World.cell?_of_block (hs.2 b hb hS)
 exact ⟨pv, (g _).trans h1, (g _).trans h2, (g _).trans h3, h4.to hs hm⟩
theorem FrsIn.to {S S' : Nat → Prop} {w w' : World} {v : Value} {l : List Fr} (h : FrsIn S w v l) (hs : SameOn S w w') (hm : ∀ g, g < w.heap.size → S g → S' g) : FrsIn S' w' v l := by
 obtain ⟨ao, c, hv, h1, h2, hc⟩ := h
 refine ⟨ao, c, hv, h1, h2, fun k hk => ?_⟩
 obtain ⟨b, off, e1, e2, e3, e4⟩ := hc k hk
 exact ⟨b, off, e1, Nat.lt_of_lt_of_le e2 hs.1, hm b e2 e3, e4.to hs hm e2 e3⟩
theorem GrsIn.to {S S' : Nat → Prop} {w w' : World} {v : Value} {L : List (List Fr)} (h : GrsIn S w v L) (hs : SameOn S w w') (hm : ∀ g, g < w.heap.size → S g → S' g) : GrsIn S' w' v L := by
 obtain ⟨ao, c, hv, h1, h2, hc⟩ := h
 refine ⟨ao, c, hv, h1, h2, fun k hk => ?_⟩
 obtain ⟨b, off, e1, e2, e3, sv, e4, e5⟩ := hc k hk
 exact ⟨b, off, e1, Nat.lt_of_lt_of_le e2 hs.1, hm b e2 e3, sv, (World.cell?_of_block (hs.2 b e2 e3)).trans e4, e5.to hs hm⟩
theorem StrsIn.below {S : Nat → Prop} {w w' : World} {v : Value} {l : List ByteArray} (h : StrsIn S w v l) (hb : Below w.heap.size w w') : StrsIn S w' v l := h.to (SameOn.of_below hb) fun _ _ h => h
theorem FrsIn.below {S : Nat → Prop} {w w' : World} {v : Value} {l : List Fr} (h : FrsIn S w v l) (hb : Below w.heap.size w w') : FrsIn S w' v l := h.to (SameOn.of_below hb) fun _ _ h => h
theorem GrsIn.below {S : Nat → Prop} {w w' : World} {v : Value} {L : List (List Fr)} (h : GrsIn S w v L) (hb : Below w.heap.size w w') : GrsIn S w' v L := h.to (SameOn.of_below hb) fun _ _ h => h
theorem FrsIn.mono {S S' : Nat → Prop} {w : World} {v : Value} {l : List Fr} (h : FrsIn S w v l) (hm : ∀ g, g < w.heap.size → S g → S' g) : FrsIn S' w v l := h.to (SameOn.refl _ _) hm
theorem StrsIn.mono {S S' : Nat → Prop} {w : World} {v : Value} {l : List ByteArray} (h : StrsIn S w v l) (hm : ∀ g, g < w.heap.size → S g → S' g) : StrsIn S' w v l := h.to (SameOn.refl _ _) hm
theorem GrsIn.mono {S S' : Nat → Prop} {w : World} {v : Value} {L : List (List Fr)} (h : GrsIn S w v L) (hm : ∀ g, g < w.heap.size → S g → S' g) : GrsIn S' w v L := h.to (SameOn.refl _ _) hm
theorem FrsIn.alloc {S : Nat → Prop} {w : World} {v : Value} {l : List Fr} (h : FrsIn S w v l) (o : Obj) : FrsIn S (w.alloc o) v l := h.below ((Below.refl _ w).alloc (Nat.le_refl _) _)
theorem StrsIn.alloc {S : Nat → Prop} {w : World} {v : Value} {l : List ByteArray} (h : StrsIn S w v l) (o : Obj) : StrsIn S (w.alloc o) v l := h.below ((Below.refl _ w).alloc (Nat.le_refl _) _)
theorem GrsIn.alloc {S : Nat → Prop} {w : World} {v : Value} {L : List (List Fr)} (h : GrsIn S w v L) (o : Obj) : GrsIn S (w.alloc o) v L := h.below ((Below.refl _ w).alloc (Nat.le_refl _) _)
theorem StrsIn.nil (S : Nat → Prop) (w : World) : StrsIn S w (.slice none 0 0) [] := ⟨Strs.nil w, Nat.zero_le _, fun g hg => by simp [Value.ownBlock] at hg⟩
theorem FrsIn.nil (S : Nat → Prop) (w : World) : FrsIn S w (.slice none 0 0) [] := ⟨none, 0, rfl, Nat.le_refl _, Nat.zero_le _, fun _ hk => absurd hk (Nat.not_lt_zero _)⟩
theorem GrsIn.nil (S : Nat → Prop) (w : World) : GrsIn S w (.slice none 0 0) [] := ⟨none, 0, rfl, Nat.le_refl _, Nat.zero_le _, fun _ hk => absurd hk (Nat.not_lt_zero _)⟩
theorem FrsIn.len {S : Nat → Prop} {w : World} {v : Value} {l : List Fr} (h : FrsIn S w v l) : ∃ a c, v = .slice a l.length c ∧ l.length ≤ c ∧ l.length ≤ 9223372036854775807 := by
 obtain ⟨ao, c, hv, h1, h2, _⟩ := h
 exact ⟨ao, c, hv, h1, by omega⟩
theorem GrsIn.len {S : Nat → Prop} {w : World} {v : Value} {L : List (List Fr)} (h : GrsIn S w v L) : ∃ a c, v = .slice a L.length c ∧ L.length ≤ c ∧ L.length ≤ 9223372036854775807 := by
 obtain ⟨ao, c, hv, h1, h2, _⟩ := h
 exact ⟨ao, c, hv, h1, by omega⟩
theorem FrsIn.frs {S : Nat → Prop} {w : World} {v : Value} {l : List Fr} (h : FrsIn S w v l) : Frs w v l := by
 obtain ⟨ao, c, hv, _, _, hc⟩ := h
 refine ⟨ao, c, hv, fun k hk => ?_⟩
 obtain ⟨b, off, e1, e2, _, pv, h1, h2, h3, h4, h5, _⟩ := hc k hk
 exact ⟨b, off, e1, e2, pv, h1, h2, h3, h4, h5⟩
def OwnFrs (base : Nat) (S : Nat → Prop) (w : World) (v : Value) (l : List Fr) : Prop := ∃ ps : List (Fr × Value), ps.map Prod.fst = l ∧ w.ownsRow base 98 3 v ps.length (frCells ps) ∧ ∀ p ∈ ps, StrsIn S w p.2 p.1.parts
def OwnGrs (base : Nat) (S : Nat → Prop) (w : World) (v : Value) (L : List (List Fr)) : Prop := ∃ ps : List (List Fr × Value), ps.map Prod.fst = L ∧ w.ownsRow base 30 1 v ps.length (ps.map Prod.snd) ∧ ∀ p ∈ ps, FrsIn S w p.2 p.1
theorem OwnFrs.to {base : Nat} {S S' : Nat → Prop} {w w' : World} {v : Value} {l : List Fr} (h : OwnFrs base S w v l) (hs : SameOn S w w') (hm : ∀ g, g < w.heap.size → S g → S' g) (ho : ∀ g, v.ownBlock = some g → w'.heap[g]? = w.heap[g]?) : OwnFrs base S' w' v l := by
 obtain ⟨ps, h1, h2, h3⟩ := h
 exact ⟨ps, h1, owns_same h2 ho, fun p hp => (h3 p hp).to hs hm⟩
theorem OwnGrs.to {base : Nat} {S S' : Nat → Prop} {w w' : World} {v : Value} {L : List (List Fr)} (h : OwnGrs base S w v L) (hs : SameOn S w w') (hm : ∀ g, g < w.heap.size → S g → S' g) (ho : ∀ g, v.ownBlock = some g → w'.heap[g]? = w.heap[g]?) : OwnGrs base S' w' v L := by
 obtain ⟨ps, h1, h2, h3⟩ := h
 exact ⟨ps, h1, owns_same h2 ho, fun p hp => (h3 p hp).to hs hm⟩
theorem OwnFrs.below {base : Nat} {S : Nat → Prop} {w w' : World} {v : Value} {l : List Fr} (h : OwnFrs base S w v l) (hb : Below w.heap.size w w') : OwnFrs base S w' v l :=
 h.to (SameOn.of_below hb) (fun _ _ h => h) (fun g hg => by obtain ⟨ps, _, h2, _⟩ := h; exact hb.block g (h2.lt g hg).2)
theorem OwnGrs.below {base : Nat} {S : Nat → Prop} {w w' : World} {v : Value} {L : List (List Fr)} (h : OwnGrs base S w v L) (hb : Below w.heap.size w w') : OwnGrs base S w' v L :=
 h.to (SameOn.of_below hb) (fun _ _ h => h) (fun g hg => by obtain ⟨ps, _, h2, _⟩ := h; exact hb.block g (h2.lt g hg).2)
theorem OwnFrs.nil (base : Nat) (S : Nat → Prop) (w : World) : OwnFrs base S w (.slice none 0 0) [] := ⟨[], rfl, World.ownsRow_nil _ _ _ _, fun _ hp => absurd hp List.not_mem_nil⟩
theorem OwnGrs.nil (base : Nat) (S : Nat → Prop) (w : World) : OwnGrs base S w (.slice none 0 0) [] := ⟨[], rfl, World.ownsRow_nil _ _ _ _, fun _ hp => absurd hp List.not_mem_nil⟩
theorem OwnFrs.lt {base : Nat} {S : Nat → Prop} {w : World} {v : Value} {l : List Fr} (h : OwnFrs base S w v l) : ∀ g, v.ownBlock = some g → base ≤ g ∧ g < w.heap.size := fun g hg => by obtain ⟨ps, _, h2, _⟩ := h; exact h2.lt g hg
theorem OwnGrs.lt {base : Nat} {S : Nat → Prop} {w : World} {v : Value} {L : List (List Fr)} (h : OwnGrs base S w v L) : ∀ g, v.ownBlock = some g → base ≤ g ∧ g < w.heap.size := fun g hg => by obtain ⟨ps, _, h2, _⟩ := h; exact h2.lt g hg
theorem OwnFrs.blk {base : Nat} {S : Nat → Prop} {w : World} {v : Value} {l : List Fr} (h : OwnFrs base S w v l) : ∀ g, v.ownBlock = some g → ∃ cur, Blk w g cur 98 := fun g hg => by obtain ⟨ps, _, h2, _⟩ := h; exact (owns_blk h2 hg).2
theorem OwnGrs.blk {base : Nat} {S : Nat → Prop} {w : World} {v : Value} {L : List (List Fr)} (h : OwnGrs base S w v L) : ∀ g, v.ownBlock = some g → ∃ cur, Blk w g cur 30 := fun g hg => by obtain ⟨ps, _, h2, _⟩ := h; exact (owns_blk h2 hg).2
theorem owns_cap {w : World} {base : Nat} {e : TypeId} {size n : Nat} {v : Value} {xs : List Value} (h : w.ownsRow base e size v n xs) : ∃ a c, v = .slice a n c ∧ n ≤ c ∧ c ≤ 9223372036854775807 := by
 obtain ⟨_, ⟨rfl, rfl⟩ | ⟨g, cap, cur, rfl, _, _, h1, h2, _⟩⟩ := h
 ·exact ⟨none, 0, rfl, Nat.le_refl _, Nat.zero_le _⟩
 ·exact ⟨_, cap, rfl, h1, by unfold maxLen at h2; omega⟩
theorem OwnFrs.frsIn {base : Nat} {S S' : Nat → Prop} {w : World} {v : Value} {l : List Fr} (h : OwnFrs base S w v l) (hm : ∀ g, g < w.heap.size → S g → S' g) (hv : ∀ g, v.ownBlock = some g → S' g) : FrsIn S' w v l := by
 obtain ⟨ps, hp, ho, hg⟩ := h
 have hll : l.length = ps.length := by rw [← hp, List.length_map]
 obtain ⟨a, c, e, h1, h2⟩ := owns_cap ho
 obtain ⟨_, ⟨h0, a', c', e'⟩ | ⟨b, off, c', e', hb, hc⟩⟩ := Sl.of_owns ho
 ·exact ⟨a, c, by rw [hll]; exact e, by omega, h2, fun k hk => by omega⟩
 ·rw [e] at e'
  injection e' with q1 q2 q3
  subst q1
  refine ⟨_, c, by rw [hll]; exact e, by omega, h2, fun k hk => ⟨b, off, rfl, hb, hv b (by rw [e]; rfl), ?_⟩⟩
  have hk' : k < ps.length := by omega
  have hpk : ps[k]? = some ps[k] := List.getElem?_eq_getElem hk'
  have hlk : l[k]?.getD Fr.zero = ps[k].1 := by rw [← hp, List.getElem?_map, hpk]; rfl
  have g : ∀ i u, i < 3 → [Value.int .i64 ps[k].1.time, .bool ps[k].1.key, ps[k].2][i]? = some u → w.cell? ⟨b, off + k * 3 + i, none⟩ = some u := fun i u hi hu => by
   rw [Nat.add_assoc]
   exact hc (k * 3 + i) u (by rw [frCells_at ps k i _ hi hpk]; exact hu)
  rw [hlk]
  exact ⟨ps[k].2, g 0 _ (by omega) rfl, g 1 _ (by omega) rfl, g 2 _ (by omega) rfl, (hg ps[k] (List.getElem_mem hk')).mono hm⟩
theorem OwnGrs.grsIn {base : Nat} {S S' : Nat → Prop} {w : World} {v : Value} {L : List (List Fr)} (h : OwnGrs base S w v L) (hm : ∀ g, g < w.heap.size → S g → S' g) (hv : ∀ g, v.ownBlock = some g → S' g) : GrsIn S' w v L := by
 obtain ⟨ps, hp, ho, hg⟩ := h
 have hll : L.length = ps.length := by rw [← hp, List.length_map]
 obtain ⟨a, c, e, h1, h2⟩ := owns_cap ho
 obtain ⟨_, ⟨h0, a', c', e'⟩ | ⟨b, off, c', e', hb, hc⟩⟩ := Sl.of_owns ho
 ·exact ⟨a, c, by rw [hll]; exact e, by omega, h2, fun k hk => by omega⟩
 ·rw [e] at e'
  injection e' with q1 q2 q3
  subst q1
  refine ⟨_, c, by rw [hll]; exact e, by omega, h2, fun k hk => ⟨b, off, rfl, hb, hv b (by rw [e]; rfl), ?_⟩⟩
  have hk' : k < ps.length := by omega
  have hpk : ps[k]? = some ps[k] := List.getElem?_eq_getElem hk'
  have hlk : L[k]?.getD [] = ps[k].1 := by rw [← hp, List.getElem?_map, hpk]; rfl
  rw [hlk]
  exact ⟨ps[k].2, hc k _ (by rw [List.getElem?_map, hpk]; rfl), (hg ps[k] (List.getElem_mem hk')).mono hm⟩
theorem OwnFrs.snoc {base : Nat} {S : Nat → Prop} {w w' : World} {v v' : Value} {l : List Fr} {f : Fr} {pv : Value} {ps : List (Fr × Value)} (h1 : ps.map Prod.fst = l) (h3 : ∀ p ∈ ps, StrsIn S w p.2 p.1.parts) (hp : StrsIn S w pv f.parts) (ho : w'.ownsRow base 98 3 v' (ps.length + 1) (frCells ps ++ [.int .i64 f.time, .bool f.key, pv])) (hg : w.grownBy w' v.ownBlock) (hv : ∀ g, S g → some g ≠ v.ownBlock) : OwnFrs base S w' v' (l ++ [f]) := by
 have hs : SameOn S w w' := SameOn.grown hg hv
 refine ⟨ps ++ [(f, pv)], by rw [List.map_append, h1]; rfl, by rw [List.length_append, frCells_append]; exact ho, fun p hpp => ?_⟩
 rcases List.mem_append.1 hpp with hpp | hpp
 ·exact (h3 p hpp).to hs fun _ _ h => h
 ·simp at hpp
  subst hpp
  exact hp.to hs fun _ _ h => h
theorem OwnGrs.snoc {base : Nat} {S : Nat → Prop} {w w' : World} {v v' : Value} {L : List (List Fr)} {l : List Fr} {sv : Value} {ps : List (List Fr × Value)} (h1 : ps.map Prod.fst = L) (h3 : ∀ p ∈ ps, FrsIn S w p.2 p.1) (hp : FrsIn S w sv l) (ho : w'.ownsRow base 30 1 v' (ps.length + 1) (ps.map Prod.snd ++ [sv])) (hg : w.grownBy w' v.ownBlock) (hv : ∀ g, S g → some g ≠ v.ownBlock) : OwnGrs base S w' v' (L ++ [l]) := by
 have hs : SameOn S w w' := SameOn.grown hg hv
 refine ⟨ps ++ [(l, sv)], by rw [List.map_append, h1]; rfl, by rw [List.length_append, List.map_append]; exact ho, fun p hpp => ?_⟩
 rcases List.mem_append.1 hpp with hpp | hpp
 ·exact (h3 p hpp).to hs fun _ _ h => h
 ·simp at hpp
  subst hpp
  exact hp.to hs fun _ _ h => h
theorem Tryz.infoGrp : (Tryz.prog.info? 30).map (fun i => (i.zero, i.size, i.bytes)) = some (some (.agg #[.slice none 0 0]), 1, 24) := by kernel_rfl
def goN (e : Nat → Int) : Nat → Nat → Int
 | 0, _ => 0
 | n + 1, k => if e k = 0 then goN e n (k + 1) else e k
theorem goN_all {e : Nat → Int} : ∀ (n k : Nat), (∀ j, k ≤ j → j < k + n → e j = 0) → goN e n k = 0
 | 0, _, _ => rfl
 | n + 1, k, h => by
  unfold goN
  rw [if_pos (h k (Nat.le_refl _) (by omega))]
  exact goN_all n (k + 1) (fun j h1 h2 => h j (by omega) (by omega))
theorem goN_hit {e : Nat → Int} : ∀ (n k i : Nat), k ≤ i → i < k + n → (∀ j, k ≤ j → j < i → e j = 0) → ¬ e i = 0 → goN e n k = e i
 | 0, _, _, h1, h2, _, _ => by omega
 | n + 1, k, i, h1, h2, h, hi => by
  unfold goN
  by_cases hk : k = i
  ·subst hk; rw [if_neg hi]
  ·rw [if_pos (h k (Nat.le_refl _) (by omega))]
   exact goN_hit n (k + 1) i (by omega) (by omega) (fun j h1 h2 => h j (by omega) h2) hi
theorem goN_zero {e : Nat → Int} : ∀ (n k : Nat), goN e n k = 0 → ∀ j, k ≤ j → j < k + n → e j = 0
 | 0, _, _, _, h1, h2 => by omega
 | n + 1, k, h, j, h1, h2 => by
  unfold goN at h
  by_cases hk : e k = 0
  ·rw [if_pos hk] at h
   by_cases hj : j = k
   ·subst hj; exact hk
   ·exact goN_zero n (k + 1) h j (by omega) (by omega)
  ·rw [if_neg hk] at h; exact absurd h hk
end Go.Proofs.YtnpaejknoipicagGreat
namespace Go.Proofs.YtnpaejknoipicagGreat
open Go.ChangeShapes Go.WideShapes Go.ChangeAt Go.RowKit
theorem StrsIn.of {w : World} {v : Value} {l : List ByteArray} (h : Strs w v l) (hl : l.length ≤ 9223372036854775807) : StrsIn (fun _ => True) w v l := by
 refine ⟨h, hl, fun g hg h0 => ⟨trivial, ?_⟩⟩
 obtain ⟨_, ⟨h1, _⟩ | ⟨b, off, c, rfl, hb, _⟩⟩ := h
 ·omega
 ·simp [Value.ownBlock] at hg
  subst hg
  exact hb
instance : Inhabited Fr := ⟨Fr.zero⟩
section
variable {H : Type} {enc : TypeId × Value → H} {W : World} {r : Reach} {b0 base : Nat} {spare : Nat → Bool} {held : Bool} {v : Value} {d : DataW H} {p : List MemPlace}
theorem Tryz.cellsFrs : Tryz.prog.cellsOf 28 = 1 := by kernel_rfl
theorem Tryz.cellsGrp : Tryz.prog.cellsOf 30 = 1 := by kernel_rfl
set_option maxRecDepth 100000 in
theorem trod_frm {fuel : Nat} {cs : List Value} {x : DataW H × List MemPlace} (h : DataW.trod enc Tryz.prog W base spare held fuel 98 cs = some x) :
  ∃ (f : Fr) (u : Value), cs = [.int .i64 f.time, .bool f.key, u] ∧ StrsIn (fun _ => True) W u f.parts := by
 obtain ⟨xs, n, _, _, hl, hxl, hg⟩ := DataW.trod_struct Tryz.underlying98 h
 rw [Tryz.cellsFrm] at hl
 obtain ⟨c0, c1, c2, hcs⟩ := list3 hl
 obtain ⟨x0, x1, x2, rfl⟩ := list3 (show xs.length = 3 from hxl)
 rw [hcs] at hg
 have h0 : DataW.trod enc Tryz.prog W base spare held n 3 (([c0, c1, c2].drop 0).take (Tryz.prog.cellsOf 3)) = some x0 := hg 0 _ rfl
 have h1 : DataW.trod enc Tryz.prog W base spare held n 4 (([c0, c1, c2].drop 1).take (Tryz.prog.cellsOf 4)) = some x1 := hg 1 _ rfl
 have h2 : DataW.trod enc Tryz.prog W base spare held n 96 (([c0, c1, c2].drop 2).take (Tryz.prog.cellsOf 96)) = some x2 := hg 2 _ rfl
 rw [Tryz.cellsI] at h0
 rw [Tryz.cellsB] at h1
 rw [Tryz.cellsStrs] at h2
 obtain ⟨a, ea, _, wa⟩ := DataW.trod_int Tryz.underlying3 h0
 obtain ⟨k, ek, _⟩ := DataW.trod_bool Tryz.underlying4 h1
 obtain ⟨u, l, eu, hS, hfit, hlen, _⟩ := trod_strs h2
 simp at ea ek eu
 subst ea ek eu
 exact ⟨⟨a, k, l⟩, c2, hcs, StrsIn.of hS (by unfold maxLen at hlen; omega)⟩
set_option maxRecDepth 100000 in
theorem trod_frs {fuel : Nat} {cs : List Value} {x : DataW H × List MemPlace} (h : DataW.trod enc Tryz.prog W base spare held fuel 28 cs = some x) :
  ∃ (u : Value) (l : List Fr), cs = [u] ∧ FrsIn (fun _ => True) W u l := by
 rcases Go.Deep.open_slice Tryz.underlying28 h with ⟨rfl, rfl⟩ | ⟨a, len, cap, m, n, D, Pl, rfl, hb, hl, hm, hmm, rfl, hx⟩
 ·exact ⟨_, [], rfl, FrsIn.nil _ W⟩
 ·have hlm : len ≤ m := by rw [hmm]; split <;> omega
  rw [Tryz.cellsFrm] at hx
  have each : ∀ i, i < len → ∃ q : Fr × Value, StrsIn (fun _ => True) W q.2 q.1.parts ∧ ∀ j u, [Value.int .i64 q.1.time, .bool q.1.key, q.2][j]? = some u → W.cell? (a.add (i * 3 + j)) = some u := fun i hi => by
   obtain ⟨cs', h1, h2⟩ := hx i (by omega)
   obtain ⟨f, u, hs, hw⟩ := trod_frm h2
   refine ⟨(f, u), hw, fun j y hj => ?_⟩
   obtain ⟨_, hl3, hc⟩ := World.cells?_some h1
   have hj3 : j < 3 := by
    have := (List.getElem?_eq_some_iff.1 hj).1
    simpa using this
   rw [← Go.Deep.add_add, hc j hj3, hs]
   simpa using hj
  obtain ⟨f, hf⟩ := Go.Deep.choose_lt each
  have hll : ((List.range len).map fun i => (f i).1).length = len := by simp
  refine ⟨_, (List.range len).map fun i => (f i).1, rfl, some a, cap, by rw [hll], by rw [hll]; omega, by unfold maxLen at hm; omega, fun k hk => ?_⟩
  rw [hll] at hk
  obtain ⟨b, off, spot⟩ := a
  have hc0 := (hf 0 (by omega)).2 0 _ rfl
  have hspot : spot = none := by simpa [Addr.add] using World.cell?_spot hc0
  subst hspot
  have hel : ((List.range len).map fun i => (f i).1)[k]?.getD Fr.zero = (f k).1 := by
   rw [List.getElem?_map, List.getElem?_range hk]; rfl
  rw [hel]
  have g : ∀ j u, [Value.int .i64 (f k).1.time, .bool (f k).1.key, (f k).2][j]? = some u → W.cell? ⟨b, off + k * 3 + j, none⟩ = some u := fun j u hj => by
   have := (hf k hk).2 j u hj
   rw [Addr.add_lit, ← Nat.add_assoc] at this
   exact this
  exact ⟨b, off, rfl, by simpa [Addr.add] using World.block_lt_of_cell? W _ hc0, trivial, (f k).2, g 0 _ rfl, g 1 _ rfl, g 2 _ rfl, (hf k hk).1⟩
end
end Go.Proofs.YtnpaejknoipicagGreat
namespace Go.Proofs.YtnpaejknoipicagGreat
open Go.ChangeShapes Go.WideShapes Go.ChangeAt Go.RowKit
section
variable {H : Type} {enc : TypeId × Value → H} {W : World} {r : Reach} {b0 base : Nat} {spare : Nat → Bool} {held : Bool} {v : Value} {d : DataW H} {p : List MemPlace}
set_option maxRecDepth 100000 in
theorem trod_grp {fuel : Nat} {cs : List Value} {x : DataW H × List MemPlace} (h : DataW.trod enc Tryz.prog W base spare held fuel 30 cs = some x) :
  ∃ (u : Value) (l : List Fr), cs = [u] ∧ FrsIn (fun _ => True) W u l := by
 obtain ⟨xs, n, _, _, hl, hxl, hg⟩ := DataW.trod_struct Tryz.underlying30 h
 rw [Tryz.cellsGrp] at hl
 obtain ⟨c0, hcs⟩ := list1 hl
 obtain ⟨x0, rfl⟩ := list1 (show xs.length = 1 from hxl)
 rw [hcs] at hg
 have h0 : DataW.trod enc Tryz.prog W base spare held n 28 (([c0].drop 0).take (Tryz.prog.cellsOf 28)) = some x0 := hg 0 _ rfl
 rw [Tryz.cellsFrs] at h0
 obtain ⟨u, l, eu, hS⟩ := trod_frs h0
 simp at eu
 subst eu
 exact ⟨c0, l, hcs, hS⟩
set_option maxRecDepth 100000 in
theorem trod_grs {fuel : Nat} {cs : List Value} {x : DataW H × List MemPlace} (h : DataW.trod enc Tryz.prog W base spare held fuel 27 cs = some x) :
  ∃ (u : Value) (L : List (List Fr)), cs = [u] ∧ GrsIn (fun _ => True) W u L := by
 rcases Go.Deep.open_slice Tryz.underlying27 h with ⟨rfl, rfl⟩ | ⟨a, len, cap, m, n, D, Pl, rfl, hb, hl, hm, hmm, rfl, hx⟩
 ·exact ⟨_, [], rfl, GrsIn.nil _ W⟩
 ·have hlm : len ≤ m := by rw [hmm]; split <;> omega
  rw [Tryz.cellsGrp] at hx
  have each : ∀ i, i < len → ∃ q : List Fr × Value, FrsIn (fun _ => True) W q.2 q.1 ∧ W.cell? (a.add i) = some q.2 := fun i hi => by
   obtain ⟨cs', h1, h2⟩ := hx i (by omega)
   obtain ⟨u, l, hs, hw⟩ := trod_grp h2
   refine ⟨(l, u), hw, ?_⟩
   obtain ⟨_, hl1, hc⟩ := World.cells?_some h1
   have := hc 0 (by omega)
   rw [hs, Go.Deep.add_add] at this
   simpa using this
  obtain ⟨f, hf⟩ := Go.Deep.choose_lt each
  have hll : ((List.range len).map fun i => (f i).1).length = len := by simp
  refine ⟨_, (List.range len).map fun i => (f i).1, rfl, some a, cap, by rw [hll], by rw [hll]; omega, by unfold maxLen at hm; omega, fun k hk => ?_⟩
  rw [hll] at hk
  obtain ⟨b, off, spot⟩ := a
  have hc0 := (hf 0 (by omega)).2
  have hspot : spot = none := by simpa [Addr.add] using World.cell?_spot hc0
  subst hspot
  have hel : ((List.range len).map fun i => (f i).1)[k]?.getD [] = (f k).1 := by
   rw [List.getElem?_map, List.getElem?_range hk]; rfl
  rw [hel]
  have g : W.cell? ⟨b, off + k, none⟩ = some (f k).2 := by
   have := (hf k hk).2
   rw [Addr.add_lit] at this
   exact this
  exact ⟨b, off, rfl, by simpa [Addr.add] using World.block_lt_of_cell? W _ hc0, trivial, (f k).2, g, (hf k hk).1⟩
end
end Go.Proofs.YtnpaejknoipicagGreat
namespace Go.Proofs.YtnpaejknoipicagGreat
open Go.RowKit
def Pk.flags (f e k : Bool) : Int := (if f then 1 else 0) + (if e then 2 else 0) + (if k then 4 else 0)
theorem Tryz.infoU8 : (Tryz.prog.info? 5).map (fun i => (i.zero, i.size, i.bytes)) = some (some (.int .u8 0), 1, 1) := by kernel_rfl
end Go.Proofs.YtnpaejknoipicagGreat
