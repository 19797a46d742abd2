/-
  Contracts: the keeper's hold.
-/
import Derived.Test.YtnpaejknoipicafKeeper1
namespace Go.Proofs.Ytnpaejknoipicaf
open Go.RowKit

theorem hold_own {w : World} {base K n : Nat} {v u : Value} {xs : List Value} {C : Array Value} {i : Nat} (h : w.ownsRow base 41 7 v n xs) (hK : Blk w K C 133) (_hu : u = u) : (w.setCell ⟨K, i, none⟩ u).ownsRow base 41 7 v n xs :=
  owns_same h fun g hg => Below.heap_setCell w ⟨K, i, none⟩ u g (fun e => by
    obtain ⟨_, cur, h3⟩ := owns_blk h hg
    exact Apart_type hK h3 (by decide) e.symm)

set_option maxHeartbeats 2000000 in
set_option maxRecDepth 100000 in
/-- behind the search -/
theorem hold_rest (base K i n : Nat) (r next : Int) (hv ov : Value) (h : List Sk) (x : Sk) (w : World) (hn : n = h.length) (hK : Blk w K #[.int .i64 next, hv, ov] 133) (hown : w.ownsRow base 41 7 hv n (skCells h)) (hlen : n ≤ 100) (hbase : base ≤ w.heap.size) (hbK : base ≤ K)
    (hi : i ≤ n) (hr : (r = -1 ∧ i = n) ∨ r = (i : Int))
    (hcon : Calls Try.prog 105 #[hv, .func (.func 106) #[] #[.pointer (some ⟨w.heap.size, 0, none⟩)]] (w.alloc (.cells x.cells 41)) (fun e w' => e = .returned (.int .i64 r) ∧ Below (w.alloc (.cells x.cells 41)).heap.size (w.alloc (.cells x.cells 41)) w')) :
    Calls Try.prog 99 #[.pointer (some ⟨K, 0, none⟩), x.val] w fun e w' => e = .returned (.tuple #[]) ∧
      ∃ hv', Blk w' K #[.int .i64 next, hv', ov] 133 ∧ w'.ownsRow base 41 7 hv' (n + 1) (skCells (putAt h i x)) ∧ Below base w w' := by
  obtain ⟨c0, c1, c2⟩ := hK.three
  have hKw := hK.lt
  have HO : Hid (w.ownsRow base 41 7 hv n (skCells h)) := hown
  have HK : Hid (Blk w K #[.int .i64 next, hv, ov] 133) := hK
  have HN : Hid (n = h.length) := hn
  obtain ⟨a, c, hsl⟩ : ∃ a c, hv = .slice a n c := by rw [hn]; exact (Sls.of_owns (l := h) (by rw [← hn]; exact hown)).len
  have HX : Hid (Blk (w.alloc (.cells x.cells 41)) w.heap.size x.cells 41) := Blk.new w _ _
  obtain ⟨y, hy⟩ : ∃ y, y = x := ⟨_, rfl⟩
  have hyc : y.cells = x.cells := by rw [hy]
  have HY : Hid (y = x) := hy
  rw [← hyc] at HX
  obtain ⟨xn, seq, time, xf, xe, xk, xt⟩ := x
  simp only [Sk.cells, Sk.val] at hcon HX hyc ⊢
  clear hown hK hn hy
  subst hsl
  have hcy : Hid (Sk.cells y = #[.int .i64 xn, .int .i64 seq, .int .i64 time, .bool xf, .bool xe, .bool xk, .string xt]) := by show Sk.cells y = _; rw [HY.out]; rfl
  have hKne : ∀ (W : World), W.ownsRow base 41 7 (.slice a n c) n (skCells h) → Blk W K #[.int .i64 next, .slice a n c, ov] 133 → some K ≠ (Value.slice a n c).ownBlock := fun W h1 h2 e => by
    obtain ⟨_, cur, h3⟩ := owns_blk h1 e.symm
    exact Apart_type h2 h3 (by decide) rfl
  have KNE := @id (Hid _) hKne
  clear hKne hyc HX
  rcases hr with ⟨rfl, rfl⟩ | rfl
  · go_enter Try.func99, Try.ntmps99
    go_wp2_with fail
    refine hcon.mono ?_
    rintro e w1 ⟨rfl, hbw⟩
    have hsz1 := hbw.size
    simp only [World.size_alloc] at hsz1
    have kw1 : Blk w1 K #[.int .i64 next, .slice a i c, ov] 133 := (HK.out.alloc _).below hbw (by simp; omega)
    have xw1 : Blk w1 w.heap.size #[.int .i64 xn, .int .i64 seq, .int .i64 time, .bool xf, .bool xe, .bool xk, .string xt] 41 := (Blk.new w _ _).below hbw (by simp)
    have ow1 : w1.ownsRow base 41 7 (.slice a i c) i (skCells h) := owns_below (HO.out.alloc _) hbw (Nat.le_refl _)
    have bw1 : Below w.heap.size w w1 := ((Below.refl _ w).alloc (Nat.le_refl _) _).trans (hbw.mono (by simp))
    obtain ⟨d0, d1, d2⟩ := kw1.three
    obtain ⟨e0, e1, e2, e3, e4, e5, e6⟩ := xw1.seven
    have hKw1 := kw1.lt
    have kne := KNE.out w1 ow1 kw1
    have ins : Hid (Calls Try.prog 107 #[.slice a i c, .int .i64 i, .slice (some ⟨w1.heap.size, 0, none⟩) 1 1] (w1.alloc (.cells #[.int .i64 xn, .int .i64 seq, .int .i64 time, .bool xf, .bool xe, .bool xk, .string xt] 41)).drew fun e w2 =>
        ∃ a' c', e = .returned (.slice a' (i + 1) c') ∧ w2.cell? ⟨K, 1, none⟩ = some (.slice a i c) ∧ w2.frozen? ⟨K, 1, none⟩ = false ∧ Hid (Blk w2 K #[.int .i64 next, .slice a i c, ov] 133 ∧ w2.ownsRow base 41 7 (.slice a' (i + 1) c') (i + 1) (skCells (putAt h i y)) ∧ Below base w w2)) := by
      show Calls _ _ _ _ _
      refine (insert_any base i i (.slice a i c) h y w1.heap.size (w1.alloc (.cells #[.int .i64 xn, .int .i64 seq, .int .i64 time, .bool xf, .bool xe, .bool xk, .string xt] 41)).drew HN.out (ow1.alloc _) (by omega) (by omega) (by simp; omega) (by rw [hcy.out]; exact Blk.new w1 _ _) (fun e => by have := (ow1.lt _ e).2; omega)).mono ?_
      rintro e w2 ⟨u, rfl, ho2, hg2⟩
      have k2 : Blk w2 K #[.int .i64 next, .slice a i c, ov] 133 := (hg2.block K (by simp; omega) kne).trans (kw1.alloc _)
      obtain ⟨a', c', rfl⟩ := Sl.len (Sl.of_owns ho2)
      exact ⟨a', c', rfl, k2.three.2.1, k2.free 1, k2, ho2, ((bw1.mono hbase).alloc (by have := bw1.size; omega) _).drew.grown hg2 (by simp; omega) (fun j hj => (ow1.lt j hj).1)⟩
    clear hbw kw1 xw1 c0 c1 c2 hcon ow1 bw1 HO HK kne
    go_wp2_with fail
    go_region_with (go_at_call 107; refine ins.out.mono ?_; rintro e w2 ⟨a', c', rfl, g1, g2, G⟩)
    all_goals
      go_end0
      refine ⟨rfl, .slice a' (i + 1) c', ?_, ?_, ?_⟩
      · exact G.out.1.set 1 _
      · rw [← HY.out]; exact hold_own G.out.2.1 G.out.1 rfl
      · exact G.out.2.2.setCell (by exact hbK) _
  · have hii : ¬ ((i : Int) < 0) := by omega
    go_enter Try.func99, Try.ntmps99
    go_wp2_with fail
    refine hcon.mono ?_
    rintro e w1 ⟨rfl, hbw⟩
    have hsz1 := hbw.size
    simp only [World.size_alloc] at hsz1
    have kw1 : Blk w1 K #[.int .i64 next, .slice a n c, ov] 133 := (HK.out.alloc _).below hbw (by simp; omega)
    have xw1 : Blk w1 w.heap.size #[.int .i64 xn, .int .i64 seq, .int .i64 time, .bool xf, .bool xe, .bool xk, .string xt] 41 := (Blk.new w _ _).below hbw (by simp)
    have ow1 : w1.ownsRow base 41 7 (.slice a n c) n (skCells h) := owns_below (HO.out.alloc _) hbw (Nat.le_refl _)
    have bw1 : Below w.heap.size w w1 := ((Below.refl _ w).alloc (Nat.le_refl _) _).trans (hbw.mono (by simp))
    obtain ⟨d0, d1, d2⟩ := kw1.three
    obtain ⟨e0, e1, e2, e3, e4, e5, e6⟩ := xw1.seven
    have hKw1 := kw1.lt
    have kne := KNE.out w1 ow1 kw1
    have ins : Hid (Calls Try.prog 107 #[.slice a n c, .int .i64 i, .slice (some ⟨w1.heap.size, 0, none⟩) 1 1] (w1.alloc (.cells #[.int .i64 xn, .int .i64 seq, .int .i64 time, .bool xf, .bool xe, .bool xk, .string xt] 41)).drew fun e w2 =>
        ∃ a' c', e = .returned (.slice a' (n + 1) c') ∧ w2.cell? ⟨K, 1, none⟩ = some (.slice a n c) ∧ w2.frozen? ⟨K, 1, none⟩ = false ∧ Hid (Blk w2 K #[.int .i64 next, .slice a n c, ov] 133 ∧ w2.ownsRow base 41 7 (.slice a' (n + 1) c') (n + 1) (skCells (putAt h i y)) ∧ Below base w w2)) := by
      show Calls _ _ _ _ _
      refine (insert_any base n i (.slice a n c) h y w1.heap.size (w1.alloc (.cells #[.int .i64 xn, .int .i64 seq, .int .i64 time, .bool xf, .bool xe, .bool xk, .string xt] 41)).drew HN.out (ow1.alloc _) (by omega) (by omega) (by simp; omega) (by rw [hcy.out]; exact Blk.new w1 _ _) (fun e => by have := (ow1.lt _ e).2; omega)).mono ?_
      rintro e w2 ⟨u, rfl, ho2, hg2⟩
      have k2 : Blk w2 K #[.int .i64 next, .slice a n c, ov] 133 := (hg2.block K (by simp; omega) kne).trans (kw1.alloc _)
      obtain ⟨a', c', rfl⟩ := Sl.len (Sl.of_owns ho2)
      exact ⟨a', c', rfl, k2.three.2.1, k2.free 1, k2, ho2, ((bw1.mono hbase).alloc (by have := bw1.size; omega) _).drew.grown hg2 (by simp; omega) (fun j hj => (ow1.lt j hj).1)⟩
    clear hbw kw1 xw1 c0 c1 c2 hcon ow1 bw1 HO HK kne
    go_wp2_with fail
    go_region_with (go_at_call 107; refine ins.out.mono ?_; rintro e w2 ⟨a', c', rfl, g1, g2, G⟩)
    all_goals
      go_end0
      refine ⟨rfl, .slice a' (n + 1) c', ?_, ?_, ?_⟩
      · exact G.out.1.set 1 _
      · rw [← HY.out]; exact hold_own G.out.2.1 G.out.1 rfl
      · exact G.out.2.2.setCell (by exact hbK) _

set_option maxHeartbeats 2000000 in
set_option maxRecDepth 100000 in
theorem hold_any (base K : Nat) (next : Int) (hv ov : Value) (h : List Sk) (x : Sk) (w : World) (hK : Blk w K #[.int .i64 next, hv, ov] 133) (hown : w.ownsRow base 41 7 hv h.length (skCells h)) (hlen : h.length ≤ 100) (hbase : base ≤ w.heap.size) (hbK : base ≤ K) :
    Calls Try.prog 99 #[.pointer (some ⟨K, 0, none⟩), x.val] w fun e w' => e = .returned (.tuple #[]) ∧
      ∃ hv', Blk w' K #[.int .i64 next, hv', ov] 133 ∧ w'.ownsRow base 41 7 hv' (h.length + 1) (skCells (insF h x)) ∧ Below base w w' := by
  have eg : Enters Try.prog 106 := enters_of Try.func106 (by kernel_rfl) rfl
  have hcon := indexFunc_any 106 #[.pointer (some ⟨w.heap.size, 0, none⟩)] (fun y => decide (x.n < y.n)) eg hv h (w.alloc (.cells x.cells 41)) ((Sls.of_owns hown).alloc _) (by omega) (holdLit_tells x w.heap.size _ (by simp) (by simp [Sk.cells]))
  rcases idx_place h x with ⟨hix, hpx⟩ | hix
  · rw [hix] at hcon
    exact hold_rest base K (place h x) h.length (-1) next hv ov h x w rfl hK hown hlen hbase hbK (place_le h x) (.inl ⟨rfl, hpx⟩) hcon
  · rw [hix] at hcon
    exact hold_rest base K (place h x) h.length _ next hv ov h x w rfl hK hown hlen hbase hbK (place_le h x) (.inr rfl) hcon

end Go.Proofs.Ytnpaejknoipicaf
