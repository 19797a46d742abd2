/-
  Contracts: frame.checkBuilder, frame.Add.
-/
import Derived.Test.YtnpaejknoipicafGreatRegApp
import Derived.Test.YtnpaejknoipicafGreatMgTrackTells1
import Derived.BigQuiet
import Derived.Deep.Cut
import Derived.Deep.DeepCutAuto
import Derived.Test.YtnpaejknoipicafGreatFrameCheck
import Derived.Test.YtnpaejknoipicafGreatFrameMath2
import Derived.Test.YtnpaejknoipicafGreatBlocks
import Derived.Test.YtnpaejknoipicafGreatSlotFits
import Derived.Test.YtnpaejknoipicafGreatRefBuild
import Derived.Test.YtnpaejknoipicafGreatFrameAdd
import Derived.Test.YtnpaejknoipicafGreatRowAux

namespace Go.Proofs.YtnpaejknoipicafGreat
open Go.RowKit

section
variable {P : Program} {Q : Exit → Act → World → Prop}

theorem tl_ok {o : Oper} {r : List Oper} {a : Act} {w w' : World} (v : Value) (h : (execOp a.eval o).run P w = .ok (.value v) w') (k : TL P Q r (a.put o.dst v) w') : TL P Q (o :: r) a w := ⟨oper_wp_ok h k.out⟩
theorem tl_skip {o : Oper} {r : List Oper} {a : Act} {w : World} (w' : World) (h : (execOp a.eval o).run P w = .ok .skip w') (k : TL P Q r (a.put o.dst undef) w') : TL P Q (o :: r) a w := ⟨by
  show o.wp P a w _ Q
  unfold Oper.wp; rw [h]; exact k.out⟩
theorem tl_skip2 {o : Oper} {r : List Oper} {a : Act} {w : World} (w' : World) (s1 s2 : Operand) (x1 x2 : Value) (e1 : a.eval s1 = x1) (e2 : a.eval s2 = x2) (h : ∀ ρ : Operand → Value, ρ s1 = x1 → ρ s2 = x2 → (execOp ρ o).run P w = .ok .skip w') (k : TL P Q r (a.put o.dst undef) w') : TL P Q (o :: r) a w := tl_skip w' (h _ e1 e2) k
theorem tl_ok0 {o : Oper} {r : List Oper} {a : Act} {w w' : World} (v : Value) (h : ∀ ρ : Operand → Value, (execOp ρ o).run P w = .ok (.value v) w') (k : TL P Q r (a.put o.dst v) w') : TL P Q (o :: r) a w := tl_ok v (h _) k
theorem tl_ok1 {o : Oper} {r : List Oper} {a : Act} {w w' : World} (v : Value) (s1 : Operand) (x1 : Value) (e1 : a.eval s1 = x1) (h : ∀ ρ : Operand → Value, ρ s1 = x1 → (execOp ρ o).run P w = .ok (.value v) w') (k : TL P Q r (a.put o.dst v) w') : TL P Q (o :: r) a w := tl_ok v (h _ e1) k
theorem tl_end {a : Act} {w : World} (h : Q .normal a w) : TL P Q [] a w := ⟨h⟩

/-- what is known of those that came -/
structure App3 (h7 : Value → Value) (W : World) (E : TypeId) (size n : Nat) (cells xc : List Value) (v1 v2 v4 : Value) (ls : Nat → Bool) (vs : Nat → Value) (w : World) : Prop where
  below : Below W.heap.size W w
  f0 : ls 0 = true → ls 3 = false → ∃ g, vs 0 = .slice (some ⟨g, 0, none⟩) 0 0 ∧ W.heap.size ≤ g ∧ Blk w g #[] E
  f1 : ls 1 = true → vs 1 = v1
  f2 : ls 2 = true → vs 2 = v2
  f3 : ls 3 = true → ls 6 = false → w.ownsRow W.heap.size E size (vs 3) n cells
  f4 : ls 4 = true → vs 4 = v4
  f5 : ls 5 = true → ls 6 = false → ∃ g, vs 5 = .slice (some ⟨g, 0, none⟩) 1 1 ∧ W.heap.size ≤ g ∧ Blk w g xc.toArray E ∧ (ls 3 = true → (vs 3).ownBlock ≠ some g)
  f6 : ls 6 = true → w.ownsRow W.heap.size E size (vs 6) (n + 1) (cells ++ xc) ∧ ls 3 = true ∧ ls 5 = true
  f7 : ls 7 = true → vs 7 = h7 (vs 6) ∧ ls 6 = true

theorem region_app3 {id : Nat} {a : Act} {w : World} {o0 o1 o2 o3 o4 o5 o6 o7 : Oper} {t : List Oper} (h7 : Value → Value) (hm : P.follows .mixedOrders = true)
    (hap : dstsApart [o0, o1, o2, o3, o4, o5, o6, o7] = true) (hB : regOkT ([o0, o1, o2, o3, o4, o5, o6, o7] ++ t) = true) (hT : tailB 8 ([o0, o1, o2, o3, o4, o5, o6, o7] ++ t) = true)
    (hw : (waits [o0, o1, o2, o3, o4, o5, o6, o7] 2 1 && waits [o0, o1, o2, o3, o4, o5, o6, o7] 3 0 && waits [o0, o1, o2, o3, o4, o5, o6, o7] 3 2 && waits [o0, o1, o2, o3, o4, o5, o6, o7] 5 4 && waits [o0, o1, o2, o3, o4, o5, o6, o7] 6 3 && waits [o0, o1, o2, o3, o4, o5, o6, o7] 6 5 && waits [o0, o1, o2, o3, o4, o5, o6, o7] 7 6) = true)
    (T E : TypeId) (i : TypeInfo) (z : Value) (size bytes : Nat) (ht : P.underlying T = some (.slice E)) (hi : P.info? E = some i) (hz : i.zero = some z) (hsize : i.size = size) (hby : i.bytes = bytes) (hzs : z.cells.size = size) (hsz : 0 < size)
    (k0 k1 k2 k3 k4 k5 k6 k7 sb : Nat) (d0 : o0.dst = some k0) (d1 : o1.dst = some k1) (d2 : o2.dst = some k2) (d3 : o3.dst = some k3) (d4 : o4.dst = some k4) (d5 : o5.dst = some k5) (d6 : o6.dst = some k6) (d7 : o7.dst = some k7)
    (hsz1 : ([k0, k1, k2, k3, k4, k5, k6, k7].all fun k => decide (k < a.tmps.size)) = true)
    (n : Nat) (cells : List Value) (v2 : Value) (happ : App1 P w T E o3.type size n cells v2)
    (xc : List Value) (hxl : xc.length = size) (hx1 : ∀ u ∈ xc, u.oneCell' = true)
    (v1 v4 : Value) (sx : Nat)
    (hsb : ([k0, k1, k2, k3, k4, k5, k6, k7].all fun k => decide (k ≠ sb) && decide (k ≠ sx)) = true)
    (r0 : ∀ (a' : Act) (w' : World), (execOp a'.eval o0).run P w' = .ok (.value (.slice (some ⟨w'.heap.size, 0, none⟩) 0 0)) (w'.alloc (.cells #[] E)))
    (r1 : ∀ (a' : Act) (w' : World), a'.eval (.tmp sb) = a.eval (.tmp sb) → (execOp a'.eval o1).run P w' = .ok (.value v1) w')
    (r2 : ∀ (a' : Act) (w' : World), a'.eval (.tmp k1) = v1 → Below w.heap.size w w' → (execOp a'.eval o2).run P w' = .ok (.value v2) w')
    (r3 : o3.op = .call { callee := .builtin .append, args := #[.tmp k0, .tmp k2], argTypes := #[T, T] })
    (r4 : ∀ (a' : Act) (w' : World), a'.eval (.tmp sx) = a.eval (.tmp sx) → Below w.heap.size w w' → (execOp a'.eval o4).run P w' = .ok (.value v4) w')
    (r5 : ∀ (a' : Act) (w' : World), a'.eval (.tmp k4) = v4 → (execOp a'.eval o5).run P w' = .ok (.value (.slice (some ⟨w'.heap.size, 0, none⟩) 1 1)) (w'.alloc (.cells xc.toArray E)))
    (r6 : o6.op = .call { callee := .builtin .append, args := #[.tmp k3, .tmp k5], argTypes := #[T, T] })
    (r7 : ∀ (a' : Act) (w' : World) (x : Option Addr) (c : Nat), a'.eval (.tmp k6) = .slice x (n + 1) c → (execOp a'.eval o7).run P w' = .ok (.value (h7 (.slice x (n + 1) c))) w')
    (h63 : n + 1 ≤ maxLen) (hbytes : (n + 1) * bytes ≤ 140737488355328)
    (hend : ∀ (u0 u3 u5 v : Value) (w' : World), w'.ownsRow w.heap.size E size v (n + 1) (cells ++ xc) → Below w.heap.size w w' →
      TL P Q t ((((((((a.put o0.dst u0).put o1.dst v1).put o2.dst v2).put o3.dst u3).put o4.dst v4).put o5.dst u5).put o6.dst v).put o7.dst (h7 v)) w') :
    (Code.region id ([o0, o1, o2, o3, o4, o5, o6, o7] ++ t).toArray true).wp P Q a w := by
  simp only [Bool.and_eq_true] at hw
  obtain ⟨⟨⟨⟨⟨⟨w21, w30⟩, w32⟩, w54⟩, w63⟩, w65⟩, w76⟩ := hw
  simp only [List.all_cons, List.all_nil, Bool.and_true, Bool.and_eq_true, decide_eq_true_eq] at hsz1 hsb
  obtain ⟨z0, z1, z2, z3, z4, z5, z6, z7⟩ := hsz1
  obtain ⟨⟨q0, y0⟩, ⟨q1, y1⟩, ⟨q2, y2⟩, ⟨q3, y3⟩, ⟨q4, y4⟩, ⟨q5, y5⟩, ⟨q6, y6⟩, q7, y7⟩ := hsb
  have hval : ∀ (L : Array Bool) (vs : Nat → Value) (j : Nat) (o : Oper) (k : Nat), [o0, o1, o2, o3, o4, o5, o6, o7][j]? = some o → o.dst = some k → k < a.tmps.size → L.getD j false = true → (putL L vs 0 [o0, o1, o2, o3, o4, o5, o6, o7] a).eval (.tmp k) = vs j :=
    fun L vs j o k h1 h2 h3 h4 => putL_at h4 _ 0 a o hap (Nat.zero_le _) (by simpa using h1) h2 h3
  have hoth : ∀ (L : Array Bool) (vs : Nat → Value) (s : Nat), k0 ≠ s → k1 ≠ s → k2 ≠ s → k3 ≠ s → k4 ≠ s → k5 ≠ s → k6 ≠ s → k7 ≠ s → (putL L vs 0 [o0, o1, o2, o3, o4, o5, o6, o7] a).eval (.tmp s) = a.eval (.tmp s) :=
    fun L vs s e0 e1 e2 e3 e4 e5 e6 e7 => putL_other _ 0 a (fun p hp t ht e => by
      injection e with e
      subst e
      simp only [List.mem_cons, List.not_mem_nil, or_false] at hp
      rcases hp with rfl | rfl | rfl | rfl | rfl | rfl | rfl | rfl
      · rw [d0] at ht; injection ht with ht; exact e0 ht
      · rw [d1] at ht; injection ht with ht; exact e1 ht
      · rw [d2] at ht; injection ht with ht; exact e2 ht
      · rw [d3] at ht; injection ht with ht; exact e3 ht
      · rw [d4] at ht; injection ht with ht; exact e4 ht
      · rw [d5] at ht; injection ht with ht; exact e5 ht
      · rw [d6] at ht; injection ht with ht; exact e6 ht
      · rw [d7] at ht; injection ht with ht; exact e7 ht)
  refine wp_region_tail (t := t) hm hap hB hT (fun L vs w' => App3 h7 w E size n cells xc v1 v2 v4 (fun j => L.getD j false) vs w') ?_ ?_ ?_
  · have hno : ∀ j, ¬ (Array.replicate [o0, o1, o2, o3, o4, o5, o6, o7].length false).getD j false = true := fun j => by
      simp [Array.getD_eq_getD_getElem?, Array.getElem?_replicate]; split <;> simp
    exact ⟨⟨rfl, rfl, rfl, Nat.le_refl _, fun _ _ => rfl⟩, fun h => absurd h (hno 0), fun h => absurd h (hno 1), fun h => absurd h (hno 2), fun h => absurd h (hno 3), fun h => absurd h (hno 4), fun h => absurd h (hno 5), fun h => absurd h (hno 6), fun h => absurd h (hno 7)⟩
  · intro L vs w' F j o ho hL hr
    have nj : L.getD j false = false := by simpa using listed_no hL
    have hset := setfun hL
    have hv := hval L vs
    have ho2 := hoth L vs
    have hwt : ∀ k, waits [o0, o1, o2, o3, o4, o5, o6, o7] j k = true → L.getD k false = true := fun k hk => waits_spec hk ho hr
    rw [hset]
    clear hset hr hL
    obtain ⟨ls, hls⟩ : ∃ ls : Nat → Bool, ls = fun j => L.getD j false := ⟨_, rfl⟩
    have hlsj : ∀ j, L.getD j false = ls j := fun j => by rw [hls]
    simp only [hlsj] at F nj hv hwt ⊢
    obtain ⟨fb, f0, f1, f2, f3, f4, f5, f6, f7⟩ := F
    match j, ho with
    | 0, ho =>
      simp at ho; subst ho
      refine oper_wp_ok (r0 _ w') ⟨_, rfl, ?_⟩
      have hb : Below w'.heap.size w' (w'.alloc (.cells #[] E)) := (Below.refl _ _).alloc (Nat.le_refl _) _
      refine ⟨fb.trans (hb.mono fb.size), fun _ _ => ⟨w'.heap.size, by rw [upd_at], fb.size, Blk.new _ _ _⟩, by simpa [upd] using f1, by simpa [upd] using f2, ?_, by simpa [upd] using f4, ?_, ?_, by simpa [upd] using f7⟩
      · simp only [upd]; simp; exact fun h1 h2 => (f3 h1 h2).alloc _
      · simp only [upd]; simp
        intro h1 h2
        obtain ⟨g, e1, e2, e3, e4⟩ := f5 h1 h2
        exact ⟨g, e1, e2, e3.alloc _, e4⟩
      · simp only [upd]; simp; exact fun h1 => ⟨(f6 h1).1.alloc _, (f6 h1).2⟩
    | 1, ho =>
      simp at ho; subst ho
      refine oper_wp_ok (r1 _ w' (ho2 _ q0 q1 q2 q3 q4 q5 q6 q7)) ⟨_, rfl, ?_⟩
      exact ⟨fb, by simpa [upd] using f0, by simp [upd], by simpa [upd] using f2, by simpa [upd] using f3, by simpa [upd] using f4, by simpa [upd] using f5, by simpa [upd] using f6, by simpa [upd] using f7⟩
    | 2, ho =>
      simp at ho; subst ho
      have l1 := hwt 1 w21
      refine oper_wp_ok (r2 _ w' ((hv 1 _ k1 rfl d1 z1 l1).trans (f1 l1)) fb) ⟨_, rfl, ?_⟩
      exact ⟨fb, by simpa [upd] using f0, by simpa [upd] using f1, by simp [upd], by simpa [upd] using f3, by simpa [upd] using f4, by simpa [upd] using f5, by simpa [upd] using f6, by simpa [upd] using f7⟩
    | 3, ho =>
      simp at ho; subst ho
      have l0 := hwt 0 w30
      have l2 := hwt 2 w32
      have n6 : ls 6 = false := by
        cases h : ls 6
        · rfl
        · rw [(f6 h).2.1] at nj; cases nj
      obtain ⟨g, e1, e2, e3⟩ := f0 l0 nj
      have ev0 := (hv 0 _ k0 rfl d0 z0 l0).trans e1
      have ev2 := (hv 2 _ k2 rfl d2 z2 l2).trans (f2 l2)
      obtain ⟨v', w2, hrun, g2, g3, g4⟩ := happ w' g fb e2 e3
      have hex : (execOp (putL L vs 0 [o0, o1, o2, o3, o4, o5, o6, o7] a).eval o3).run P w' = .ok (.value v') w2 := by
        simp [execOp, r3, resolve, invoke, builtin, ev0, ev2, hrun, Result.andThen]
      refine oper_wp_ok hex ⟨_, rfl, ?_⟩
      have hb2 : Below w.heap.size w w2 := fb.grown g3 fb.size (fun j hj => by injection hj with hj; omega)
      refine ⟨hb2, by simp, by simpa [upd] using f1, by simpa [upd] using f2, ?_, by simpa [upd] using f4, ?_, by simp [n6], by simpa [upd] using f7⟩
      · simp only [upd]; simp; exact fun _ => g2
      · simp only [upd]; simp
        intro h1 h2
        obtain ⟨g', e1', e2', e3', e4'⟩ := f5 h1 h2
        have hne : g' ≠ g := fun e => by
          subst e
          have h1 : w'.heap[g']? = some (.cells #[] E (0, 0)) := e3
          have h2 : w'.heap[g']? = some (.cells xc.toArray E (0, 0)) := e3'
          rw [h1] at h2
          have h3 : xc = [] := by simpa using h2.symm
          rw [h3] at hxl
          simp at hxl; omega
        refine ⟨g', e1', e2', (g3.block g' e3'.lt (by intro e; injection e with e; exact hne e)).trans e3', fun e => ?_⟩
        rcases g4 with g4 | g4
        · rw [g4] at e; injection e with e; exact hne e.symm
        · have := g4 g' e; have := e3'.lt; omega
    | 4, ho =>
      simp at ho; subst ho
      refine oper_wp_ok (r4 _ w' (ho2 _ y0 y1 y2 y3 y4 y5 y6 y7) fb) ⟨_, rfl, ?_⟩
      exact ⟨fb, by simpa [upd] using f0, by simpa [upd] using f1, by simpa [upd] using f2, by simpa [upd] using f3, by simp [upd], by simpa [upd] using f5, by simpa [upd] using f6, by simpa [upd] using f7⟩
    | 5, ho =>
      simp at ho; subst ho
      have l4 := hwt 4 w54
      refine oper_wp_ok (r5 _ w' ((hv 4 _ k4 rfl d4 z4 l4).trans (f4 l4))) ⟨_, rfl, ?_⟩
      have hb : Below w'.heap.size w' (w'.alloc (.cells xc.toArray E)) := (Below.refl _ _).alloc (Nat.le_refl _) _
      refine ⟨fb.trans (hb.mono fb.size), ?_, by simpa [upd] using f1, by simpa [upd] using f2, ?_, by simpa [upd] using f4, ?_, ?_, by simpa [upd] using f7⟩
      · simp only [upd]; simp
        intro h1 h2
        obtain ⟨g, e1, e2, e3⟩ := f0 h1 h2
        exact ⟨g, e1, e2, e3.alloc _⟩
      · simp only [upd]; simp; exact fun h1 h2 => (f3 h1 h2).alloc _
      · simp only [upd]; simp
        intro h6
        exact ⟨fb.size, Blk.new _ _ _, fun h3 e => by have := ((f3 h3 h6).lt _ e).2; omega⟩
      · simp only [upd]; simp; exact fun h1 => ⟨(f6 h1).1.alloc _, (f6 h1).2.1⟩
    | 6, ho =>
      simp at ho; subst ho
      have l3 := hwt 3 w63
      have l5 := hwt 5 w65
      have n7 : ls 7 = false := by
        cases h : ls 7
        · rfl
        · rw [(f7 h).2] at nj; cases nj
      obtain ⟨g, e1, e2, e3, e4⟩ := f5 l5 nj
      have ev3 := hv 3 _ k3 rfl d3 z3 l3
      have ev5 := (hv 5 _ k5 rfl d5 z5 l5).trans e1
      obtain ⟨v', w2, hrun, g2, g3, g4⟩ := run_append_own2 (P := P) w' w.heap.size T o6.type E i z size bytes ht hi hz hsize hby hzs hsz (vs 3) n cells (f3 l3 nj) ⟨g, 0, none⟩ 1 1 xc (by rw [hxl, Nat.one_mul]) (fun j u hj => by rw [Addr.add_lit, Nat.zero_add]; exact e3.cell (by simpa using hj)) hx1 h63 hbytes fb.size
      have hex : (execOp (putL L vs 0 [o0, o1, o2, o3, o4, o5, o6, o7] a).eval o6).run P w' = .ok (.value v') w2 := by
        simp [execOp, r6, resolve, invoke, builtin, ev3, ev5, hrun, Result.andThen]
      refine oper_wp_ok hex ⟨_, rfl, ?_⟩
      have hb2 : Below w.heap.size w w2 := fb.grown g3 fb.size (fun j hj => ((f3 l3 nj).lt j hj).1)
      refine ⟨hb2, ?_, by simpa [upd] using f1, by simpa [upd] using f2, by simp, by simpa [upd] using f4, by simp, ?_, by simp [n7]⟩
      · simp [l3]
      · simp only [upd]; simp; exact ⟨g2, l3, l5⟩
    | 7, ho =>
      simp at ho; subst ho
      have l6 := hwt 6 w76
      obtain ⟨x7, c7, e7⟩ := Sl.len (Sl.of_owns (f6 l6).1)
      refine oper_wp_ok (r7 _ w' x7 c7 ((hv 6 _ k6 rfl d6 z6 l6).trans e7)) ⟨_, rfl, ?_⟩
      refine ⟨fb, by simpa [upd] using f0, by simpa [upd] using f1, by simpa [upd] using f2, by simpa [upd] using f3, by simpa [upd] using f4, by simpa [upd] using f5, by simpa [upd] using f6, ?_⟩
      simp only [upd]; simp
      exact ⟨by rw [e7], l6⟩
    | j + 8, ho => simp at ho
  · intro L vs w' F hall
    obtain ⟨fb, f0, f1, f2, f3, f4, f5, f6, f7⟩ := F
    have := hend (vs 0) (vs 3) (vs 5) (vs 6) w' (f6 (hall 6 (by simp))).1 fb
    simp only [putL]
    rw [if_pos (hall 0 (by simp)), if_pos (hall (0 + 1) (by simp)), if_pos (hall (0 + 1 + 1) (by simp)), if_pos (hall (0 + 1 + 1 + 1) (by simp)), if_pos (hall (0 + 1 + 1 + 1 + 1) (by simp)), if_pos (hall (0 + 1 + 1 + 1 + 1 + 1) (by simp)), if_pos (hall (0 + 1 + 1 + 1 + 1 + 1 + 1) (by simp)), if_pos (hall (0 + 1 + 1 + 1 + 1 + 1 + 1 + 1) (by simp))]
    rw [show vs (0 + 1) = v1 from f1 (hall 1 (by simp)), show vs (0 + 1 + 1) = _ from f2 (hall 2 (by simp)), show vs (0 + 1 + 1 + 1 + 1) = _ from f4 (hall 4 (by simp)), show vs (0 + 1 + 1 + 1 + 1 + 1 + 1 + 1) = h7 (vs 6) from (f7 (hall 7 (by simp))).1]
    exact this.out
end
end Go.Proofs.YtnpaejknoipicafGreat

namespace Go.Proofs.YtnpaejknoipicafGreat
open Go.RowKit

/-- none of these is wanted -/
def skipB (ops : Array Oper) : List Oper → Act → Bool
  | [], _ => true
  | o :: r, a => !(Region.wanted o (yielded ops a.tmps)) && skipB ops r (a.put o.dst undef)
/-- the frame behind them -/
def putU : List Oper → Act → Act
  | [], a => a
  | o :: r, a => putU r (a.put o.dst undef)

theorem wpQuiet_jump {P : Program} {ops : Array Oper} {C : World → Prop} {Q : Act → Prop} (n : Nat) : ∀ {l : List Oper} {a : Act}, skipB ops (l.take n) a = true → (∀ b, b = putU (l.take n) a → wpQuiet P ops C Q (l.drop n) b) → wpQuiet P ops C Q l a := by
  induction n with
  | zero => intro l a _ h; simpa using h a rfl
  | succ n ih =>
    intro l a hs h
    cases l with
    | nil => simpa using h a rfl
    | cons o r =>
      simp only [List.take_succ_cons, skipB, Bool.and_eq_true, Bool.not_eq_true'] at hs
      refine BigFrame.wpQuiet_skip hs.1 (ih hs.2 (fun b hb => ?_))
      have := h b (by rw [List.take_succ_cons]; exact hb)
      simpa using this

end Go.Proofs.YtnpaejknoipicafGreat

namespace Go.Proofs.YtnpaejknoipicafGreat
open Go.RowKit

theorem Blk.drewN {w : World} {b : Nat} {C : Array Value} {t : TypeId} (h : Blk w b C t) (k : Nat) : Blk (w.drewN k) b C t := h

theorem FrsIn.one {S : Nat → Prop} {w : World} {b : Nat} {f : Fr} {pv : Value} (hb : Blk w b #[.int .i64 f.time, .bool f.key, pv] 30) (hS : S b) (hp : StrsIn S w pv f.parts) : FrsIn S w (.slice (some ⟨b, 0, none⟩) 1 1) [f] := by
  refine ⟨some ⟨b, 0, none⟩, 1, rfl, Nat.le_refl _, by omega, fun k hk => ⟨b, 0, rfl, hb.lt, hS, pv, ?_⟩⟩
  have : k = 0 := by simpa using hk
  subst this
  obtain ⟨c0, c1, c2⟩ := hb.three
  exact ⟨c0, c1, c2, hp⟩

set_option maxHeartbeats 4000000 in
set_option maxRecDepth 100000 in
theorem growOf_any (S : Nat → Prop) (gv : Value) (g : List Fr) (f : Fr) (pv : Value) (w : World) (hg : FrsIn S w gv g) (hp : StrsIn S w pv f.parts) (h6 : g.length ≤ 6) :
    Calls Tryz.prog 53 #[.agg #[gv], .agg #[.int .i64 f.time, .bool f.key, pv]] w fun e w' => ∃ a c, e = .returned (.tuple #[.agg #[.slice a (growG g f).length c], .bool (f.key && decide (0 < g.length))]) ∧ FrsIn (fun b => S b ∨ w.heap.size ≤ b) w' (.slice a (growG g f).length c) (growG g f) ∧ Below w.heap.size w w' := by
  obtain ⟨i0, hi, hz0, hz1, hz2⟩ := info_parts Tryz.infoFrm
  obtain ⟨ga, gc, eg, _, _⟩ := hg.len
  obtain ⟨pa, pc, ep⟩ := hp.1.len
  obtain ⟨n, hn⟩ : ∃ n, n = g.length := ⟨_, rfl⟩
  obtain ⟨pn, hpn⟩ : ∃ n, n = f.parts.length := ⟨_, rfl⟩
  rw [← hn] at eg h6
  rw [← hpn] at ep
  obtain ⟨R, hR⟩ : ∃ R, R = growG g f := ⟨_, rfl⟩
  obtain ⟨m, hm⟩ : ∃ m, m = R.length := ⟨_, rfl⟩
  rw [← hR, ← hm, ← hn]
  have HG : Hid (FrsIn S w gv g) := hg
  have HP : Hid (StrsIn S w pv f.parts) := hp
  have HN : Hid (n = g.length) := hn
  have HM : Hid (m = R.length) := hm
  obtain ⟨time, key, parts⟩ := f
  have HR : Hid (R = growG g ⟨time, key, parts⟩) := hR
  clear hg hp hn hR hm hpn
  simp only at HP ⊢
  subst eg ep
  cases key
  case true =>
    have e1 : R = [⟨time, true, parts⟩] := by rw [HR.out]; rfl
    have e2 : m = 1 := by rw [HM.out, e1]; rfl
    rw [e2, e1]
    go_enter Tryz.func53, Tryz.ntmps53
    go_wp2_with fail
    refine bodyPost_ret (v := .tuple #[.agg #[.slice (some ⟨w.heap.size + 1 + 1 + 1, 0, none⟩) 1 1], .bool (decide (0 < n))]) (by simp [results, Tryz.results53, go_sem]) rfl ⟨some ⟨w.heap.size + 1 + 1 + 1, 0, none⟩, 1, by simp, ?_, by repeat first | exact Below.refl _ _ | refine Below.alloc ?_ (by simp <;> omega) _⟩
    refine FrsIn.one (f := ⟨time, true, parts⟩) (pv := .slice pa pn pc) ?_ (.inr (by omega)) ?_
    · have := Blk.new (((w.alloc (.cells #[.slice ga n gc] 25)).alloc (.cells #[.int .i64 time, .bool true, .slice pa pn pc] 30)).alloc (.cells #[.slice (some ⟨w.heap.size + 1 + 1 + 1, 0, none⟩) 1 1] 25)) #[.int .i64 time, .bool true, .slice pa pn pc] 30
      simpa using this
    · exact ((((HP.out.alloc _).alloc _).alloc _).alloc _).mono fun _ _ h => .inl h
  have HSAME : Hid (∀ V : World, Below w.heap.size w V → R = g → ∃ a c, Value.tuple #[.agg #[.slice ga n gc], .bool false] = .tuple #[.agg #[.slice a m c], .bool (false && decide (0 < n))] ∧ FrsIn (fun b => S b ∨ w.heap.size ≤ b) V (.slice a m c) R) := fun V hV e => by
    have em : m = n := by rw [HM.out, HN.out, e]
    rw [em, e]
    exact ⟨ga, gc, by simp, (HG.out.below hV).mono fun _ _ h => .inl h⟩
  by_cases hn0 : n = 0
  · have hRg : R = g := by rw [HR.out]; unfold growG; rw [if_neg (by simp), if_pos (.inl (by rw [← HN.out]; exact hn0))]
    have HRG : Hid (R = g) := hRg
    clear hRg
    subst hn0
    go_enter Tryz.func53, Tryz.ntmps53
    go_wp2_with fail
    go_quiet (fail)
    go_wp2
    have bel : ∀ k, Below w.heap.size w (((((w.alloc (.cells #[.slice ga 0 gc] 25)).alloc (.cells #[.int .i64 time, .bool false, .slice pa pn pc] 30)).alloc (.cells #[.slice none 0 0] 25)).drewN k).setCell ⟨w.heap.size + 1 + 1, 0, none⟩ (.slice ga 0 gc)) := fun k => (by repeat first | exact Below.refl _ _ | refine Below.setCell ?_ (by simp <;> omega) _ | refine below_drewN ?_ _ | refine Below.alloc ?_ (by simp <;> omega) _)
    obtain ⟨a, c, e1, e2⟩ := HSAME.out _ (bel _) HRG.out
    exact bodyPost_ret (v := .tuple #[.agg #[.slice ga 0 gc], .bool false]) (by simp [results, Tryz.results53, go_sem]) rfl ⟨a, c, congrArg Ending.returned e1, e2, bel _⟩
  by_cases hn6 : n = 6
  · have hRg : R = g := by rw [HR.out]; unfold growG; rw [if_neg (by simp), if_pos (.inr (.inl (by rw [← HN.out]; omega)))]
    have HRG : Hid (R = g) := hRg
    clear hRg hn0
    subst hn6
    go_enter Tryz.func53, Tryz.ntmps53
    go_wp2_with fail
    go_quiet (fail)
    go_wp2
    have bel : ∀ k, Below w.heap.size w (((((w.alloc (.cells #[.slice ga 6 gc] 25)).alloc (.cells #[.int .i64 time, .bool false, .slice pa pn pc] 30)).alloc (.cells #[.slice none 0 0] 25)).drewN k).setCell ⟨w.heap.size + 1 + 1, 0, none⟩ (.slice ga 6 gc)) := fun k => (by repeat first | exact Below.refl _ _ | refine Below.setCell ?_ (by simp <;> omega) _ | refine below_drewN ?_ _ | refine Below.alloc ?_ (by simp <;> omega) _)
    obtain ⟨a, c, e1, e2⟩ := HSAME.out _ (bel _) HRG.out
    exact bodyPost_ret (v := .tuple #[.agg #[.slice ga 6 gc], .bool false]) (by simp [results, Tryz.results53, go_sem]) rfl ⟨a, c, congrArg Ending.returned e1, e2, bel _⟩
  obtain ⟨ao, c', eg, _, _, hc⟩ := HG.out
  rw [← HN.out] at eg
  injection eg with eg eg1 eg2
  subst eg eg2
  obtain ⟨b, off, e1, hb, hSb, pv', c0, _⟩ := hc (n - 1) (by rw [← HN.out]; omega)
  obtain ⟨n1, hn1⟩ : ∃ n1, n1 = n - 1 := ⟨_, rfl⟩
  rw [← hn1] at c0
  obtain ⟨t', ht'⟩ : ∃ t', t' = (frAt g n1).time := ⟨_, rfl⟩
  rw [show (g[n1]?.getD Fr.zero).time = t' from ht'.symm] at c0
  subst e1
  have HT : Hid (t' = (frAt g (g.length - 1)).time) := by show _ = _; rw [ht', hn1, HN.out]
  have hn1i : (n : Int) - 1 = (n1 : Int) := by omega
  have hn1l : (n1 : Int) < (n : Int) := by omega
  have hn1w : IntKind.i64.wrap (n1 : Int) = (n1 : Int) := by rw [IntKind.wrap_i64]; omega
  have hb1 : b < w.heap.size + 1 := by omega
  have hb2 : b < w.heap.size + 1 + 1 := by omega
  have hn0i : ((n : Int) == 0) = false := by simp; omega
  have hn6i : ((n : Int) == 6) = false := by simp; omega
  have hn0j : ¬ (n : Int) = 0 := by omega
  have hn6j : ¬ (n : Int) = 6 := by omega
  clear hc ht' hn1
  by_cases htl : time < t'
  · have hRg : R = g := by rw [HR.out]; unfold growG; rw [if_neg (by simp), if_pos (.inr (.inr (by rw [← HT.out]; exact htl)))]
    have HRG : Hid (R = g) := hRg
    clear hRg
    have htd : decide (time < t') = true := decide_eq_true htl
    go_enter Tryz.func53, Tryz.ntmps53
    go_wp2_with fail
    go_quiet (fail)
    go_wp2
    have bel : ∀ k, Below w.heap.size w (((((w.alloc (.cells #[.slice (some ⟨b, off, none⟩) n gc] 25)).alloc (.cells #[.int .i64 time, .bool false, .slice pa pn pc] 30)).alloc (.cells #[.slice none 0 0] 25)).drewN k).setCell ⟨w.heap.size + 1 + 1, 0, none⟩ (.slice (some ⟨b, off, none⟩) n gc)) := fun k => (by repeat first | exact Below.refl _ _ | refine Below.setCell ?_ (by simp <;> omega) _ | refine below_drewN ?_ _ | refine Below.alloc ?_ (by simp <;> omega) _)
    obtain ⟨a, c, e1, e2⟩ := HSAME.out _ (bel _) HRG.out
    exact bodyPost_ret (v := .tuple #[.agg #[.slice (some ⟨b, off, none⟩) n gc], .bool false]) (by simp [results, Tryz.results53, go_sem]) rfl ⟨a, c, congrArg Ending.returned e1, e2, bel _⟩
  · have hRg : R = g ++ [⟨time, false, parts⟩] := by
      rw [HR.out]; unfold growG
      rw [if_neg (by simp), if_neg (by rw [← HT.out, ← HN.out]; simp only; omega)]
    have HRG : Hid (R = g ++ [⟨time, false, parts⟩]) := hRg
    have HM1 : Hid (m = n + 1) := by show _ = _; rw [HM.out, hRg, HN.out]; simp
    clear hRg
    have htd : decide (time < t') = false := decide_eq_false htl
    go_enter Tryz.func53, Tryz.ntmps53
    go_wp2_with fail
    go_quiet (fail)
    obtain ⟨ps, q1, q2, q3⟩ := HG.out.sl
    have hpl : ps.length = n := by rw [HN.out, ← q1]; simp
    rw [hpl] at q2
    obtain ⟨V, hV⟩ : ∃ V, V = (((w.alloc (.cells #[.slice (some ⟨b, off, none⟩) n gc] 25)).alloc (.cells #[.int .i64 time, .bool false, .slice pa pn pc] 30)).alloc (.cells #[.slice none 0 0] 25)).drewN nq := ⟨_, rfl⟩
    have BV : Below w.heap.size w V := by rw [hV]; repeat first | exact Below.refl _ _ | refine below_drewN ?_ _ | refine Below.alloc ?_ (by simp <;> omega) _
    have KG : Blk V w.heap.size #[.slice (some ⟨b, off, none⟩) n gc] 25 := by rw [hV]; exact ((Blk.new w _ _).alloc _).alloc _
    have KF : Blk V (w.heap.size + 1) #[.int .i64 time, .bool false, .slice pa pn pc] 30 := by
      have := (Blk.new (w.alloc (.cells #[.slice (some ⟨b, off, none⟩) n gc] 25)) #[.int .i64 time, .bool false, .slice pa pn pc] 30).alloc (.cells #[.slice none 0 0] 25)
      rw [hV]; exact (by simpa using this : Blk _ _ _ _).drewN _
    have KR : Blk V (w.heap.size + 1 + 1) #[.slice none 0 0] 25 := by
      have := Blk.new ((w.alloc (.cells #[.slice (some ⟨b, off, none⟩) n gc] 25)).alloc (.cells #[.int .i64 time, .bool false, .slice pa pn pc] 30)) #[.slice none 0 0] 25
      rw [hV]; exact (by simpa using this : Blk _ _ _ _).drewN _
    have hpS : StrsIn S V (.slice pa pn pc) parts := HP.out.below BV
    have happ : App1 Tryz.prog V 23 30 23 3 n (frCells ps) (.slice (some ⟨b, off, none⟩) n gc) :=
      app1_any V _ _ _ i0 _ 3 40 Tryz.underlying23 hi hz0 hz1 hz2 rfl (by decide) n (frCells ps) _ (q2.below BV) (fr_one2 q3) (by unfold maxLen; omega) (by omega)
    go_wp2_with fail
    rw [← hV]
    clear hV c0
    refine region_app3 (t := [_, _]) (fun v => .agg #[v]) (by kernel_rfl) (by kernel_rfl) (by kernel_rfl) (by kernel_rfl) (by kernel_rfl) 23 30 i0 _ 3 40 Tryz.underlying23 hi hz0 hz1 hz2 rfl (by decide) 36 37 38 39 40 41 42 43 2 rfl rfl rfl rfl rfl rfl rfl rfl (by rfl) n (frCells ps) (.slice (some ⟨b, off, none⟩) n gc) happ
      [.int .i64 time, .bool false, .slice pa pn pc] rfl ?hx1 (.pointer (some ⟨w.heap.size, 0, none⟩)) (.agg #[.int .i64 time, .bool false, .slice pa pn pc]) 3 (by rfl) ?r0 ?r1 ?r2 rfl ?r4 ?r5 rfl ?r7 (by unfold maxLen; omega) (by omega) ?fin
    case hx1 => intro u hu; simp at hu; rcases hu with rfl | rfl | rfl <;> rfl
    case r0 =>
      intro a' w'
      generalize a'.eval = ρ
      simp [execOp, go_sem]
    case r1 =>
      intro a' w' h
      have h2 : a'.eval (.tmp 2) = .pointer (some ⟨w.heap.size, 0, none⟩) := h.trans rfl
      clear h
      generalize a'.eval = ρ at *
      simp [execOp, go_sem, h2]
    case r2 =>
      intro a' w' h hb
      have c1 := (KG.below hb KG.lt).one
      generalize a'.eval = ρ at *
      simp [execOp, go_sem, h, c1]
    case r4 =>
      intro a' w' h hb
      have h2 : a'.eval (.tmp 3) = .pointer (some ⟨w.heap.size + 1, 0, none⟩) := h.trans rfl
      obtain ⟨y0, y1, y2⟩ := (KF.below hb KF.lt).three
      clear h
      generalize a'.eval = ρ at *
      simp [execOp, go_sem, h2, y0, y1, y2]
    case r5 =>
      intro a' w' h
      generalize a'.eval = ρ at *
      simp [execOp, go_sem, h]
    case r7 =>
      intro a' w' x c h
      generalize a'.eval = ρ at *
      simp [execOp, go_sem, h]
    case fin =>
      intro u0 u3 u5 v7 w7 hown7 hb7
      obtain ⟨a2, c2, hv7⟩ := Sl.len (Sl.of_owns hown7)
      have B7 : Below w.heap.size w w7 := BV.trans (hb7.mono BV.size)
      have K7 := KR.below hb7 KR.lt
      have r1 := K7.one
      have r2 := K7.free 0
      have hsz7 := BV.size
      have hne : ∀ g, v7.ownBlock = some g → V.heap.size ≤ g := fun g hg => (hown7.lt g hg).1
      have hKR := KR.lt
      have O7 : OwnFrs V.heap.size (fun g => S g ∧ g < w.heap.size) w7 v7 (g ++ [⟨time, false, parts⟩]) := by
        refine ⟨ps ++ [(⟨time, false, parts⟩, .slice pa pn pc)], by rw [List.map_append, q1]; rfl, by rw [List.length_append, hpl, frCells_append]; exact hown7, fun p hpp => ?_⟩
        rcases List.mem_append.1 hpp with hpp | hpp
        · exact ((q3 p hpp).mono (S' := fun g => S g ∧ g < w.heap.size) fun g h1 h2 => ⟨h2, h1⟩).below B7
        · simp at hpp
          subst hpp
          exact (HP.out.mono (S' := fun g => S g ∧ g < w.heap.size) fun g h1 h2 => ⟨h2, h1⟩).below B7
      have F7 : FrsIn (fun g => (S g ∧ g < w.heap.size) ∨ V.heap.size ≤ g) w7 v7 (g ++ [⟨time, false, parts⟩]) := O7.frsIn (fun _ _ h => .inl h) (fun g hg => .inr (hne g hg))
      have F8 : FrsIn (fun b => S b ∨ w.heap.size ≤ b) (w7.setCell ⟨w.heap.size + 1 + 1, 0, none⟩ v7) v7 (g ++ [⟨time, false, parts⟩]) := by
        refine F7.to (SameOn.setCell (fun g hg => ?_) _) (fun g _ hg => ?_)
        · rcases hg with hg | hg
          · have := hg.2; simp; omega
          · simp; omega
        · rcases hg with hg | hg
          · exact .inl hg.1
          · exact .inr (by omega)
      have B8 : Below w.heap.size w (w7.setCell ⟨w.heap.size + 1 + 1, 0, none⟩ v7) := B7.setCell (by simp; omega) _
      have c8 : (w7.setCell ⟨w.heap.size + 1 + 1, 0, none⟩ v7).cell? ⟨w.heap.size + 1 + 1, 0, none⟩ = some v7 := (K7.set 0 v7).cell rfl
      have FR : Hid (FrsIn (fun b => S b ∨ w.heap.size ≤ b) (w7.setCell ⟨w.heap.size + 1 + 1, 0, none⟩ v7) v7 (g ++ [⟨time, false, parts⟩]) ∧ Below w.heap.size w (w7.setCell ⟨w.heap.size + 1 + 1, 0, none⟩ v7)) := ⟨F8, B8⟩
      subst hv7
      refine tl_skip2 (w7.setCell ⟨w.heap.size + 1 + 1, 0, none⟩ (.slice a2 (n + 1) c2)) (.tmp 4) (.tmp 43) (.pointer (some ⟨w.heap.size + 1 + 1, 0, none⟩)) (.agg #[.slice a2 (n + 1) c2]) (by kernel_rfl) (by kernel_rfl) (fun ρ e4 e43 => by simp [execOp, go_sem, e4, e43, r1, r2]) ?_
      refine tl_ok1 (.bool false) (.const (.bool false)) (.bool false) rfl (w' := w7.setCell ⟨w.heap.size + 1 + 1, 0, none⟩ (.slice a2 (n + 1) c2)) (fun ρ e => by simp [execOp, go_sem, e]) ?_
      generalize hU : w7.setCell ⟨w.heap.size + 1 + 1, 0, none⟩ _ = U at *
      clear hU r1 r2 K7 F7 O7 F8 B8 B7 hown7 hb7 happ
      refine tl_end ?_
      go_wp2_with fail
      rw [HM1.out, HRG.out]
      exact bodyPost_ret (v := .tuple #[.agg #[.slice a2 (n + 1) c2], .bool false]) (by simp [results, Tryz.results53, go_sem, c8]) rfl ⟨a2, c2, by simp, FR.out.1, FR.out.2⟩

end Go.Proofs.YtnpaejknoipicafGreat

namespace Go.Proofs.YtnpaejknoipicafGreat
open Go.RowKit

/-- an operation of such a region -/
inductive Cb where
  | quiet (v : Value) (lim : Nat)
  | step (s : Nat)
  | fin (t : Nat) (f : Value → Value)
  | box
def cbAt (ks : List Cb) (i : Nat) : Cb := (ks[i]?).getD (.quiet undef 0)
def Cb.out (r : Nat → Value) (b : Option Nat) : Cb → Value
  | .quiet v _ => v
  | .step s => r s
  | .fin t f => f (r t)
  | .box => match b with
    | some g => .pointer (some ⟨g, 0, none⟩)
    | none => undef
def Cb.isBox : Cb → Bool
  | .box => true
  | _ => false
def putB (r : Nat → Value) (b : Option Nat) : List Cb → List Oper → Act → Act
  | d :: ks, o :: l, a => putB r b ks l (a.put o.dst (d.out r b))
  | _, _, a => a
/-- the steps' places; what waits for what -/
def boxOk (ks : List Cb) (l : List Oper) (st : List Nat) (bx n : Nat) : Bool :=
  decide (ks.length = l.length) && (l.all fun o => match o.dst with | some k => decide (k < n) | none => true) &&
  ((List.range st.length).all fun s => match st[s]? with
    | some i => decide (i < l.length) && (match cbAt ks i with | .step t => t == s | _ => false) && (s == 0 || (match st[s - 1]? with | some j => waits l i j | none => false))
    | none => false) &&
  ((List.range l.length).all fun i => match cbAt ks i with
    | .quiet _ lim => decide (st.length ≤ lim) || (match st[lim]? with | some j => waits l j i | none => false)
    | .step t => st[t]? == some i
    | .fin t _ => (List.range l.length).any fun j => waits l i j && (match cbAt ks j with | .step t' => t' == t | .fin t' _ => t' == t | _ => false)
    | .box => i == bx) && decide (bx < l.length) && (cbAt ks bx).isBox

section
variable {P : Program} {Q : Exit → Act → World → Prop}

structure RB (ks : List Cb) (l : List Oper) (n m bx : Nat) (I : Nat → (Nat → Value) → Option Nat → World → Prop) (ls : Nat → Bool) (vs : Nat → Value) (s : Nat) (r : Nat → Value) (b : Option Nat) (w' : World) : Prop where
  lt : ∀ i, ls i = true → i < n
  steps : ∀ i t, i < n → cbAt ks i = .step t → (ls i = true ↔ t < s)
  fins : ∀ i t f, ls i = true → cbAt ks i = .fin t f → t < s
  box : ls bx = true ↔ b.isSome = true
  vals : ∀ i, ls i = true → vs i = (cbAt ks i).out r b
  inv : I s r b w'
  le : s ≤ m
  closed : ∀ i j, ls j = true → waits l j i = true → ls i = true

theorem putB_all (L : Array Bool) (vs : Nat → Value) (r : Nat → Value) (b : Option Nat) : ∀ (l : List Oper) (k : Nat) (ks : List Cb) (a : Act), ks.length = l.length → (∀ i, i < l.length → L.getD (k + i) false = true) → (∀ i, i < l.length → vs (k + i) = (cbAt ks i).out r b) → putL L vs k l a = putB r b ks l a
  | [], _, [], _, _, _, _ => rfl
  | o :: l, k, d :: ks, a, hl, hL, hv => by
    simp only [putL, putB]
    rw [if_pos (by simpa using hL 0 (by simp)), show vs k = d.out r b by simpa [cbAt] using hv 0 (by simp)]
    refine putB_all L vs r b l (k + 1) ks _ (by simpa using hl) (fun i hi => ?_) (fun i hi => ?_)
    · have := hL (i + 1) (by simpa using hi)
      rw [show k + (i + 1) = k + 1 + i by omega] at this; exact this
    · have := hv (i + 1) (by simpa using hi)
      rw [show k + (i + 1) = k + 1 + i by omega] at this
      simpa [cbAt] using this

theorem region_box {id : Nat} {a : Act} {w : World} {l : List Oper} (hm : P.follows .mixedOrders = true) (hB : regOk l = true) (ks : List Cb) (st : List Nat) (bx : Nat) (hK : boxOk ks l st bx a.tmps.size = true)
    (I : Nat → (Nat → Value) → Option Nat → World → Prop) (h0 : I 0 (fun _ => undef) none { w with drawn := w.drawn + 1 })
    (hstep : ∀ i o, l[i]? = some o → ∀ (a' : Act) (w' : World) (s : Nat) (r : Nat → Value) (b : Option Nat), I s r b w' → (∀ s, (l.all fun o => o.dst != some s) = true → a'.eval (.tmp s) = a.eval (.tmp s)) → (∀ j oj k, waits l i j = true → l[j]? = some oj → oj.dst = some k → a'.eval (.tmp k) = (cbAt ks j).out r b) → (waits l i bx = true → b.isSome = true) →
      match cbAt ks i with
      | .quiet v lim => s ≤ lim → (execOp a'.eval o).run P w' = .ok (.value v) w'
      | .step t => s = t → o.wp P a' w' (fun a'' w'' => ∃ v, a'' = a'.put o.dst v ∧ I (t + 1) (updR r t v) b w'') Q
      | .fin t f => t < s → (execOp a'.eval o).run P w' = .ok (.value (f (r t))) w'
      | .box => b = none → ∃ ob, (execOp a'.eval o).run P w' = .ok (.value (.pointer (some ⟨w'.heap.size, 0, none⟩))) (w'.alloc ob) ∧ I s r (some w'.heap.size) (w'.alloc ob))
    (hend : ∀ (r : Nat → Value) (g : Nat) (w' : World), I st.length r (some g) w' → Q .normal (putB r (some g) ks l a) w') :
    (Code.region id l.toArray true).wp P Q a w := by
  simp only [boxOk, Bool.and_eq_true, decide_eq_true_eq] at hK
  obtain ⟨⟨⟨⟨⟨hlen, hdst⟩, hst⟩, hall⟩, hbl⟩, hbb⟩ := hK
  have hbk : cbAt ks bx = .box := by cases h : cbAt ks bx <;> rw [h] at hbb <;> first | rfl | cases hbb
  have hap : dstsApart l = true := by simp only [regOk, Bool.and_eq_true] at hB; exact hB.1.1
  have hal : ∀ i, i < l.length → _ := fun i hi => List.all_eq_true.1 hall i (List.mem_range.2 hi)
  have hsl : ∀ s, s < st.length → _ := fun s hs => List.all_eq_true.1 hst s (List.mem_range.2 hs)
  have hstp : ∀ s, s < st.length → ∃ i, st[s]? = some i ∧ i < l.length ∧ cbAt ks i = .step s ∧ (0 < s → ∃ j, st[s - 1]? = some j ∧ waits l i j = true) := fun s hs => by
    have h := hsl s hs
    have e : st[s]? = some st[s] := List.getElem?_eq_getElem hs
    rw [e] at h
    simp only [Bool.and_eq_true, decide_eq_true_eq, Bool.or_eq_true, beq_iff_eq] at h
    refine ⟨st[s], e, h.1.1, ?_, fun h0 => ?_⟩
    · have h2 := h.1.2
      cases hk : cbAt ks st[s] with
      | quiet v lim => rw [hk] at h2; cases h2
      | fin t f => rw [hk] at h2; cases h2
      | box => rw [hk] at h2; cases h2
      | step t => rw [hk] at h2; simp at h2; rw [h2]
    · have h3 := h.2
      rcases h3 with h3 | h3
      · omega
      · have e2 : st[s - 1]? = some st[s - 1] := List.getElem?_eq_getElem (by omega)
        rw [e2] at h3
        exact ⟨_, e2, h3⟩
  have hst2 : ∀ i t, i < l.length → cbAt ks i = .step t → st[t]? = some i := fun i t hi hk => by
    have h := hal i hi
    rw [hk] at h
    simpa using h
  refine wp_region_inv hm hB (fun L vs w' => ∃ s r b, RB ks l l.length st.length bx I (fun j => L.getD j false) vs s r b w') ?_ ?_ ?_
  · have hno : ∀ j, ¬ (Array.replicate l.length false).getD j false = true := fun j => by
      simp [Array.getD_eq_getD_getElem?, Array.getElem?_replicate]; split <;> simp
    exact ⟨0, fun _ => undef, none, fun i h => absurd h (hno i), fun i t _ _ => ⟨fun h => absurd h (hno i), fun h => absurd h (Nat.not_lt_zero _)⟩, fun i _ _ h => absurd h (hno i), ⟨fun h => absurd h (hno bx), fun h => by cases h⟩, fun i h => absurd h (hno i), h0, Nat.zero_le _, fun _ j h => absurd h (hno j)⟩
  · rintro L vs w' ⟨s, r, b, F⟩ i o ho hL hr
    have hi : i < l.length := (List.getElem?_eq_some_iff.1 ho).1
    have ni : L.getD i false = false := by simpa using listed_no hL
    have hset := setfun hL
    have hwt : ∀ j, waits l i j = true → L.getD j false = true := fun j hw => waits_spec hw ho hr
    have hfree : ∀ s, (l.all fun o => o.dst != some s) = true → (putL L vs 0 l a).eval (.tmp s) = a.eval (.tmp s) := fun s hs => putL_other l 0 a (fun p hp t ht e => by
      injection e with e
      subst e
      have := List.all_eq_true.1 hs p hp
      rw [ht] at this
      simp at this)
    have hvals : ∀ j oj k, waits l i j = true → l[j]? = some oj → oj.dst = some k → (putL L vs 0 l a).eval (.tmp k) = (cbAt ks j).out r b := fun j oj k hw hoj hk => by
      have h1 := hwt j hw
      have hk2 := List.all_eq_true.1 hdst oj (List.mem_of_getElem? hoj)
      rw [hk] at hk2
      rw [putL_at h1 l 0 a oj hap (Nat.zero_le _) (by simpa using hoj) hk (by simpa using hk2)]
      exact F.vals j h1
    have hs := hstep i o ho (putL L vs 0 l a) w' s r b F.inv hfree hvals (fun hw => F.box.1 (hwt bx hw))
    rw [hset]
    obtain ⟨ls, hls⟩ : ∃ ls : Nat → Bool, ls = fun j => L.getD j false := ⟨_, rfl⟩
    have hlsj : ∀ j, L.getD j false = ls j := fun j => by rw [hls]
    simp only [hlsj] at F ni hwt ⊢
    have hlt' : ∀ j, (decide (j = i) || ls j) = true → j < l.length := fun j hj => by
      simp only [Bool.or_eq_true, decide_eq_true_eq] at hj
      rcases hj with rfl | hj
      · exact hi
      · exact F.lt j hj
    have hcl : ∀ p j, (decide (j = i) || ls j) = true → waits l j p = true → (decide (p = i) || ls p) = true := fun p j hj hw => by
      simp only [Bool.or_eq_true, decide_eq_true_eq] at hj ⊢
      rcases hj with rfl | hj
      · exact .inr (hwt p hw)
      · exact .inr (F.closed p j hj hw)
    have hbne : ∀ k, cbAt ks i = k → k.isBox = false → bx ≠ i := fun k h1 h2 e => by subst e; rw [hbk] at h1; subst h1; cases h2
    have hbxs : ∀ k, cbAt ks i = k → k.isBox = false → ((decide (bx = i) || ls bx) = true ↔ b.isSome = true) := fun k h1 h2 => by
      have := hbne k h1 h2
      simpa [this] using F.box
    have plain : ∀ (k : Cb) (v : Value), cbAt ks i = k → k.isBox = false → (∀ t, k ≠ .step t) → (∀ t f, k = .fin t f → t < s) → k.out r b = v → ∃ s r b, RB ks l l.length st.length bx I (fun j => decide (j = i) || ls j) (upd vs i v) s r b w' := fun k v hk h1 h2 h3 h4 => by
      refine ⟨s, r, b, hlt', ?_, ?_, hbxs k hk h1, ?_, F.inv, F.le, hcl⟩
      · intro j t hj hjk
        have e : j ≠ i := fun e => by subst e; rw [hk] at hjk; exact h2 t hjk
        simpa [e] using F.steps j t hj hjk
      · intro j t f hj hjk
        by_cases e : j = i
        · subst e; rw [hk] at hjk; exact h3 t f hjk
        · exact F.fins j t f (by simpa [e] using hj) hjk
      · intro j hj
        by_cases e : j = i
        · subst e; rw [upd_at, hk, h4]
        · rw [upd_ne e]; exact F.vals j (by simpa [e] using hj)
    cases hk : cbAt ks i with
    | fin t f =>
      rw [hk] at hs
      have hts : t < s := by
        have h := hal i hi
        rw [hk] at h
        obtain ⟨j, hjm, hj⟩ := List.any_eq_true.1 h
        simp only [Bool.and_eq_true] at hj
        have hjl := hwt j hj.1
        have h2 := hj.2
        cases hkj : cbAt ks j with
        | quiet v lim => rw [hkj] at h2; cases h2
        | box => rw [hkj] at h2; cases h2
        | step t' => rw [hkj] at h2; simp at h2; subst h2; exact (F.steps j t' (F.lt j hjl) hkj).1 hjl
        | fin t' f' => rw [hkj] at h2; simp at h2; subst h2; exact F.fins j t' f' hjl hkj
      exact oper_wp_ok (hs hts) ⟨_, rfl, plain (.fin t f) _ hk rfl (fun _ e => by cases e) (fun t' f' e => by injection e with e1; omega) rfl⟩
    | box =>
      rw [hk] at hs
      have hib : i = bx := by
        have h := hal i hi
        rw [hk] at h
        simpa using h
      subst hib
      have hb0 : b = none := by
        cases b with
        | none => rfl
        | some g => have := F.box.2 rfl; rw [this] at ni; cases ni
      subst hb0
      obtain ⟨ob, h1, h2⟩ := hs rfl
      refine oper_wp_ok h1 ⟨_, rfl, s, r, some w'.heap.size, hlt', ?_, ?_, ⟨fun _ => rfl, fun _ => by simp⟩, ?_, h2, F.le, hcl⟩
      · intro j t hj hjk
        have e : j ≠ i := fun e => by subst e; rw [hk] at hjk; cases hjk
        simpa [e] using F.steps j t hj hjk
      · intro j t f hj hjk
        have e : j ≠ i := fun e => by subst e; rw [hk] at hjk; cases hjk
        exact F.fins j t f (by simpa [e] using hj) hjk
      · intro j hj
        by_cases e : j = i
        · subst e; rw [upd_at, hk]; rfl
        · have hlj : ls j = true := by simpa [e] using hj
          rw [upd_ne e, F.vals j hlj]
          have hjb : cbAt ks j ≠ .box := fun e' => by
            have h := hal j (F.lt j hlj)
            rw [e'] at h
            exact e (by simpa using h)
          cases hkj : cbAt ks j with
          | quiet v' lim' => rfl
          | step t' => rfl
          | fin t' f' => rfl
          | box => exact absurd hkj hjb
    | quiet v lim =>
      rw [hk] at hs
      have hle : s ≤ lim := by
        have h := hal i hi
        rw [hk] at h
        simp only [Bool.or_eq_true, decide_eq_true_eq] at h
        rcases h with h | h
        · exact Nat.le_trans F.le h
        · by_cases hlt : s ≤ lim
          · exact hlt
          · exfalso
            have hll : lim < st.length := by have := F.le; omega
            obtain ⟨j, e1, e2, e3, _⟩ := hstp lim hll
            rw [e1] at h
            have hlj := (F.steps j lim e2 e3).2 (by omega)
            rw [F.closed i j hlj h] at ni
            cases ni
      exact oper_wp_ok (hs hle) ⟨v, rfl, plain (.quiet v lim) v hk rfl (fun _ e => by cases e) (fun _ _ e => by cases e) rfl⟩
    | step t =>
      rw [hk] at hs
      have hti := hst2 i t hi hk
      have htl : t < st.length := (List.getElem?_eq_some_iff.1 hti).1
      have hst' : s = t := by
        have h1 : ¬ t < s := fun h => by rw [(F.steps i t hi hk).2 h] at ni; cases ni
        by_cases h0 : t = 0
        · omega
        · obtain ⟨i', e1, e2, e3, e4⟩ := hstp t htl
          rw [hti] at e1
          injection e1 with e1
          subst e1
          obtain ⟨j, q1, q2⟩ := e4 (by omega)
          obtain ⟨j', r1, r2, r3, _⟩ := hstp (t - 1) (by omega)
          rw [q1] at r1
          injection r1 with r1
          subst r1
          have := (F.steps j (t - 1) r2 r3).1 (hwt j q2)
          omega
      subst hst'
      refine Oper.wp_mono ?_ (hs rfl)
      rintro a'' w'' ⟨v, h1, h2⟩
      refine ⟨v, h1, s + 1, updR r s v, b, hlt', ?_, ?_, hbxs _ hk rfl, ?_, h2, htl, hcl⟩
      · intro j t' hj hjk
        by_cases e : j = i
        · subst e
          rw [hk] at hjk
          injection hjk with hjk
          subst hjk
          simp
        · have h3 := F.steps j t' hj hjk
          have hne : t' ≠ s := fun e' => by
            subst e'
            have := hst2 j t' hj hjk
            rw [hti] at this
            injection this with this
            exact e this.symm
          simp only [e, decide_false, Bool.false_or]
          rw [h3]; omega
      · intro j t' f hj hjk
        have e : j ≠ i := fun e => by subst e; rw [hk] at hjk; cases hjk
        have := F.fins j t' f (by simpa [e] using hj) hjk
        omega
      · intro j hj
        by_cases e : j = i
        · subst e; rw [upd_at, hk]; exact (updR_at r s v).symm
        · have hlj : ls j = true := by simpa [e] using hj
          rw [upd_ne e, F.vals j hlj]
          cases hkj : cbAt ks j with
          | quiet v' lim' => rfl
          | box => rfl
          | fin t' f' =>
            have := F.fins j t' f' hlj hkj
            exact congrArg f' (updR_ne (by omega)).symm
          | step t' =>
            have := (F.steps j t' (F.lt j hlj) hkj).1 hlj
            exact (updR_ne (by omega)).symm
  · rintro L vs w' ⟨s, r, b, F⟩ hlst
    have hs : s = st.length := by
      by_cases h : s < st.length
      · obtain ⟨i, e1, e2, e3, _⟩ := hstp s h
        have := (F.steps i s e2 e3).1 (hlst i e2)
        omega
      · have := F.le; omega
    subst hs
    obtain ⟨g, hg⟩ : ∃ g, b = some g := Option.isSome_iff_exists.1 (F.box.1 (hlst bx hbl))
    subst hg
    rw [putB_all L vs r (some g) l 0 ks a hlen (fun i hi => by rw [Nat.zero_add]; exact hlst i hi) (fun i hi => by rw [Nat.zero_add]; exact F.vals i (hlst i hi))]
    exact hend r g w' F.inv
end
end Go.Proofs.YtnpaejknoipicafGreat

namespace Go.Proofs.YtnpaejknoipicafGreat
open Go.RowKit

def gon (o : List Fr) (f : Fr) : Bool := decide (0 < o.length) && decide (o.length < 6) && decide ((frAt o (o.length - 1)).time ≤ f.time)
theorem gon_grow {o : List Fr} {f : Fr} (hk : f.key = false) : growG o f = if gon o f then o ++ [f] else o := by
  unfold growG gon
  rw [if_neg (by simp [hk])]
  by_cases h : o.length = 0 ∨ 6 ≤ o.length ∨ f.time < (frAt o (o.length - 1)).time
  · rw [if_pos h, if_neg]
    simp only [Bool.and_eq_true, decide_eq_true_eq]
    omega
  · rw [if_neg h, if_pos]
    simp only [Bool.and_eq_true, decide_eq_true_eq]
    omega

set_option maxHeartbeats 2000000 in
theorem goesOn_any (base M : Nat) (fv cv : Value) (o : List Fr) (cl : List (List Fr)) (f : Fr) (pa : Option Addr) (pn pc : Nat) (w : World) (hM : GMk base M w fv cv o cl) :
    Calls Tryz.prog 167 #[.pointer (some ⟨M, 0, none⟩), .agg #[.int .i64 f.time, .bool f.key, .slice pa pn pc]] w fun e w' => e = .returned (.bool (gon o f)) ∧ Below w.heap.size w w' := by
  obtain ⟨kM, hF, _⟩ := hM
  obtain ⟨ao, c, efv, h1, h2, hc⟩ := hF.frsIn (S' := fun _ => True) (fun _ _ _ => trivial) (fun _ _ => trivial)
  obtain ⟨n, hn⟩ : ∃ n, n = o.length := ⟨_, rfl⟩
  rw [← hn] at efv h1
  have k0 := kM.two.1
  have hMw := kM.lt
  have hMw1 : M < w.heap.size + 1 := by omega
  rw [efv] at k0
  unfold gon
  rw [← hn]
  obtain ⟨t, k, ps⟩ := f
  simp only
  by_cases h0 : n = 0
  · have hd : decide (0 < n) = false := decide_eq_false (by omega)
    rw [hd]
    subst h0
    clear hn hc efv kM hF
    go_enter Tryz.func167, Tryz.ntmps167
    go_wp2_with fail
    go_quiet (fail)
    go_wp2
    go_ret
    exact ⟨by simp, below_drewN ((Below.refl _ w).alloc (Nat.le_refl _) _) _⟩
  · have hd : decide (0 < n) = true := decide_eq_true (by omega)
    rw [hd, Bool.true_and]
    by_cases h6 : n < 6
    · have hd6 : decide (n < 6) = true := decide_eq_true h6
      rw [hd6, Bool.true_and]
      obtain ⟨b, off, e1, hb, _, pv, c0, _⟩ := hc (n - 1) (by omega)
      obtain ⟨n1, hn1⟩ : ∃ n1, n1 = n - 1 := ⟨_, rfl⟩
      rw [← hn1] at c0 ⊢
      obtain ⟨t', ht'⟩ : ∃ t', t' = (frAt o n1).time := ⟨_, rfl⟩
      rw [show (o[n1]?.getD Fr.zero).time = t' from ht'.symm] at c0
      rw [← ht']
      subst e1
      have hn1i : (n : Int) - 1 = (n1 : Int) := by omega
      have hn1l : (n1 : Int) < (n : Int) := by omega
      have hn1w : IntKind.i64.wrap (n1 : Int) = (n1 : Int) := by rw [IntKind.wrap_i64]; omega
      have hn6i : (n : Int) < 6 := by omega
      have hb1 : b < w.heap.size + 1 := by omega
      clear hn hc efv kM hF ht' hn1
      go_enter Tryz.func167, Tryz.ntmps167
      go_wp2_with fail
      go_quiet (fail)
      go_wp2
      go_ret
      exact ⟨by simp, below_drewN ((Below.refl _ w).alloc (Nat.le_refl _) _) _⟩
    · have hd6 : decide (n < 6) = false := decide_eq_false h6
      rw [hd6, Bool.false_and]
      have hn6i : ¬ (n : Int) < 6 := by omega
      have hd6i : decide ((n : Int) < 6) = false := decide_eq_false hn6i
      clear hn hc efv kM hF
      go_enter Tryz.func167, Tryz.ntmps167
      go_wp2_with fail
      go_quiet (fail)
      go_wp2
      go_ret
      exact ⟨by simp, below_drewN ((Below.refl _ w).alloc (Nat.le_refl _) _) _⟩

set_option maxHeartbeats 4000000 in
set_option maxRecDepth 100000 in
theorem groupTake_any (base M : Nat) (fv cv : Value) (o : List Fr) (cl : List (List Fr)) (f : Fr) (pv : Value) (w : World) (hM : GMk base M w fv cv o cl) (hbM : base ≤ M) (ho : o.length ≤ 6) (hcl : cl.length ≤ 1000) (hp : StrsIn (fun g => g < base) w pv f.parts) (hf : f.chk = 0) :
    Calls Tryz.prog 143 #[.pointer (some ⟨M, 0, none⟩), .agg #[.int .i64 f.time, .bool f.key, pv]] w fun e w' => e = .returned (.tuple #[]) ∧ GMake base M w' (growG o f) (if f.key && decide (0 < o.length) then cl ++ [o] else cl) ∧ Below base w w' := by
  obtain ⟨i0, hi, hz0, hz1, hz2⟩ := info_parts Tryz.infoFrm
  obtain ⟨pa, pc, ep⟩ := hp.1.len
  have HP : Hid (StrsIn (fun g => g < base) w pv f.parts) := hp
  obtain ⟨R, hR⟩ : ∃ R, R = growG o f := ⟨_, rfl⟩
  obtain ⟨C, hC⟩ : ∃ C, C = if f.key && decide (0 < o.length) then cl ++ [o] else cl := ⟨_, rfl⟩
  obtain ⟨o', ho'⟩ : ∃ o', o' = if f.key then [] else o := ⟨_, rfl⟩
  have HKEY : Hid (f.key = true → R = o' ++ [f] ∧ C = (if 0 < o.length then cl ++ [o] else cl) ∧ o' = []) := fun h => by
    refine ⟨?_, ?_, by rw [ho', if_pos h]⟩
    · rw [hR, ho', if_pos h]; unfold growG; rw [if_pos h]; rfl
    · rw [hC, h, Bool.true_and]
      by_cases h0 : 0 < o.length
      · rw [if_pos (decide_eq_true h0), if_pos h0]
      · rw [if_neg (by rw [decide_eq_true_eq]; exact h0), if_neg h0]
  have HNK : Hid (f.key = false → C = cl ∧ o' = o ∧ (gon o f = true → R = o' ++ [f]) ∧ (gon o f = false → R = o)) := fun h => by
    have e : o' = o := by rw [ho', h]; rfl
    refine ⟨by rw [hC, h]; rfl, e, fun h2 => ?_, fun h2 => ?_⟩
    · rw [hR, gon_grow h, h2, if_pos rfl, e]
    · rw [hR, gon_grow h, h2]; rfl
  have HO7 : Hid (o'.length ≤ 6) := by
    show _ ≤ _
    rw [ho']
    split
    · simp
    · exact ho
  have HGO : Hid (∀ w' : World, GMk base M w' fv cv o cl → Calls Tryz.prog 167 #[.pointer (some ⟨M, 0, none⟩), .agg #[.int .i64 f.time, .bool f.key, .slice pa f.parts.length pc]] w' fun e w'' => e = .returned (.bool (gon o f)) ∧ Below w'.heap.size w' w'') := fun w' h => goesOn_any base M fv cv o cl f _ _ _ w' h
  have HCL : Hid (∀ w' : World, GMk base M w' fv cv o cl → Calls Tryz.prog 166 #[.pointer (some ⟨M, 0, none⟩)] w' fun e w'' => e = .returned (.tuple #[]) ∧ (∃ cv', GMk base M w'' (.slice none 0 0) cv' [] (if 0 < o.length then cl ++ [o] else cl)) ∧ Below base w' w'' ∧ ∀ j, j < w'.heap.size → j ≠ M → some j ≠ cv.ownBlock → w''.heap[j]? = w'.heap[j]?) := fun w' h => groupClose_any base M fv cv o cl w' h hbM ho hcl
  have HCF : Hid (∀ w' : World, StrsIn (fun g => g < base) w' pv f.parts → Calls Tryz.prog 103 #[.agg #[.int .i64 f.time, .bool f.key, pv]] w' fun e w'' => ∃ a c, e = .returned (.agg #[.int .i64 f.time, .bool f.key, .slice a f.parts.length c]) ∧ StrsIn (fun g => w'.heap.size ≤ g) w'' (.slice a f.parts.length c) f.parts ∧ Below w'.heap.size w' w'') := fun w' h => cloneFrame_any _ f pv w' h hf
  have HMK : Hid (GMk base M w fv cv o cl) := hM
  have hMw := hM.1.lt
  obtain ⟨gg, hgg⟩ : ∃ gg, gg = gon o f := ⟨_, rfl⟩
  rw [← hgg] at HGO HNK
  rw [← hR, ← hC]
  obtain ⟨t, k, parts⟩ := f
  simp only at ep HP HGO HCF HKEY HNK ⊢
  obtain ⟨pn, hpn⟩ : ∃ pn, pn = parts.length := ⟨_, rfl⟩
  have HPN : Hid (pn = parts.length) := hpn
  rw [← hpn] at ep HGO HCF
  clear hM hp hf hR hC ho' hgg hpn ho hcl
  have HEP : Hid (pv = .slice pa pn pc) := ep
  subst ep
  go_enter Tryz.func143, Tryz.ntmps143
  go_upto_if 5 with fail
  go_cut [] (fun wc => ∃ fv' cv', Hid (GMk base M wc fv' cv' o' C) ∧ Hid (R = o' ++ [⟨t, k, parts⟩]) ∧ Hid (Blk wc w.heap.size #[.int .i64 t, .bool k, .slice pa pn pc] 30) ∧ Hid (∀ g, fv'.ownBlock = some g → g ≠ w.heap.size) ∧ Hid (StrsIn (fun g => g < base) wc (.slice pa pn pc) parts) ∧ Hid (Below base w wc))
  case first =>
    have MK1 : Hid (GMk base M (w.alloc (.cells #[.int .i64 t, .bool k, .slice pa pn pc] 30)) fv cv o cl) := HMK.out.below ((Below.refl _ w).alloc (Nat.le_refl _) _)
    cases k
    · have hnk := HNK.out rfl
      have HNK2 : Hid (C = cl ∧ o' = o ∧ (gg = true → R = o' ++ [⟨t, false, parts⟩]) ∧ (gg = false → R = o)) := hnk
      clear hnk
      go_wp2_with fail
      refine (HGO.out _ MK1.out).mono ?_
      rintro e w1 ⟨rfl, hb1⟩
      have B1 : Hid (Below w.heap.size w w1) := ((Below.refl _ w).alloc (Nat.le_refl _) _).trans (hb1.mono (by simp))
      have MK2 : Hid (GMk base M w1 fv cv o C) := by rw [HNK2.out.1]; exact MK1.out.below hb1
      have KF : Hid (Blk w1 w.heap.size #[.int .i64 t, .bool false, .slice pa pn pc] 30) := (Blk.new w _ _).below hb1 (by simp)
      have SP : Hid (StrsIn (fun g => g < base) w1 (.slice pa pn pc) parts) := HP.out.below B1.out
      clear hb1
      cases gg
      · have HRO : Hid (R = o) := HNK2.out.2.2.2 rfl
        go_wp2
        refine bodyPost_ret (v := .tuple #[]) (results_none rfl _ _ _) rfl ?_
        exact ⟨rfl, ⟨fv, cv, by rw [HRO.out]; exact MK2.out⟩, B1.out.mono (by omega)⟩
      · have HRO : Hid (R = o' ++ [⟨t, false, parts⟩]) := HNK2.out.2.2.1 rfl
        go_wp2_with fail
        go_meet
        case rel => exact ⟨fv, cv, (show GMk base M w1 fv cv o' C by rw [HNK2.out.2.1]; exact MK2.out), HRO, KF, (show ∀ g, _ → _ from fun g hg e => by have := (HMK.out.2.1.lt g hg).2; omega), SP, (show Below base w w1 from B1.out.mono (by omega))⟩
    · have hk := HKEY.out rfl
      have HK2 : Hid (R = o' ++ [⟨t, true, parts⟩] ∧ C = (if 0 < o.length then cl ++ [o] else cl) ∧ o' = []) := hk
      clear hk
      go_wp2_with fail
      refine (HCL.out _ MK1.out).mono ?_
      rintro e w1 ⟨rfl, ⟨cv', hmk⟩, hb1, oth⟩
      have B1 : Hid (Below base w w1) := ((Below.refl base w).alloc (by omega) _).trans hb1
      have KF : Hid (Blk w1 w.heap.size #[.int .i64 t, .bool true, .slice pa pn pc] 30) := (oth w.heap.size (by simp) (by omega) (fun e => by have := (HMK.out.2.2.lt _ e.symm).2; omega)).trans (Blk.new w _ _)
      have MK2 : Hid (GMk base M w1 (.slice none 0 0) cv' o' C) := by rw [HK2.out.2.1, HK2.out.2.2]; exact hmk
      have SP : Hid (StrsIn (fun g => g < base) w1 (.slice pa pn pc) parts) := HP.out.to ⟨B1.out.size, fun g _ h => B1.out.block g h⟩ (fun _ _ h => h)
      have HRO : Hid (R = o' ++ [⟨t, true, parts⟩]) := HK2.out.1
      clear hmk hb1 oth
      go_wp2_with fail
      go_meet
      case rel => exact ⟨.slice none 0 0, cv', MK2, HRO, KF, (show ∀ g, _ → _ from fun g hg => by simp [Value.ownBlock] at hg), SP, B1⟩
  case rest =>
    obtain ⟨fv', cv', MK, HR, KF, NF, SP, BC⟩ := hcut
    have hmk := MK.out
    obtain ⟨kM, hF, hCl⟩ := hmk
    obtain ⟨qs, fq1, fq2, fq3⟩ := hF
    obtain ⟨fa, fc, efv, hfc, _⟩ := owns_cap fq2
    have hql : qs.length = o'.length := by rw [← fq1, List.length_map]
    obtain ⟨n, hn⟩ : ∃ n, n = o'.length := ⟨_, rfl⟩
    have HN : Hid (n = o'.length) := hn
    have hn6 : n ≤ 6 := by rw [hn]; exact HO7.out
    rw [hql, ← hn] at efv hfc fq2
    have HE1 : Hid (fv' = .slice fa n fc) := efv
    have k0 := kM.two.1
    rw [efv] at k0
    have FQ1 : Hid (qs.map Prod.fst = o') := fq1
    have FQ2 : Hid (wc.ownsRow base 30 3 fv' n (frCells qs)) := fq2
    have FQ3 : Hid (∀ p ∈ qs, StrsIn (GS base M fv' cv') wc p.2 p.1.parts) := fq3
    have HQL : Hid (qs.length = n) := by show _ = _; rw [hql, hn]
    have hMc := kM.lt
    have hKl := KF.out.lt
    obtain ⟨y0, y1, y2⟩ := KF.out.three
    clear kM hCl fq1 fq2 fq3 efv hql hn
    go_wp2_with fail
    refine region_chain (by kernel_rfl) (by kernel_rfl) [.quiet (.pointer (some ⟨M, 0, none⟩)) 4, .quiet (.pointer (some ⟨M, 0, none⟩)) 4, .quiet (.pointer (some ⟨M, 0, none⟩)) 4, .quiet (.pointer (some ⟨M, 0, none⟩)) 4, .quiet (.pointer (some ⟨M, 0, none⟩)) 4, .quiet (.slice fa n fc) 2, .quiet (.agg #[.int .i64 t, .bool k, .slice pa pn pc]) 0, .step 0, .step 1, .step 2, .quiet (.pointer (some ⟨M, 0, none⟩)) 4, .quiet (.pointer (some ⟨M, 0, none⟩)) 4, .quiet (.pointer (some ⟨M, 0, none⟩)) 4, .step 3] [7, 8, 9, 13] (by kernel_rfl)
      (fun s r w' => match s with
        | 0 => Below wc.heap.size wc w'
        | 1 => ∃ a c, r 0 = .agg #[.int .i64 t, .bool k, .slice a pn c] ∧ StrsIn (fun g => wc.heap.size ≤ g) w' (.slice a pn c) parts ∧ Below wc.heap.size wc w'
        | 2 => ∃ a c V, StrsIn (fun g => wc.heap.size ≤ g) V (.slice a pn c) parts ∧ Below wc.heap.size wc V ∧ w' = V.alloc (.cells #[.int .i64 t, .bool k, .slice a pn c] 30) ∧ r 1 = .slice (some ⟨V.heap.size, 0, none⟩) 1 1
        | 3 => ∃ a c V, StrsIn (fun g => wc.heap.size ≤ g) V (.slice a pn c) parts ∧ Below wc.heap.size wc V ∧ w'.ownsRow base 30 3 (r 2) (n + 1) (frCells qs ++ [.int .i64 t, .bool k, .slice a pn c]) ∧ (V.alloc (.cells #[.int .i64 t, .bool k, .slice a pn c] 30)).grownBy w' fv'.ownBlock ∧ ((r 2).ownBlock = fv'.ownBlock ∨ ∀ g, (r 2).ownBlock = some g → (V.alloc (.cells #[.int .i64 t, .bool k, .slice a pn c] 30)).heap.size ≤ g)
        | _ => ∃ a c V w2 v', StrsIn (fun g => wc.heap.size ≤ g) V (.slice a pn c) parts ∧ Below wc.heap.size wc V ∧ w2.ownsRow base 30 3 v' (n + 1) (frCells qs ++ [.int .i64 t, .bool k, .slice a pn c]) ∧ (V.alloc (.cells #[.int .i64 t, .bool k, .slice a pn c] 30)).grownBy w2 fv'.ownBlock ∧ (v'.ownBlock = fv'.ownBlock ∨ ∀ g, v'.ownBlock = some g → (V.alloc (.cells #[.int .i64 t, .bool k, .slice a pn c] 30)).heap.size ≤ g) ∧ w' = w2.setCell ⟨M, 0, none⟩ v') ((Below.refl _ wc).drew) ?step ?fin
    case step =>
      intro i o ho a' w' s r hI hfree hvals
      have f0 : a'.eval (.tmp 0) = .pointer (some ⟨M, 0, none⟩) := (hfree 0 (by kernel_rfl)).trans rfl
      have f3 : a'.eval (.tmp 3) = .pointer (some ⟨w.heap.size, 0, none⟩) := (hfree 3 (by kernel_rfl)).trans rfl
      match i, ho with
      | 0, ho | 1, ho =>
        simp at ho; subst ho
        show s ≤ 4 → (execOp a'.eval _).run _ w' = .ok (.value _) w'
        intro _
        generalize a'.eval = ρ at *
        simp [execOp, go_sem, f0]
      | 2, ho =>
        simp at ho; subst ho
        have e1 : a'.eval (.tmp 13) = .pointer (some ⟨M, 0, none⟩) := hvals 1 _ _ (by kernel_rfl) rfl rfl
        show s ≤ 4 → (execOp a'.eval _).run _ w' = .ok (.value _) w'
        intro _
        generalize a'.eval = ρ at *
        simp [execOp, go_sem, e1]
      | 3, ho =>
        simp at ho; subst ho
        have e1 : a'.eval (.tmp 14) = .pointer (some ⟨M, 0, none⟩) := hvals 2 _ _ (by kernel_rfl) rfl rfl
        show s ≤ 4 → (execOp a'.eval _).run _ w' = .ok (.value _) w'
        intro _
        generalize a'.eval = ρ at *
        simp [execOp, go_sem, e1]
      | 4, ho =>
        simp at ho; subst ho
        have e1 : a'.eval (.tmp 15) = .pointer (some ⟨M, 0, none⟩) := hvals 3 _ _ (by kernel_rfl) rfl rfl
        show s ≤ 4 → (execOp a'.eval _).run _ w' = .ok (.value _) w'
        intro _
        generalize a'.eval = ρ at *
        simp [execOp, go_sem, e1]
      | 5, ho =>
        simp at ho; subst ho
        have e1 : a'.eval (.tmp 16) = .pointer (some ⟨M, 0, none⟩) := hvals 4 _ _ (by kernel_rfl) rfl rfl
        show s ≤ 2 → (execOp a'.eval _).run _ w' = .ok (.value _) w'
        intro hs
        have hc : w'.cell? ⟨M, 0, none⟩ = some (.slice fa n fc) := by
          match s, hs, hI with
          | 0, _, hI => exact (Below.cell hI (p := ⟨M, 0, none⟩) hMc).trans k0
          | 1, _, ⟨_, _, _, _, hI⟩ => exact (Below.cell hI (p := ⟨M, 0, none⟩) hMc).trans k0
          | 2, _, ⟨_, _, V, _, hI, hw, _⟩ => rw [hw]; exact (World.cell?_alloc_past _ _ _ (Nat.lt_of_lt_of_le hMc hI.size)).trans ((Below.cell hI (p := ⟨M, 0, none⟩) hMc).trans k0)
        generalize a'.eval = ρ at *
        simp [execOp, go_sem, e1, hc]
      | 6, ho =>
        simp at ho; subst ho
        show s ≤ 0 → (execOp a'.eval _).run _ w' = .ok (.value _) w'
        intro hs
        have hB : Below wc.heap.size wc w' := by
          match s, hs, hI with
          | 0, _, hI => exact hI
        have z0 := (hB.cell (p := ⟨w.heap.size, 0, none⟩) hKl).trans y0
        have z1 := (hB.cell (p := ⟨w.heap.size, 1, none⟩) hKl).trans y1
        have z2 := (hB.cell (p := ⟨w.heap.size, 2, none⟩) hKl).trans y2
        generalize a'.eval = ρ at *
        simp [execOp, go_sem, f3, z0, z1, z2]
      | 7, ho =>
        simp at ho; subst ho
        have e1 : a'.eval (.tmp 18) = .agg #[.int .i64 t, .bool k, .slice pa pn pc] := hvals 6 _ _ (by kernel_rfl) rfl rfl
        have ef : a'.eval (.func 103) = .func (.func 103) #[] #[] := rfl
        show s = 0 → Oper.wp _ _ _ _ _ _
        intro hs
        subst hs
        have hB : Below wc.heap.size wc w' := hI
        refine oper_wp_call (f := 103) (args := #[.agg #[.int .i64 t, .bool k, .slice pa pn pc]]) ?_ ?_
        · generalize a'.eval = ρ at *
          simp [execOp, go_sem, e1, ef]
        · refine (HCF.out w' (SP.out.below hB)).mono ?_
          rintro e w'' ⟨a, c, rfl, hs1, hb1⟩
          refine ⟨_, rfl, _, rfl, a, c, updR_at _ _ _, hs1.mono (fun g _ hg => Nat.le_trans hB.size hg), hB.trans (hb1.mono hB.size)⟩
      | 8, ho =>
        simp at ho; subst ho
        have e1 : a'.eval (.tmp 19) = r 0 := hvals 7 _ _ (by kernel_rfl) rfl rfl
        show s = 1 → Oper.wp _ _ _ _ _ _
        intro hs
        subst hs
        obtain ⟨a, c, hr0, h1, h2⟩ := hI
        rw [hr0] at e1
        refine oper_wp_ok (v := .slice (some ⟨w'.heap.size, 0, none⟩) 1 1) (w' := w'.alloc (.cells #[.int .i64 t, .bool k, .slice a pn c] 30)) ?_ ⟨_, rfl, a, c, w', h1, h2, rfl, updR_at _ _ _⟩
        generalize a'.eval = ρ at *
        simp [execOp, go_sem, e1]
      | 9, ho =>
        simp at ho; subst ho
        have e1 : a'.eval (.tmp 17) = .slice fa n fc := hvals 5 _ _ (by kernel_rfl) rfl rfl
        have e2 : a'.eval (.tmp 20) = r 1 := hvals 8 _ _ (by kernel_rfl) rfl rfl
        show s = 2 → Oper.wp _ _ _ _ _ _
        intro hs
        subst hs
        obtain ⟨a, c, V, h1, h2, hw, hr1⟩ := hI
        rw [hr1] at e2
        subst hw
        have hV := h2.size
        have hown : (V.alloc (.cells #[.int .i64 t, .bool k, .slice a pn c] 30)).ownsRow base 30 3 fv' n (frCells qs) := (owns_below FQ2.out h2 (Nat.le_refl _)).alloc _
        obtain ⟨v', w2, hrun, g2, g3, g4⟩ := run_append_own2 (P := Tryz.prog) (V.alloc (.cells #[.int .i64 t, .bool k, .slice a pn c] 30)) base 23 23 30 i0 _ 3 40 Tryz.underlying23 hi hz0 hz1 hz2 rfl (by decide) fv' n (frCells qs) hown ⟨V.heap.size, 0, none⟩ 1 1 [.int .i64 t, .bool k, .slice a pn c] rfl (fun j u hj => by
            rw [Addr.add_lit, Nat.zero_add]
            exact (Blk.new V #[.int .i64 t, .bool k, .slice a pn c] 30).cell (by simpa using hj)) (fun u hu => by simp at hu; rcases hu with rfl | rfl | rfl <;> rfl) (by unfold maxLen; omega) (by omega) (by simp; omega)
        rw [HE1.out] at hrun
        refine oper_wp_ok (v := v') (w' := w2) ?_ ⟨_, rfl, a, c, V, h1, h2, ?_⟩
        · generalize a'.eval = ρ at *
          simp [execOp, resolve, invoke, builtin, e1, e2, hrun, Result.andThen]
        · rw [updR_at]
          exact ⟨g2, g3, g4⟩
      | 10, ho =>
        simp at ho; subst ho
        have e1 : a'.eval (.tmp 12) = .pointer (some ⟨M, 0, none⟩) := hvals 0 _ _ (by kernel_rfl) rfl rfl
        show s ≤ 4 → (execOp a'.eval _).run _ w' = .ok (.value _) w'
        intro _
        generalize a'.eval = ρ at *
        simp [execOp, go_sem, e1]
      | 11, ho =>
        simp at ho; subst ho
        have e1 : a'.eval (.tmp 22) = .pointer (some ⟨M, 0, none⟩) := hvals 10 _ _ (by kernel_rfl) rfl rfl
        show s ≤ 4 → (execOp a'.eval _).run _ w' = .ok (.value _) w'
        intro _
        generalize a'.eval = ρ at *
        simp [execOp, go_sem, e1]
      | 12, ho =>
        simp at ho; subst ho
        have e1 : a'.eval (.tmp 23) = .pointer (some ⟨M, 0, none⟩) := hvals 11 _ _ (by kernel_rfl) rfl rfl
        show s ≤ 4 → (execOp a'.eval _).run _ w' = .ok (.value _) w'
        intro _
        generalize a'.eval = ρ at *
        simp [execOp, go_sem, e1]
      | 13, ho =>
        simp at ho; subst ho
        have e1 : a'.eval (.tmp 24) = .pointer (some ⟨M, 0, none⟩) := hvals 12 _ _ (by kernel_rfl) rfl rfl
        have e2 : a'.eval (.tmp 21) = r 2 := hvals 9 _ _ (by kernel_rfl) rfl rfl
        show s = 3 → Oper.wp _ _ _ _ _ _
        intro hs
        subst hs
        obtain ⟨a, c, V, h1, h2, g2, g3, g4⟩ := hI
        obtain ⟨va, vc, ev, _⟩ := owns_cap g2
        have hV := h2.size
        have kM2 : Blk w' M #[fv', cv'] 201 := (g3.block M (by simp; omega) (fun e => MK.out.fneM e.symm)).trans ((MK.out.1.below h2 hMc).alloc _)
        have z0 := kM2.two.1
        have z1 := kM2.free 0
        refine oper_wp_skip (w' := w'.setCell ⟨M, 0, none⟩ (r 2)) ?_ ⟨_, rfl, a, c, V, w', r 2, h1, h2, g2, g3, g4, rfl⟩
        rw [ev] at e2 ⊢
        generalize a'.eval = ρ at *
        simp [execOp, go_sem, e1, e2, z0, z1]
      | i + 14, ho => simp at ho
    case fin =>
      rintro r w' ⟨a, c, V, w2, v', h1, h2, g2, g3, g4, hw⟩
      have hmk := MK.out
      have hV := h2.size
      have hsz2 := g3.size
      simp only [World.size_alloc] at hsz2
      have kM2 : Blk w2 M #[fv', cv'] 201 := (g3.block M (by simp; omega) (fun e => hmk.fneM e.symm)).trans ((hmk.1.below h2 hMc).alloc _)
      have hvM : v'.ownBlock ≠ some M := fun e => by
        rcases g4 with g4 | g4
        · rw [g4] at e; exact hmk.fneM e
        · have := g4 M e; simp at this; omega
      have hnew : ∀ g, g < V.heap.size → some g ≠ fv'.ownBlock → some g ≠ v'.ownBlock := fun g hg h1 e => by
        rcases g4 with g4 | g4
        · rw [g4] at e; exact h1 e
        · have := g4 g e.symm; simp at this; omega
      have hsm : SameOn (fun g => g < V.heap.size ∧ some g ≠ fv'.ownBlock) V w2 := ⟨by omega, fun g hg h2 => by
        rw [g3.block g (by simp; omega) h2.2]
        exact Below.heap_alloc V _ g hg⟩
      have hsm2 : SameOn (GS base M fv' cv') wc w2 := (SameOn.of_below h2).trans (hsm.mono' (fun g hg hs => ⟨hg, hs.2.2.1⟩))
      have hSS : ∀ g, g < wc.heap.size → GS base M fv' cv' g → GS base M v' cv' g := fun g hg hs => ⟨hs.1, hs.2.1, hnew g (by omega) hs.2.2.1, hs.2.2.2⟩
      have hcb : ∀ g, cv'.ownBlock = some g → w2.heap[g]? = wc.heap[g]? := fun g hg => by
        have h3 := (hmk.2.2.lt g hg).2
        rw [hsm.2 g (by omega) ⟨by omega, fun e => hmk.fnec g e.symm hg⟩]
        exact h2.block g h3
      have hp2 : StrsIn (GS base M v' cv') w2 (.slice a pn c) parts := by
        refine (h1.mono (S' := fun g => wc.heap.size ≤ g ∧ g < V.heap.size) (fun g hg h => ⟨h, hg⟩)).to (hsm.mono (fun g hg => ⟨hg.2, fun e => by have := (hmk.2.1.lt g e.symm).2; omega⟩)) (fun g hg hs => ⟨?_, ?_, ?_, ?_⟩)
        · have := hmk.1.lt; omega
        · omega
        · exact hnew g hs.2 (fun e => by have := (hmk.2.1.lt g e.symm).2; omega)
        · exact fun e => by have := (hmk.2.2.lt g e.symm).2; omega
      have hof : OwnFrs base (GS base M v' cv') w2 v' (o' ++ [⟨t, k, parts⟩]) := by
        refine ⟨qs ++ [(⟨t, k, parts⟩, .slice a pn c)], by rw [List.map_append, FQ1.out]; rfl, by rw [List.length_append, frCells_append, HQL.out]; exact g2, fun p hp => ?_⟩
        rcases List.mem_append.1 hp with hp | hp
        · exact (FQ3.out p hp).to hsm2 hSS
        · simp at hp; subst hp; exact hp2
      have hoc : OwnGrs base (GS base M v' cv') w2 cv' C := hmk.2.2.to hsm2 hSS hcb
      have set0 : SameOn (GS base M v' cv') w2 (w2.setCell ⟨M, 0, none⟩ v') := SameOn.setCell (fun g hg => hg.2.1) _
      have FIN : Hid (GMake base M (w2.setCell ⟨M, 0, none⟩ v') R C) := ⟨v', cv', kM2.set 0 _, by
          rw [HR.out]
          exact hof.to set0 (fun _ _ h => h) (fun g hg => Below.heap_setCell _ _ _ _ (fun e => hvM (by rw [hg]; exact congrArg some e))),
        hoc.to set0 (fun _ _ h => h) (fun g hg => Below.heap_setCell _ _ _ _ (fun e => hmk.cneM (by rw [hg]; exact congrArg some e)))⟩
      have BEL : Hid (Below base w (w2.setCell ⟨M, 0, none⟩ v')) := (((BC.out.trans (h2.mono (by have := hmk.1.lt; omega))).alloc (by have := hmk.1.lt; omega) _).grown g3 (by have := hmk.1.lt; simp; omega) (fun j hj => (hmk.2.1.lt j hj).1)).setCell (by exact hbM) _
      subst hw
      simp only [putC, Ck.out]
      clear hof hoc hp2 hSS hsm2 hcb hsm hnew g2 g3 g4 kM2 k0 y0 y1 y2 set0
      go_wp2
      go_end0
      exact ⟨rfl, FIN.out, BEL.out⟩

end Go.Proofs.YtnpaejknoipicafGreat

namespace Go.Proofs.YtnpaejknoipicafGreat
open Go.RowKit

def eachE (l : List Fr) : Int := goN (fun k => (frAt l k).chk) l.length 0

set_option maxHeartbeats 4000000 in
set_option maxRecDepth 100000 in
theorem groupEach_any (base M : Nat) (v : Value) (l : List Fr) (w : World) (hM : GMk base M w (.slice none 0 0) (.slice none 0 0) [] []) (hbM : base ≤ M) (hv : FrsIn (fun g => g < base) w v l) (hl : l.length ≤ 100) :
    Calls Tryz.prog 142 #[v, .func (.func 143) #[.pointer (some ⟨M, 0, none⟩)] #[]] w fun e w' => e = .returned (.int .i64 (eachE l)) ∧ (eachE l = 0 → GMake base M w' (upG l l.length).2 (upG l l.length).1) ∧ Below base w w' := by
  have HV : Hid (FrsIn (fun g => g < base) w v l) := hv
  obtain ⟨ao, c, hva, h1, h2, hc⟩ := hv
  have HC : Hid (∀ k, k < l.length → ∃ b off, ao = some ⟨b, off, none⟩ ∧ b < w.heap.size ∧ b < base ∧ At3In (fun g => g < base) w b (off + k * 3) (l[k]?.getD Fr.zero)) := hc
  obtain ⟨n, hn⟩ : ∃ n, n = l.length := ⟨_, rfl⟩
  have HN : Hid (n = l.length) := hn
  have hbw : base ≤ w.heap.size := by have := hM.1.lt; omega
  obtain ⟨E, hE⟩ : ∃ E, E = eachE l := ⟨_, rfl⟩
  have HE : Hid (E = goN (fun k => (frAt l k).chk) n 0) := by show _ = _; rw [hE, hn]; rfl
  have HMK : Hid (GMk base M w (.slice none 0 0) (.slice none 0 0) [] []) := hM
  have eg : Enters Tryz.prog 143 := enters_of Tryz.func143 (by kernel_rfl) rfl
  have eg' : ∀ (args : Array Value) (w : World), (callFunc 143 args).run Tryz.prog w = .ok (.enter 143 args) w := eg
  rw [← hn] at hva h1 hl
  rw [← hE, ← hn]
  clear hc hn hE hM eg
  subst hva
  go_enter Tryz.func142, Tryz.ntmps142
  go_wp2_with fail
  go_loopw [10] (fun i wr => ∃ k : Nat, k ≤ n ∧ i = .int .i64 k ∧ Hid (∀ j, j < k → (frAt l j).chk = 0) ∧ Hid (GMake base M wr (upG l k).2 (upG l k).1) ∧ Hid (Below base w wr))
    (fun i _ => n - (intOf i).toNat)
  case atStart => exact ⟨0, Nat.zero_le _, rfl, (show ∀ j, j < 0 → _ from fun j hj => absurd hj (Nat.not_lt_zero _)), ⟨_, _, HMK.out⟩, Below.refl _ _⟩
  case round =>
    obtain ⟨k, hk, rfl, HK, MK, HB⟩ := hrel
    by_cases hlt : k < n
    · obtain ⟨b, off, hao, hb, hbb, pv, c0, c1, c2, hp⟩ := HC.out k (by rw [← HN.out]; exact hlt)
      have d0 := (HB.out.cell (p := ⟨b, off + k * 3, none⟩) hbb).trans c0
      have d1 := (HB.out.cell (p := ⟨b, off + k * 3 + 1, none⟩) hbb).trans c1
      have d2 := (HB.out.cell (p := ⟨b, off + k * 3 + 2, none⟩) hbb).trans c2
      have hpr : StrsIn (fun g => g < base) wr pv (l[k]?.getD Fr.zero).parts := hp.to ⟨HB.out.size, fun g _ h => HB.out.block g h⟩ (fun _ _ h => h)
      obtain ⟨f, hf⟩ : ∃ f, f = frAt l k := ⟨_, rfl⟩
      rw [show (l[k]?.getD Fr.zero) = f from hf.symm] at d0 d1 hpr
      obtain ⟨pa, pc, ep⟩ := hpr.1.len
      obtain ⟨fv, cv, mk⟩ := MK.out
      have hlens := upG_len l k (by rw [← HN.out]; omega)
      have HUP : Hid (upG l (k + 1) = stepG (upG l k) f) := by show _ = _; rw [hf]; exact upG_succ l k (by rw [← HN.out]; exact hlt)
      have HFC : Hid (frAt l k = f) := hf.symm
      obtain ⟨cl, o, hco⟩ : ∃ cl o, upG l k = (cl, o) := ⟨_, _, rfl⟩
      rw [hco] at mk hlens HUP
      simp only at mk hlens
      have HM1 : Hid (GMk base M wr fv cv o cl) := mk
      have HTK : Hid (f.chk = 0 → ∀ w' : World, GMk base M w' fv cv o cl → StrsIn (fun g => g < base) w' pv f.parts → Calls Tryz.prog 143 #[.pointer (some ⟨M, 0, none⟩), .agg #[.int .i64 f.time, .bool f.key, pv]] w' fun e w'' => e = .returned (.tuple #[]) ∧ GMake base M w'' (growG o f) (if f.key && decide (0 < o.length) then cl ++ [o] else cl) ∧ Below base w' w'') := fun h w' h1 h2 => groupTake_any base M fv cv o cl f pv w' h1 hbM hlens.1 (by have := hlens.2; omega) h2 h
      obtain ⟨ck, hck⟩ : ∃ ck, ck = f.chk := ⟨_, rfl⟩
      have HCF : Hid (∀ w' : World, Strs w' pv f.parts → Calls Tryz.prog 49 #[.agg #[.int .i64 f.time, .bool f.key, pv]] w' fun e w'' => e = .returned (.int .i64 ck) ∧ Below w'.heap.size w' w'') := fun w' hs => by rw [hck]; exact frameCheck_any f.time f.key _ f.parts w' hs hpr.2.1
      have HP : Hid (StrsIn (fun g => g < base) wr pv f.parts) := hpr
      have HCK : Hid (ck = f.chk) := hck
      rw [← hck] at HTK
      obtain ⟨R, hR⟩ : ∃ R, R = growG o f := ⟨_, rfl⟩
      obtain ⟨C, hC⟩ : ∃ C, C = (if f.key && decide (0 < o.length) then cl ++ [o] else cl) := ⟨_, rfl⟩
      have HUP2 : Hid (upG l (k + 1) = (C, R)) := by show _ = _; rw [HUP.out, hR, hC]; rfl
      rw [← hR, ← hC] at HTK
      obtain ⟨pn, hpn⟩ : ∃ pn, pn = f.parts.length := ⟨_, rfl⟩
      rw [← hpn] at ep
      subst ep
      subst hao
      have hlti : (k : Int) < (n : Int) := by omega
      obtain ⟨ft, fk, fp⟩ := f
      simp only at d0 d1 HP HCF HTK
      clear c0 c1 c2 hp hpr hf hck hpn hco mk hlens hR hC MK HUP
      go_wp2_with fail
      refine (HCF.out _ (HP.out.1.below ((Below.refl _ wr).alloc (Nat.le_refl _) _))).mono ?_
      rintro e w1 ⟨rfl, hb1⟩
      have B1 : Hid (Below wr.heap.size wr w1) := ((Below.refl _ wr).alloc (Nat.le_refl _) _).trans (hb1.mono (by simp))
      have BB1 : Hid (Below base w w1) := HB.out.trans (B1.out.mono (by have := HB.out.size; omega))
      obtain ⟨y0, y1, y2⟩ := ((Blk.new wr #[.int .i64 ft, .bool fk, .slice pa pn pc] 30).below hb1 (by simp)).three
      clear hb1 d0 d1 d2
      by_cases hc0 : ck = 0
      · have MK1 : Hid (GMk base M w1 fv cv o cl) := HM1.out.below B1.out
        have SP1 : Hid (StrsIn (fun g => g < base) w1 (.slice pa pn pc) fp) := HP.out.below B1.out
        have HCK0 : Hid ((frAt l k).chk = 0) := by show _ = _; rw [HFC.out, ← HCK.out, hc0]
        have HT2 : Hid (∀ w' : World, GMk base M w' fv cv o cl → StrsIn (fun g => g < base) w' (.slice pa pn pc) fp → Calls Tryz.prog 143 #[.pointer (some ⟨M, 0, none⟩), .agg #[.int .i64 ft, .bool fk, .slice pa pn pc]] w' fun e w'' => e = .returned (.tuple #[]) ∧ GMake base M w'' R C ∧ Below base w' w'') := HTK.out hc0
        subst hc0
        clear HTK HCK
        go_wp2_with (go_at_fn 143; refine (HT2.out _ MK1.out SP1.out).mono ?_; rintro e w2 ⟨rfl, mk2, hb2⟩)
        have MK3 : Hid (GMake base M w2 (upG l (k + 1)).2 (upG l (k + 1)).1) := by show GMake _ _ _ _ _; rw [HUP2.out]; exact mk2
        have BB2 : Hid (Below base w w2) := BB1.out.trans hb2
        clear mk2 hb2 y0 y1 y2
        go_roundw
        case rel => exact ⟨k + 1, by omega, by go_num, (show ∀ j, j < k + 1 → _ from fun j hj => by
          by_cases e : j = k
          · subst e; exact HCK0.out
          · exact HK.out j (by omega)), MK3, BB2⟩
        case measure => simp [intOf]; omega
      · have HEE : Hid (E = ck) := by
          show _ = _
          rw [HE.out, goN_hit n 0 k (Nat.zero_le _) (by omega) (fun j _ hj => HK.out j hj) (by rw [HFC.out, ← HCK.out]; exact hc0), HFC.out, ← HCK.out]
        go_wp2
        go_ret
        exact ⟨by rw [HEE.out]; rfl, fun h => absurd (HEE.out.symm.trans h) hc0, BB1.out⟩
    · have hkl : k = n := by omega
      subst hkl
      have HEE : Hid (E = 0) := by show _ = _; rw [HE.out]; exact goN_all _ _ (fun j _ hj => HK.out j (by omega))
      go_wp2
      go_ret
      exact ⟨by rw [HEE.out]; rfl, fun _ => MK.out, HB.out⟩

end Go.Proofs.YtnpaejknoipicafGreat

namespace Go.Proofs.YtnpaejknoipicafGreat
open Go.RowKit

/-- what All answers lies in blocks of its own -/
def Fresh3 (base : Nat) (w : World) (cv fv : Value) (r : List (List Fr) × List Fr) : Prop := GrsIn (fun g => base ≤ g) w cv r.1 ∧ FrsIn (fun g => base ≤ g) w fv r.2

set_option maxHeartbeats 4000000 in
set_option maxRecDepth 100000 in
theorem groupAll_any (v : Value) (l : List Fr) (w : World) (S : Nat → Prop) (hv : FrsIn S w v l) :
    Calls Tryz.prog 97 #[v] w fun e w' => ∃ ca cc fa fc, e = .returned (.tuple #[.slice ca (groupsR l).1.length cc, .agg #[.slice fa (groupsR l).2.length fc], .int .i64 (groupsE l)]) ∧ GrsIn (fun g => w.heap.size ≤ g) w' (.slice ca (groupsR l).1.length cc) (groupsR l).1 ∧ FrsIn (fun g => w.heap.size ≤ g) w' (.slice fa (groupsR l).2.length fc) (groupsR l).2 ∧ Below w.heap.size w w' := by
  obtain ⟨a, c, hva, _, hl⟩ := hv.len
  have HV : Hid (FrsIn S w v l) := hv
  obtain ⟨n, hn⟩ : ∃ n, n = l.length := ⟨_, rfl⟩
  have HN : Hid (n = l.length) := hn
  obtain ⟨E, hE⟩ : ∃ E, E = groupsE l := ⟨_, rfl⟩
  obtain ⟨R, hR⟩ : ∃ R, R = groupsR l := ⟨_, rfl⟩
  have HE : Hid (E = if 100 < n then 2 else eachE l) := by show _ = _; rw [hE, hn]; rfl
  have HR : Hid (R = if E = 0 then upG l n else ([], [])) := by show _ = _; rw [hR, hE, hn]; rfl
  rw [← hn] at hva hl
  rw [← hE, ← hR]
  clear hv hn hE hR
  subst hva
  by_cases h1 : 100 < n
  · have hE2 : E = 2 := by rw [HE.out, if_pos h1]
    have hR2 : R = ([], []) := by rw [HR.out, hE2]; rfl
    rw [hE2, hR2]
    have hr := Blk.new w #[.slice none 0 0] 25
    have r0 := hr.one
    have r1 := hr.free 0
    have HBl : Hid (Below w.heap.size w (w.alloc (.cells #[.slice none 0 0] 25))) := (Below.refl _ w).alloc (Nat.le_refl _) _
    clear hr
    go_enter Tryz.func97, Tryz.ntmps97
    go_wp2
    exact bodyPost_ret (v := .tuple #[.slice none 0 0, .agg #[.slice none 0 0], .int .i64 2]) (by simp [results, Tryz.results97, go_sem]) rfl ⟨none, 0, none, 0, rfl, GrsIn.nil _ _, FrsIn.nil _ _, HBl.out⟩
  have hn100 : n ≤ 100 := by omega
  have HE2 : Hid (E = eachE l) := by show _ = _; rw [HE.out, if_neg h1]
  have HEA : Hid (∀ w' : World, GMk (w.heap.size + 1) (w.heap.size + 1) w' (.slice none 0 0) (.slice none 0 0) [] [] → FrsIn (fun g => g < w.heap.size + 1) w' (.slice a n c) l → Calls Tryz.prog 142 #[.slice a n c, .func (.func 143) #[.pointer (some ⟨w.heap.size + 1, 0, none⟩)] #[]] w' fun e w'' => e = .returned (.int .i64 E) ∧ (E = 0 → GMake (w.heap.size + 1) (w.heap.size + 1) w'' (upG l n).2 (upG l n).1) ∧ Below (w.heap.size + 1) w' w'') := fun w' h1 h2 => by
    have := groupEach_any (w.heap.size + 1) (w.heap.size + 1) (.slice a n c) l w' h1 (Nat.le_refl _) h2 (by rw [← HN.out]; exact hn100)
    rw [← HE2.out, ← HN.out] at this
    exact this
  clear HE h1
  go_enter Tryz.func97, Tryz.ntmps97
  have HM0 : Hid (GMk (w.heap.size + 1) (w.heap.size + 1) ((w.alloc (.cells #[.slice none 0 0] 25)).alloc (.cells #[.slice none 0 0, .slice none 0 0] 201)) (.slice none 0 0) (.slice none 0 0) [] []) := by
    refine ⟨?_, OwnFrs.nil _ _ _, OwnGrs.nil _ _ _⟩
    have := Blk.new (w.alloc (.cells #[.slice none 0 0] 25)) #[.slice none 0 0, .slice none 0 0] 201
    simp only [World.size_alloc] at this
    exact this
  have HV0 : Hid (FrsIn (fun g => g < w.heap.size + 1) ((w.alloc (.cells #[.slice none 0 0] 25)).alloc (.cells #[.slice none 0 0, .slice none 0 0] 201)) (.slice a n c) l) := ((HV.out.mono (S' := fun g => g < w.heap.size + 1) (fun g hg _ => by show g < _; omega)).alloc _).alloc _
  go_wp2_with fail
  refine (HEA.out _ HM0.out HV0.out).mono ?_
  rintro e w1 ⟨rfl, hmk, hb1⟩
  have kR : Blk w1 w.heap.size #[.slice none 0 0] 25 := ((Blk.new w #[.slice none 0 0] 25).alloc (.cells #[.slice none 0 0, .slice none 0 0] 201)).below hb1 (by omega)
  have B1 : Hid (Below w.heap.size w w1) := (((Below.refl _ w).alloc (Nat.le_refl _) _).alloc (by simp) _).trans (hb1.mono (by omega))
  have r0 := kR.one
  have r1 := kR.free 0
  by_cases hE0 : E = 0
  · obtain ⟨fv, cv, mk⟩ := hmk hE0
    have hR2 : R = upG l n := by rw [HR.out, if_pos hE0]
    rw [← hR2] at mk
    obtain ⟨kM, hF, hC⟩ := mk
    have GF : FrsIn (fun g => w.heap.size + 1 ≤ g) w1 fv R.2 := hF.frsIn (fun g _ h => h.1) (fun g hg => (hF.lt g hg).1)
    have GC : GrsIn (fun g => w.heap.size + 1 ≤ g) w1 cv R.1 := hC.grsIn (fun g _ h => h.1) (fun g hg => (hC.lt g hg).1)
    obtain ⟨fa, fc, efv, _⟩ := GF.len
    obtain ⟨ca, cc, ecv, _⟩ := GC.len
    obtain ⟨k0, k1⟩ := kM.two
    rw [efv] at GF k0
    rw [ecv] at GC k1
    have HGF : Hid (FrsIn (fun g => w.heap.size + 1 ≤ g) w1 (.slice fa R.2.length fc) R.2) := GF
    have HGC : Hid (GrsIn (fun g => w.heap.size + 1 ≤ g) w1 (.slice ca R.1.length cc) R.1) := GC
    obtain ⟨nF, hnF⟩ : ∃ nF, nF = R.2.length := ⟨_, rfl⟩
    obtain ⟨nC, hnC⟩ : ∃ nC, nC = R.1.length := ⟨_, rfl⟩
    rw [← hnF] at HGF k0
    rw [← hnC] at HGC k1
    have HNF : Hid (nF = R.2.length) := hnF
    have HNC : Hid (nC = R.1.length) := hnC
    have hne : ¬ w.heap.size + 1 = w.heap.size := by omega
    have hMl := kM.lt
    subst hE0
    clear hmk hb1 kR kM hF hC efv ecv GF GC hR2 hnF hnC
    go_wp2_with fail
    go_region
    all_goals
      go_wp2
      refine bodyPost_ret (v := .tuple #[.slice ca nC cc, .agg #[.slice fa nF fc], .int .i64 0]) (by simp [results, Tryz.results97, go_sem, r0]) rfl ⟨ca, cc, fa, fc, by rw [HNC.out, HNF.out], ?_, ?_, ?_⟩
      · rw [← HNC.out]
        exact HGC.out.to (SameOn.setCell (fun g (hg : w.heap.size + 1 ≤ g) => by show g ≠ w.heap.size; omega) _) (fun g _ hg => by omega)
      · rw [← HNF.out]
        exact HGF.out.to (SameOn.setCell (fun g (hg : w.heap.size + 1 ≤ g) => by show g ≠ w.heap.size; omega) _) (fun g _ hg => by omega)
      · exact (B1.out.setCell (by simp) _).drew
  · have hR2 : R = ([], []) := by rw [HR.out, if_neg hE0]
    have HR2 : Hid (R = ([], [])) := hR2
    clear hmk hb1 kR hR2
    go_wp2
    refine bodyPost_ret (v := .tuple #[.slice none 0 0, .agg #[.slice none 0 0], .int .i64 E]) (by simp [results, Tryz.results97, go_sem, r0]) rfl ?_
    rw [HR2.out]
    exact ⟨none, 0, none, 0, rfl, GrsIn.nil _ _, FrsIn.nil _ _, B1.out.setCell (by simp) _⟩

end Go.Proofs.YtnpaejknoipicafGreat

namespace Go.Proofs.YtnpaejknoipicafGreat
open Go.RowKit

theorem FrsIn.two {S : Nat → Prop} {w : World} {b : Nat} {f : Fr} {pv : Value} (hb : Blk w b #[.int .i64 f.time, .bool f.key, pv] 30) (hS : S b) (hp : StrsIn S w pv f.parts) : FrsIn S w (.slice (some ⟨b, 0, none⟩) 1 1) [f] := FrsIn.one hb hS hp

/-- what is known behind each step -/
def AddI (w1 : World) (f : Fr) (pa : Option Addr) (pn pc : Nat) (oa : Option Addr) (lo oc : Nat) (X : List Fr) (C : List (List Fr)) (R : List Fr) (E : Int) (s : Nat) (r : Nat → Value) (b : Option Nat) (w' : World) : Prop :=
  Below w1.heap.size w1 w' ∧ (s ≤ 4 → ∀ g, b = some g → w1.heap.size ≤ g ∧ Blk w' g #[.slice none 0 0] 25) ∧ match s with
    | 0 => True
    | 1 => ∃ g1, r 0 = .slice (some ⟨g1, 0, none⟩) 1 1 ∧ Blk w' g1 #[.int .i64 f.time, .bool f.key, .slice pa pn pc] 30
    | 2 => ∃ g1 g2, r 1 = .slice (some ⟨g2, 0, none⟩) 2 2 ∧ Blk w' g1 #[.int .i64 f.time, .bool f.key, .slice pa pn pc] 30 ∧ Blk w' g2 #[.slice oa lo oc, .slice (some ⟨g1, 0, none⟩) 1 1] 23
    | 3 => FrsIn (fun _ => True) w' (r 2) X
    | 4 => ∃ ca cc fa fc, r 3 = .tuple #[.slice ca C.length cc, .agg #[.slice fa R.length fc], .int .i64 E] ∧ GrsIn (fun x => b ≠ some x ∧ w1.heap.size ≤ x) w' (.slice ca C.length cc) C ∧ FrsIn (fun x => b ≠ some x ∧ w1.heap.size ≤ x) w' (.slice fa R.length fc) R
    | _ => ∃ g ca cc fa fc, b = some g ∧ w1.heap.size ≤ g ∧ r 3 = .tuple #[.slice ca C.length cc, .agg #[.slice fa R.length fc], .int .i64 E] ∧ GrsIn (fun x => b ≠ some x ∧ w1.heap.size ≤ x) w' (.slice ca C.length cc) C ∧ FrsIn (fun x => b ≠ some x ∧ w1.heap.size ≤ x) w' (.slice fa R.length fc) R ∧ Blk w' g #[.slice fa R.length fc] 25

theorem AddI.box {w1 : World} {f : Fr} {pa : Option Addr} {pn pc : Nat} {oa : Option Addr} {lo oc : Nat} {X : List Fr} {C : List (List Fr)} {R : List Fr} {E : Int} {s : Nat} {r : Nat → Value} {w' : World} (h : AddI w1 f pa pn pc oa lo oc X C R E s r none w') : AddI w1 f pa pn pc oa lo oc X C R E s r (some w'.heap.size) (w'.alloc (.cells #[.slice none 0 0] 25)) := by
  obtain ⟨h1, _, h3⟩ := h
  refine ⟨h1.alloc h1.size _, fun _ g hg => by injection hg with hg; subst hg; exact ⟨h1.size, Blk.new _ _ _⟩, ?_⟩
  match s, h3 with
  | 0, _ => trivial
  | 1, ⟨g1, e1, e2⟩ => exact ⟨g1, e1, e2.alloc _⟩
  | 2, ⟨g1, g2, e1, e2, e3⟩ => exact ⟨g1, g2, e1, e2.alloc _, e3.alloc _⟩
  | 3, h => exact FrsIn.alloc h _
  | 4, ⟨ca, cc, fa, fc, e1, e2, e3⟩ => exact ⟨ca, cc, fa, fc, e1, (e2.mono fun g hg h => ⟨fun e => (by injection e with e; omega), h.2⟩).alloc _, (e3.mono fun g hg h => ⟨fun e => (by injection e with e; omega), h.2⟩).alloc _⟩
  | _ + 5, ⟨g, _, _, _, _, e, _⟩ => cases e

end Go.Proofs.YtnpaejknoipicafGreat

namespace Go.Proofs.YtnpaejknoipicafGreat
open Go.RowKit

/-- what the frames of a right group make: that group -/
theorem upG_group {O : List Fr} (h : O = [] ∨ gchk O = 0) : ∀ k, k ≤ O.length → upG O k = ([], O.take k) := by
  rcases h with h | h
  · subst h; intro k hk
    have : k = 0 := by simpa using hk
    subst this; rfl
  · obtain ⟨_, h6, hc⟩ := gchk_zero.1 h
    intro k
    induction k with
    | zero => intro _; rfl
    | succ k ih =>
      intro hk
      rw [upG_succ O k (by omega), ih (by omega), take_one (by omega) Fr.zero]
      have hin := (hc k (by omega)).2
      unfold inPl at hin
      by_cases h0 : k = 0
      · subst h0
        rw [if_pos rfl] at hin
        simp [stepG, growG, hin]
      · rw [if_neg h0] at hin
        simp only [Bool.and_eq_true, Bool.not_eq_true', decide_eq_true_eq] at hin
        have hl : (O.take k).length = k := by simp; omega
        have hlast : frAt (O.take k) (k - 1) = frAt O (k - 1) := by
          unfold frAt; rw [List.getElem?_take_of_lt (by omega)]
        simp only [stepG, hin.1, Bool.false_and, Bool.false_eq_true, if_false]
        unfold growG
        rw [if_neg (by rw [hin.1]; simp), hl, hlast, if_neg (by omega)]
theorem groups_more {O : List Fr} {f : Fr} (h : O = [] ∨ gchk O = 0) (hf : f.chk = 0) : groupsE (O ++ [f]) = 0 ∧ groupsR (O ++ [f]) = (if f.key && decide (0 < O.length) then [O] else [], growG O f) := by
  have hO6 : O.length ≤ 6 := by
    rcases h with h | h
    · rw [h]; simp
    · exact (gchk_zero.1 h).2.1
  have hok : ∀ k, k < (O ++ [f]).length → (frAt (O ++ [f]) k).chk = 0 := fun k hk => by
    by_cases hkl : k < O.length
    · have e : frAt (O ++ [f]) k = frAt O k := by unfold frAt; rw [List.getElem?_append_left hkl]
      rw [e]
      rcases h with h | h
      · rw [h] at hkl; simp at hkl
      · exact ((gchk_zero.1 h).2.2 k hkl).1
    · have : k = O.length := by simp at hk; omega
      subst this
      have e : frAt (O ++ [f]) O.length = f := by unfold frAt; simp
      rw [e]; exact hf
  have hE : groupsE (O ++ [f]) = 0 := by
    unfold groupsE
    rw [if_neg (by simp; omega)]
    exact goN_all _ _ (fun j _ hj => hok j (by omega))
  refine ⟨hE, ?_⟩
  unfold groupsR
  rw [if_pos hE]
  have h1 : upG (O ++ [f]) (O ++ [f]).length = stepG (upG O O.length) f := by
    unfold upG
    rw [List.take_length, List.take_length, List.foldl_append]; rfl
  rw [h1, upG_group h O.length (Nat.le_refl _), List.take_length]
  simp [stepG]

set_option maxHeartbeats 8000000 in
set_option maxRecDepth 100000 in
theorem keeperAdd_any (M : Nat) (first : Int) (gv ov pv : Value) (L : List (List Fr)) (O : List Fr) (f : Fr) (w : World) (hM : Blk w M #[.int .i64 first, gv, ov] 103) (hg : GrsIn (fun g => g ≠ M) w gv L) (ho : FrsIn (fun g => g ≠ M) w ov O) (hp : StrsIn (fun g => g ≠ M) w pv f.parts)
    (hL : L.length ≤ 5) (hLr : ∀ g ∈ L, gchk g = 0) (hOr : O = [] ∨ gchk O = 0) (hf : f.chk = 0) (hf0 : 0 ≤ first) (hf1 : first ≤ 100000) (C : List (List Fr)) (hC : C = if f.key && decide (0 < O.length) then [O] else []) :
    Calls Tryz.prog 55 #[.pointer (some ⟨M, 0, none⟩), .agg #[.int .i64 f.time, .bool f.key, pv]] w fun e w' => e = .returned (.bool (decide (0 < C.length))) ∧ ∃ gv' ov', Blk w' M #[.int .i64 (first + trimD (L ++ C)), gv', ov'] 103 ∧ GrsIn (fun g => w.heap.size ≤ g) w' gv' ((L ++ C).drop (trimD (L ++ C))) ∧ FrsIn (fun g => w.heap.size ≤ g) w' ov' (growG O f) ∧ Kept [M] w w' := by
  obtain ⟨hE, hR⟩ := groups_more hOr hf
  rw [← hC] at hR
  obtain ⟨R, hRR⟩ : ∃ R, R = growG O f := ⟨_, rfl⟩
  rw [← hRR] at hR
  obtain ⟨ga, gc, eg, _, _⟩ := hg.len
  obtain ⟨oa, oc, eo, _, _⟩ := ho.len
  obtain ⟨pa, pc, ep⟩ := hp.1.len
  obtain ⟨ln, hln⟩ : ∃ n, n = L.length := ⟨_, rfl⟩
  obtain ⟨lo, hlo⟩ : ∃ n, n = O.length := ⟨_, rfl⟩
  obtain ⟨pn, hpn⟩ : ∃ n, n = f.parts.length := ⟨_, rfl⟩
  rw [← hln] at eg
  rw [← hlo] at eo
  rw [← hpn] at ep
  have hO6 : O.length ≤ 6 := by
    rcases hOr with h | h
    · rw [h]; simp
    · exact (gchk_zero.1 h).2.1
  have hC1 : C.length ≤ 1 := by rw [hC]; split <;> simp
  have HX : Hid (∀ (U : World) (x : Value), FrsIn (fun _ => True) U x (O ++ [f]) → Calls Tryz.prog 97 #[x] U fun e w'' => ∃ ca cc fa fc, e = .returned (.tuple #[.slice ca C.length cc, .agg #[.slice fa R.length fc], .int .i64 0]) ∧ GrsIn (fun g => U.heap.size ≤ g) w'' (.slice ca C.length cc) C ∧ FrsIn (fun g => U.heap.size ≤ g) w'' (.slice fa R.length fc) R ∧ Below U.heap.size U w'') := fun U x hx => by
    have := groupAll_any x (O ++ [f]) U _ hx
    rw [hE, hR] at this
    exact this
  have HG : Hid (GrsIn (fun g => g ≠ M) w gv L) := hg
  have HO : Hid (FrsIn (fun g => g ≠ M) w ov O) := ho
  have HP : Hid (StrsIn (fun g => g ≠ M) w pv f.parts) := hp
  have HM : Hid (Blk w M #[.int .i64 first, gv, ov] 103) := hM
  have HLR : Hid (∀ g ∈ L, gchk g = 0) := hLr
  have HO6 : Hid (O.length ≤ 6) := hO6
  have HLO : Hid (lo = O.length) := hlo
  have hMw : M < w.heap.size := hM.lt
  rw [← hRR]
  clear hE hR hg ho hp hM hLr hOr hf hRR hC hln hpn hlo
  subst eg eo ep
  go_enter Tryz.func55, Tryz.ntmps55
  go_wp2_with fail
  obtain ⟨w1, hw1⟩ : ∃ w1, w1 = w.alloc (.cells #[.int .i64 f.time, .bool f.key, .slice pa pn pc] 30) := ⟨_, rfl⟩
  have B1 : Below w.heap.size w w1 := by rw [hw1]; exact (Below.refl _ _).alloc (Nat.le_refl _) _
  have KF : Blk w1 w.heap.size #[.int .i64 f.time, .bool f.key, .slice pa pn pc] 30 := by rw [hw1]; exact Blk.new _ _ _
  have KM : Blk w1 M #[.int .i64 first, .slice ga ln gc, .slice oa lo oc] 103 := HM.out.below B1 hMw
  have hw1s : w1.heap.size = w.heap.size + 1 := by rw [hw1]; simp
  rw [← hw1]
  have BB1 : Hid (Below w.heap.size w w1) := B1
  have KMH : Hid (Blk w1 M #[.int .i64 first, .slice ga ln gc, .slice oa lo oc] 103) := KM
  clear hw1 B1
  refine region_box (by kernel_rfl) (by kernel_rfl) [.quiet (.pointer (some ⟨M, 0, none⟩)) 5, .quiet (.pointer (some ⟨M, 0, none⟩)) 5, .quiet (.pointer (some ⟨M, 0, none⟩)) 5, .quiet (.pointer (some ⟨M, 2, none⟩)) 5, .quiet (.pointer (some ⟨M, 2, none⟩)) 5, .quiet (.slice oa lo oc) 5, .quiet (.agg #[.int .i64 f.time, .bool f.key, .slice pa pn pc]) 5, .step 0, .step 1, .step 2, .step 3, .fin 3 (fun x => x), .fin 3 (exT 0), .fin 3 (exT 1), .fin 3 (exT 2), .box, .fin 3 (exT 0), .step 4, .fin 3 (exT 2)] [7, 8, 9, 10, 17] 15 (by kernel_rfl)
    (AddI w1 f pa pn pc oa lo oc (O ++ [f]) C R 0) ?i0 ?step ?fin
  case i0 => exact ⟨⟨rfl, rfl, rfl, Nat.le_refl _, fun _ _ => rfl⟩, fun _ g hg => (by cases hg), trivial⟩
  case step =>
    intro i o ho a' w' s r b hI hfree hvals hbx
    have f0 : a'.eval (.tmp 0) = .pointer (some ⟨M, 0, none⟩) := (hfree 0 (by kernel_rfl)).trans rfl
    have f3 : a'.eval (.tmp 3) = .pointer (some ⟨w.heap.size, 0, none⟩) := (hfree 3 (by kernel_rfl)).trans rfl
    have hBw : Below w1.heap.size w1 w' := hI.1
    have hMw1 := KM.lt
    have hFw1 := KF.lt
    obtain ⟨_, _, y2⟩ := (KM.below hBw hMw1).three
    obtain ⟨z0, z1, z2⟩ := (KF.below hBw hFw1).three
    have hR3 : 3 < s → ∃ ca cc fa fc, r 3 = .tuple #[.slice ca C.length cc, .agg #[.slice fa R.length fc], .int .i64 0] := fun hs => by
      match s, hs, hI.2.2 with
      | 4, _, ⟨ca, cc, fa, fc, e, _⟩ => exact ⟨ca, cc, fa, fc, e⟩
      | _ + 5, _, ⟨_, ca, cc, fa, fc, _, _, e, _⟩ => exact ⟨ca, cc, fa, fc, e⟩
    match i, ho with
    | 0, ho =>
      simp at ho; subst ho
      show s ≤ 5 → (execOp a'.eval _).run _ w' = .ok (.value _) w'
      intro _
      generalize a'.eval = ρ at *
      simp [execOp, go_sem, f0]
    | 1, ho =>
      simp at ho; subst ho
      have e1 : a'.eval (.tmp 9) = .pointer (some ⟨M, 0, none⟩) := hvals 0 _ _ (by kernel_rfl) rfl rfl
      show s ≤ 5 → (execOp a'.eval _).run _ w' = .ok (.value _) w'
      intro _
      generalize a'.eval = ρ at *
      simp [execOp, go_sem, e1]
    | 2, ho =>
      simp at ho; subst ho
      have e1 : a'.eval (.tmp 10) = .pointer (some ⟨M, 0, none⟩) := hvals 1 _ _ (by kernel_rfl) rfl rfl
      show s ≤ 5 → (execOp a'.eval _).run _ w' = .ok (.value _) w'
      intro _
      generalize a'.eval = ρ at *
      simp [execOp, go_sem, e1]
    | 3, ho =>
      simp at ho; subst ho
      have e1 : a'.eval (.tmp 11) = .pointer (some ⟨M, 0, none⟩) := hvals 2 _ _ (by kernel_rfl) rfl rfl
      show s ≤ 5 → (execOp a'.eval _).run _ w' = .ok (.value _) w'
      intro _
      generalize a'.eval = ρ at *
      simp [execOp, go_sem, e1]
    | 4, ho =>
      simp at ho; subst ho
      have e1 : a'.eval (.tmp 12) = .pointer (some ⟨M, 2, none⟩) := hvals 3 _ _ (by kernel_rfl) rfl rfl
      show s ≤ 5 → (execOp a'.eval _).run _ w' = .ok (.value _) w'
      intro _
      generalize a'.eval = ρ at *
      simp [execOp, go_sem, e1]
    | 5, ho =>
      simp at ho; subst ho
      have e1 : a'.eval (.tmp 13) = .pointer (some ⟨M, 2, none⟩) := hvals 4 _ _ (by kernel_rfl) rfl rfl
      show s ≤ 5 → (execOp a'.eval _).run _ w' = .ok (.value _) w'
      intro _
      generalize a'.eval = ρ at *
      simp [execOp, go_sem, e1, y2]
    | 6, ho =>
      simp at ho; subst ho
      show s ≤ 5 → (execOp a'.eval _).run _ w' = .ok (.value _) w'
      intro _
      generalize a'.eval = ρ at *
      simp [execOp, go_sem, f3, z0, z1, z2]
    | 7, ho =>
      simp at ho; subst ho
      have e1 : a'.eval (.tmp 15) = .agg #[.int .i64 f.time, .bool f.key, .slice pa pn pc] := hvals 6 _ _ (by kernel_rfl) rfl rfl
      show s = 0 → _
      intro hs
      subst hs
      refine oper_wp_ok (v := .slice (some ⟨w'.heap.size, 0, none⟩) 1 1) (w' := w'.alloc (.cells #[.int .i64 f.time, .bool f.key, .slice pa pn pc] 30)) ?_ ⟨_, rfl, hBw.alloc hBw.size _, fun _ g hg => ⟨(hI.2.1 (by omega) g hg).1, (hI.2.1 (by omega) g hg).2.alloc _⟩, w'.heap.size, updR_at _ _ _, Blk.new _ _ _⟩
      generalize a'.eval = ρ at *
      simp [execOp, go_sem, e1]
    | 8, ho =>
      simp at ho; subst ho
      show s = 1 → _
      intro hs
      subst hs
      obtain ⟨g1, q1, q2⟩ := hI.2.2
      have e1 : a'.eval (.tmp 14) = .slice oa lo oc := hvals 5 _ _ (by kernel_rfl) rfl rfl
      have e2 : a'.eval (.tmp 16) = .slice (some ⟨g1, 0, none⟩) 1 1 := (hvals 7 _ _ (by kernel_rfl) rfl rfl).trans q1
      refine oper_wp_ok (v := .slice (some ⟨w'.heap.size, 0, none⟩) 2 2) (w' := w'.alloc (.cells #[.slice oa lo oc, .slice (some ⟨g1, 0, none⟩) 1 1] 23)) ?_ ⟨_, rfl, hBw.alloc hBw.size _, fun _ g hg => ⟨(hI.2.1 (by omega) g hg).1, (hI.2.1 (by omega) g hg).2.alloc _⟩, g1, w'.heap.size, updR_at _ _ _, q2.alloc _, Blk.new _ _ _⟩
      generalize a'.eval = ρ at *
      simp [execOp, go_sem, e1, e2]
    | 9, ho =>
      simp at ho; subst ho
      show s = 2 → _
      intro hs
      subst hs
      obtain ⟨g1, g2, q1, q2, q3⟩ := hI.2.2
      have e1 : a'.eval (.tmp 17) = .slice (some ⟨g2, 0, none⟩) 2 2 := (hvals 8 _ _ (by kernel_rfl) rfl rfl).trans q1
      have ef : a'.eval (.func 98) = .func (.func 98) #[] #[] := rfl
      obtain ⟨t0, t1⟩ := q3.two
      have hbw : Below w.heap.size w w' := BB1.out.trans (hBw.mono BB1.out.size)
      have hc := concatFrs_any (fun _ => True) g2 (.slice oa lo oc) (.slice (some ⟨g1, 0, none⟩) 1 1) O [f] w' t0 t1 ((HO.out.below hbw).mono fun _ _ _ => trivial) (FrsIn.one q2 trivial ((HP.out.below hbw).mono fun _ _ _ => trivial)) (by have := HO6.out; simp; omega)
      refine oper_wp_call (f := 98) (args := #[.slice (some ⟨g2, 0, none⟩) 2 2]) ?_ (hc.mono ?_)
      · generalize a'.eval = ρ at *
        simp [execOp, go_sem, e1, ef]
      · rintro e w'' ⟨u, rfl, o1, b1⟩
        exact ⟨u, rfl, u, rfl, hBw.trans (b1.mono hBw.size), fun _ g hg => ⟨(hI.2.1 (by omega) g hg).1, (hI.2.1 (by omega) g hg).2.below b1 (hI.2.1 (by omega) g hg).2.lt⟩, by show FrsIn _ _ _ _; rw [updR_at]; exact o1.frsIn (fun _ _ _ => trivial) (fun _ _ => trivial)⟩
    | 10, ho =>
      simp at ho; subst ho
      show s = 3 → _
      intro hs
      subst hs
      have e1 : a'.eval (.tmp 18) = r 2 := hvals 9 _ _ (by kernel_rfl) rfl rfl
      have ef : a'.eval (.func 97) = .func (.func 97) #[] #[] := rfl
      refine oper_wp_call (f := 97) (args := #[r 2]) ?_ ((HX.out w' (r 2) hI.2.2).mono ?_)
      · generalize a'.eval = ρ at *
        simp [execOp, go_sem, e1, ef]
      · rintro e w'' ⟨ca, cc, fa, fc, rfl, s1, s2, b1⟩
        have hne : ∀ x, w'.heap.size ≤ x → b ≠ some x := fun x hx e => by have := (hI.2.1 (by omega) x e).2.lt; omega
        exact ⟨_, rfl, _, rfl, hBw.trans (b1.mono hBw.size), fun _ g hg => ⟨(hI.2.1 (by omega) g hg).1, (hI.2.1 (by omega) g hg).2.below b1 (hI.2.1 (by omega) g hg).2.lt⟩, ca, cc, fa, fc, updR_at _ _ _, s1.mono fun x _ hx => ⟨hne x hx, by have := hBw.size; omega⟩, s2.mono fun x _ hx => ⟨hne x hx, by have := hBw.size; omega⟩⟩
    | 11, ho =>
      simp at ho; subst ho
      have e1 : a'.eval (.tmp 19) = r 3 := hvals 10 _ _ (by kernel_rfl) rfl rfl
      show 3 < s → (execOp a'.eval _).run _ w' = .ok (.value _) w'
      intro hs
      obtain ⟨ca, cc, fa, fc, er⟩ := hR3 hs
      rw [er] at e1 ⊢
      generalize a'.eval = ρ at *
      simp [execOp, go_sem, e1]
    | 12, ho =>
      simp at ho; subst ho
      have e1 : a'.eval (.tmp 8) = r 3 := hvals 11 _ _ (by kernel_rfl) rfl rfl
      show 3 < s → (execOp a'.eval _).run _ w' = .ok (.value _) w'
      intro hs
      obtain ⟨ca, cc, fa, fc, er⟩ := hR3 hs
      rw [er] at e1 ⊢
      simp only [exT] at e1 ⊢
      generalize a'.eval = ρ at *
      simp [execOp, go_sem, e1]
    | 13, ho =>
      simp at ho; subst ho
      have e1 : a'.eval (.tmp 8) = r 3 := hvals 11 _ _ (by kernel_rfl) rfl rfl
      show 3 < s → (execOp a'.eval _).run _ w' = .ok (.value _) w'
      intro hs
      obtain ⟨ca, cc, fa, fc, er⟩ := hR3 hs
      rw [er] at e1 ⊢
      simp only [exT] at e1 ⊢
      generalize a'.eval = ρ at *
      simp [execOp, go_sem, e1]
    | 14, ho =>
      simp at ho; subst ho
      have e1 : a'.eval (.tmp 8) = r 3 := hvals 11 _ _ (by kernel_rfl) rfl rfl
      show 3 < s → (execOp a'.eval _).run _ w' = .ok (.value _) w'
      intro hs
      obtain ⟨ca, cc, fa, fc, er⟩ := hR3 hs
      rw [er] at e1 ⊢
      simp only [exT] at e1 ⊢
      generalize a'.eval = ρ at *
      simp [execOp, go_sem, e1]
    | 15, ho =>
      simp at ho; subst ho
      show b = none → _
      intro hb
      subst hb
      refine ⟨.cells #[.slice none 0 0] 25, ?_, hI.box⟩
      generalize a'.eval = ρ at *
      simp [execOp, go_sem]
    | 16, ho =>
      simp at ho; subst ho
      have e1 : a'.eval (.tmp 20) = exT 0 (r 3) := hvals 12 _ _ (by kernel_rfl) rfl rfl
      show 3 < s → (execOp a'.eval _).run _ w' = .ok (.value _) w'
      intro hs
      obtain ⟨ca, cc, fa, fc, er⟩ := hR3 hs
      rw [er] at e1 ⊢
      simp only [exT] at e1 ⊢
      generalize a'.eval = ρ at *
      simp [execOp, go_sem, e1]
    | 17, ho =>
      simp at ho; subst ho
      show s = 4 → _
      intro hs
      subst hs
      obtain ⟨ca, cc, fa, fc, er, s1, s2⟩ := hI.2.2
      obtain ⟨g, hg⟩ := Option.isSome_iff_exists.1 (hbx (by kernel_rfl))
      subst hg
      obtain ⟨hgb, kg⟩ := hI.2.1 (by omega) g rfl
      have e1 : a'.eval (.tmp 6) = .pointer (some ⟨g, 0, none⟩) := hvals 15 _ _ (by kernel_rfl) rfl rfl
      have e2 : a'.eval (.tmp 21) = .agg #[.slice fa R.length fc] := (hvals 13 _ _ (by kernel_rfl) rfl rfl).trans (by show exT 1 (r 3) = _; rw [er]; rfl)
      have t0 := kg.one
      have t1 := kg.free 0
      refine oper_wp_skip (w' := w'.setCell ⟨g, 0, none⟩ (.slice fa R.length fc)) ?_ ⟨_, rfl, hBw.setCell hgb _, fun h => absurd h (by omega), ?_⟩
      · generalize a'.eval = ρ at *
        simp [execOp, go_sem, e1, e2, t0, t1]
      · exact ⟨g, ca, cc, fa, fc, rfl, hgb, by rw [updR_ne (by omega)]; exact er, s1.to (SameOn.setCell (fun x hx e => hx.1 (by rw [e])) _) (fun _ _ h => h), s2.to (SameOn.setCell (fun x hx e => hx.1 (by rw [e])) _) (fun _ _ h => h), kg.set 0 _⟩
    | 18, ho =>
      simp at ho; subst ho
      have e1 : a'.eval (.tmp 22) = exT 2 (r 3) := hvals 14 _ _ (by kernel_rfl) rfl rfl
      show 3 < s → (execOp a'.eval _).run _ w' = .ok (.value _) w'
      intro hs
      obtain ⟨ca, cc, fa, fc, er⟩ := hR3 hs
      rw [er] at e1 ⊢
      simp only [exT] at e1 ⊢
      generalize a'.eval = ρ at *
      simp [execOp, go_sem, e1]
    | i + 19, ho => simp at ho
  case fin =>
    rintro r g W ⟨hB, _, g', ca, cc, fa, fc, hgg, hg1, er, s1, s2, kg⟩
    injection hgg with hgg
    subst hgg
    simp only [putB, Cb.out, er, exT]
    obtain ⟨nC, hnC⟩ : ∃ n, n = C.length := ⟨_, rfl⟩
    obtain ⟨nR, hnR⟩ : ∃ n, n = R.length := ⟨_, rfl⟩
    rw [← hnC] at s1
    rw [← hnR] at s2 kg
    have HNC : Hid (nC = C.length) := hnC
    simp only [← hnC, ← hnR]
    have KMW : Blk W M #[.int .i64 first, .slice ga ln gc, .slice oa lo oc] 103 := KMH.out.below hB KMH.out.lt
    have BW : Below w.heap.size w W := BB1.out.trans (hB.mono BB1.out.size)
    have GW : GrsIn (fun x => x ≠ M) W (.slice ga ln gc) L := HG.out.below BW
    have hMW : M < W.heap.size := KMW.lt
    have HCLN : Hid (Calls Tryz.prog 99 #[.slice ga ln gc] W fun e w' => ∃ u, e = .returned u ∧ OwnGrs W.heap.size (NS W.heap.size u) w' u L ∧ Below W.heap.size W w') := cloneGroups_any _ _ L W GW (by omega) HLR.out
    have S1 : Hid (GrsIn (fun x => w1.heap.size ≤ x ∧ x < W.heap.size) W (.slice ca nC cc) C) := s1.mono fun x hx h => ⟨h.2, hx⟩
    have S2 : Hid (FrsIn (fun x => w1.heap.size ≤ x ∧ x < W.heap.size) W (.slice fa nR fc) R) := s2.mono fun x hx h => ⟨h.2, hx⟩
    have KG : Hid (Blk W g #[.slice fa nR fc] 25) := kg
    have KMW2 : Hid (Blk W M #[.int .i64 first, .slice ga ln gc, .slice oa lo oc] 103) := KMW
    have HKW : Hid (Kept [M] w W) := (Kept.refl [M] w).below BW
    have hgM : g ≠ M := by omega
    have hWw : w.heap.size ≤ W.heap.size := BW.size
    obtain ⟨q0, q1, q2⟩ := KMW.three
    clear s1 s2 kg hB er BW GW KMW
    have HNR : Hid (nR = R.length) := hnR
    clear hnC hnR KM KF
    go_wp2_with fail
    refine HCLN.out.mono ?_
    rintro e w2 ⟨u, rfl, ou, bu⟩
    have hu : ∀ x, u.ownBlock = some x → W.heap.size ≤ x ∧ x < w2.heap.size := ou.lt
    have O2 : OwnGrs W.heap.size (fun x => w.heap.size ≤ x ∧ some x ≠ u.ownBlock ∧ x < w2.heap.size) w2 u L := ou.to (SameOn.refl _ _) (fun x hx h => ⟨by have := h.1; omega, h.2, hx⟩) (fun _ _ => rfl)
    have S3 : GrsIn (fun x => w.heap.size ≤ x ∧ some x ≠ u.ownBlock ∧ x < w2.heap.size) w2 (.slice ca nC cc) C := (S1.out.below bu).mono fun x hx h => ⟨by have := h.1; omega, fun e => (by have := (hu x e.symm).1; omega), hx⟩
    obtain ⟨qs, t1, t2, t3⟩ := S3.sl
    obtain ⟨v', w3, r3, o3, g3, dd⟩ := groups_app O2 t1 t2 t3 (fun x hx => hx.2.1) (by omega) bu.size
    have hg3 : ∀ x, x < W.heap.size → w3.heap[x]? = W.heap[x]? := fun x hx => (g3.block x (Nat.lt_of_lt_of_le hx bu.size) (fun e => by have := (hu x e.symm).1; omega)).trans (bu.block x hx)
    have hs3 : w2.heap.size ≤ w3.heap.size := g3.size
    have hWs3 : W.heap.size ≤ w3.heap.size := Nat.le_trans bu.size hs3
    have BW3 : Below W.heap.size W w3 := bu.grown g3 bu.size (fun x hx => (hu x hx).1)
    have K3 : Blk w3 M #[.int .i64 first, .slice ga ln gc, .slice oa lo oc] 103 := (hg3 M hMW).trans KMW2.out
    have G3 : Blk w3 g #[.slice fa nR fc] 25 := (hg3 g KG.out.lt).trans KG.out
    have hv' : ∀ x, v'.ownBlock = some x → W.heap.size ≤ x := fun x hx => (o3.lt x hx).1
    have V3 : GrsIn (fun x => w.heap.size ≤ x) w3 v' (L ++ C) := o3.grsIn (fun x _ h => h.1) (fun x hx => by have := hv' x hx; omega)
    have R3 : FrsIn (fun x => w.heap.size ≤ x) w3 (.slice fa nR fc) R := S2.out.to ⟨hWs3, fun x hx _ => hg3 x hx⟩ (fun x _ h => by have := h.1; omega)
    obtain ⟨va, vc, ev, _, _⟩ := V3.len
    obtain ⟨nV, hnV⟩ : ∃ n, n = (L ++ C).length := ⟨_, rfl⟩
    rw [← hnV] at ev
    clear hnV
    have c1 := K3.three
    obtain ⟨c10, c11, c12⟩ := c1
    have fr := K3.free
    have cg := G3.one
    obtain ⟨w5, hw5⟩ : ∃ w5, w5 = (w3.setCell ⟨M, 1, none⟩ v').setCell ⟨M, 2, none⟩ (.slice fa nR fc) := ⟨_, rfl⟩
    have K5 : Blk w5 M #[.int .i64 first, v', .slice fa nR fc] 103 := by
      rw [hw5]; exact (K3.set 1 v').set 2 (.slice fa nR fc)
    have same5 : SameOn (fun x => w.heap.size ≤ x) w3 w5 := by
      rw [hw5]
      exact (SameOn.setCell (S := fun x => w.heap.size ≤ x) (w := w3) (a := ⟨M, 1, none⟩) (fun x hx => (by show x ≠ M; omega)) v').trans (SameOn.setCell (S := fun x => w.heap.size ≤ x) (w := w3.setCell ⟨M, 1, none⟩ v') (a := ⟨M, 2, none⟩) (fun x hx => (by show x ≠ M; omega)) (.slice fa nR fc))
    have V5 : GrsIn (fun x => w.heap.size ≤ x) w5 v' (L ++ C) := V3.to same5 (fun _ _ h => h)
    have R5 : Hid (FrsIn (fun x => w.heap.size ≤ x) w5 (.slice fa nR fc) R) := R3.to same5 (fun _ _ h => h)
    have P5 : Hid (Kept [M] w w5) := by
      rw [hw5]; exact ((HKW.out.below BW3).setCell (by simp) _).setCell (by simp) _
    have HLG : Hid (Calls Tryz.prog 100 #[.pointer (some ⟨M, 0, none⟩)] w5 fun e w' => e = .returned (.tuple #[]) ∧ ∃ gv', Blk w' M #[.int .i64 (first + trimD (L ++ C)), gv', .slice fa nR fc] 103 ∧ GrsIn (fun x => w.heap.size ≤ x) w' gv' ((L ++ C).drop (trimD (L ++ C))) ∧ Kept [M] w5 w') := letGo_any M first v' _ (L ++ C) _ w5 K5 V5 (fun x hx => (by show x ≠ M; omega)) (by simp; omega) hf0 (by omega)
    clear ou bu hu O2 S3 t1 t2 t3 o3 g3 dd hg3 hs3 BW3 K3 G3 hv' V3 R3 K5 V5 same5 q0 q1 q2 HCLN
    subst ev
    go_wp2_with (at_builtin; refine wpList_append_run rfl (.tmp 29) (.tmp 30) 22 22 rfl _ _ rfl rfl r3 ?_)
    rw [← hw5]
    refine HLG.out.mono ?_
    rintro e w6 ⟨rfl, gv', k6, v6, p6⟩
    have R6 : FrsIn (fun x => w.heap.size ≤ x) w6 (.slice fa nR fc) R := R5.out.to ⟨p6.size, fun x hx h => p6.block x hx (by simp; omega)⟩ (fun _ _ h => h)
    have FIN : Hid (∃ gv' ov', Blk w6 M #[.int .i64 (first + trimD (L ++ C)), gv', ov'] 103 ∧ GrsIn (fun g => w.heap.size ≤ g) w6 gv' ((L ++ C).drop (trimD (L ++ C))) ∧ FrsIn (fun g => w.heap.size ≤ g) w6 ov' R ∧ Kept [M] w w6) := ⟨gv', .slice fa nR fc, k6, v6, R6, P5.out.trans p6⟩
    clear k6 v6 p6 R6 R5 P5 HLG hw5 c10 c11 c12 fr cg r3
    go_wp2
    go_ret
    exact ⟨by rw [← HNC.out]; first | rfl | simp, FIN.out⟩

end Go.Proofs.YtnpaejknoipicafGreat

namespace Go.Proofs.YtnpaejknoipicafGreat
open Go.RowKit

/-- the group that a frame closes -/
def closedG (O : List Fr) (f : Fr) : List (List Fr) := if f.key && decide (0 < O.length) then [O] else []
/-- what Add says, and what it leaves -/
def addsE (first : Int) (L : List (List Fr)) (O : List Fr) (f : Fr) : Int := if stchk first L O = 0 then (if f.chk = 0 then (if 100000 < first + trimD (L ++ closedG O f) then 2 else 0) else f.chk) else stchk first L O
def addsF (first : Int) (L : List (List Fr)) (O : List Fr) (f : Fr) : Int := if addsE first L O f = 0 then first + trimD (L ++ closedG O f) else 0
def addsL (first : Int) (L : List (List Fr)) (O : List Fr) (f : Fr) : List (List Fr) := if addsE first L O f = 0 then (L ++ closedG O f).drop (trimD (L ++ closedG O f)) else []
def addsO (first : Int) (L : List (List Fr)) (O : List Fr) (f : Fr) : List Fr := if addsE first L O f = 0 then growG O f else []
def addsB (first : Int) (L : List (List Fr)) (O : List Fr) (f : Fr) : Bool := if addsE first L O f = 0 then decide (0 < (closedG O f).length) else false

set_option maxHeartbeats 8000000 in
set_option maxRecDepth 100000 in
theorem storeAdd_new (first : Int) (gv ov pv : Value) (L : List (List Fr)) (O : List Fr) (f : Fr) (w : World) (hg : GrsIn (fun _ => True) w gv L) (ho : FrsIn (fun _ => True) w ov O) (hp : StrsIn (fun _ => True) w pv f.parts) :
    Calls Tryz.prog 14 #[.agg #[.int .i64 first, gv, ov], .agg #[.int .i64 f.time, .bool f.key, pv]] w fun e w' => ∃ gv' ov', e = .returned (.tuple #[.agg #[.int .i64 (addsF first L O f), gv', ov'], .bool (addsB first L O f), .int .i64 (addsE first L O f)]) ∧ GrsIn (fun g => w.heap.size ≤ g) w' gv' (addsL first L O f) ∧ FrsIn (fun g => w.heap.size ≤ g) w' ov' (addsO first L O f) ∧ Below w.heap.size w w' := by
  obtain ⟨ga, gc, eg, _, _⟩ := hg.len
  obtain ⟨oa, oc, eo, _, _⟩ := ho.len
  obtain ⟨pa, pc, ep⟩ := hp.1.len
  obtain ⟨ln, hln⟩ : ∃ n, n = L.length := ⟨_, rfl⟩
  obtain ⟨lo, hlo⟩ : ∃ n, n = O.length := ⟨_, rfl⟩
  obtain ⟨pn, hpn⟩ : ∃ n, n = f.parts.length := ⟨_, rfl⟩
  rw [← hln] at eg
  rw [← hlo] at eo
  rw [← hpn] at ep
  have HG : Hid (GrsIn (fun g => g < w.heap.size) w gv L) := hg.mono fun g h _ => h
  have HO : Hid (FrsIn (fun g => g < w.heap.size) w ov O) := ho.mono fun g h _ => h
  have HP : Hid (StrsIn (fun g => g < w.heap.size) w pv f.parts) := hp.mono fun g h _ => h
  obtain ⟨E, hE⟩ : ∃ E, E = addsE first L O f := ⟨_, rfl⟩
  obtain ⟨K, hK⟩ : ∃ K, K = stchk first L O := ⟨_, rfl⟩
  obtain ⟨Z, hZ⟩ : ∃ Z, Z = f.chk := ⟨_, rfl⟩
  obtain ⟨C, hC⟩ : ∃ C, C = closedG O f := ⟨_, rfl⟩
  have HE : Hid (E = if K = 0 then (if Z = 0 then (if 100000 < first + trimD (L ++ C) then 2 else 0) else Z) else K) := by show _ = _; rw [hE, hK, hZ, hC]; rfl
  have HBAD : Hid (¬ E = 0 → addsF first L O f = 0 ∧ addsL first L O f = [] ∧ addsO first L O f = [] ∧ addsB first L O f = false) := fun h => by
    rw [hE] at h
    exact ⟨if_neg h, if_neg h, if_neg h, if_neg h⟩
  have HGOOD : Hid (E = 0 → addsF first L O f = first + trimD (L ++ C) ∧ addsL first L O f = (L ++ C).drop (trimD (L ++ C)) ∧ addsO first L O f = growG O f ∧ addsB first L O f = decide (0 < C.length)) := fun h => by
    rw [hE] at h
    rw [hC]
    exact ⟨if_pos h, if_pos h, if_pos h, if_pos h⟩
  have HCK : Hid (∀ U, Below w.heap.size w U → Calls Tryz.prog 34 #[.agg #[.int .i64 first, gv, ov]] U fun e w' => e = .returned (.int .i64 K) ∧ Below U.heap.size U w') := fun U hU => by
    rw [hK]; exact storeCheck_any _ first gv ov L O U (HG.out.below hU) (HO.out.below hU)
  have HCF : Hid (∀ U, Below w.heap.size w U → Calls Tryz.prog 49 #[.agg #[.int .i64 f.time, .bool f.key, pv]] U fun e w' => e = .returned (.int .i64 Z) ∧ Below U.heap.size U w') := fun U hU => by
    rw [hZ]; exact frameCheck_any _ _ _ _ _ (HP.out.below hU).1 HP.out.2.1
  have HADD : Hid (K = 0 → Z = 0 → ∀ (M : Nat) (U : World), w.heap.size ≤ M → Blk U M #[.int .i64 first, gv, ov] 103 → Below w.heap.size w U → Calls Tryz.prog 55 #[.pointer (some ⟨M, 0, none⟩), .agg #[.int .i64 f.time, .bool f.key, pv]] U fun e w' => e = .returned (.bool (decide (0 < C.length))) ∧ ∃ gv' ov', Blk w' M #[.int .i64 (first + trimD (L ++ C)), gv', ov'] 103 ∧ GrsIn (fun g => U.heap.size ≤ g) w' gv' ((L ++ C).drop (trimD (L ++ C))) ∧ FrsIn (fun g => U.heap.size ≤ g) w' ov' (growG O f) ∧ Kept [M] U w') := fun h1 h2 M U hM hk hU => by
    have h1' : stchk first L O = 0 := by rw [← hK]; exact h1
    obtain ⟨a1, a2, a3, a4, _, a6⟩ := stchk_zero.1 h1'
    exact keeperAdd_any M first gv ov pv L O f U hk ((HG.out.below hU).mono fun g _ h => by omega) ((HO.out.below hU).mono fun g _ h => by omega) ((HP.out.below hU).mono fun g _ h => by omega) a3 a4 a6 (by rw [← hZ]; exact h2) a1 a2 C hC
  have HTR : Hid (K = 0 → 0 ≤ first ∧ first ≤ 100000) := fun h => by
    have h1' : stchk first L O = 0 := by rw [← hK]; exact h
    obtain ⟨a1, a2, _⟩ := stchk_zero.1 h1'
    exact ⟨a1, a2⟩
  have HEE : Hid (E = addsE first L O f) := hE
  clear hg ho hp hE hK hZ hC hln hlo hpn
  subst eg eo ep
  go_enter Tryz.func14, Tryz.ntmps14
  go_wp2_with fail
  obtain ⟨w1, hw1⟩ : ∃ w1, w1 = ((w.alloc (.cells #[.int .i64 first, .slice ga ln gc, .slice oa lo oc] 27)).alloc (.cells #[.int .i64 f.time, .bool f.key, .slice pa pn pc] 30)).alloc (.cells #[.int .i64 0, .slice none 0 0, .slice none 0 0] 27) := ⟨_, rfl⟩
  have B1 : Hid (Below w.heap.size w w1) := by
    rw [hw1]; exact (((Below.refl _ _).alloc (Nat.le_refl _) _).alloc (by simp) _).alloc (by simp; omega) _
  have K1 : Hid (Blk w1 w.heap.size #[.int .i64 first, .slice ga ln gc, .slice oa lo oc] 27) := by rw [hw1]; exact ((Blk.new w _ _).alloc _).alloc _
  have F1 : Hid (Blk w1 (w.heap.size + 1) #[.int .i64 f.time, .bool f.key, .slice pa pn pc] 30) := by
    have := (Blk.new (w.alloc (.cells #[.int .i64 first, .slice ga ln gc, .slice oa lo oc] 27)) #[.int .i64 f.time, .bool f.key, .slice pa pn pc] 30).alloc (.cells #[.int .i64 0, .slice none 0 0, .slice none 0 0] 27)
    rw [hw1]; simpa [Hid] using this
  have R1 : Hid (Blk w1 (w.heap.size + 1 + 1) #[.int .i64 0, .slice none 0 0, .slice none 0 0] 27) := by
    have := Blk.new ((w.alloc (.cells #[.int .i64 first, .slice ga ln gc, .slice oa lo oc] 27)).alloc (.cells #[.int .i64 f.time, .bool f.key, .slice pa pn pc] 30)) #[.int .i64 0, .slice none 0 0, .slice none 0 0] 27
    rw [hw1]; simpa [Hid] using this
  rw [← hw1]
  clear hw1
  refine (HCK.out _ B1.out).mono ?_
  rintro e w2 ⟨rfl, hb⟩
  have B2 : Hid (Below w.heap.size w w2) := B1.out.trans (hb.mono B1.out.size)
  have K2 : Hid (Blk w2 w.heap.size #[.int .i64 first, .slice ga ln gc, .slice oa lo oc] 27) := K1.out.below hb K1.out.lt
  have F2 : Hid (Blk w2 (w.heap.size + 1) #[.int .i64 f.time, .bool f.key, .slice pa pn pc] 30) := F1.out.below hb F1.out.lt
  have R2 : Hid (Blk w2 (w.heap.size + 1 + 1) #[.int .i64 0, .slice none 0 0, .slice none 0 0] 27) := R1.out.below hb R1.out.lt
  clear hb B1 K1 F1 R1 HCK
  by_cases hK : K = 0
  case neg =>
    have HEK : Hid (E = K) := by show _ = _; rw [HE.out, if_neg hK]
    obtain ⟨r0, r1, r2⟩ := R2.out.three
    have fr := R2.out.free
    go_wp2
    obtain ⟨b1, b2, b3, b4⟩ := HBAD.out (by rw [HEK.out]; exact hK)
    rw [b1, b2, b3, b4, ← HEE.out, HEK.out]
    refine bodyPost_ret (v := .tuple #[.agg #[.int .i64 0, .slice none 0 0, .slice none 0 0], .bool false, .int .i64 K]) (by simp [results, Tryz.results14, go_sem, r0, r1, r2]) rfl ⟨_, _, rfl, GrsIn.nil _ _, FrsIn.nil _ _, ?_⟩
    first | exact B2.out | exact ((B2.out.setCell (by show _ ≤ w.heap.size + 1 + 1; omega) _).setCell (by show _ ≤ w.heap.size + 1 + 1; omega) _).setCell (by show _ ≤ w.heap.size + 1 + 1; omega) _
  obtain ⟨hf0, hf1⟩ := HTR.out hK
  obtain ⟨f0, f1, f2⟩ := F2.out.three
  go_wp2_with fail
  refine (HCF.out _ B2.out).mono ?_
  rintro e w3 ⟨rfl, hb⟩
  have B3 : Hid (Below w.heap.size w w3) := B2.out.trans (hb.mono B2.out.size)
  have K3 : Hid (Blk w3 w.heap.size #[.int .i64 first, .slice ga ln gc, .slice oa lo oc] 27) := K2.out.below hb K2.out.lt
  have F3 : Hid (Blk w3 (w.heap.size + 1) #[.int .i64 f.time, .bool f.key, .slice pa pn pc] 30) := F2.out.below hb F2.out.lt
  have R3 : Hid (Blk w3 (w.heap.size + 1 + 1) #[.int .i64 0, .slice none 0 0, .slice none 0 0] 27) := R2.out.below hb R2.out.lt
  clear hb B2 K2 F2 R2 HCF f0 f1 f2
  by_cases hZ : Z = 0
  case neg =>
    have HEK : Hid (E = Z) := by show _ = _; rw [HE.out, if_pos hK, if_neg hZ]
    obtain ⟨r0, r1, r2⟩ := R3.out.three
    have fr := R3.out.free
    subst hK
    go_wp2
    obtain ⟨b1, b2, b3, b4⟩ := HBAD.out (by rw [HEK.out]; exact hZ)
    rw [b1, b2, b3, b4, ← HEE.out, HEK.out]
    refine bodyPost_ret (v := .tuple #[.agg #[.int .i64 0, .slice none 0 0, .slice none 0 0], .bool false, .int .i64 Z]) (by simp [results, Tryz.results14, go_sem, r0, r1, r2]) rfl ⟨_, _, rfl, GrsIn.nil _ _, FrsIn.nil _ _, ?_⟩
    first | exact B3.out | exact ((B3.out.setCell (by show _ ≤ w.heap.size + 1 + 1; omega) _).setCell (by show _ ≤ w.heap.size + 1 + 1; omega) _).setCell (by show _ ≤ w.heap.size + 1 + 1; omega) _
  have HAD2 : Hid (∀ (M : Nat) (U : World), w.heap.size ≤ M → Blk U M #[.int .i64 first, .slice ga ln gc, .slice oa lo oc] 103 → Below w.heap.size w U → Calls Tryz.prog 55 #[.pointer (some ⟨M, 0, none⟩), .agg #[.int .i64 f.time, .bool f.key, .slice pa pn pc]] U fun e w' => e = .returned (.bool (decide (0 < C.length))) ∧ ∃ gv' ov', Blk w' M #[.int .i64 (first + trimD (L ++ C)), gv', ov'] 103 ∧ GrsIn (fun g => U.heap.size ≤ g) w' gv' ((L ++ C).drop (trimD (L ++ C))) ∧ FrsIn (fun g => U.heap.size ≤ g) w' ov' (growG O f) ∧ Kept [M] U w') := HADD.out hK hZ
  have HE2 : Hid (E = if 100000 < first + trimD (L ++ C) then 2 else 0) := by show _ = _; rw [HE.out, if_pos hK, if_pos hZ]
  obtain ⟨T, hT⟩ : ∃ T : Int, T = first + trimD (L ++ C) := ⟨_, rfl⟩
  obtain ⟨D, hD⟩ : ∃ D : Bool, D = decide (0 < C.length) := ⟨_, rfl⟩
  rw [← hT] at HAD2 HE2 HGOOD
  rw [← hD] at HAD2 HGOOD
  clear HADD HE HTR hT hD
  subst hK hZ
  obtain ⟨k0, k1, k2⟩ := K3.out.three
  obtain ⟨f0, f1, f2⟩ := F3.out.three
  have hFl : w.heap.size + 1 < w3.heap.size := F3.out.lt
  have hKl : w.heap.size < w3.heap.size := K3.out.lt
  go_wp2_with fail
  obtain ⟨U, hU⟩ : ∃ U, U = w3.alloc (.cells #[.int .i64 first, .slice ga ln gc, .slice oa lo oc] 103) := ⟨_, rfl⟩
  have BU : Hid (Below w.heap.size w U) := by rw [hU]; exact B3.out.alloc B3.out.size _
  have KU : Hid (Blk U w3.heap.size #[.int .i64 first, .slice ga ln gc, .slice oa lo oc] 103) := by rw [hU]; exact Blk.new _ _ _
  have RU : Hid (Blk U (w.heap.size + 1 + 1) #[.int .i64 0, .slice none 0 0, .slice none 0 0] 27) := by rw [hU]; exact R3.out.alloc _
  rw [← hU]
  have hMR : w.heap.size + 1 + 1 < w3.heap.size := R3.out.lt
  clear hU k0 k1 k2 f0 f1 f2 K3 F3 R3 B3
  refine (HAD2.out _ _ (by omega) KU.out BU.out).mono ?_
  rintro e w5 ⟨rfl, gv', ov', k5, v5, o5, p5⟩
  have B5 : Hid (Below w.heap.size w w5) := BU.out.trans (p5.toBelow BU.out.size (fun k hk => by simp at hk; omega))
  have R5 : Hid (Blk w5 (w.heap.size + 1 + 1) #[.int .i64 0, .slice none 0 0, .slice none 0 0] 27) := RU.out.kept p5 (by simp; omega)
  have hRU := RU.out.lt
  obtain ⟨va, vc, ev, _, _⟩ := v5.len
  obtain ⟨qa, qc, eq, _, _⟩ := o5.len
  obtain ⟨nv, hnv⟩ : ∃ n, n = ((L ++ C).drop (trimD (L ++ C))).length := ⟨_, rfl⟩
  obtain ⟨nq, hnq⟩ : ∃ n, n = (growG O f).length := ⟨_, rfl⟩
  rw [← hnv] at ev
  rw [← hnq] at eq
  clear hnv hnq
  subst ev eq
  have V5 : Hid (GrsIn (fun g => U.heap.size ≤ g) w5 (.slice va nv vc) ((L ++ C).drop (trimD (L ++ C)))) := v5
  have O5 : Hid (FrsIn (fun g => U.heap.size ≤ g) w5 (.slice qa nq qc) (growG O f)) := o5
  obtain ⟨k0, k1, k2⟩ := k5.three
  obtain ⟨r0, r1, r2⟩ := R5.out.three
  have fr := R5.out.free
  clear v5 o5 p5 HAD2 RU KU
  by_cases hT : 100000 < T
  · have HEK : Hid (E = 2) := by show _ = _; rw [HE2.out, if_pos hT]
    go_wp2
    obtain ⟨b1, b2, b3, b4⟩ := HBAD.out (by rw [HEK.out]; decide)
    rw [b1, b2, b3, b4, ← HEE.out, HEK.out]
    refine bodyPost_ret (v := .tuple #[.agg #[.int .i64 0, .slice none 0 0, .slice none 0 0], .bool false, .int .i64 2]) (by simp [results, Tryz.results14, go_sem, r0, r1, r2]) rfl ⟨_, _, rfl, GrsIn.nil _ _, FrsIn.nil _ _, ?_⟩
    first | exact B5.out | exact ((B5.out.setCell (by show _ ≤ w.heap.size + 1 + 1; omega) _).setCell (by show _ ≤ w.heap.size + 1 + 1; omega) _).setCell (by show _ ≤ w.heap.size + 1 + 1; omega) _
  · have HEK : Hid (E = 0) := by show _ = _; rw [HE2.out, if_neg hT]
    obtain ⟨V, hV⟩ : ∃ V, V = ((w5.setCell ⟨w.heap.size + 1 + 1, 0, none⟩ (.int .i64 T)).setCell ⟨w.heap.size + 1 + 1, 1, none⟩ (.slice va nv vc)).setCell ⟨w.heap.size + 1 + 1, 2, none⟩ (.slice qa nq qc) := ⟨_, rfl⟩
    have KV : Blk V (w.heap.size + 1 + 1) #[.int .i64 T, .slice va nv vc, .slice qa nq qc] 27 := by
      rw [hV]; exact ((R5.out.set 0 (.int .i64 T)).set 1 (.slice va nv vc)).set 2 (.slice qa nq qc)
    have hVo : ∀ g, g ≠ w.heap.size + 1 + 1 → V.heap[g]? = w5.heap[g]? := fun g hg => by
      rw [hV, Below.heap_setCell _ _ _ _ (by exact hg), Below.heap_setCell _ _ _ _ (by exact hg), Below.heap_setCell _ _ _ _ (by exact hg)]
    have hVs : V.heap.size = w5.heap.size := by rw [hV]; simp
    have GV : Hid (GrsIn (fun g => w.heap.size ≤ g) V (.slice va nv vc) ((L ++ C).drop (trimD (L ++ C)))) := V5.out.to ⟨by omega, fun g _ hg => hVo g (by omega)⟩ (fun _ _ _ => by omega)
    have OV : Hid (FrsIn (fun g => w.heap.size ≤ g) V (.slice qa nq qc) (growG O f)) := O5.out.to ⟨by omega, fun g _ hg => hVo g (by omega)⟩ (fun _ _ _ => by omega)
    have BV : Hid (Below w.heap.size w V) := by
      rw [hV]; exact ((B5.out.setCell (by show _ ≤ w.heap.size + 1 + 1; omega) _).setCell (by show _ ≤ w.heap.size + 1 + 1; omega) _).setCell (by show _ ≤ w.heap.size + 1 + 1; omega) _
    obtain ⟨c0, c1, c2⟩ := KV.three
    clear hVo hVs V5 O5 KV
    go_wp2_with fail
    rw [← hV]
    obtain ⟨b1, b2, b3, b4⟩ := HGOOD.out HEK.out
    rw [b1, b2, b3, b4, ← HEE.out, HEK.out]
    exact bodyPost_ret (v := .tuple #[.agg #[.int .i64 T, .slice va nv vc, .slice qa nq qc], .bool D, .int .i64 0]) (by simp [results, Tryz.results14, go_sem, c0, c1, c2]) rfl ⟨_, _, rfl, GV.out, OV.out, BV.out⟩

theorem storeAdd_any (first : Int) (gv ov pv : Value) (L : List (List Fr)) (O : List Fr) (f : Fr) (w : World) (hg : GrsIn (fun _ => True) w gv L) (ho : FrsIn (fun _ => True) w ov O) (hp : StrsIn (fun _ => True) w pv f.parts) :
    Calls Tryz.prog 14 #[.agg #[.int .i64 first, gv, ov], .agg #[.int .i64 f.time, .bool f.key, pv]] w fun e w' => ∃ gv' ov', e = .returned (.tuple #[.agg #[.int .i64 (addsF first L O f), gv', ov'], .bool (addsB first L O f), .int .i64 (addsE first L O f)]) ∧ GrsIn (fun _ => True) w' gv' (addsL first L O f) ∧ FrsIn (fun _ => True) w' ov' (addsO first L O f) ∧ Below w.heap.size w w' := by
  refine (storeAdd_new first gv ov pv L O f w hg ho hp).mono ?_
  rintro e w' ⟨gv', ov', he, h1, h2, h3⟩
  exact ⟨gv', ov', he, h1.mono (fun _ _ _ => trivial), h2.mono (fun _ _ _ => trivial), h3⟩

end Go.Proofs.YtnpaejknoipicafGreat

namespace Go.Proofs.YtnpaejknoipicafGreat
open Go.RowKit

/-- what Get says, and what it finds -/
def getE (first : Int) (L : List (List Fr)) (O : List Fr) (n : Int) : Int := if stchk first L O = 0 then (if n < first then 5 else if ((allG L O).length : Int) ≤ n - first then 5 else 0) else stchk first L O
def getG (first : Int) (L : List (List Fr)) (O : List Fr) (n : Int) : List Fr := if getE first L O n = 0 then grAt (allG L O) (n - first).toNat else []
theorem allG_len (L : List (List Fr)) (O : List Fr) (h : L.length ≤ 5) : (allG L O).length ≤ 6 := by
  unfold allG; split
  · simp; omega
  · omega
theorem allG_right {first : Int} {L : List (List Fr)} {O : List Fr} (h : stchk first L O = 0) : ∀ g ∈ allG L O, gchk g = 0 := by
  obtain ⟨_, _, _, h1, _, h2⟩ := stchk_zero.1 h
  intro g hg
  unfold allG at hg
  split at hg
  · rcases List.mem_append.1 hg with hg | hg
    · exact h1 g hg
    · simp at hg; subst hg
      rcases h2 with h2 | h2
      · rename_i h0; rw [h2] at h0; simp at h0
      · exact h2
  · exact h1 g hg

set_option maxHeartbeats 4000000 in
set_option maxRecDepth 100000 in
theorem storeGet_new (first : Int) (gv ov : Value) (L : List (List Fr)) (O : List Fr) (n : Int) (w : World) (hg : GrsIn (fun _ => True) w gv L) (ho : FrsIn (fun _ => True) w ov O) (hnb : n ≤ 9223372036854775807) :
    Calls Tryz.prog 16 #[.agg #[.int .i64 first, gv, ov], .int .i64 n] w fun e w' => ∃ a c, e = .returned (.tuple #[.agg #[.slice a (getG first L O n).length c], .int .i64 (getE first L O n)]) ∧ FrsIn (fun g => w.heap.size ≤ g) w' (.slice a (getG first L O n).length c) (getG first L O n) ∧ Below w.heap.size w w' := by
  obtain ⟨ga, gc, eg, _, _⟩ := hg.len
  obtain ⟨oa, oc, eo, _, _⟩ := ho.len
  obtain ⟨ln, hln⟩ : ∃ n, n = L.length := ⟨_, rfl⟩
  obtain ⟨lo, hlo⟩ : ∃ n, n = O.length := ⟨_, rfl⟩
  rw [← hln] at eg
  rw [← hlo] at eo
  have HG : Hid (GrsIn (fun _ => True) w gv L) := hg
  have HO : Hid (FrsIn (fun _ => True) w ov O) := ho
  obtain ⟨E, hE⟩ : ∃ E, E = getE first L O n := ⟨_, rfl⟩
  obtain ⟨G, hG⟩ : ∃ G, G = getG first L O n := ⟨_, rfl⟩
  obtain ⟨K, hK⟩ : ∃ K, K = stchk first L O := ⟨_, rfl⟩
  have HE : Hid (E = if K = 0 then (if n < first then 5 else if ((allG L O).length : Int) ≤ n - first then 5 else 0) else K) := by show _ = _; rw [hE, hK]; rfl
  have HGG : Hid (G = if E = 0 then grAt (allG L O) (n - first).toNat else []) := by show _ = _; rw [hG, hE]; rfl
  have HC : Hid (∀ U, Below w.heap.size w U → Calls Tryz.prog 34 #[.agg #[.int .i64 first, gv, ov]] U fun e w' => e = .returned (.int .i64 K) ∧ Below U.heap.size U w') := fun U hU => by
    rw [hK]; exact storeCheck_any _ first gv ov L O U (HG.out.below hU) (HO.out.below hU)
  have HK0 : Hid (K = 0 → 0 ≤ first ∧ first ≤ 100000 ∧ L.length ≤ 5 ∧ (∀ g ∈ allG L O, gchk g = 0)) := fun h => by
    have h' : stchk first L O = 0 := by rw [← hK]; exact h
    obtain ⟨h1, h2, h3, _⟩ := stchk_zero.1 h'
    exact ⟨h1, h2, h3, allG_right h'⟩
  rw [← hE, ← hG]
  clear hg ho hE hG hK hln hlo
  subst eg eo
  go_enter Tryz.func16, Tryz.ntmps16
  go_wp2_with fail
  have B1 : Hid (Below w.heap.size w ((w.alloc (.cells #[.int .i64 first, .slice ga ln gc, .slice oa lo oc] 27)).alloc (.cells #[.slice none 0 0] 25))) := ((Below.refl _ _).alloc (Nat.le_refl _) _).alloc (by simp) _
  have K1 : Hid (Blk ((w.alloc (.cells #[.int .i64 first, .slice ga ln gc, .slice oa lo oc] 27)).alloc (.cells #[.slice none 0 0] 25)) w.heap.size #[.int .i64 first, .slice ga ln gc, .slice oa lo oc] 27) := (Blk.new w _ _).alloc _
  have R1 : Hid (Blk ((w.alloc (.cells #[.int .i64 first, .slice ga ln gc, .slice oa lo oc] 27)).alloc (.cells #[.slice none 0 0] 25)) (w.heap.size + 1) #[.slice none 0 0] 25) := by
    have := Blk.new (w.alloc (.cells #[.int .i64 first, .slice ga ln gc, .slice oa lo oc] 27)) #[.slice none 0 0] 25
    simpa [Hid] using this
  refine (HC.out _ B1.out).mono ?_
  rintro e w2 ⟨rfl, hb2⟩
  have B2 : Hid (Below w.heap.size w w2) := B1.out.trans (hb2.mono B1.out.size)
  have K2 : Hid (Blk w2 w.heap.size #[.int .i64 first, .slice ga ln gc, .slice oa lo oc] 27) := K1.out.below hb2 K1.out.lt
  have R2 : Hid (Blk w2 (w.heap.size + 1) #[.slice none 0 0] 25) := R1.out.below hb2 R1.out.lt
  clear hb2 B1 K1 R1 HC
  obtain ⟨k0, k1, k2⟩ := K2.out.three
  have r0 := R2.out.one
  have r1 := R2.out.free 0
  by_cases hK : K = 0
  case neg =>
    have HEE : Hid (E = K ∧ G = []) := by
      have e1 : E = K := by rw [HE.out, if_neg hK]
      exact ⟨e1, by rw [HGG.out, if_neg (by rw [e1]; exact hK)]⟩
    go_wp2
    obtain ⟨e1, e2⟩ := HEE.out
    rw [e1, e2]
    exact bodyPost_ret (v := .tuple #[.agg #[.slice none 0 0], .int .i64 K]) (by simp [results, Tryz.results16, go_sem, r0]) rfl ⟨none, 0, rfl, FrsIn.nil _ _, by first | exact B2.out | exact B2.out.setCell (by simp) _⟩
  obtain ⟨hf0, hf1, hL5, hAR⟩ := HK0.out hK
  have HAR : Hid (∀ g ∈ allG L O, gchk g = 0) := hAR
  have HE2 : Hid (E = if n < first then 5 else if ((allG L O).length : Int) ≤ n - first then 5 else 0) := by show _ = _; rw [HE.out, if_pos hK]
  have HAL : Hid ((allG L O).length ≤ 6) := allG_len L O hL5
  have HL5 : Hid (L.length ≤ 100) := by show _ ≤ _; omega
  clear hAR HE HK0 hL5
  subst hK
  obtain ⟨A, hA⟩ : ∃ A, A = allG L O := ⟨_, rfl⟩
  rw [← hA] at HAR HE2 HAL HGG
  obtain ⟨q, hq⟩ : ∃ q, q = A.length := ⟨_, rfl⟩
  have HQ : Hid (q = A.length) := hq
  have hq6 : q ≤ 6 := by rw [hq]; exact HAL.out
  rw [← hq] at HE2
  have HALL : Hid (∀ (M : Nat) (U : World), Blk U M #[.int .i64 first, .slice ga ln gc, .slice oa lo oc] 103 → Below w.heap.size w U → Calls Tryz.prog 56 #[.pointer (some ⟨M, 0, none⟩)] U fun e w' => ∃ a c, e = .returned (.slice a q c) ∧ Hid (GrsIn (fun _ => True) w' (.slice a q c) A) ∧ Below U.heap.size U w') := fun M U h1 h2 => by
    refine (keeperAll_any M first _ _ L O U h1 (HG.out.below h2) (HO.out.below h2) HL5.out).mono ?_
    rintro e w' ⟨u, rfl, h3, h4⟩
    rw [← hA] at h3
    obtain ⟨a, c, e, _, _⟩ := h3.len
    rw [← hq] at e
    subst e
    exact ⟨a, c, rfl, h3, h4⟩
  clear hA hq
  go_wp2_with fail
  have B3 : Hid (Below w.heap.size w (w2.alloc (.cells #[.int .i64 first, .slice ga ln gc, .slice oa lo oc] 103))) := B2.out.alloc B2.out.size _
  have M3 : Hid (Blk (w2.alloc (.cells #[.int .i64 first, .slice ga ln gc, .slice oa lo oc] 103)) w2.heap.size #[.int .i64 first, .slice ga ln gc, .slice oa lo oc] 103) := Blk.new _ _ _
  refine (HALL.out _ _ M3.out B3.out).mono ?_
  rintro e w4 ⟨ua, uc, rfl, GU, hb4⟩
  have B4 : Hid (Below w.heap.size w w4) := B3.out.trans (hb4.mono B3.out.size)
  have M4 : Hid (Blk w4 w2.heap.size #[.int .i64 first, .slice ga ln gc, .slice oa lo oc] 103) := M3.out.below hb4 M3.out.lt
  have R4 : Hid (Blk w4 (w.heap.size + 1) #[.slice none 0 0] 25) := (R2.out.alloc _).below hb4 (by have := R2.out.lt; simp; omega)
  clear hb4 B3 M3 B2 K2 R2 k0 k1 k2 r0 r1 HALL
  obtain ⟨k0, k1, k2⟩ := M4.out.three
  have r0 := R4.out.one
  have r1 := R4.out.free 0
  by_cases hn1 : n < first
  · have HEE : Hid (E = 5 ∧ G = []) := by
      have e1 : E = 5 := by rw [HE2.out, if_pos hn1]
      exact ⟨e1, by rw [HGG.out, if_neg (by rw [e1]; decide)]⟩
    go_wp2
    obtain ⟨e1, e2⟩ := HEE.out
    rw [e1, e2]
    exact bodyPost_ret (v := .tuple #[.agg #[.slice none 0 0], .int .i64 5]) (by simp [results, Tryz.results16, go_sem, r0]) rfl ⟨none, 0, rfl, FrsIn.nil _ _, by first | exact B4.out | exact B4.out.setCell (by simp) _⟩
  by_cases hn2 : (q : Int) ≤ n - first
  · have HEE : Hid (E = 5 ∧ G = []) := by
      have e1 : E = 5 := by rw [HE2.out, if_neg hn1, if_pos hn2]
      exact ⟨e1, by rw [HGG.out, if_neg (by rw [e1]; decide)]⟩
    go_wp2
    obtain ⟨e1, e2⟩ := HEE.out
    rw [e1, e2]
    exact bodyPost_ret (v := .tuple #[.agg #[.slice none 0 0], .int .i64 5]) (by simp [results, Tryz.results16, go_sem, r0]) rfl ⟨none, 0, rfl, FrsIn.nil _ _, by first | exact B4.out | exact B4.out.setCell (by simp) _⟩
  obtain ⟨d, hd⟩ : ∃ d : Nat, (d : Int) = n - first := ⟨(n - first).toNat, by omega⟩
  have hdq : d < q := by omega
  have hnd : n = first + d := by omega
  have HEE : Hid (E = 0 ∧ G = grAt A d) := by
    have e1 : E = 0 := by rw [HE2.out, if_neg hn1, if_neg hn2]
    exact ⟨e1, by rw [HGG.out, if_pos e1, ← hd]; rfl⟩
  obtain ⟨ao, c', eu, _, _, hc⟩ := GU.out
  rw [← HQ.out] at eu
  injection eu with eu eu2 eu3
  clear eu2
  subst eu eu3
  obtain ⟨b, off, e1, hb, _, sv, c0, hsv⟩ := hc d (by rw [← HQ.out]; exact hdq)
  have hGd : grAt A d = G := HEE.out.2.symm
  rw [show A[d]?.getD [] = G from hGd] at hsv
  obtain ⟨sa, sc, es, _, _⟩ := hsv.len
  obtain ⟨gn, hgn⟩ : ∃ gn, gn = G.length := ⟨_, rfl⟩
  rw [← hgn] at es
  have HGN : Hid (gn = G.length) := hgn
  have hGR : gchk G = 0 := HAR.out G (by rw [← hGd]; unfold grAt; rw [List.getElem?_eq_getElem (by rw [← HQ.out]; exact hdq)]; exact List.getElem_mem _)
  have HCL : Hid (Calls Tryz.prog 57 #[.agg #[sv]] w4 fun e w' => ∃ a c, e = .returned (.agg #[.slice a gn c]) ∧ Hid (FrsIn (fun g => w4.heap.size ≤ g) w' (.slice a gn c) G) ∧ Below w4.heap.size w4 w') := by
    show Calls _ _ _ _ _
    rw [hgn]; exact cloneGroup_any _ sv G w4 hsv hGR
  have HE0 : Hid (E = 0) := HEE.out.1
  have hdw : IntKind.i64.wrap (d : Int) = (d : Int) := by rw [IntKind.wrap_i64]; omega
  have hdqi : (d : Int) < (q : Int) := by omega
  have hnf : first + (d : Int) - first = (d : Int) := by omega
  have hnl : ¬ first + (d : Int) < first := by omega
  have hqd : ¬ (q : Int) ≤ (d : Int) := by omega
  clear hc hsv hGd hGR hn1 hn2 hd HE2 HGG HEE hgn
  subst hnd es e1
  go_wp2_with fail
  refine HCL.out.mono ?_
  rintro e w5 ⟨a5, c5, rfl, HF5, hb5⟩
  have B5 : Hid (Below w.heap.size w w5) := B4.out.trans (hb5.mono B4.out.size)
  have K5 := R4.out.below hb5 R4.out.lt
  have q0 := K5.one
  have q1 := K5.free 0
  have c9 : (w5.setCell ⟨w.heap.size + 1, 0, none⟩ (.slice a5 gn c5)).cell? ⟨w.heap.size + 1, 0, none⟩ = some (.slice a5 gn c5) := (K5.set 0 _).cell rfl
  have hlt4 := R4.out.lt
  have F9 : Hid (FrsIn (fun g => w.heap.size ≤ g) (w5.setCell ⟨w.heap.size + 1, 0, none⟩ (.slice a5 gn c5)) (.slice a5 gn c5) G) := HF5.out.to (SameOn.setCell (fun g hg => by simp at hg ⊢; omega) _) (fun g _ h => by omega)
  clear hb5 K5 HF5 HCL c0 k0 k1 k2 r0 r1
  go_wp2
  rw [HE0.out, ← HGN.out]
  exact bodyPost_ret (v := .tuple #[.agg #[.slice a5 gn c5], .int .i64 0]) (by simp [results, Tryz.results16, go_sem, c9]) rfl ⟨a5, c5, rfl, F9.out, B5.out.setCell (by simp) _⟩

theorem storeGet_any (first : Int) (gv ov : Value) (L : List (List Fr)) (O : List Fr) (n : Int) (w : World) (hg : GrsIn (fun _ => True) w gv L) (ho : FrsIn (fun _ => True) w ov O) (hnb : n ≤ 9223372036854775807) :
    Calls Tryz.prog 16 #[.agg #[.int .i64 first, gv, ov], .int .i64 n] w fun e w' => ∃ a c, e = .returned (.tuple #[.agg #[.slice a (getG first L O n).length c], .int .i64 (getE first L O n)]) ∧ FrsIn (fun _ => True) w' (.slice a (getG first L O n).length c) (getG first L O n) ∧ Below w.heap.size w w' := by
  refine (storeGet_new first gv ov L O n w hg ho hnb).mono ?_
  rintro e w' ⟨a, c, rfl, h1, h2⟩
  exact ⟨a, c, rfl, h1.mono (fun _ _ _ => trivial), h2⟩

end Go.Proofs.YtnpaejknoipicafGreat

namespace Go.Proofs.YtnpaejknoipicafGreat
open Go.RowKit

/-- the last one behind the first that begins so early, or the first one -/
def seekI (A : List (List Fr)) (t : Int) : Nat → Nat
  | 0 => 0
  | i + 1 => if (frAt (grAt A (i + 1)) 0).time ≤ t then i + 1 else seekI A t i
theorem seekI_le (A : List (List Fr)) (t : Int) : ∀ i, seekI A t i ≤ i
  | 0 => Nat.le_refl _
  | i + 1 => by
    unfold seekI; split
    · exact Nat.le_refl _
    · exact Nat.le_succ_of_le (seekI_le A t i)
theorem seekI_hit {A : List (List Fr)} {t : Int} {i i1 : Nat} (h : i = i1 + 1) (hl : (frAt (grAt A i) 0).time ≤ t) : seekI A t i = i := by
  subst h; simp only [seekI]; rw [if_pos hl]
theorem seekI_miss {A : List (List Fr)} {t : Int} {i i1 : Nat} (h : i = i1 + 1) (hl : ¬ (frAt (grAt A i) 0).time ≤ t) : seekI A t i = seekI A t i1 := by
  subst h; simp only [seekI]; rw [if_neg hl]
def seekE (first : Int) (L : List (List Fr)) (O : List Fr) (t : Int) : Int := if stchk first L O = 0 then (if t < 0 then 3 else if 1000000 < t then 3 else if (allG L O).length = 0 then 5 else 0) else stchk first L O
def seekN (first : Int) (L : List (List Fr)) (O : List Fr) (t : Int) : Int := if seekE first L O t = 0 then first + seekI (allG L O) t ((allG L O).length - 1) else 0

set_option maxHeartbeats 4000000 in
set_option maxRecDepth 100000 in
theorem storeSeek_any (first : Int) (gv ov : Value) (L : List (List Fr)) (O : List Fr) (t : Int) (w : World) (hg : GrsIn (fun _ => True) w gv L) (ho : FrsIn (fun _ => True) w ov O) :
    Calls Tryz.prog 33 #[.agg #[.int .i64 first, gv, ov], .int .i64 t] w fun e w' => e = .returned (.tuple #[.int .i64 (seekN first L O t), .int .i64 (seekE first L O t)]) ∧ Below w.heap.size w w' := by
  obtain ⟨ga, gc, eg, _, _⟩ := hg.len
  obtain ⟨oa, oc, eo, _, _⟩ := ho.len
  obtain ⟨ln, hln⟩ : ∃ n, n = L.length := ⟨_, rfl⟩
  obtain ⟨lo, hlo⟩ : ∃ n, n = O.length := ⟨_, rfl⟩
  rw [← hln] at eg
  rw [← hlo] at eo
  have HG : Hid (GrsIn (fun _ => True) w gv L) := hg
  have HO : Hid (FrsIn (fun _ => True) w ov O) := ho
  obtain ⟨E, hE⟩ : ∃ E, E = seekE first L O t := ⟨_, rfl⟩
  obtain ⟨N, hN⟩ : ∃ N, N = seekN first L O t := ⟨_, rfl⟩
  obtain ⟨K, hK⟩ : ∃ K, K = stchk first L O := ⟨_, rfl⟩
  have HE : Hid (E = if K = 0 then (if t < 0 then 3 else if 1000000 < t then 3 else if (allG L O).length = 0 then 5 else 0) else K) := by show _ = _; rw [hE, hK]; rfl
  have HNN : Hid (N = if E = 0 then first + seekI (allG L O) t ((allG L O).length - 1) else 0) := by show _ = _; rw [hN, hE]; rfl
  have HC : Hid (∀ U, Below w.heap.size w U → Calls Tryz.prog 34 #[.agg #[.int .i64 first, gv, ov]] U fun e w' => e = .returned (.int .i64 K) ∧ Below U.heap.size U w') := fun U hU => by
    rw [hK]; exact storeCheck_any _ first gv ov L O U (HG.out.below hU) (HO.out.below hU)
  have HK0 : Hid (K = 0 → 0 ≤ first ∧ first ≤ 100000 ∧ L.length ≤ 5 ∧ (∀ g ∈ allG L O, gchk g = 0)) := fun h => by
    have h' : stchk first L O = 0 := by rw [← hK]; exact h
    obtain ⟨h1, h2, h3, _⟩ := stchk_zero.1 h'
    exact ⟨h1, h2, h3, allG_right h'⟩
  have HBAD : Hid (∀ e : Int, E = e → ¬ e = 0 → N = 0) := fun e h1 h2 => by rw [HNN.out, if_neg (by rw [h1]; exact h2)]
  rw [← hE, ← hN]
  clear hg ho hE hN hK hln hlo
  subst eg eo
  go_enter Tryz.func33, Tryz.ntmps33
  go_wp2_with fail
  have B1 : Hid (Below w.heap.size w (w.alloc (.cells #[.int .i64 first, .slice ga ln gc, .slice oa lo oc] 27))) := (Below.refl _ _).alloc (Nat.le_refl _) _
  have K1 : Hid (Blk (w.alloc (.cells #[.int .i64 first, .slice ga ln gc, .slice oa lo oc] 27)) w.heap.size #[.int .i64 first, .slice ga ln gc, .slice oa lo oc] 27) := Blk.new w _ _
  refine (HC.out _ B1.out).mono ?_
  rintro e w2 ⟨rfl, hb2⟩
  have B2 : Hid (Below w.heap.size w w2) := B1.out.trans (hb2.mono B1.out.size)
  have K2 : Hid (Blk w2 w.heap.size #[.int .i64 first, .slice ga ln gc, .slice oa lo oc] 27) := K1.out.below hb2 K1.out.lt
  clear hb2 B1 K1 HC
  obtain ⟨k0, k1, k2⟩ := K2.out.three
  by_cases hK : K = 0
  case neg =>
    have e1 : E = K := by rw [HE.out, if_neg hK]
    have HEE : Hid (E = K ∧ N = 0) := ⟨e1, HBAD.out K e1 hK⟩
    clear e1
    go_wp2
    obtain ⟨e1, e2⟩ := HEE.out
    rw [e1, e2]
    go_ret2
    exact ⟨rfl, B2.out⟩
  obtain ⟨hf0, hf1, hL5, hAR⟩ := HK0.out hK
  have HAR : Hid (∀ g ∈ allG L O, gchk g = 0) := hAR
  have HE2 : Hid (E = if t < 0 then 3 else if 1000000 < t then 3 else if (allG L O).length = 0 then 5 else 0) := by show _ = _; rw [HE.out, if_pos hK]
  have HAL : Hid ((allG L O).length ≤ 6) := allG_len L O hL5
  have HL5 : Hid (L.length ≤ 100) := by show _ ≤ _; omega
  clear hAR HE HK0 hL5
  subst hK
  by_cases ht1 : t < 0
  · have e1 : E = 3 := by rw [HE2.out, if_pos ht1]
    have HEE : Hid (E = 3 ∧ N = 0) := ⟨e1, HBAD.out 3 e1 (by decide)⟩
    clear e1
    go_wp2
    obtain ⟨e1, e2⟩ := HEE.out
    rw [e1, e2]
    go_ret2
    exact ⟨rfl, B2.out⟩
  by_cases ht2 : 1000000 < t
  · have e1 : E = 3 := by rw [HE2.out, if_neg ht1, if_pos ht2]
    have HEE : Hid (E = 3 ∧ N = 0) := ⟨e1, HBAD.out 3 e1 (by decide)⟩
    clear e1
    go_wp2
    obtain ⟨e1, e2⟩ := HEE.out
    rw [e1, e2]
    go_ret2
    exact ⟨rfl, B2.out⟩
  obtain ⟨A, hA⟩ : ∃ A, A = allG L O := ⟨_, rfl⟩
  rw [← hA] at HAR HE2 HAL HNN
  obtain ⟨q, hq⟩ : ∃ q, q = A.length := ⟨_, rfl⟩
  have HQ : Hid (q = A.length) := hq
  have hq6 : q ≤ 6 := by rw [hq]; exact HAL.out
  rw [← hq] at HE2 HNN
  have HALL : Hid (∀ (M : Nat) (U : World), Blk U M #[.int .i64 first, .slice ga ln gc, .slice oa lo oc] 103 → Below w.heap.size w U → Calls Tryz.prog 56 #[.pointer (some ⟨M, 0, none⟩)] U fun e w' => ∃ a c, e = .returned (.slice a q c) ∧ Hid (GrsIn (fun _ => True) w' (.slice a q c) A) ∧ Below U.heap.size U w') := fun M U h1 h2 => by
    refine (keeperAll_any M first _ _ L O U h1 (HG.out.below h2) (HO.out.below h2) HL5.out).mono ?_
    rintro e w' ⟨u, rfl, h3, h4⟩
    rw [← hA] at h3
    obtain ⟨a, c, e, _, _⟩ := h3.len
    rw [← hq] at e
    subst e
    exact ⟨a, c, rfl, h3, h4⟩
  clear hA hq
  go_wp2_with fail
  have B3 : Hid (Below w.heap.size w (w2.alloc (.cells #[.int .i64 first, .slice ga ln gc, .slice oa lo oc] 103))) := B2.out.alloc B2.out.size _
  have M3 : Hid (Blk (w2.alloc (.cells #[.int .i64 first, .slice ga ln gc, .slice oa lo oc] 103)) w2.heap.size #[.int .i64 first, .slice ga ln gc, .slice oa lo oc] 103) := Blk.new _ _ _
  refine (HALL.out _ _ M3.out B3.out).mono ?_
  rintro e w4 ⟨ua, uc, rfl, GU, hb4⟩
  have B4 : Hid (Below w.heap.size w w4) := B3.out.trans (hb4.mono B3.out.size)
  have M4 : Hid (Blk w4 w2.heap.size #[.int .i64 first, .slice ga ln gc, .slice oa lo oc] 103) := M3.out.below hb4 M3.out.lt
  clear hb4 B3 M3 B2 K2 k0 k1 k2 HALL
  obtain ⟨k0, k1, k2⟩ := M4.out.three
  by_cases hq0 : q = 0
  · have e1 : E = 5 := by rw [HE2.out, if_neg (by omega), if_neg (by omega), if_pos hq0]
    have HEE : Hid (E = 5 ∧ N = 0) := ⟨e1, HBAD.out 5 e1 (by decide)⟩
    clear e1
    subst hq0
    go_wp2
    obtain ⟨e1, e2⟩ := HEE.out
    rw [e1, e2]
    go_ret2
    exact ⟨rfl, B4.out⟩
  have e1 : E = 0 := by rw [HE2.out, if_neg (by omega), if_neg (by omega), if_neg hq0]
  have HEE : Hid (E = 0 ∧ N = first + seekI A t (q - 1)) := ⟨e1, by rw [HNN.out, if_pos e1]⟩
  obtain ⟨ao, c', eu, _, _, hc⟩ := GU.out
  rw [← HQ.out] at eu
  injection eu with eu eu2 eu3
  clear eu2
  subst eu eu3
  have HTM : Hid (∀ i, i < q → ∃ b off sa sn sc b2 off2, ua = some ⟨b, off, none⟩ ∧ b < w4.heap.size ∧ w4.cell? ⟨b, off + i, none⟩ = some (.slice (some ⟨b2, off2, none⟩) sn sc) ∧ 0 < sn ∧ sa = (frAt (grAt A i) 0).time ∧ w4.cell? ⟨b2, off2, none⟩ = some (.int .i64 sa)) := fun i hi => by
    obtain ⟨b, off, e1, hb, _, sv, c0, hsv⟩ := hc i (by rw [← HQ.out]; exact hi)
    have hgr : gchk (grAt A i) = 0 := HAR.out _ (by unfold grAt; rw [List.getElem?_eq_getElem (by rw [← HQ.out]; exact hi)]; exact List.getElem_mem _)
    obtain ⟨h0, _⟩ := gchk_zero.1 hgr
    obtain ⟨sa, sc, es, _, _, hf⟩ := hsv
    obtain ⟨b2, off2, e2, _, _, pv, d0, _⟩ := hf 0 h0
    subst e2
    exact ⟨b, off, _, _, sc, b2, off2, e1, hb, by rw [c0, es], h0, rfl, by simpa using d0⟩
  have hqi : ((q : Int) == 0) = false := by simp; omega
  obtain ⟨q1, hq1⟩ : ∃ q1, q1 = q - 1 := ⟨_, rfl⟩
  have hq1i : (q : Int) - 1 = (q1 : Int) := by omega
  rw [← hq1] at HEE
  have hq1l : q1 < q := by omega
  clear e1 hc HAR HE2 HNN HBAD hq1
  go_wp2_with fail
  go_loopw [9] (fun s wr => ∃ i : Nat, i ≤ q1 ∧ s = .int .i64 i ∧ Hid (seekI A t q1 = seekI A t i) ∧ wr = w4)
    (fun s _ => (intOf s).toNat)
  case atStart => exact ⟨q1, Nat.le_refl _, by go_num, (show _ = _ from rfl), rfl⟩
  case round =>
    obtain ⟨i, hi, rfl, HI, rfl⟩ := hrel
    by_cases hi0 : i = 0
    · subst hi0
      go_wp2
      obtain ⟨e1, e2⟩ := HEE.out
      rw [e1, e2, HI.out]
      go_ret2
      exact ⟨by simp [seekI], B4.out⟩
    · obtain ⟨b, off, sa, sn, sc, b2, off2, eu, hb, c0, hsn, hsa, d0⟩ := HTM.out i (by omega)
      have hi0i : (0 : Int) < (i : Int) := by omega
      have hiq : (i : Int) < (q : Int) := by omega
      have hsni : (0 : Int) < (sn : Int) := by omega
      have HSA : Hid (sa = (frAt (grAt A i) 0).time) := hsa
      obtain ⟨i1, hi1⟩ : ∃ i1, i = i1 + 1 := ⟨i - 1, by omega⟩
      have HI1 : Hid (i = i1 + 1) := hi1
      have hi1i : (i : Int) - 1 = (i1 : Int) := by omega
      clear hsa hi1
      subst eu
      by_cases hle : sa ≤ t
      · have HS : Hid (seekI A t i = i) := seekI_hit HI1.out (by rw [← HSA.out]; exact hle)
        go_wp2
        obtain ⟨e1, e2⟩ := HEE.out
        rw [e1, e2, HI.out, HS.out]
        go_ret2
        exact ⟨rfl, B4.out⟩
      · have HS : Hid (seekI A t q1 = seekI A t i1) := HI.out.trans (seekI_miss HI1.out (by rw [← HSA.out]; exact hle))
        go_wp2_with fail
        go_roundw
        case rel => exact ⟨i1, by have := HI1.out; omega, by go_num, HS, by first | rfl | trivial⟩
        case measure => simp [intOf]; omega

end Go.Proofs.YtnpaejknoipicafGreat

namespace Go.Proofs.YtnpaejknoipicafGreat

theorem trimD_le : ∀ L : List (List Fr), trimD L ≤ L.length - 1
  | [] => Nat.le_refl _
  | g :: r => by
    unfold trimD
    split
    · rename_i h
      have := fullB_len h
      have := trimD_le r
      simp at *
      omega
    · omega
theorem trimD_done : ∀ L : List (List Fr), fullB (L.drop (trimD L)) = false
  | [] => fullB_nil
  | g :: r => by
    unfold trimD
    split
    · rw [List.drop_succ_cons]; exact trimD_done r
    · rename_i h; simpa using h
theorem closedG_cases (O : List Fr) (f : Fr) : (closedG O f = [] ∧ ¬ (f.key = true ∧ 0 < O.length)) ∨ (closedG O f = [O] ∧ f.key = true ∧ 0 < O.length) := by
  unfold closedG
  by_cases h : (f.key && decide (0 < O.length)) = true
  · rw [if_pos h]
    simp only [Bool.and_eq_true, decide_eq_true_eq] at h
    exact .inr ⟨rfl, h⟩
  · rw [if_neg h]
    simp only [Bool.and_eq_true, decide_eq_true_eq] at h
    exact .inl ⟨rfl, h⟩
theorem addsE_zero {first : Int} {L : List (List Fr)} {O : List Fr} {f : Fr} (h : addsE first L O f = 0) : stchk first L O = 0 ∧ f.chk = 0 ∧ first + trimD (L ++ closedG O f) ≤ 100000 ∧ addsF first L O f = first + trimD (L ++ closedG O f) ∧ addsL first L O f = (L ++ closedG O f).drop (trimD (L ++ closedG O f)) ∧ addsO first L O f = growG O f ∧ addsB first L O f = decide (0 < (closedG O f).length) := by
  have h0 := h
  unfold addsE at h0
  by_cases h1 : stchk first L O = 0
  · rw [if_pos h1] at h0
    by_cases h2 : f.chk = 0
    · rw [if_pos h2] at h0
      by_cases h3 : 100000 < first + trimD (L ++ closedG O f)
      · rw [if_pos h3] at h0; cases h0
      · exact ⟨h1, h2, by omega, if_pos h, if_pos h, if_pos h, if_pos h⟩
    · rw [if_neg h2] at h0; exact absurd h0 h2
  · rw [if_neg h1] at h0; exact absurd h0 h1
theorem addsE_bad {first : Int} {L : List (List Fr)} {O : List Fr} {f : Fr} (h : ¬ addsE first L O f = 0) : addsF first L O f = 0 ∧ addsL first L O f = [] ∧ addsO first L O f = [] ∧ addsB first L O f = false := ⟨if_neg h, if_neg h, if_neg h, if_neg h⟩
theorem growG_right {O : List Fr} {f : Fr} (hO : O = [] ∨ gchk O = 0) (hf : f.chk = 0) : growG O f = [] ∨ gchk (growG O f) = 0 := by
  have := stepG_right (s := ([], O)) (f := f) ⟨fun g hg => absurd hg List.not_mem_nil, hO⟩ hf
  exact this.2
/-- what Add leaves is right -/
theorem adds_right {first : Int} {L : List (List Fr)} {O : List Fr} {f : Fr} (h : addsE first L O f = 0) : stchk (addsF first L O f) (addsL first L O f) (addsO first L O f) = 0 := by
  obtain ⟨h1, h2, h3, e1, e2, e3, _⟩ := addsE_zero h
  obtain ⟨a1, a2, a3, a4, a5, a6⟩ := stchk_zero.1 h1
  rw [e1, e2, e3]
  have hd := trimD_done (L ++ closedG O f)
  simp only [fullB, Bool.or_eq_false_iff, decide_eq_false_iff_not] at hd
  refine stchk_zero.2 ⟨by omega, h3, by omega, fun g hg => ?_, hd.2, growG_right a6 h2⟩
  have hm := List.mem_of_mem_drop hg
  rcases List.mem_append.1 hm with hm | hm
  · exact a4 g hm
  · rcases closedG_cases O f with ⟨e, _⟩ | ⟨e, _, h0⟩
    · rw [e] at hm; exact absurd hm List.not_mem_nil
    · rw [e] at hm
      simp at hm
      subst hm
      rcases a6 with a6 | a6
      · rw [a6] at h0; simp at h0
      · exact a6
theorem fullB_right {first : Int} {L : List (List Fr)} {O : List Fr} (h : stchk first L O = 0) : fullB L = false := by
  obtain ⟨_, _, a3, _, a5, _⟩ := stchk_zero.1 h
  simp only [fullB, Bool.or_eq_false_iff, decide_eq_false_iff_not]
  exact ⟨by omega, a5⟩
/-- a frame that closes none leaves the closed ones as they were -/
theorem adds_open {first : Int} {L : List (List Fr)} {O : List Fr} {f : Fr} (h : addsE first L O f = 0) (hb : addsB first L O f = false) : addsF first L O f = first ∧ addsL first L O f = L := by
  obtain ⟨h1, _, _, e1, e2, _, e4⟩ := addsE_zero h
  rw [e4, decide_eq_false_iff_not] at hb
  have hc : closedG O f = [] := List.eq_nil_of_length_eq_zero (by omega)
  rw [hc, List.append_nil] at e1 e2
  rw [trimD_no (fullB_right h1)] at e1 e2
  exact ⟨by rw [e1]; simp, by rw [e2]; simp⟩
theorem grAt_append (L M : List (List Fr)) (k : Nat) : grAt (L ++ M) k = if k < L.length then grAt L k else grAt M (k - L.length) := by
  unfold grAt
  split
  · rename_i h; rw [List.getElem?_append_left h]
  · rename_i h; rw [List.getElem?_append_right (by omega)]
theorem grAt_drop (L : List (List Fr)) (d k : Nat) : grAt (L.drop d) k = grAt L (d + k) := by
  unfold grAt; rw [List.getElem?_drop]
/-- what Get says of a store that is right -/
theorem getE_in {first : Int} {L : List (List Fr)} {O : List Fr} (h : stchk first L O = 0) {n : Int} {d : Nat} (hn : n = first + d) (hd : d < (allG L O).length) : getE first L O n = 0 ∧ getG first L O n = grAt (allG L O) d := by
  have e : getE first L O n = 0 := by
    unfold getE; rw [if_pos h, if_neg (by omega), if_neg (by omega)]
  refine ⟨e, ?_⟩
  unfold getG; rw [if_pos e]
  congr 1; omega
theorem getE_out {first : Int} {L : List (List Fr)} {O : List Fr} (h : stchk first L O = 0) {n : Int} (hn : n < first ∨ first + (allG L O).length ≤ n) : getE first L O n = 5 ∧ getG first L O n = [] := by
  have e : getE first L O n = 5 := by
    unfold getE; rw [if_pos h]
    by_cases h1 : n < first
    · rw [if_pos h1]
    · rw [if_neg h1, if_pos (by omega)]
  exact ⟨e, by unfold getG; rw [if_neg (by rw [e]; decide)]⟩
theorem allG_length (L : List (List Fr)) (O : List Fr) : (allG L O).length = L.length + (if 0 < O.length then 1 else 0) := by
  unfold allG; split <;> simp
/-- what was stored is there, by its number, or is gone -/
theorem adds_get {first : Int} {L : List (List Fr)} {O : List Fr} {f : Fr} (h : addsE first L O f = 0) {i : Nat} (hi : i < (L ++ closedG O f).length) :
    (first + i < addsF first L O f → getE (addsF first L O f) (addsL first L O f) (addsO first L O f) (first + i) = 5) ∧
    (¬ first + i < addsF first L O f → getE (addsF first L O f) (addsL first L O f) (addsO first L O f) (first + i) = 0 ∧ getG (addsF first L O f) (addsL first L O f) (addsO first L O f) (first + i) = grAt (L ++ closedG O f) i) := by
  have hr := adds_right h
  obtain ⟨_, _, _, e1, e2, _, _⟩ := addsE_zero h
  refine ⟨fun h1 => (getE_out hr (.inl h1)).1, fun h1 => ?_⟩
  rw [e1] at h1
  have hd : i - trimD (L ++ closedG O f) < (addsL first L O f).length := by rw [e2, List.length_drop]; omega
  obtain ⟨g1, g2⟩ := getE_in hr (n := first + i) (d := i - trimD (L ++ closedG O f)) (by rw [e1]; omega) (by rw [allG_length]; omega)
  refine ⟨g1, ?_⟩
  rw [g2]
  unfold allG
  have : grAt (addsL first L O f) (i - trimD (L ++ closedG O f)) = grAt (L ++ closedG O f) i := by
    rw [e2, grAt_drop]; congr 1; omega
  split
  · rw [grAt_append, if_pos hd, this]
  · exact this
/-- the newest one is there -/
theorem adds_last {first : Int} {L : List (List Fr)} {O : List Fr} {f : Fr} (h : addsE first L O f = 0) : addsF first L O f ≤ first + ((L ++ closedG O f).length - 1 : Nat) ∧ first ≤ addsF first L O f ∧ (0 < (L ++ closedG O f).length → 0 < (addsL first L O f).length) := by
  obtain ⟨_, _, _, e1, e2, _, _⟩ := addsE_zero h
  have := trimD_le (L ++ closedG O f)
  rw [e1, e2, List.length_drop]
  exact ⟨by omega, by omega, fun _ => by omega⟩
/-- what Seek finds -/
theorem seekI_spec (A : List (List Fr)) (t : Int) : ∀ i, (∀ j, seekI A t i < j → j ≤ i → t < (frAt (grAt A j) 0).time) ∧ (t < (frAt (grAt A (seekI A t i)) 0).time → seekI A t i = 0)
  | 0 => ⟨fun j h1 h2 => by simp [seekI] at h1; omega, fun _ => rfl⟩
  | i + 1 => by
    by_cases h : (frAt (grAt A (i + 1)) 0).time ≤ t
    · rw [seekI_hit rfl h]
      exact ⟨fun j h1 h2 => by omega, fun h2 => by omega⟩
    · rw [seekI_miss rfl h]
      have ih := seekI_spec A t i
      refine ⟨fun j h1 h2 => ?_, ih.2⟩
      by_cases hj : j = i + 1
      · subst hj; omega
      · exact ih.1 j h1 (by omega)
theorem seekE_zero {first : Int} {L : List (List Fr)} {O : List Fr} {t : Int} (h : seekE first L O t = 0) : stchk first L O = 0 ∧ 0 ≤ t ∧ t ≤ 1000000 ∧ 0 < (allG L O).length ∧ seekN first L O t = first + seekI (allG L O) t ((allG L O).length - 1) := by
  have h0 := h
  unfold seekE at h0
  by_cases h1 : stchk first L O = 0
  · rw [if_pos h1] at h0
    by_cases h2 : t < 0
    · rw [if_pos h2] at h0; cases h0
    rw [if_neg h2] at h0
    by_cases h3 : 1000000 < t
    · rw [if_pos h3] at h0; cases h0
    rw [if_neg h3] at h0
    by_cases h4 : (allG L O).length = 0
    · rw [if_pos h4] at h0; cases h0
    exact ⟨h1, by omega, by omega, by omega, if_pos h⟩
  · rw [if_neg h1] at h0; exact absurd h0 h1

end Go.Proofs.YtnpaejknoipicafGreat

namespace Go.Proofs.YtnpaejknoipicafGreat
open Go.RowKit

theorem num_one (l : List UInt8) : num (l.take 1) = (l[0]?.getD 0).toNat := by
  cases l with
  | nil => rfl
  | cons x r => simp [num]

set_option maxHeartbeats 2000000 in
theorem closure_ok (R H P c : Nat) (l : List UInt8) (hv s0 t0 f0 e0 k0 x0 : Value) (w : World)
    (bR : Blk w R #[.string (ba l)] 231) (bH : Blk w H #[hv] 3) (bP : Blk w P #[s0, t0, f0, e0, k0, x0] 89)
    (hRH : R ≠ H) (hRP : R ≠ P) (hHP : H ≠ P) (h8 : 8 ≤ l.length) (hc : num ((l.drop 7).take 1) = (c : Int)) (hcl : 8 + c ≤ l.length) (hc255 : c ≤ 255) :
    Calls Tryz.prog 155 #[.pointer (some ⟨R, 0, none⟩), .pointer (some ⟨H, 0, none⟩), .pointer (some ⟨P, 0, none⟩)] w fun e w' =>
      e = .returned (.tuple #[]) ∧ Blk w' R #[.string (ba (l.drop (8 + c)))] 231 ∧ Blk w' H #[.int .i64 (num (l.take 1))] 3 ∧
      Blk w' P #[.int .i64 (num ((l.drop 1).take 2)), .int .i64 (num ((l.drop 3).take 4)), f0, e0, k0, .string (ba ((l.drop 8).take c))] 89 ∧ Kept [R, H, P] w w' := by
  have HC : Hid (num ((l.drop 7).take 1) = (c : Int)) := hc
  clear hc
  have sub : ∀ {a b : World}, Kept [R] a b → Kept [R, H, P] a b := fun h => ⟨h.os, h.tape, h.output, h.size, fun k hk hS => h.block k hk (fun hm => hS (by simp at hm ⊢; exact .inl hm))⟩
  have HSub := @id (Hid (∀ {a b : World}, Kept [R] a b → Kept [R, H, P] a b)) sub
  clear sub
  obtain ⟨m1, hm1⟩ : ∃ m, m = num (l.take 1) := ⟨_, rfl⟩
  obtain ⟨r1, hr1⟩ : ∃ r, r = l.drop 1 := ⟨_, rfl⟩
  obtain ⟨m2, hm2⟩ : ∃ m, m = num (r1.take 2) := ⟨_, rfl⟩
  obtain ⟨r2, hr2⟩ : ∃ r, r = r1.drop 2 := ⟨_, rfl⟩
  obtain ⟨m3, hm3⟩ : ∃ m, m = num (r2.take 4) := ⟨_, rfl⟩
  obtain ⟨r3, hr3⟩ : ∃ r, r = r2.drop 4 := ⟨_, rfl⟩
  obtain ⟨r4, hr4⟩ : ∃ r, r = r3.drop 1 := ⟨_, rfl⟩
  obtain ⟨x5, hx5⟩ : ∃ x, x = ba (r4.take c) := ⟨_, rfl⟩
  obtain ⟨r5, hr5⟩ : ∃ r, r = r4.drop c := ⟨_, rfl⟩
  have l1 : r1.length = l.length - 1 := by rw [hr1]; simp
  have l2 : r2.length = l.length - 3 := by rw [hr2]; simp; omega
  have l3 : r3.length = l.length - 7 := by rw [hr3]; simp; omega
  have l4 : r4.length = l.length - 8 := by rw [hr4]; simp; omega
  have hm4 : (c : Int) = num (r3.take 1) := by rw [← HC.out, hr3, hr2, hr1]; simp
  have f2 : m2 = num ((l.drop 1).take 2) := by rw [hm2, hr1]
  have f3 : m3 = num ((l.drop 3).take 4) := by rw [hm3, hr2, hr1]; simp
  have f5 : x5 = ba ((l.drop 8).take c) := by rw [hx5, hr4, hr3, hr2, hr1]; simp
  have g5 : r5 = l.drop (8 + c) := by rw [hr5, hr4, hr3, hr2, hr1]; simp
  rw [← hm1, ← f2, ← f3, ← f5, ← g5]
  have E1 : Hid _ := hm1
  have E2 : Hid _ := hm2
  have E3 : Hid _ := hm3
  have E4 : Hid _ := hm4
  have E5 : Hid _ := hx5
  have D1 : Hid _ := hr1
  have D2 : Hid _ := hr2
  have D3 : Hid _ := hr3
  have D4 : Hid _ := hr4
  have D5 : Hid _ := hr5
  have q1 : 2 ≤ r1.length := by omega
  have q2 : 4 ≤ r2.length := by omega
  have q3 : 1 ≤ r3.length := by omega
  have q4 : c ≤ r4.length := by omega
  clear hm1 hm2 hm3 hm4 hx5 hr1 hr2 hr3 hr4 hr5 f2 f3 f5 g5 l1 l2 l3 l4
  go_enter Tryz.func155, Tryz.ntmps155
  go_wp2_with fail
  refine (numberL_some R 1 1 m1 l r1 _ E1.out D1.out rfl bR (by omega) (by decide)).mono ?_
  rintro e w1 ⟨rfl, bR1, k1⟩
  have bH1 := bH.kept k1 (by simpa using fun h => hRH h.symm)
  have bP1 := bP.kept k1 (by simpa using fun h => hRP h.symm)
  have cH := bH1.cell (j := 0) (u := hv) rfl
  have fH := bH1.free 0
  go_wp2_with fail
  have bR1' := bR1.other (a := ⟨H, 0, none⟩) hRH (.int .i64 m1)
  have bP1' := bP1.other (a := ⟨H, 0, none⟩) (fun h => hHP h.symm) (.int .i64 m1)
  have bH1' : Blk _ H #[.int .i64 m1] 3 := bH1.set 0 (.int .i64 m1)
  have K1 := (HSub.out k1).setCell (p := ⟨H, 0, none⟩) (by simp) (.int .i64 m1)
  refine (numberL_some R 2 2 m2 r1 r2 _ E2.out D2.out rfl bR1' q1 (by decide)).mono ?_
  rintro e w2 ⟨rfl, bR2, k2⟩
  have bH2 := bH1'.kept k2 (by simpa using fun h => hRH h.symm)
  have bP2 := bP1'.kept k2 (by simpa using fun h => hRP h.symm)
  have K2 := K1.trans (HSub.out k2)
  have cP := bP2.cell (j := 0) (u := s0) rfl
  have fP := bP2.free 0
  clear cH fH bR1 bR1' bP1 bP1' bH1 bH1' K1 k1 k2
  go_wp2_with fail
  have bR2' := bR2.other (a := ⟨P, 0, none⟩) hRP (.int .i64 m2)
  have bP2' : Blk _ P #[.int .i64 m2, t0, f0, e0, k0, x0] 89 := bP2.set 0 (.int .i64 m2)
  have bH2' := bH2.other (a := ⟨P, 0, none⟩) hHP (.int .i64 m2)
  have K2' := K2.setCell (p := ⟨P, 0, none⟩) (by simp) (.int .i64 m2)
  refine (numberL_some R 4 4 m3 r2 r3 _ E3.out D3.out rfl bR2' q2 (by decide)).mono ?_
  rintro e w3 ⟨rfl, bR3, k3⟩
  have bH3 := bH2'.kept k3 (by simpa using fun h => hRH h.symm)
  have bP3 := bP2'.kept k3 (by simpa using fun h => hRP h.symm)
  have K3 := K2'.trans (HSub.out k3)
  have cP1 := bP3.cell (j := 1) (u := t0) rfl
  have fP1 := bP3.free 1
  clear cP fP bR2 bR2' bP2 bP2' bH2 bH2' K2 K2' k3
  go_wp2_with fail
  have bR3' := bR3.other (a := ⟨P, 1, none⟩) hRP (.int .i64 m3)
  have bP3' : Blk _ P #[.int .i64 m2, .int .i64 m3, f0, e0, k0, x0] 89 := bP3.set 1 (.int .i64 m3)
  have bH3' := bH3.other (a := ⟨P, 1, none⟩) hHP (.int .i64 m3)
  have K3' := K3.setCell (p := ⟨P, 1, none⟩) (by simp) (.int .i64 m3)
  refine (numberL_some R 1 1 (c : Int) r3 r4 _ E4.out D4.out rfl bR3' q3 (by decide)).mono ?_
  rintro e w4 ⟨rfl, bR4, k4⟩
  have bH4 := bH3'.kept k4 (by simpa using fun h => hRH h.symm)
  have bP4 := bP3'.kept k4 (by simpa using fun h => hRP h.symm)
  have K4 := K3'.trans (HSub.out k4)
  clear cP1 fP1 bR3 bR3' bP3 bP3' bH3 bH3' K3 K3' k4
  go_wp2_with fail
  refine (textL_some R c x5 r4 r5 _ E5.out D5.out bR4 q4 hc255).mono ?_
  rintro e w5 ⟨rfl, bR5, k5⟩
  have bH5 := bH4.kept k5 (by simpa using fun h => hRH h.symm)
  have bP5 := bP4.kept k5 (by simpa using fun h => hRP h.symm)
  have K5 := K4.trans (HSub.out k5)
  have cP5 := bP5.cell (j := 5) (u := x0) rfl
  have fP5 := bP5.free 5
  clear bR4 bP4 bH4 K4 k5
  go_wp2
  go_end0
  exact ⟨rfl, bR5.other (a := ⟨P, 5, none⟩) hRP _, bH5.other (a := ⟨P, 5, none⟩) hHP _, bP5.set 5 _, K5.setCell (p := ⟨P, 5, none⟩) (by simp) _⟩

set_option maxHeartbeats 4000000 in
theorem closure_few (R H P : Nat) (l : List UInt8) (hv s0 t0 f0 e0 k0 x0 : Value) (w : World)
    (bR : Blk w R #[.string (ba l)] 231) (bH : Blk w H #[hv] 3) (bP : Blk w P #[s0, t0, f0, e0, k0, x0] 89)
    (hRH : R ≠ H) (hRP : R ≠ P) (hHP : H ≠ P) (hfew : l.length < 8 ∨ ∃ c : Nat, num ((l.drop 7).take 1) = (c : Int) ∧ l.length < 8 + c) :
    Calls Tryz.prog 155 #[.pointer (some ⟨R, 0, none⟩), .pointer (some ⟨H, 0, none⟩), .pointer (some ⟨P, 0, none⟩)] w fun e w' =>
      e = .panicked few ∧ Kept [R, H, P] w w' := by
  have sub : ∀ {a b : World}, Kept [R] a b → Kept [R, H, P] a b := fun h => ⟨h.os, h.tape, h.output, h.size, fun k hk hS => h.block k hk (fun hm => hS (by simp at hm ⊢; exact .inl hm))⟩
  have HSub := @id (Hid (∀ {a b : World}, Kept [R] a b → Kept [R, H, P] a b)) sub
  clear sub
  obtain ⟨m1, hm1⟩ : ∃ m, m = num (l.take 1) := ⟨_, rfl⟩
  obtain ⟨r1, hr1⟩ : ∃ r, r = l.drop 1 := ⟨_, rfl⟩
  obtain ⟨m2, hm2⟩ : ∃ m, m = num (r1.take 2) := ⟨_, rfl⟩
  obtain ⟨r2, hr2⟩ : ∃ r, r = r1.drop 2 := ⟨_, rfl⟩
  obtain ⟨m3, hm3⟩ : ∃ m, m = num (r2.take 4) := ⟨_, rfl⟩
  obtain ⟨r3, hr3⟩ : ∃ r, r = r2.drop 4 := ⟨_, rfl⟩
  obtain ⟨m4, hm4⟩ : ∃ m, m = num (r3.take 1) := ⟨_, rfl⟩
  obtain ⟨r4, hr4⟩ : ∃ r, r = r3.drop 1 := ⟨_, rfl⟩
  have l1 : r1.length = l.length - 1 := by rw [hr1]; simp
  have l2 : r2.length = l.length - 3 := by rw [hr2]; simp; omega
  have l3 : r3.length = l.length - 7 := by rw [hr3]; simp; omega
  have l4 : r4.length = l.length - 8 := by rw [hr4]; simp; omega
  have hq4 : 8 ≤ l.length → (r4.length : Int) < m4 := by
    intro h
    rcases hfew with hf | ⟨c, hc, hcl⟩
    · omega
    · have : m4 = (c : Int) := by rw [hm4, ← hc, hr3, hr2, hr1]; simp
      omega
  have E1 : Hid _ := hm1
  have E2 : Hid _ := hm2
  have E3 : Hid _ := hm3
  have E4 : Hid _ := hm4
  have D1 : Hid _ := hr1
  have D2 : Hid _ := hr2
  have D3 : Hid _ := hr3
  have D4 : Hid _ := hr4
  have L1 : Hid _ := l1
  have L2 : Hid _ := l2
  have L3 : Hid _ := l3
  have HQ : Hid _ := hq4
  clear hm1 hm2 hm3 hm4 hr1 hr2 hr3 hr4 l1 l2 l3 l4 hq4 hfew
  go_enter Tryz.func155, Tryz.ntmps155
  go_wp2_with fail
  by_cases hA : l.length < 1
  · refine (numberL_few R l 1 _ bR (by omega)).mono ?_
    rintro e w1 ⟨rfl, rfl⟩
    go_wp2_with fail
    exact ⟨rfl, rfl, Kept.refl _ _⟩
  refine (numberL_some R 1 1 m1 l r1 _ E1.out D1.out rfl bR (by omega) (by decide)).mono ?_
  rintro e w1 ⟨rfl, bR1, k1⟩
  have bH1 := bH.kept k1 (by simpa using fun h => hRH h.symm)
  have bP1 := bP.kept k1 (by simpa using fun h => hRP h.symm)
  have cH := bH1.cell (j := 0) (u := hv) rfl
  have fH := bH1.free 0
  go_wp2_with fail
  have bR1' := bR1.other (a := ⟨H, 0, none⟩) hRH (.int .i64 m1)
  have bP1' := bP1.other (a := ⟨H, 0, none⟩) (fun h => hHP h.symm) (.int .i64 m1)
  have K1 := (HSub.out k1).setCell (p := ⟨H, 0, none⟩) (by simp) (.int .i64 m1)
  by_cases hB : l.length < 3
  · refine (numberL_few R r1 2 _ bR1' (by have := L1.out; omega)).mono ?_
    rintro e w2 ⟨rfl, rfl⟩
    go_wp2_with fail
    exact ⟨rfl, rfl, K1⟩
  refine (numberL_some R 2 2 m2 r1 r2 _ E2.out D2.out rfl bR1' (by have := L1.out; omega) (by decide)).mono ?_
  rintro e w2 ⟨rfl, bR2, k2⟩
  have bP2 := bP1'.kept k2 (by simpa using fun h => hRP h.symm)
  have K2 := K1.trans (HSub.out k2)
  have cP := bP2.cell (j := 0) (u := s0) rfl
  have fP := bP2.free 0
  clear cH fH bR1 bR1' bP1 bP1' bH1 K1 k1 k2
  go_wp2_with fail
  have bR2' := bR2.other (a := ⟨P, 0, none⟩) hRP (.int .i64 m2)
  have bP2' : Blk _ P #[.int .i64 m2, t0, f0, e0, k0, x0] 89 := bP2.set 0 (.int .i64 m2)
  have K2' := K2.setCell (p := ⟨P, 0, none⟩) (by simp) (.int .i64 m2)
  by_cases hC : l.length < 7
  · refine (numberL_few R r2 4 _ bR2' (by have := L2.out; omega)).mono ?_
    rintro e w3 ⟨rfl, rfl⟩
    go_wp2_with fail
    exact ⟨rfl, rfl, K2'⟩
  refine (numberL_some R 4 4 m3 r2 r3 _ E3.out D3.out rfl bR2' (by have := L2.out; omega) (by decide)).mono ?_
  rintro e w3 ⟨rfl, bR3, k3⟩
  have bP3 := bP2'.kept k3 (by simpa using fun h => hRP h.symm)
  have K3 := K2'.trans (HSub.out k3)
  have cP1 := bP3.cell (j := 1) (u := t0) rfl
  have fP1 := bP3.free 1
  clear cP fP bR2 bR2' bP2 bP2' K2 K2' k3
  go_wp2_with fail
  have bR3' := bR3.other (a := ⟨P, 1, none⟩) hRP (.int .i64 m3)
  have K3' := K3.setCell (p := ⟨P, 1, none⟩) (by simp) (.int .i64 m3)
  by_cases hD : l.length < 8
  · refine (numberL_few R r3 1 _ bR3' (by have := L3.out; omega)).mono ?_
    rintro e w4 ⟨rfl, rfl⟩
    go_wp2_with fail
    exact ⟨rfl, rfl, K3'⟩
  refine (numberL_some R 1 1 m4 r3 r4 _ E4.out D4.out rfl bR3' (by have := L3.out; omega) (by decide)).mono ?_
  rintro e w4 ⟨rfl, bR4, k4⟩
  have K4 := K3'.trans (HSub.out k4)
  clear cP1 fP1 bR3 bR3' bP3 K3 K3' k4
  go_wp2_with fail
  refine (textL_few R r4 m4 _ bR4 (HQ.out (by omega))).mono ?_
  rintro e w5 ⟨rfl, rfl⟩
  go_wp2_with fail
  exact ⟨rfl, rfl, K4⟩

end Go.Proofs.YtnpaejknoipicafGreat

namespace Go.Proofs.YtnpaejknoipicafGreat
open Go.RowKit

theorem catch_idle (p q : Addr) (w : World) :
    CallsD Tryz.prog 168 #[.pointer (some p), .pointer (some q)] .returning w fun e u' w' => e = .returned (.tuple #[]) ∧ u' = .returning ∧ w' = w := by
  refine callsD_of_wpS Tryz.func168 rfl fun c₀ cs hu => ?_
  apply wpS_seq
  apply wpS_region
  simp [wpOpsS, go_sem, recoverD, hu, Tryz.ntmps168, Exit.thenS]
  refine wpS_of_wp ?_
  rw [show (#[Value.pointer (some p), Value.pointer (some q)] ++ ((Array.replicate 14 undef).setIfInBounds 3 Value.nilIface).setIfInBounds 0 Value.nilIface) = #[.pointer (some p), .pointer (some q), .nilIface, undef, undef, .nilIface, undef, undef, undef, undef, undef, undef, undef, undef, undef, undef] from rfl]
  go_wp2
  cases c₀
  simp_all [bodyPostS, results, Tryz.results168]

theorem assert_few (w : World) : (Instr.typeAssert (.iface 228 (.agg #[])) 20 228 true).run Tryz.prog w = .ok (.tuple #[.agg #[], .bool true]) w := by kernel_rfl

theorem catch_few (b c : Nat) (x y : Value) (older : List PanicEntry) (w : World) (hb : Blk w b #[x] 9) (hc : Blk w c #[y] 4) (hbc : b ≠ c) :
    CallsD Tryz.prog 168 #[.pointer (some ⟨b, 0, none⟩), .pointer (some ⟨c, 0, none⟩)] (.panicking ({ v := .iface 228 (.agg #[]), recovered := false } :: older)) w fun e u' w' =>
      e = .returned (.tuple #[]) ∧ u' = .panicking ({ v := .iface 228 (.agg #[]), recovered := true } :: older) ∧ w' = ((w.alloc (.cells #[] 228)).setCell ⟨b, 0, none⟩ (.string ⟨#[]⟩)).setCell ⟨c, 0, none⟩ (.bool false) := by
  have hta := assert_few
  have hb0 := (hb.alloc (.cells #[] 228)).cell (j := 0) (u := x) rfl
  have hbz := (hb.alloc (.cells #[] 228)).free 0
  have hc1 := (hc.alloc (.cells #[] 228)).other (a := ⟨b, 0, none⟩) (fun h => hbc h.symm) (.string ⟨#[]⟩)
  have hc0 := hc1.cell (j := 0) (u := y) rfl
  have hcz := hc1.free 0
  refine callsD_of_wpS Tryz.func168 rfl fun c₀ cs hu => ?_
  apply wpS_seq
  apply wpS_region
  simp [wpOpsS, go_sem, recoverD, hu, Tryz.ntmps168, Exit.thenS]
  refine wpS_of_wp ?_
  rw [show (#[Value.pointer (some ⟨b, 0, none⟩), Value.pointer (some ⟨c, 0, none⟩)] ++ ((Array.replicate 14 undef).setIfInBounds 3 (Value.iface 228 (Value.agg #[]))).setIfInBounds 0 (Value.iface 228 (Value.agg #[]))) = #[.pointer (some ⟨b, 0, none⟩), .pointer (some ⟨c, 0, none⟩), .iface 228 (.agg #[]), undef, undef, .iface 228 (.agg #[]), undef, undef, undef, undef, undef, undef, undef, undef, undef, undef] from rfl]
  go_wp2
  cases c₀
  simp_all [bodyPostS, results, Tryz.results168]

/-- the memory as raw.Read begins to read -/
theorem read_start (w : World) (l : List UInt8) : ∀ W0, W0 = ((w.alloc (.cells #[.string ⟨#[]⟩] 9)).alloc (.cells #[.bool false] 4)).alloc (.cells #[.string (ba l)] 231) →
    Blk W0 w.heap.size #[.string ⟨#[]⟩] 9 ∧ Blk W0 (w.heap.size + 1) #[.bool false] 4 ∧ Blk W0 (w.heap.size + 1 + 1) #[.string (ba l)] 231 ∧ Below w.heap.size w W0 ∧ W0.heap.size = w.heap.size + 3 := by
  intro W0 h
  subst h
  refine ⟨((Blk.new w _ _).alloc _).alloc _, ?_, ?_, by go_grown, by simp⟩
  · have := Blk.new (w.alloc (.cells #[.string ⟨#[]⟩] 9)) #[.bool false] 4
    rw [World.size_alloc] at this
    exact this.alloc _
  · have := Blk.new ((w.alloc (.cells #[.string ⟨#[]⟩] 9)).alloc (.cells #[.bool false] 4)) #[.string (ba l)] 231
    rw [World.size_alloc, World.size_alloc] at this
    exact this

set_option maxHeartbeats 2000000 in
theorem whole_ok (H P c : Nat) (l : List UInt8) (hv s0 t0 f0 e0 k0 x0 : Value) (w : World)
    (bH : Blk w H #[hv] 3) (bP : Blk w P #[s0, t0, f0, e0, k0, x0] 89)
    (hHP : H ≠ P) (h8 : 8 ≤ l.length) (hc : num ((l.drop 7).take 1) = (c : Int)) (hcl : 8 + c ≤ l.length) (hc255 : c ≤ 255) :
    Calls Tryz.prog 149 #[.string (ba l), .func (.func 155) #[] #[.pointer (some ⟨H, 0, none⟩), .pointer (some ⟨P, 0, none⟩)]] w fun e w' =>
      e = .returned (.tuple #[.string (ba (l.drop (8 + c))), .bool true]) ∧ Blk w' H #[.int .i64 (num (l.take 1))] 3 ∧
      Blk w' P #[.int .i64 (num ((l.drop 1).take 2)), .int .i64 (num ((l.drop 3).take 4)), f0, e0, k0, .string (ba ((l.drop 8).take c))] 89 ∧ Kept [H, P] w w' := by
  have hmf : ∀ (fn : Fn) (first cap : Array Value) (w : World), (Instr.makeFunc fn first cap).run Tryz.prog w = .ok (.func fn first cap) w := fun _ _ _ _ => rfl
  have HC : Hid _ := hc
  obtain ⟨r, hr⟩ : ∃ r, r = l.drop (8 + c) := ⟨_, rfl⟩
  rw [← hr]
  have HR : Hid (r = l.drop (8 + c)) := hr
  clear hc hr
  go_enter_defers Tryz.func149, Tryz.ntmps149
  go_wp2_with fail
  obtain ⟨W0, hW0⟩ : ∃ W0, W0 = ((w.alloc (.cells #[.string ⟨#[]⟩] 9)).alloc (.cells #[.bool false] 4)).alloc (.cells #[.string (ba l)] 231) := ⟨_, rfl⟩
  obtain ⟨bA0, bB0, bR0, be0, hs0⟩ := read_start w l W0 hW0
  have bH0 : Blk W0 H #[hv] 3 := bH.below be0 bH.lt
  have bP0 : Blk W0 P #[s0, t0, f0, e0, k0, x0] 89 := bP.below be0 bP.lt
  have K0 : Kept [H, P] w W0 := (Kept.refl _ w).below be0
  rw [← hW0]
  clear hW0
  have hHl := bH.lt
  have hPl := bP.lt
  refine (closure_ok (w.heap.size + 1 + 1) H P c l hv s0 t0 f0 e0 k0 x0 W0 bR0 bH0 bP0 (by omega) (by omega) hHP h8 HC.out hcl hc255).mono ?_
  rintro e w1 ⟨rfl, bR1, bH1, bP1, k1⟩
  have bA1 := bA0.kept k1 (by simp; omega)
  have bB1 := bB0.kept k1 (by simp; omega)
  have K1 := K0.more k1 (by intro j hj hl; simp at hj ⊢; omega)
  rw [← HR.out] at bR1
  have cR := bR1.cell (j := 0) (u := .string (ba r)) rfl
  have cA := bA1.cell (j := 0) (u := .string ⟨#[]⟩) rfl
  have fA := bA1.free 0
  have bB2 := bB1.other (a := ⟨w.heap.size, 0, none⟩) (by show w.heap.size + 1 ≠ w.heap.size; omega) (.string (ba r))
  have cB := bB2.cell (j := 0) (u := .bool false) rfl
  have fB := bB2.free 0
  clear k1 bR0 bA0 bB0 bH0 bP0 K0 bR1
  go_wp2
  have bA3 := (bA1.set 0 (.string (ba r))).other (a := ⟨w.heap.size + 1, 0, none⟩) (by show w.heap.size ≠ w.heap.size + 1; omega) (.bool true)
  have bB3 := bB2.set 0 (.bool true)
  have cA3 := bA3.cell (j := 0) (u := .string (ba r)) rfl
  have cB3 := bB3.cell (j := 0) (u := .bool true) rfl
  refine leaves_cons (f := 168) (args := #[.pointer (some ⟨w.heap.size, 0, none⟩), .pointer (some ⟨w.heap.size + 1, 0, none⟩)]) (by simp) (by simp [go_sem]) ?_
  refine (catch_idle ⟨w.heap.size, 0, none⟩ ⟨w.heap.size + 1, 0, none⟩ _).mono ?_
  rintro e u' w'' ⟨rfl, rfl, rfl⟩
  simp [Leaves, settle, results, Tryz.results149, go_sem, cA3, cB3]
  have bH3 := (bH1.other (a := ⟨w.heap.size, 0, none⟩) (by show H ≠ w.heap.size; omega) (.string (ba r))).other (a := ⟨w.heap.size + 1, 0, none⟩) (by show H ≠ w.heap.size + 1; omega) (.bool true)
  have bP3 := (bP1.other (a := ⟨w.heap.size, 0, none⟩) (by show P ≠ w.heap.size; omega) (.string (ba r))).other (a := ⟨w.heap.size + 1, 0, none⟩) (by show P ≠ w.heap.size + 1; omega) (.bool true)
  have K3 := (K1.setNew (p := ⟨w.heap.size, 0, none⟩) (Nat.le_refl _) (.string (ba r))).setNew (p := ⟨w.heap.size + 1, 0, none⟩) (Nat.le_succ _) (.bool true)
  exact ⟨bH3, by simpa using bP3, K3⟩

set_option maxHeartbeats 2000000 in
theorem whole_few (H P : Nat) (l : List UInt8) (hv s0 t0 f0 e0 k0 x0 : Value) (w : World)
    (bH : Blk w H #[hv] 3) (bP : Blk w P #[s0, t0, f0, e0, k0, x0] 89)
    (hHP : H ≠ P) (hfew : l.length < 8 ∨ ∃ c : Nat, num ((l.drop 7).take 1) = (c : Int) ∧ l.length < 8 + c) :
    Calls Tryz.prog 149 #[.string (ba l), .func (.func 155) #[] #[.pointer (some ⟨H, 0, none⟩), .pointer (some ⟨P, 0, none⟩)]] w fun e w' =>
      e = .returned (.tuple #[.string ⟨#[]⟩, .bool false]) ∧ Kept [H, P] w w' := by
  have hmf : ∀ (fn : Fn) (first cap : Array Value) (w : World), (Instr.makeFunc fn first cap).run Tryz.prog w = .ok (.func fn first cap) w := fun _ _ _ _ => rfl
  have HC : Hid _ := hfew
  clear hfew
  go_enter_defers Tryz.func149, Tryz.ntmps149
  go_wp2_with fail
  obtain ⟨W0, hW0⟩ : ∃ W0, W0 = ((w.alloc (.cells #[.string ⟨#[]⟩] 9)).alloc (.cells #[.bool false] 4)).alloc (.cells #[.string (ba l)] 231) := ⟨_, rfl⟩
  obtain ⟨bA0, bB0, bR0, be0, hs0⟩ := read_start w l W0 hW0
  have bH0 : Blk W0 H #[hv] 3 := bH.below be0 bH.lt
  have bP0 : Blk W0 P #[s0, t0, f0, e0, k0, x0] 89 := bP.below be0 bP.lt
  have K0 : Kept [H, P] w W0 := (Kept.refl _ w).below be0
  rw [← hW0]
  clear hW0
  have hHl := bH.lt
  have hPl := bP.lt
  refine (closure_few (w.heap.size + 1 + 1) H P l hv s0 t0 f0 e0 k0 x0 W0 bR0 bH0 bP0 (by omega) (by omega) hHP HC.out).mono ?_
  rintro e w1 ⟨rfl, k1⟩
  have bA1 := bA0.kept k1 (by simp; omega)
  have bB1 := bB0.kept k1 (by simp; omega)
  have K1 := K0.more k1 (by intro j hj hl; simp at hj ⊢; omega)
  clear k1 bR0 bA0 bB0 bH0 bP0 K0
  simp only [few]
  go_wp2
  refine leaves_cons (f := 168) (args := #[.pointer (some ⟨w.heap.size, 0, none⟩), .pointer (some ⟨w.heap.size + 1, 0, none⟩)]) (by simp) (by simp [go_sem]) ?_
  refine (catch_few w.heap.size (w.heap.size + 1) (.string ⟨#[]⟩) (.bool false) [] _ bA1 bB1 (by omega)).mono ?_
  rintro e u' w'' ⟨rfl, rfl, rfl⟩
  have bA2 := ((bA1.alloc (.cells #[] 228)).set 0 (.string ⟨#[]⟩)).other (a := ⟨w.heap.size + 1, 0, none⟩) (by show w.heap.size ≠ w.heap.size + 1; omega) (.bool false)
  have bB2 := ((bB1.alloc (.cells #[] 228)).other (a := ⟨w.heap.size, 0, none⟩) (by show w.heap.size + 1 ≠ w.heap.size; omega) (.string ⟨#[]⟩)).set 0 (.bool false)
  have cA2 := bA2.cell (j := 0) (u := .string ⟨#[]⟩) rfl
  have cB2 := bB2.cell (j := 0) (u := .bool false) rfl
  simp [Leaves, settle, results, Tryz.results149, go_sem, cA2, cB2]
  exact ((K1.alloc _).setNew (p := ⟨w.heap.size, 0, none⟩) (Nat.le_refl _) _).setNew (p := ⟨w.heap.size + 1, 0, none⟩) (Nat.le_succ _) _

end Go.Proofs.YtnpaejknoipicafGreat

namespace Go.Proofs.YtnpaejknoipicafGreat
open Go.RowKit

/-- a byte of a list -/
def at8 (l : List UInt8) (i : Nat) : Nat := (l[i]?.getD 0).toNat
theorem at8_lt (l : List UInt8) (i : Nat) : at8 l i < 256 := UInt8.toNat_lt _
/-- are they of a packet's form? -/
def formB (l : List UInt8) : Bool := decide (8 ≤ l.length) && decide (l.length = 8 + at8 l 7) && decide (128 ≤ at8 l 0) && decide (at8 l 0 ≤ 135)
/-- the packet that bytes of that form tell -/
def Pk.told (l : List UInt8) : Pk := ⟨num ((l.drop 1).take 2), num ((l.drop 3).take 4), at8 l 0 % 2 == 1, at8 l 0 / 2 % 2 == 1, at8 l 0 / 4 % 2 == 1, ba (l.drop 8)⟩
def Pk.dec (l : List UInt8) : Pk × Int := if formB l then (if (Pk.told l).chk == 0 then (Pk.told l, 0) else (Pk.zero, (Pk.told l).chk)) else (Pk.zero, 1)

theorem num_at (l : List UInt8) (i : Nat) : num ((l.drop i).take 1) = (at8 l i : Int) := by
  rw [num_one, at8, List.getElem?_drop, Nat.add_zero]

theorem bit_facts (h : Nat) (h1 : 128 ≤ h) (h2 : h ≤ 135) :
    (bits .and .i64 (h : Int) 1 != 0) = (h % 2 == 1) ∧ (bits .and .i64 (h : Int) 2 != 0) = (h / 2 % 2 == 1) ∧ (bits .and .i64 (h : Int) 4 != 0) = (h / 4 % 2 == 1) := by
  have : h = 128 ∨ h = 129 ∨ h = 130 ∨ h = 131 ∨ h = 132 ∨ h = 133 ∨ h = 134 ∨ h = 135 := by omega
  rcases this with rfl | rfl | rfl | rfl | rfl | rfl | rfl | rfl <;> exact ⟨by decide, by decide, by decide⟩

theorem Blk.six {w : World} {b : Nat} {x0 x1 x2 x3 x4 x5 : Value} {t : TypeId} (h : Blk w b #[x0, x1, x2, x3, x4, x5] t) :
    w.cell? ⟨b, 0, none⟩ = some x0 ∧ w.cell? ⟨b, 1, none⟩ = some x1 ∧ w.cell? ⟨b, 2, none⟩ = some x2 ∧ w.cell? ⟨b, 3, none⟩ = some x3 ∧ w.cell? ⟨b, 4, none⟩ = some x4 ∧ w.cell? ⟨b, 5, none⟩ = some x5 ∧
    w.frozen? ⟨b, 0, none⟩ = false ∧ w.frozen? ⟨b, 1, none⟩ = false ∧ w.frozen? ⟨b, 2, none⟩ = false ∧ w.frozen? ⟨b, 3, none⟩ = false ∧ w.frozen? ⟨b, 4, none⟩ = false ∧ w.frozen? ⟨b, 5, none⟩ = false :=
  ⟨h.cell rfl, h.cell rfl, h.cell rfl, h.cell rfl, h.cell rfl, h.cell rfl, h.free 0, h.free 1, h.free 2, h.free 3, h.free 4, h.free 5⟩

/-- the memory as Decode's reading begins -/
theorem dec_start (w : World) (z : Array Value) (t : TypeId) : ∀ W0, W0 = ((w.alloc (.cells z t)).alloc (.cells z t)).alloc (.cells #[.int .i64 0] 3) →
    Blk W0 w.heap.size z t ∧ Blk W0 (w.heap.size + 1) z t ∧ Blk W0 (w.heap.size + 1 + 1) #[.int .i64 0] 3 ∧ Below w.heap.size w W0 ∧ W0.heap.size = w.heap.size + 3 := by
  intro W0 h
  subst h
  refine ⟨((Blk.new w z t).alloc _).alloc _, ?_, ?_, by go_grown, by simp⟩
  · have := Blk.new (w.alloc (.cells z t)) z t
    rw [World.size_alloc] at this
    exact this.alloc _
  · have := Blk.new ((w.alloc (.cells z t)).alloc (.cells z t)) #[.int .i64 0] 3
    rw [World.size_alloc, World.size_alloc] at this
    exact this

set_option maxHeartbeats 2000000 in
theorem decode_no (l : List UInt8) (w : World) (hform : formB l = false) :
    Calls Tryz.prog 110 #[.string (ba l)] w fun e w' => e = .returned (.tuple #[Pk.zero.val, .int .i64 1]) ∧ Below w.heap.size w w' := by
  have hmf : ∀ (fn : Fn) (first cap : Array Value) (w : World), (Instr.makeFunc fn first cap).run Tryz.prog w = .ok (.func fn first cap) w := fun _ _ _ _ => rfl
  simp only [Pk.zero, Pk.val]
  have hlt7 := at8_lt l 7
  have HF : Hid (formB l = false) := hform
  clear hform
  go_enter Tryz.func110, Tryz.ntmps110
  go_wp2_with fail
  obtain ⟨W0, hW0⟩ : ∃ W0, W0 = ((w.alloc (.cells #[.int .i64 0, .int .i64 0, .bool false, .bool false, .bool false, .string ⟨#[]⟩] 89)).alloc (.cells #[.int .i64 0, .int .i64 0, .bool false, .bool false, .bool false, .string ⟨#[]⟩] 89)).alloc (.cells #[.int .i64 0] 3) := ⟨_, rfl⟩
  obtain ⟨bN0, bP0, bH0, hb0, hs0⟩ := dec_start w _ _ W0 hW0
  rw [← hW0]
  clear hW0
  by_cases hfew : l.length < 8 ∨ l.length < 8 + at8 l 7
  · refine (whole_few (w.heap.size + 1 + 1) (w.heap.size + 1) l _ _ _ _ _ _ _ W0 bH0 bP0 (by omega) ?_).mono ?_
    · rcases hfew with h | h
      · exact .inl h
      · exact .inr ⟨at8 l 7, num_at l 7, h⟩
    rintro e w1 ⟨rfl, k1⟩
    have bN1 := bN0.kept k1 (by simp; omega)
    obtain ⟨c0, c1, c2, c3, c4, c5, f0, f1, f2, f3, f4, f5⟩ := bN1.six
    have hb1 : Below w.heap.size w w1 := hb0.trans (k1.toBelow (by omega) (by intro k hk; simp at hk; omega))
    go_wp2
    exact bodyPost_ret (v := .tuple #[.agg #[.int .i64 0, .int .i64 0, .bool false, .bool false, .bool false, .string ByteArray.empty], .int .i64 1]) (by simp [results, Tryz.results110, go_sem, c0, c1, c2, c3, c4, c5]; rfl) rfl ⟨rfl, by go_grown⟩
  · have h8 : 8 ≤ l.length := by omega
    have hcl : 8 + at8 l 7 ≤ l.length := by omega
    obtain ⟨hd, hhd⟩ : ∃ hd, hd = at8 l 0 := ⟨_, rfl⟩
    have hno : ¬ (l.length = 8 + at8 l 7) ∨ hd < 128 ∨ 135 < hd := by
      have := HF.out
      rw [hhd]
      simp only [formB, Bool.and_eq_false_iff, decide_eq_false_iff_not] at this
      omega
    have hn0 : num (l.take 1) = (hd : Int) := by have := num_at l 0; rw [List.drop_zero] at this; rw [this, hhd]
    clear hhd hfew
    refine (whole_ok (w.heap.size + 1 + 1) (w.heap.size + 1) (at8 l 7) l _ _ _ _ _ _ _ W0 bH0 bP0 (by omega) h8 (num_at l 7) hcl (by omega)).mono ?_
    rintro e w1 ⟨rfl, bH1, _, k1⟩
    rw [hn0] at bH1
    have bN1 := bN0.kept k1 (by simp; omega)
    obtain ⟨c0, c1, c2, c3, c4, c5, f0, f1, f2, f3, f4, f5⟩ := bN1.six
    have cH := bH1.cell (j := 0) (u := .int .i64 hd) rfl
    have hb1 : Below w.heap.size w w1 := hb0.trans (k1.toBelow (by omega) (by intro k hk; simp at hk; omega))
    clear hn0 bN0 bP0 bH0 bH1 hb0 hs0 k1 bN1
    by_cases hA : l.length = 8 + at8 l 7
    · have hdA : ba (l.drop (8 + at8 l 7)) = ⟨#[]⟩ := by rw [List.drop_of_length_le (by omega)]; rfl
      rw [hdA]
      by_cases hB : hd < 128
      · clear hdA hA hno hcl
        have hB' : (hd : Int) < 128 := by omega
        go_wp2
        exact bodyPost_ret (v := .tuple #[.agg #[.int .i64 0, .int .i64 0, .bool false, .bool false, .bool false, .string ByteArray.empty], .int .i64 1]) (by simp [results, Tryz.results110, go_sem, c0, c1, c2, c3, c4, c5]; rfl) rfl ⟨rfl, by go_grown⟩
      · have hC : (135 : Int) < hd := by omega
        have hB' : ¬ (hd : Int) < 128 := by omega
        clear hdA hA hno hcl
        go_wp2
        exact bodyPost_ret (v := .tuple #[.agg #[.int .i64 0, .int .i64 0, .bool false, .bool false, .bool false, .string ByteArray.empty], .int .i64 1]) (by simp [results, Tryz.results110, go_sem, c0, c1, c2, c3, c4, c5]; rfl) rfl ⟨rfl, by go_grown⟩
    · obtain ⟨r, hr⟩ : ∃ r, r = l.drop (8 + at8 l 7) := ⟨_, rfl⟩
      have hr0 : (ba r).toList.isEmpty = false := by
        rw [ByteArray.toList_eq, ba_data]
        cases r with
        | nil => have := congrArg List.length hr; simp at this; omega
        | cons x t => rfl
      rw [← hr]
      clear hr hA hno hcl
      go_wp2
      exact bodyPost_ret (v := .tuple #[.agg #[.int .i64 0, .int .i64 0, .bool false, .bool false, .bool false, .string ByteArray.empty], .int .i64 1]) (by simp [results, Tryz.results110, go_sem, c0, c1, c2, c3, c4, c5]; rfl) rfl ⟨rfl, by go_grown⟩

set_option maxHeartbeats 2000000 in
theorem decode_form (l : List UInt8) (w : World) (hform : formB l = true) :
    Calls Tryz.prog 110 #[.string (ba l)] w fun e w' => e = .returned (.tuple #[(if (Pk.told l).chk == 0 then Pk.told l else Pk.zero).val, .int .i64 (Pk.told l).chk]) ∧ Below w.heap.size w w' := by
  have hmf : ∀ (fn : Fn) (first cap : Array Value) (w : World), (Instr.makeFunc fn first cap).run Tryz.prog w = .ok (.func fn first cap) w := fun _ _ _ _ => rfl
  have hlt7 := at8_lt l 7
  have hf4 : ((8 ≤ l.length ∧ l.length = 8 + at8 l 7) ∧ 128 ≤ at8 l 0) ∧ at8 l 0 ≤ 135 := by simpa [formB] using hform
  obtain ⟨⟨⟨h8, hl⟩, hh1⟩, hh2⟩ := hf4
  obtain ⟨q1, q2, q3⟩ := bit_facts (at8 l 0) hh1 hh2
  have htk : (l.drop 8).take (at8 l 7) = l.drop 8 := List.take_of_length_le (by simp; omega)
  obtain ⟨p, hp⟩ : ∃ p, p = Pk.told l := ⟨_, rfl⟩
  have hseq : num ((l.drop 1).take 2) = p.seq := by rw [hp]; rfl
  have htime : num ((l.drop 3).take 4) = p.time := by rw [hp]; rfl
  have ht : ba (l.drop 8) = p.t := by rw [hp]; rfl
  have hpf : (at8 l 0 % 2 == 1) = p.f := by rw [hp]; rfl
  have hpe : (at8 l 0 / 2 % 2 == 1) = p.e := by rw [hp]; rfl
  have hpk : (at8 l 0 / 4 % 2 == 1) = p.k := by rw [hp]; rfl
  rw [hpf] at q1
  rw [hpe] at q2
  rw [hpk] at q3
  have hn0 : num (l.take 1) = ((at8 l 0 : Nat) : Int) := by have := num_at l 0; rw [List.drop_zero] at this; exact this
  have hwk := fun (H P : Nat) (hv s0 t0 f0 e0 k0 x0 : Value) (w : World) (bH : Blk w H #[hv] 3) (bP : Blk w P #[s0, t0, f0, e0, k0, x0] 89) (hHP : H ≠ P) =>
    whole_ok H P (at8 l 7) l hv s0 t0 f0 e0 k0 x0 w bH bP hHP h8 (num_at l 7) (by omega) (by omega)
  have hdr : ba (l.drop (8 + at8 l 7)) = ⟨#[]⟩ := by rw [List.drop_of_length_le (by omega)]; rfl
  rw [hseq, htime, htk, ht, hn0, hdr] at hwk
  rw [← hp]
  obtain ⟨hd, hhd⟩ : ∃ hd : Nat, hd = at8 l 0 := ⟨_, rfl⟩
  rw [← hhd] at hwk q1 q2 q3 hh1 hh2
  have HW := @id (Hid _) hwk
  clear hwk hp hseq htime ht hpf hpe hpk hn0 htk hhd hl h8 hform hlt7 hdr
  have g1 : ¬ (hd : Int) < 128 := by omega
  have g2 : ¬ (135 : Int) < hd := by omega
  clear hh1 hh2
  obtain ⟨c, hc⟩ : ∃ c, c = p.chk := ⟨_, rfl⟩
  have HCK := @id (Hid (∀ w : World, Calls Tryz.prog 137 #[p.val] w fun e w' => e = .returned (.int .i64 c) ∧ w' = w.alloc (.cells p.cells 89))) (fun w => by rw [hc]; exact check_any p w)
  rw [← hc]
  clear hc
  obtain ⟨seq, time, f, e, k, t⟩ := p
  simp only [Pk.val, Pk.cells] at HCK HW q1 q2 q3
  cases hcz : (c == 0)
  · simp only [Bool.false_eq_true, if_false, Pk.zero]
    have hne : (c != 0) = true := by simp at hcz; simp [hcz]
    go_enter Tryz.func110, Tryz.ntmps110
    go_wp2_with fail
    obtain ⟨W0, hW0⟩ : ∃ W0, W0 = ((w.alloc (.cells #[.int .i64 0, .int .i64 0, .bool false, .bool false, .bool false, .string ⟨#[]⟩] 89)).alloc (.cells #[.int .i64 0, .int .i64 0, .bool false, .bool false, .bool false, .string ⟨#[]⟩] 89)).alloc (.cells #[.int .i64 0] 3) := ⟨_, rfl⟩
    obtain ⟨bN0, bP0, bH0, hb0, hs0⟩ := dec_start w _ _ W0 hW0
    rw [← hW0]
    clear hW0
    refine (HW.out (w.heap.size + 1 + 1) (w.heap.size + 1) _ _ _ _ _ _ _ W0 bH0 bP0 (by omega)).mono ?_
    rintro r w1 ⟨rfl, bH1, bP1, k1⟩
    have bN1 := bN0.kept k1 (by simp; omega)
    obtain ⟨d0, d1, d2, d3, d4, d5, _, _, g2', g3', g4', _⟩ := bP1.six
    have cH := bH1.cell (j := 0) (u := .int .i64 hd) rfl
    have hb1 : Below w.heap.size w w1 := hb0.trans (k1.toBelow (by omega) (by intro k hk; simp at hk; omega))
    clear bN0 bP0 bH0 bH1 hb0 hs0 k1 HW
    go_wp2_with fail
    obtain ⟨W2, hW2⟩ : ∃ W2, W2 = ((w1.setCell ⟨w.heap.size + 1, 2, none⟩ (.bool f)).setCell ⟨w.heap.size + 1, 3, none⟩ (.bool e)).setCell ⟨w.heap.size + 1, 4, none⟩ (.bool k) := ⟨_, rfl⟩
    have bN2 : Blk W2 w.heap.size #[.int .i64 0, .int .i64 0, .bool false, .bool false, .bool false, .string ⟨#[]⟩] 89 := by
      rw [hW2]
      exact ((bN1.other (a := ⟨w.heap.size + 1, 2, none⟩) (by show w.heap.size ≠ w.heap.size + 1; omega) _).other (a := ⟨w.heap.size + 1, 3, none⟩) (by show w.heap.size ≠ w.heap.size + 1; omega) _).other (a := ⟨w.heap.size + 1, 4, none⟩) (by show w.heap.size ≠ w.heap.size + 1; omega) _
    have bP2 : Blk W2 (w.heap.size + 1) #[.int .i64 seq, .int .i64 time, .bool f, .bool e, .bool k, .string t] 89 := by
      rw [hW2]
      exact ((bP1.set 2 (.bool f)).set 3 (.bool e)).set 4 (.bool k)
    have hb2 : Below w.heap.size w W2 := by
      rw [hW2]
      exact ((hb1.setCell (p := ⟨w.heap.size + 1, 2, none⟩) (by show w.heap.size ≤ w.heap.size + 1; omega) _).setCell (p := ⟨w.heap.size + 1, 3, none⟩) (by show w.heap.size ≤ w.heap.size + 1; omega) _).setCell (p := ⟨w.heap.size + 1, 4, none⟩) (by show w.heap.size ≤ w.heap.size + 1; omega) _
    rw [← hW2]
    clear hW2 d0 d1 d2 d3 d4 d5 g2' g3' g4' cH hb1 bN1 bP1
    refine (HCK.out W2).mono ?_
    rintro r w3 ⟨rfl, hw3⟩
    have bN3 := bN2.alloc (.cells #[.int .i64 seq, .int .i64 time, .bool f, .bool e, .bool k, .string t] 89)
    have bP3 := bP2.alloc (.cells #[.int .i64 seq, .int .i64 time, .bool f, .bool e, .bool k, .string t] 89)
    have hb3 := hb2.alloc hb2.size (.cells #[.int .i64 seq, .int .i64 time, .bool f, .bool e, .bool k, .string t] 89)
    rw [← hw3] at bN3 bP3 hb3
    clear hw3
    obtain ⟨c0, c1, c2, c3, c4, c5, f0, f1, f2, f3, f4, f5⟩ := bN3.six
    obtain ⟨d0, d1, d2, d3, d4, d5, _⟩ := bP3.six
    go_wp2
    exact bodyPost_ret (v := .tuple #[.agg #[.int .i64 0, .int .i64 0, .bool false, .bool false, .bool false, .string ByteArray.empty], .int .i64 c]) (by simp [results, Tryz.results110, go_sem, c0, c1, c2, c3, c4, c5]; rfl) rfl ⟨rfl, by go_grown⟩
  · have hc0 : c = 0 := by simpa using hcz
    subst hc0
    simp only [if_true]
    clear hcz
    go_enter Tryz.func110, Tryz.ntmps110
    go_wp2_with fail
    obtain ⟨W0, hW0⟩ : ∃ W0, W0 = ((w.alloc (.cells #[.int .i64 0, .int .i64 0, .bool false, .bool false, .bool false, .string ⟨#[]⟩] 89)).alloc (.cells #[.int .i64 0, .int .i64 0, .bool false, .bool false, .bool false, .string ⟨#[]⟩] 89)).alloc (.cells #[.int .i64 0] 3) := ⟨_, rfl⟩
    obtain ⟨bN0, bP0, bH0, hb0, hs0⟩ := dec_start w _ _ W0 hW0
    rw [← hW0]
    clear hW0
    refine (HW.out (w.heap.size + 1 + 1) (w.heap.size + 1) _ _ _ _ _ _ _ W0 bH0 bP0 (by omega)).mono ?_
    rintro r w1 ⟨rfl, bH1, bP1, k1⟩
    have bN1 := bN0.kept k1 (by simp; omega)
    obtain ⟨d0, d1, d2, d3, d4, d5, _, _, g2', g3', g4', _⟩ := bP1.six
    have cH := bH1.cell (j := 0) (u := .int .i64 hd) rfl
    have hb1 : Below w.heap.size w w1 := hb0.trans (k1.toBelow (by omega) (by intro k hk; simp at hk; omega))
    clear bN0 bP0 bH0 bH1 hb0 hs0 k1 HW
    go_wp2_with fail
    obtain ⟨W2, hW2⟩ : ∃ W2, W2 = ((w1.setCell ⟨w.heap.size + 1, 2, none⟩ (.bool f)).setCell ⟨w.heap.size + 1, 3, none⟩ (.bool e)).setCell ⟨w.heap.size + 1, 4, none⟩ (.bool k) := ⟨_, rfl⟩
    have bN2 : Blk W2 w.heap.size #[.int .i64 0, .int .i64 0, .bool false, .bool false, .bool false, .string ⟨#[]⟩] 89 := by
      rw [hW2]
      exact ((bN1.other (a := ⟨w.heap.size + 1, 2, none⟩) (by show w.heap.size ≠ w.heap.size + 1; omega) _).other (a := ⟨w.heap.size + 1, 3, none⟩) (by show w.heap.size ≠ w.heap.size + 1; omega) _).other (a := ⟨w.heap.size + 1, 4, none⟩) (by show w.heap.size ≠ w.heap.size + 1; omega) _
    have bP2 : Blk W2 (w.heap.size + 1) #[.int .i64 seq, .int .i64 time, .bool f, .bool e, .bool k, .string t] 89 := by
      rw [hW2]
      exact ((bP1.set 2 (.bool f)).set 3 (.bool e)).set 4 (.bool k)
    have hb2 : Below w.heap.size w W2 := by
      rw [hW2]
      exact ((hb1.setCell (p := ⟨w.heap.size + 1, 2, none⟩) (by show w.heap.size ≤ w.heap.size + 1; omega) _).setCell (p := ⟨w.heap.size + 1, 3, none⟩) (by show w.heap.size ≤ w.heap.size + 1; omega) _).setCell (p := ⟨w.heap.size + 1, 4, none⟩) (by show w.heap.size ≤ w.heap.size + 1; omega) _
    rw [← hW2]
    clear hW2 d0 d1 d2 d3 d4 d5 g2' g3' g4' cH hb1 bN1 bP1
    refine (HCK.out W2).mono ?_
    rintro r w3 ⟨rfl, hw3⟩
    have bN3 := bN2.alloc (.cells #[.int .i64 seq, .int .i64 time, .bool f, .bool e, .bool k, .string t] 89)
    have bP3 := bP2.alloc (.cells #[.int .i64 seq, .int .i64 time, .bool f, .bool e, .bool k, .string t] 89)
    have hb3 := hb2.alloc hb2.size (.cells #[.int .i64 seq, .int .i64 time, .bool f, .bool e, .bool k, .string t] 89)
    rw [← hw3] at bN3 bP3 hb3
    clear hw3
    obtain ⟨c0, c1, c2, c3, c4, c5, f0, f1, f2, f3, f4, f5⟩ := bN3.six
    obtain ⟨d0, d1, d2, d3, d4, d5, _⟩ := bP3.six
    go_wp2
    exact bodyPost_ret (v := .tuple #[.agg #[.int .i64 seq, .int .i64 time, .bool f, .bool e, .bool k, .string t], .int .i64 0]) (by simp [results, Tryz.results110, go_sem, c0, c1, c2, c3, c4, c5]) rfl ⟨rfl, by go_grown⟩

theorem decode_any (l : List UInt8) (w : World) :
    Calls Tryz.prog 110 #[.string (ba l)] w fun e w' => e = .returned (.tuple #[(Pk.dec l).1.val, .int .i64 (Pk.dec l).2]) ∧ Below w.heap.size w w' := by
  unfold Pk.dec
  cases hform : formB l
  · exact decode_no l w hform
  · have h := decode_form l w hform
    cases hc : ((Pk.told l).chk == 0)
    · rw [hc] at h
      simpa using h
    · rw [hc] at h
      have : (Pk.told l).chk = 0 := by simpa using hc
      rw [this] at h
      simpa using h

end Go.Proofs.YtnpaejknoipicafGreat

namespace Go.Proofs.YtnpaejknoipicafGreat
open Go.RowKit

theorem u8_ext {a b : UInt8} (h : (a.toNat : Int) = (b.toNat : Int)) : a = b := by
  apply UInt8.toNat_inj.1; omega

theorem be1 (n : Int) : be n 1 = [byteU n 0] := rfl
theorem be2 (n : Int) : be n 2 = [byteU n 1, byteU n 0] := rfl
theorem be4 (n : Int) : be n 4 = [byteU n 3, byteU n 2, byteU n 1, byteU n 0] := rfl
theorem b0 (n : Int) : ((byteU n 0).toNat : Int) = n % 256 := by rw [byteU_toNat]; simp
theorem b1 (n : Int) : ((byteU n 1).toNat : Int) = n / 256 % 256 := by rw [byteU_toNat]; rfl
theorem b2 (n : Int) : ((byteU n 2).toNat : Int) = n / 65536 % 256 := by rw [byteU_toNat]; rfl
theorem b3 (n : Int) : ((byteU n 3).toNat : Int) = n / 16777216 % 256 := by rw [byteU_toNat]; rfl
theorem num2 (a b : UInt8) : num [a, b] = a.toNat * 256 + b.toNat := by simp [num]
theorem num4 (a b c d : UInt8) : num [a, b, c, d] = ((a.toNat * 256 + b.toNat) * 256 + c.toNat) * 256 + d.toNat := by simp [num]

theorem num_be2 (n : Int) (h0 : 0 ≤ n) (h1 : n ≤ 65535) : num [byteU n 1, byteU n 0] = n := by
  rw [num2, b0, b1]; omega
theorem num_be4 (n : Int) (h0 : 0 ≤ n) (h1 : n ≤ 4294967295) : num [byteU n 3, byteU n 2, byteU n 1, byteU n 0] = n := by
  rw [num4, b0, b1, b2, b3]; omega
theorem be_num2 (a b : UInt8) : byteU (num [a, b]) 1 = a ∧ byteU (num [a, b]) 0 = b := by
  have ha := a.toNat_lt
  have hb := b.toNat_lt
  refine ⟨u8_ext ?_, u8_ext ?_⟩
  · rw [b1, num2]; omega
  · rw [b0, num2]; omega
theorem be_num4 (a b c d : UInt8) : byteU (num [a, b, c, d]) 3 = a ∧ byteU (num [a, b, c, d]) 2 = b ∧ byteU (num [a, b, c, d]) 1 = c ∧ byteU (num [a, b, c, d]) 0 = d := by
  have ha := a.toNat_lt
  have hb := b.toNat_lt
  have hc := c.toNat_lt
  have hd := d.toNat_lt
  refine ⟨u8_ext ?_, u8_ext ?_, u8_ext ?_, u8_ext ?_⟩
  · rw [b3, num4]; omega
  · rw [b2, num4]; omega
  · rw [b1, num4]; omega
  · rw [b0, num4]; omega

/-- the bytes of a packet, one by one -/
theorem Pk.enc_eq (p : Pk) : p.enc = byteU (128 + Pk.flags p.f p.e p.k) 0 :: byteU p.seq 1 :: byteU p.seq 0 :: byteU p.time 3 :: byteU p.time 2 :: byteU p.time 1 :: byteU p.time 0 :: byteU p.t.size 0 :: p.t.data.toList := by
  simp [Pk.enc, be1, be2, be4]

theorem form_eq (a0 a1 a2 a3 a4 a5 a6 a7 : UInt8) (r : List UInt8) : formB (a0 :: a1 :: a2 :: a3 :: a4 :: a5 :: a6 :: a7 :: r) = (decide (r.length = a7.toNat) && decide (128 ≤ a0.toNat) && decide (a0.toNat ≤ 135)) := by
  have e1 : (8 ≤ (a0 :: a1 :: a2 :: a3 :: a4 :: a5 :: a6 :: a7 :: r).length) = True := by simp
  have e2 : ((a0 :: a1 :: a2 :: a3 :: a4 :: a5 :: a6 :: a7 :: r).length = 8 + a7.toNat) = (r.length = a7.toNat) := by simp; omega
  simp only [formB, at8]
  show (decide (8 ≤ (a0 :: a1 :: a2 :: a3 :: a4 :: a5 :: a6 :: a7 :: r).length) && decide ((a0 :: a1 :: a2 :: a3 :: a4 :: a5 :: a6 :: a7 :: r).length = 8 + a7.toNat) && decide (128 ≤ a0.toNat) && decide (a0.toNat ≤ 135)) = _
  simp only [e1, e2, decide_true, Bool.true_and]
theorem told_eq (a0 a1 a2 a3 a4 a5 a6 a7 : UInt8) (r : List UInt8) : Pk.told (a0 :: a1 :: a2 :: a3 :: a4 :: a5 :: a6 :: a7 :: r) = ⟨num [a1, a2], num [a3, a4, a5, a6], a0.toNat % 2 == 1, a0.toNat / 2 % 2 == 1, a0.toNat / 4 % 2 == 1, ba r⟩ := rfl

theorem flags_bits (f e k : Bool) : ((byteU (128 + Pk.flags f e k) 0).toNat % 2 == 1) = f ∧ ((byteU (128 + Pk.flags f e k) 0).toNat / 2 % 2 == 1) = e ∧ ((byteU (128 + Pk.flags f e k) 0).toNat / 4 % 2 == 1) = k ∧ 128 ≤ (byteU (128 + Pk.flags f e k) 0).toNat ∧ (byteU (128 + Pk.flags f e k) 0).toNat ≤ 135 := by
  cases f <;> cases e <;> cases k <;> decide
theorem bits_flags (a : UInt8) (h1 : 128 ≤ a.toNat) (h2 : a.toNat ≤ 135) : byteU (128 + Pk.flags (a.toNat % 2 == 1) (a.toNat / 2 % 2 == 1) (a.toNat / 4 % 2 == 1)) 0 = a := by
  apply u8_ext
  rw [b0]
  have : a.toNat = 128 ∨ a.toNat = 129 ∨ a.toNat = 130 ∨ a.toNat = 131 ∨ a.toNat = 132 ∨ a.toNat = 133 ∨ a.toNat = 134 ∨ a.toNat = 135 := by omega
  rcases this with h | h | h | h | h | h | h | h <;> rw [h] <;> decide

theorem Pk.dec_enc (p : Pk) (h : p.chk = 0) : Pk.dec p.enc = (p, 0) := by
  obtain ⟨h1, h2, h3, h4, h5, h6⟩ := Pk.chk_ok h
  obtain ⟨g1, g2, g3, g4, g5⟩ := flags_bits p.f p.e p.k
  have hs : (byteU p.t.size 0).toNat = p.t.size := by have := b0 p.t.size; omega
  have hf : formB p.enc = true := by
    rw [Pk.enc_eq, form_eq, hs]
    simp [g4, g5]
  have ht : Pk.told p.enc = p := by
    rw [Pk.enc_eq, told_eq, g1, g2, g3, num_be2 _ h1 h2, num_be4 _ h3 (by omega), ba_of]
  rw [Pk.dec, hf, ht, h]
  rfl

theorem Pk.enc_dec (l : List UInt8) (hf : formB l = true) : (Pk.told l).enc = l := by
  match l, hf with
  | [], hf => exact absurd hf (by decide)
  | [_], hf => simp [formB] at hf
  | [_, _], hf => simp [formB] at hf
  | [_, _, _], hf => simp [formB] at hf
  | [_, _, _, _], hf => simp [formB] at hf
  | [_, _, _, _, _], hf => simp [formB] at hf
  | [_, _, _, _, _, _], hf => simp [formB] at hf
  | [_, _, _, _, _, _, _], hf => simp [formB] at hf
  | a0 :: a1 :: a2 :: a3 :: a4 :: a5 :: a6 :: a7 :: r, hf =>
    rw [form_eq] at hf
    have hh : (r.length = a7.toNat ∧ 128 ≤ a0.toNat) ∧ a0.toNat ≤ 135 := by simpa using hf
    rw [told_eq, Pk.enc_eq]
    simp only
    rw [bits_flags a0 hh.1.2 hh.2, (be_num2 a1 a2).1, (be_num2 a1 a2).2, (be_num4 a3 a4 a5 a6).1, (be_num4 a3 a4 a5 a6).2.1, (be_num4 a3 a4 a5 a6).2.2.1, (be_num4 a3 a4 a5 a6).2.2.2, ba_data, ba_size, hh.1.1]
    have : byteU (a7.toNat : Int) 0 = a7 := u8_ext (by rw [b0]; have := a7.toNat_lt; omega)
    rw [this]

/-- what is decoded: nothing, beside an error; else what is encoded so -/
theorem Pk.dec_or (l : List UInt8) : ((Pk.dec l).1 = Pk.zero ∧ ((Pk.dec l).2 == 0) = false) ∨ ((Pk.dec l).2 = 0 ∧ (Pk.dec l).1.chk = 0 ∧ (Pk.dec l).1.enc = l) := by
  unfold Pk.dec
  cases hf : formB l
  · exact .inl ⟨rfl, rfl⟩
  · cases hc : ((Pk.told l).chk == 0)
    · exact .inl ⟨by simp, by simpa using hc⟩
    · exact .inr ⟨by simp, by simpa using hc, by simpa using Pk.enc_dec l hf⟩

end Go.Proofs.YtnpaejknoipicafGreat

namespace Go.Proofs.YtnpaejknoipicafGreat

/-- what a builder makes of a slot more -/
def addF (l : List Sk) (x : Sk) : Fr := ⟨addT l x, addK l x, addP l x⟩

theorem takeF_chk {l : List Sk} {x : Sk} (hl : ∀ y ∈ l, y.chk = 0) (hx : x.chk = 0) : ∀ y ∈ takeF l x, y.chk = 0 := fun y hy => by
  rcases takeF_mem hy with h | h
  · exact hl y h
  · rw [h]; exact hx
theorem ochk_len {l : List Sk} (h : ochk l = 0) : l.length ≤ 3 ∧ ogo none l = 0 ∧ ∀ y ∈ l, y.chk = 0 := by
  unfold ochk at h
  by_cases h4 : 4 ≤ l.length
  · rw [if_pos h4] at h; cases h
  · rw [if_neg h4] at h
    exact ⟨by omega, h, ogo_all l none h⟩
theorem ochk_nil : ochk [] = 0 := rfl
/-- a builder stays right -/
theorem ochk_add {l : List Sk} {x : Sk} (h : ochk l = 0) (hx : x.chk = 0) : ochk (addO l x) = 0 := by
  obtain ⟨h1, h2, h3⟩ := ochk_len h
  unfold addO
  cases hw : addW l x
  · rw [if_neg (by simp)]
    by_cases h4 : (takeF l x).length = 4
    · rw [if_pos h4]; rfl
    · rw [if_neg h4]
      unfold addW at hw
      unfold takeF at h4 hw ⊢
      by_cases hf : x.p.f = true
      · rw [if_pos hf] at hw ⊢
        have he : x.p.e = false := by simpa using hw
        unfold ochk
        rw [if_neg (by simp)]
        simp [ogo, hx, badO, hf, he]
      · rw [if_neg hf] at h4 hw ⊢
        have hff : x.p.f = false := by simpa using hf
        by_cases hc : 0 < l.length ∧ folB (lastSk l) x = true
        · rw [if_pos hc] at h4 hw ⊢
          have he : x.p.e = false := by simpa using hw
          rw [List.length_append, List.length_singleton] at h4
          unfold ochk
          rw [if_neg (by rw [List.length_append, List.length_singleton]; omega), ogo_split _ _ _ _ h2]
          have hlast : l.foldl (fun _ y => some y) none = some (lastSk l) := by
            have := olast_at l none l.length (Nat.le_refl _)
            rw [List.take_length, if_neg (by omega)] at this
            exact this
          rw [hlast]
          simp [ogo, hx, badO, he, nextB, hff, hc.2]
        · rw [if_neg hc]; rfl
  · rw [if_pos rfl]; rfl
/-- and what it makes is right -/
theorem addF_right {l : List Sk} {x : Sk} (h : ochk l = 0) (hx : x.chk = 0) (hw : addW l x = true) : (addF l x).chk = 0 := by
  obtain ⟨h1, _, h3⟩ := ochk_len h
  have ht := takeF_chk h3 hx
  have hlen := takeF_len l x
  have hw0 := hw
  unfold addW at hw0
  simp only [Bool.and_eq_true, decide_eq_true_eq] at hw0
  unfold addF Fr.chk chkF
  simp only
  unfold addT addP
  rw [if_pos hw, if_pos hw]
  have h0 : (takeF l x)[0]?.getD Sk.zero ∈ takeF l x := by
    rw [List.getElem?_eq_getElem hw0.1, Option.getD_some]; exact List.getElem_mem _
  obtain ⟨_, _, c3, c4, _⟩ := Pk.chk_ok (Sk.chk_zero (ht _ h0)).2.2.1
  have hp : (texts (takeF l x)).length = (takeF l x).length := by unfold texts; rw [List.length_map]
  rw [if_neg (by omega), if_neg (by omega), if_neg (by omega), if_neg]
  intro hany
  obtain ⟨s, hs, hl⟩ := List.any_eq_true.1 hany
  unfold texts at hs
  obtain ⟨y, hy, e⟩ := List.mem_map.1 hs
  have := Sk.chk_short (ht y hy)
  rw [e] at this
  unfold longB at hl
  have := of_decide_eq_true hl
  omega

structure Tr where
  last : Int
  next : Int
  h : List Sk
  o : List Sk
  first : Int
  L : List (List Fr)
  O : List Fr
def Tr.zero : Tr := ⟨0, 0, [], [], 0, [], []⟩
/-- what Check says of a track -/
def Tr.chk (t : Tr) : Int :=
  if ¬ t.last = 0 ∧ Cn.isNB t.last = false then 3 else
    if bchk t.next t.h = 0 then
      (if ochk t.o = 0 then (if stchk t.first t.L t.O = 0 then (if (t.last == 0) = (t.next == 0) then 0 else 4) else stchk t.first t.L t.O) else ochk t.o)
    else bchk t.next t.h
theorem Tr.chk_zero {t : Tr} : t.chk = 0 ↔ (t.last = 0 ∨ Cn.isNB t.last = true) ∧ Right t.next t.h ∧ ochk t.o = 0 ∧ stchk t.first t.L t.O = 0 ∧ (t.last = 0 ↔ t.next = 0) := by
  unfold Tr.chk
  rw [← bchk_right]
  have hbe : ((t.last == 0) = (t.next == 0)) ↔ (t.last = 0 ↔ t.next = 0) := by
    by_cases h1 : t.last = 0 <;> by_cases h2 : t.next = 0
    · simp [h1, h2]
    · simp [h1, h2]
    · simp [h1, h2]
    · have e1 : (t.last == 0) = false := by simpa using h1
      have e2 : (t.next == 0) = false := by simpa using h2
      rw [e1, e2]; simp [h1, h2]
  by_cases h1 : ¬ t.last = 0 ∧ Cn.isNB t.last = false
  · rw [if_pos h1]
    refine ⟨fun h => (by cases h), fun h => ?_⟩
    rcases h.1 with h | h
    · exact absurd h h1.1
    · rw [h] at h1; cases h1.2
  rw [if_neg h1]
  have h1' : t.last = 0 ∨ Cn.isNB t.last = true := by
    by_cases h : t.last = 0
    · exact .inl h
    · right
      cases hb : Cn.isNB t.last
      · exact absurd ⟨h, hb⟩ h1
      · rfl
  by_cases h2 : bchk t.next t.h = 0
  · rw [if_pos h2]
    by_cases h3 : ochk t.o = 0
    · rw [if_pos h3]
      by_cases h4 : stchk t.first t.L t.O = 0
      · rw [if_pos h4]
        by_cases h5 : (t.last == 0) = (t.next == 0)
        · rw [if_pos h5]; exact ⟨fun _ => ⟨h1', h2, h3, h4, hbe.1 h5⟩, fun _ => rfl⟩
        · rw [if_neg h5]; exact ⟨fun h => (by cases h), fun h => absurd (hbe.2 h.2.2.2.2) h5⟩
      · rw [if_neg h4]; exact ⟨fun h => absurd h h4, fun h => absurd h.2.2.2.1 h4⟩
    · rw [if_neg h3]; exact ⟨fun h => absurd h h3, fun h => absurd h.2.2.1 h3⟩
  · rw [if_neg h2]; exact ⟨fun h => absurd h h2, fun h => absurd h.2.1 h2⟩

/-- a track with other numbers, and another buffer -/
def Tr.buf (t : Tr) (l n : Int) (h : List Sk) : Tr := ⟨l, n, h, t.o, t.first, t.L, t.O⟩
/-- one slot taken: the track behind it, how many groups were closed, the error -/
def tk1 (t : Tr) (x : Sk) : Tr × Nat × Int :=
  if addW t.o x then (⟨t.last, t.next, t.h, addO t.o x, addsF t.first t.L t.O (addF t.o x), addsL t.first t.L t.O (addF t.o x), addsO t.first t.L t.O (addF t.o x)⟩, if addsB t.first t.L t.O (addF t.o x) then 1 else 0, addsE t.first t.L t.O (addF t.o x))
  else (⟨t.last, t.next, t.h, addO t.o x, t.first, t.L, t.O⟩, 0, 0)
/-- all of them -/
def tkN : List Sk → Tr × Nat → Tr × Nat × Int
  | [], s => (s.1, s.2, 0)
  | x :: r, s => if (tk1 s.1 x).2.2 = 0 then tkN r ((tk1 s.1 x).1, s.2 + (tk1 s.1 x).2.1) else (Tr.zero, 0, (tk1 s.1 x).2.2)
/-- the number of a packet -/
def numE (last : Int) (p : Pk) : Int := if last = 0 then 0 else Cn.uwE last p.seq
def numN (last : Int) (p : Pk) : Int := if last = 0 then p.seq + 65536 else Cn.uwN last p.seq
/-- a packet fed, its number known -/
def feedP (t : Tr) (n : Int) (p : Pk) : Tr × Nat × Int := tkN (putF t.next t.h ⟨n, p⟩).2.2 (t.buf (max t.last n) (putF t.next t.h ⟨n, p⟩).1 (putF t.next t.h ⟨n, p⟩).2.1, 0)
def feedR (t : Tr) (s : List UInt8) : Tr × Nat × Int :=
  if (Pk.dec s).2 = 0 then (if numE t.last (Pk.dec s).1 = 0 then feedP t (numN t.last (Pk.dec s).1) (Pk.dec s).1 else (Tr.zero, 0, numE t.last (Pk.dec s).1)) else (Tr.zero, 0, (Pk.dec s).2)
def drainR (t : Tr) : Tr × Nat × Int := tkN (relF 0 t.next t.h []).2.2 (t.buf t.last (relF 0 t.next t.h []).1 (relF 0 t.next t.h []).2.1, 0)
def feedA (t : Tr) (s : List UInt8) : Tr × Nat × Int := if t.chk = 0 then feedR t s else (Tr.zero, 0, t.chk)
def drainA (t : Tr) : Tr × Nat × Int := if t.chk = 0 then drainR t else (Tr.zero, 0, t.chk)

theorem tk1_buf (t : Tr) (l n : Int) (h : List Sk) (x : Sk) : tk1 (t.buf l n h) x = ((tk1 t x).1.buf l n h, (tk1 t x).2) := by
  unfold tk1 Tr.buf
  simp only
  cases addW t.o x <;> rfl
theorem tk1_keep (t : Tr) (x : Sk) : (tk1 t x).1.last = t.last ∧ (tk1 t x).1.next = t.next ∧ (tk1 t x).1.h = t.h := by
  unfold tk1
  cases addW t.o x <;> exact ⟨rfl, rfl, rfl⟩
/-- builder and store are right -/
def TkOk (t : Tr) : Prop := ochk t.o = 0 ∧ stchk t.first t.L t.O = 0
theorem tk1_ok {t : Tr} {x : Sk} (h : TkOk t) (hx : x.chk = 0) : ((tk1 t x).2.2 = 0 ∧ TkOk (tk1 t x).1) ∨ (tk1 t x).2.2 = 2 := by
  obtain ⟨h1, h2⟩ := h
  have ho := ochk_add h1 hx
  unfold tk1
  cases hw : addW t.o x
  · left; exact ⟨rfl, ho, h2⟩
  · have hf := addF_right h1 hx hw
    simp only [if_true]
    by_cases hE : addsE t.first t.L t.O (addF t.o x) = 0
    · left
      exact ⟨hE, ho, adds_right hE⟩
    · right
      unfold addsE at hE ⊢
      rw [if_pos h2, if_pos hf] at hE ⊢
      split
      · rfl
      · rename_i h; rw [if_neg h] at hE; exact absurd rfl hE
theorem tkN_ok : ∀ (l : List Sk) (s : Tr × Nat), TkOk s.1 → (∀ x ∈ l, x.chk = 0) → ((tkN l s).2.2 = 0 ∧ TkOk (tkN l s).1 ∧ (tkN l s).1.last = s.1.last ∧ (tkN l s).1.next = s.1.next ∧ (tkN l s).1.h = s.1.h) ∨ ((tkN l s).2.2 = 2 ∧ (tkN l s).1 = Tr.zero ∧ (tkN l s).2.1 = 0)
  | [], s, h, _ => .inl ⟨rfl, h, rfl, rfl, rfl⟩
  | x :: r, s, h, hl => by
    simp only [tkN]
    rcases tk1_ok h (hl x List.mem_cons_self) with ⟨e, h'⟩ | e
    · rw [if_pos e]
      have hk := tk1_keep s.1 x
      rcases tkN_ok r ((tk1 s.1 x).1, s.2 + (tk1 s.1 x).2.1) h' (fun y hy => hl y (List.mem_cons_of_mem _ hy)) with h3 | h3
      · left
        obtain ⟨a1, a2, a3, a4, a5⟩ := h3
        exact ⟨a1, a2, by rw [a3]; exact hk.1, by rw [a4]; exact hk.2.1, by rw [a5]; exact hk.2.2⟩
      · exact .inr h3
    · rw [if_neg (by omega)]
      exact .inr ⟨e, rfl, rfl⟩
theorem tkN_bad : ∀ (l : List Sk) (s : Tr × Nat), ¬ (tkN l s).2.2 = 0 → (tkN l s).1 = Tr.zero ∧ (tkN l s).2.1 = 0
  | [], _, h => absurd rfl h
  | x :: r, s, h => by
    simp only [tkN] at h ⊢
    by_cases e : (tk1 s.1 x).2.2 = 0
    · rw [if_pos e] at h ⊢
      exact tkN_bad r _ h
    · rw [if_neg e]; exact ⟨rfl, rfl⟩
theorem feedA_bad {t : Tr} {s : List UInt8} (h : ¬ (feedA t s).2.2 = 0) : (feedA t s).1 = Tr.zero ∧ (feedA t s).2.1 = 0 := by
  unfold feedA at h ⊢
  by_cases h1 : t.chk = 0
  · rw [if_pos h1] at h ⊢
    unfold feedR at h ⊢
    by_cases h2 : (Pk.dec s).2 = 0
    · rw [if_pos h2] at h ⊢
      by_cases h3 : numE t.last (Pk.dec s).1 = 0
      · rw [if_pos h3] at h ⊢; exact tkN_bad _ _ h
      · rw [if_neg h3]; exact ⟨rfl, rfl⟩
    · rw [if_neg h2]; exact ⟨rfl, rfl⟩
  · rw [if_neg h1]; exact ⟨rfl, rfl⟩
theorem drainA_bad {t : Tr} (h : ¬ (drainA t).2.2 = 0) : (drainA t).1 = Tr.zero ∧ (drainA t).2.1 = 0 := by
  unfold drainA at h ⊢
  by_cases h1 : t.chk = 0
  · rw [if_pos h1] at h ⊢; exact tkN_bad _ _ h
  · rw [if_neg h1]; exact ⟨rfl, rfl⟩

/-- a packet's number -/
theorem num_ok {last : Int} {p : Pk} (hp : p.chk = 0) (hl : last = 0 ∨ Cn.isNB last = true) (h : numE last p = 0) : Cn.isNB (numN last p) = true ∧ numN last p % 65536 = p.seq ∧ numE (max last (numN last p)) p = 0 ∧ numN (max last (numN last p)) p = numN last p ∧ Cn.isNB (max last (numN last p)) = true := by
  obtain ⟨p1, p2, _⟩ := Pk.chk_ok hp
  obtain ⟨n, hn⟩ : ∃ n, n = numN last p := ⟨_, rfl⟩
  have key : Cn.isNB n = true ∧ n % 65536 = p.seq ∧ (last = 0 ∨ (last - 32767 ≤ n ∧ n ≤ last + 32768)) := by
    unfold numE at h
    unfold numN at hn
    by_cases h0 : last = 0
    · rw [if_pos h0] at hn
      subst hn
      exact ⟨Cn.isNB_true (by omega) (by omega), by omega, .inl h0⟩
    · rw [if_neg h0] at h hn
      cases ho : Cn.okB last p.seq
      · rw [(Cn.uw_no ho).1] at h; cases h
      · rw [(Cn.uw_ok ho).2] at hn
        obtain ⟨_, _, _, b1, b2⟩ := Cn.okB_iff.1 ho
        obtain ⟨r1, r2, r3⟩ := Cn.raw_near last p.seq p1 p2
        subst hn
        exact ⟨Cn.isNB_true b1 b2, r1, .inr ⟨r2, r3⟩⟩
  obtain ⟨k1, k2, k3⟩ := key
  rw [← hn]
  obtain ⟨n1, n2⟩ := Cn.isNB_iff.1 k1
  obtain ⟨m, hm⟩ : ∃ m, m = max last n := ⟨_, rfl⟩
  rw [← hm]
  have hlb : last = 0 ∨ 65536 ≤ last ∧ last ≤ 1000000000 := hl.imp id Cn.isNB_iff.1
  have hm1 : 65536 ≤ m ∧ m ≤ 1000000000 ∧ m - 32767 ≤ n ∧ n ≤ m + 32768 := by omega
  have hm0 : ¬ m = 0 := by omega
  have hraw := Cn.raw_uniq m p.seq n k2 hm1.2.2.1 hm1.2.2.2
  have hok : Cn.okB m p.seq = true := Cn.okB_iff.2 ⟨⟨hm1.1, hm1.2.1⟩, p1, p2, by omega, by omega⟩
  refine ⟨k1, k2, ?_, ?_, Cn.isNB_true hm1.1 hm1.2.1⟩
  · unfold numE; rw [if_neg hm0]; exact (Cn.uw_ok hok).1
  · unfold numN; rw [if_neg hm0, (Cn.uw_ok hok).2]; exact hraw
theorem num_slot {last : Int} {p : Pk} (hp : p.chk = 0) (hl : last = 0 ∨ Cn.isNB last = true) (h : numE last p = 0) : (Sk.mk (numN last p) p).chk = 0 := by
  obtain ⟨h1, h2, _⟩ := num_ok hp hl h
  exact Sk.chk_ok h1 hp h2

/-- what Feed leaves is right, and what comes again leaves no trace -/
theorem feed_right {t : Tr} {s : List UInt8} (h : (feedA t s).2.2 = 0) : (feedA t s).1.chk = 0 ∧ feedA (feedA t s).1 s = ((feedA t s).1, 0, 0) ∧ t.chk = 0 := by
  have hc : t.chk = 0 := by
    by_cases h1 : t.chk = 0
    · exact h1
    · unfold feedA at h; rw [if_neg h1] at h; exact h
  obtain ⟨c1, c2, c3, c4, c5⟩ := Tr.chk_zero.1 hc
  have e0 : feedA t s = feedR t s := by unfold feedA; rw [if_pos hc]
  have hd : (Pk.dec s).2 = 0 := by
    by_cases h1 : (Pk.dec s).2 = 0
    · exact h1
    · rw [e0] at h; unfold feedR at h; rw [if_neg h1] at h; exact absurd h h1
  have hp : (Pk.dec s).1.chk = 0 := by
    rcases Pk.dec_or s with ⟨_, h2⟩ | ⟨_, h2, _⟩
    · rw [hd] at h2; cases h2
    · exact h2
  have hn : numE t.last (Pk.dec s).1 = 0 := by
    by_cases h1 : numE t.last (Pk.dec s).1 = 0
    · exact h1
    · rw [e0] at h; unfold feedR at h; rw [if_pos hd, if_neg h1] at h; exact absurd h h1
  have e1 : feedA t s = feedP t (numN t.last (Pk.dec s).1) (Pk.dec s).1 := by rw [e0]; unfold feedR; rw [if_pos hd, if_pos hn]
  obtain ⟨n1, n2, n3, n4, n5⟩ := num_ok hp c1 hn
  have hx := num_slot hp c1 hn
  obtain ⟨i1, i2, i3, i4, i5, i6, i7⟩ := put_inv c2 hx
  rw [e1] at h ⊢
  have hall : ∀ y ∈ (putF t.next t.h ⟨numN t.last (Pk.dec s).1, (Pk.dec s).1⟩).2.2, y.chk = 0 := fun y hy => by
    rcases (i3 y hy).1 with e | e
    · rw [e]; exact hx
    · exact c2.2.2.1 y e
  obtain ⟨B, hB⟩ : ∃ B, B = t.buf (max t.last (numN t.last (Pk.dec s).1)) (putF t.next t.h ⟨numN t.last (Pk.dec s).1, (Pk.dec s).1⟩).1 (putF t.next t.h ⟨numN t.last (Pk.dec s).1, (Pk.dec s).1⟩).2.1 := ⟨_, rfl⟩
  have hBok : TkOk B := by rw [hB]; exact ⟨c3, c4⟩
  have hF : feedP t (numN t.last (Pk.dec s).1) (Pk.dec s).1 = tkN (putF t.next t.h ⟨numN t.last (Pk.dec s).1, (Pk.dec s).1⟩).2.2 (B, 0) := by rw [hB]; rfl
  rcases tkN_ok _ (B, 0) hBok hall with ⟨_, r2, r3, r4, r5⟩ | ⟨r1, _⟩
  · rw [← hF] at r2 r3 r4 r5
    rw [hB] at r3 r4 r5
    obtain ⟨A, hA⟩ : ∃ A, A = (feedP t (numN t.last (Pk.dec s).1) (Pk.dec s).1).1 := ⟨_, rfl⟩
    rw [← hA] at r2 r3 r4 r5 ⊢
    have r3' : A.last = max t.last (numN t.last (Pk.dec s).1) := r3
    have r4' : A.next = (putF t.next t.h ⟨numN t.last (Pk.dec s).1, (Pk.dec s).1⟩).1 := r4
    have r5' : A.h = (putF t.next t.h ⟨numN t.last (Pk.dec s).1, (Pk.dec s).1⟩).2.1 := r5
    have hAlast : ¬ A.last = 0 := by rw [r3']; have := Cn.isNB_iff.1 n5; omega
    have hchk : A.chk = 0 := by
      refine Tr.chk_zero.2 ⟨.inr (by rw [r3']; exact n5), by rw [r4', r5']; exact i1, r2.1, r2.2, ⟨fun e => absurd e hAlast, fun e => absurd (r4'.symm.trans e) i7⟩⟩
    refine ⟨hchk, ?_, hc⟩
    unfold feedA
    rw [if_pos hchk]
    unfold feedR
    rw [if_pos hd, r3', if_pos n3, n4]
    unfold feedP
    have hag : putF A.next A.h ⟨numN t.last (Pk.dec s).1, (Pk.dec s).1⟩ = (A.next, A.h, []) := put_again (by rw [r4']; exact i7) (by rw [r4', r5']; exact i6)
    rw [hag]
    have hmm : max A.last (numN t.last (Pk.dec s).1) = A.last := by rw [r3']; omega
    rw [hmm]
    rfl
  · rw [hF] at h; rw [h] at r1; cases r1
/-- what Drain leaves -/
theorem drain_right {t : Tr} (hc : t.chk = 0) : ((drainA t).2.2 = 0 ∧ (drainA t).1.h = [] ∧ (drainA t).1.chk = 0) ∨ (drainA t).2.2 = 2 := by
  obtain ⟨c1, c2, c3, c4, c5⟩ := Tr.chk_zero.1 hc
  obtain ⟨i1, i2, i3, i4, i5⟩ := flush_inv c2
  have e0 : drainA t = drainR t := by unfold drainA; rw [if_pos hc]
  rw [e0]
  have hall : ∀ y ∈ (relF 0 t.next t.h []).2.2, y.chk = 0 := fun y hy => c2.2.2.1 y (i3 y hy).1
  obtain ⟨B, hB⟩ : ∃ B, B = t.buf t.last (relF 0 t.next t.h []).1 (relF 0 t.next t.h []).2.1 := ⟨_, rfl⟩
  have hBok : TkOk B := by rw [hB]; exact ⟨c3, c4⟩
  have hF : drainR t = tkN (relF 0 t.next t.h []).2.2 (B, 0) := by rw [hB]; rfl
  rw [hF]
  rcases tkN_ok _ (B, 0) hBok hall with ⟨r1, r2, r3, r4, r5⟩ | ⟨r1, _⟩
  · left
    obtain ⟨A, hA⟩ : ∃ A, A = (tkN (relF 0 t.next t.h []).2.2 (B, 0)).1 := ⟨_, rfl⟩
    rw [← hA] at r2 r3 r4 r5 ⊢
    rw [hB] at r3 r4 r5
    have r3' : A.last = t.last := r3
    have r4' : A.next = (relF 0 t.next t.h []).1 := r4
    have r5' : A.h = (relF 0 t.next t.h []).2.1 := r5
    refine ⟨r1, by rw [r5']; exact i5, Tr.chk_zero.2 ⟨by rw [r3']; exact c1, by rw [r4', r5']; exact i1, r2.1, r2.2, ?_⟩⟩
    rw [r3', r4', c5]
    constructor
    · intro h0
      have hh : t.h = [] := by
        rcases c2.1 with ⟨_, h⟩ | h
        · exact h
        · omega
      rw [hh, h0]; rfl
    · intro h0
      rcases c2.1 with ⟨h, _⟩ | h
      · exact h
      · omega
  · exact .inr r1

theorem putF_at {next : Int} (h : List Sk) (x : Sk) (h0 : ¬ next = 0) : putF next h x = if x.n < next then (next, h, []) else if (h.any fun y => y.n == x.n) then (next, h, []) else relF 4 next (insF h x) [] := by
  unfold putF
  simp only [if_neg h0]
/-- two packets one behind the other leave the same, whichever comes first -/
theorem feed_order {t : Tr} {p q : Pk} (hc : t.chk = 0) (hl : ¬ t.last = 0) (hh : t.h = []) (hn : t.next = t.last + 1) (hm : t.last ≤ 999999998) (hp : p.chk = 0) (hq : q.chk = 0) (hps : p.seq = (t.last + 1) % 65536) (hqs : q.seq = (t.last + 2) % 65536) :
    (feedA t q.enc).2.2 = 0 ∧ (feedA t q.enc).2.1 = 0 ∧
    (((feedA t p.enc).2.2 = 0 ∧ (feedA (feedA t p.enc).1 q.enc).2.2 = 0 ∧ (feedA (feedA t q.enc).1 p.enc).2.2 = 0 ∧ (feedA t p.enc).2.1 + (feedA (feedA t p.enc).1 q.enc).2.1 = (feedA (feedA t q.enc).1 p.enc).2.1 ∧ (feedA (feedA t p.enc).1 q.enc).1 = (feedA (feedA t q.enc).1 p.enc).1) ∨ (feedA t p.enc).2.2 = 2 ∨ (feedA (feedA t p.enc).1 q.enc).2.2 = 2) := by
  obtain ⟨c1, c2, c3, c4, c5⟩ := Tr.chk_zero.1 hc
  have hlb : 65536 ≤ t.last ∧ t.last ≤ 1000000000 := Cn.isNB_iff.1 (c1.resolve_left hl)
  obtain ⟨p1, p2, _⟩ := Pk.chk_ok hp
  obtain ⟨q1, q2, _⟩ := Pk.chk_ok hq
  -- numbers
  have num : ∀ (m n : Int) (r : Pk), 65536 ≤ m → m ≤ 1000000000 → 65536 ≤ n → n ≤ 1000000000 → 0 ≤ r.seq → r.seq ≤ 65535 → n % 65536 = r.seq → m - 32767 ≤ n → n ≤ m + 32768 → numE m r = 0 ∧ numN m r = n := fun m n r a1 a2 a3 a4 a5 a6 a7 a8 a9 => by
    have hraw := Cn.raw_uniq m r.seq n a7 a8 a9
    have hok : Cn.okB m r.seq = true := Cn.okB_iff.2 ⟨⟨a1, a2⟩, a5, a6, by omega, by omega⟩
    unfold numE numN
    rw [if_neg (by omega), if_neg (by omega)]
    exact ⟨(Cn.uw_ok hok).1, by rw [(Cn.uw_ok hok).2]; exact hraw⟩
  have stp : ∀ (u : Tr) (r : Pk) (n : Int), u.chk = 0 → r.chk = 0 → numE u.last r = 0 → numN u.last r = n → feedA u r.enc = feedP u n r := fun u r n a1 a2 a3 a4 => by
    unfold feedA; rw [if_pos a1]; unfold feedR; rw [Pk.dec_enc r a2, if_pos rfl, if_pos a3, a4]
  obtain ⟨np1, np2⟩ := num t.last (t.last + 1) p (by omega) (by omega) (by omega) (by omega) p1 p2 (by omega) (by omega) (by omega)
  obtain ⟨nq1, nq2⟩ := num t.last (t.last + 2) q (by omega) (by omega) (by omega) (by omega) q1 q2 (by omega) (by omega) (by omega)
  have ep := stp t p _ hc hp np1 np2
  have eq := stp t q _ hc hq nq1 nq2
  obtain ⟨x, hx⟩ : ∃ x : Sk, x = ⟨t.last + 1, p⟩ := ⟨_, rfl⟩
  obtain ⟨y, hy⟩ : ∃ y : Sk, y = ⟨t.last + 2, q⟩ := ⟨_, rfl⟩
  have hxc : x.chk = 0 := by rw [hx]; exact Sk.chk_ok (Cn.isNB_true (by simp; omega) (by simp; omega)) hp (by simp; omega)
  have hyc : y.chk = 0 := by rw [hy]; exact Sk.chk_ok (Cn.isNB_true (by simp; omega) (by simp; omega)) hq (by simp; omega)
  have hxn : x.n = t.last + 1 := by rw [hx]
  have hyn : y.n = t.last + 2 := by rw [hy]
  -- what the buffer does
  have bp : putF t.next t.h x = (t.last + 2, [], [x]) := by
    rw [hh, hn, putF_at _ _ (by omega), if_neg (by omega)]
    simp only [List.any_nil, Bool.false_eq_true, if_false, insF_nil]
    simp [relF, hxn]; omega
  have bq : putF t.next t.h y = (t.last + 1, [y], []) := by
    rw [hh, hn, putF_at _ _ (by omega), if_neg (by omega)]
    simp only [List.any_nil, Bool.false_eq_true, if_false, insF_nil]
    simp [relF, hyn]
  have eq' : feedA t q.enc = (t.buf (t.last + 2) (t.last + 1) [y], 0, 0) := by
    rw [eq]
    unfold feedP
    rw [← hy, bq, show max t.last (t.last + 2) = t.last + 2 by omega]; rfl
  have hcC : (t.buf (t.last + 2) (t.last + 1) [y]).chk = 0 := by
    rw [show t.buf (t.last + 2) (t.last + 1) [y] = (feedA t q.enc).1 by rw [eq']]
    exact (feed_right (by rw [eq'])).1
  have eqp : feedA (t.buf (t.last + 2) (t.last + 1) [y]) p.enc = tkN [x, y] (t.buf (t.last + 2) (t.last + 3) [], 0) := by
    obtain ⟨m1, m2⟩ := num (t.last + 2) (t.last + 1) p (by omega) (by omega) (by omega) (by omega) p1 p2 (by omega) (by omega) (by omega)
    rw [stp _ p (t.last + 1) hcC hp m1 m2]
    unfold feedP
    have b2 : putF (t.last + 1) [y] x = (t.last + 3, [], [x, y]) := by
      rw [putF_at _ _ (by omega), if_neg (by omega), if_neg (by simp [hyn, hxn]), insF_cons, if_pos (by omega)]
      simp only [relF]
      rw [if_pos hxn, if_pos (by omega), show t.last + 1 + 1 + 1 = t.last + 3 by omega]; rfl
    rw [← hx]
    show tkN (putF (t.last + 1) [y] x).2.2 ((t.buf (t.last + 2) (t.last + 1) [y]).buf (max (t.last + 2) (t.last + 1)) (putF (t.last + 1) [y] x).1 (putF (t.last + 1) [y] x).2.1, 0) = _
    rw [b2, show max (t.last + 2) (t.last + 1) = t.last + 2 by omega]; rfl
  have ep' : feedA t p.enc = tkN [x] (t.buf (t.last + 1) (t.last + 2) [], 0) := by
    rw [ep]
    unfold feedP
    rw [← hx, bp, show max t.last (t.last + 1) = t.last + 1 by omega]
  rw [eq']
  refine ⟨rfl, rfl, ?_⟩
  rw [eqp]
  have hT : TkOk t := ⟨c3, c4⟩
  rcases tk1_ok hT hxc with ⟨e1, ok1⟩ | e1
  · have ep2 : feedA t p.enc = ((tk1 t x).1.buf (t.last + 1) (t.last + 2) [], (tk1 t x).2.1, 0) := by
      rw [ep']
      simp only [tkN, tk1_buf, e1, if_true, Nat.zero_add]
    rw [ep2]
    have hA := (feed_right (t := t) (s := p.enc) (by rw [ep2])).1
    rw [ep2] at hA
    obtain ⟨A, hAe⟩ : ∃ A, A = (tk1 t x).1.buf (t.last + 1) (t.last + 2) [] := ⟨_, rfl⟩
    have eAq : feedA A q.enc = tkN [y] ((tk1 t x).1.buf (t.last + 2) (t.last + 3) [], 0) := by
      obtain ⟨m1, m2⟩ := num (t.last + 1) (t.last + 2) q (by omega) (by omega) (by omega) (by omega) q1 q2 (by omega) (by omega) (by omega)
      rw [hAe]
      rw [stp _ q (t.last + 2) hA hq m1 m2]
      unfold feedP
      have b3 : putF (t.last + 2) [] y = (t.last + 3, [], [y]) := by
        rw [putF_at _ _ (by omega), if_neg (by omega)]
        simp only [List.any_nil, Bool.false_eq_true, if_false, insF_nil]
        simp [relF, hyn]; omega
      rw [← hy]
      show tkN (putF (t.last + 2) [] y).2.2 (((tk1 t x).1.buf (t.last + 1) (t.last + 2) []).buf (max (t.last + 1) (t.last + 2)) (putF (t.last + 2) [] y).1 (putF (t.last + 2) [] y).2.1, 0) = _
      rw [b3, show max (t.last + 1) (t.last + 2) = t.last + 2 by omega]; rfl
    rw [← hAe] at hA ⊢
    simp only
    rw [eAq]
    rcases tk1_ok ok1 hyc with ⟨e2, _⟩ | e2
    · left
      simp only [tkN, tk1_buf, e1, e2, if_true, Nat.zero_add]
      exact ⟨trivial, trivial, trivial, trivial, trivial⟩
    · right; right
      simp only [tkN, tk1_buf]
      rw [if_neg (by omega)]
      exact e2
  · right; left
    rw [ep']
    simp only [tkN, tk1_buf]
    rw [if_neg (by omega)]
    exact e1

end Go.Proofs.YtnpaejknoipicafGreat

namespace Go.Proofs.YtnpaejknoipicafGreat
open Go.RowKit

def Stay (w : World) (P : World → Prop) : Prop := ∀ w', Below w.heap.size w w' → P w'
theorem Stay.now {w : World} {P : World → Prop} (h : Stay w P) : P w := h w (Below.refl _ _)
theorem Stay.step {w w' : World} {P : World → Prop} (h : Stay w P) (hb : Below w.heap.size w w') : Stay w' P := fun w'' h2 => h w'' (hb.trans (h2.mono hb.size))
theorem Stay.alloc {w : World} {P : World → Prop} (h : Stay w P) (o : Obj) : Stay (w.alloc o) P := h.step ((Below.refl _ w).alloc (Nat.le_refl _) _)
theorem Stay.and {w : World} {P Q : World → Prop} (h : Stay w P) (k : Stay w Q) : Stay w (fun U => P U ∧ Q U) := fun w' hb => ⟨h w' hb, k w' hb⟩
theorem Stay.imp {w : World} {P Q : World → Prop} (h : Stay w P) (k : ∀ U, P U → Q U) : Stay w Q := fun w' hb => k w' (h w' hb)
theorem Blk.stay {w : World} {b : Nat} {C : Array Value} {t : TypeId} (h : Blk w b C t) : Stay w (fun U => Blk U b C t) := fun _ hb => h.below hb h.lt
theorem FrsIn.stay {S : Nat → Prop} {w : World} {v : Value} {l : List Fr} (h : FrsIn S w v l) : Stay w (fun U => FrsIn S U v l) := fun _ hb => h.below hb
theorem StrsIn.stay {S : Nat → Prop} {w : World} {v : Value} {l : List ByteArray} (h : StrsIn S w v l) : Stay w (fun U => StrsIn S U v l) := fun _ hb => h.below hb
theorem GrsIn.stay {S : Nat → Prop} {w : World} {v : Value} {L : List (List Fr)} (h : GrsIn S w v L) : Stay w (fun U => GrsIn S U v L) := fun _ hb => h.below hb
theorem below_stay {B : Nat} {a w : World} (h : Below B a w) (hB : B ≤ w.heap.size) : Stay w (fun U => Below B a U) := fun _ hb => h.trans (hb.mono hB)
theorem below_stay0 (w : World) : Stay w (fun U => Below w.heap.size w U) := below_stay (Below.refl _ _) (Nat.le_refl _)

theorem Stay.hid {w : World} {P : World → Prop} (h : Stay w P) : Hid (Stay w P) := h
theorem Stay.go {w w' : World} {P : World → Prop} (h : Hid (Stay w P)) (hb : Below w.heap.size w w') : Hid (Stay w' P) := Stay.step h hb
theorem Stay.allocE {w W : World} {P : World → Prop} {o : Obj} (h : Stay w P) (e : W = w.alloc o) : Hid (Stay W P) := by subst e; exact h.alloc _
theorem Blk.newE {w W : World} {C : Array Value} {t : TypeId} (e : W = w.alloc (.cells C t)) : Blk W w.heap.size C t := by subst e; exact Blk.new _ _ _
theorem FrsIn.allocE {S : Nat → Prop} {w W : World} {v : Value} {l : List Fr} {o : Obj} (h : FrsIn S w v l) (e : W = w.alloc o) : FrsIn S W v l := by subst e; exact h.alloc _
theorem GrsIn.allocE {S : Nat → Prop} {w W : World} {v : Value} {L : List (List Fr)} {o : Obj} (h : GrsIn S w v L) (e : W = w.alloc o) : GrsIn S W v L := by subst e; exact h.alloc _
theorem StrsIn.allocE {S : Nat → Prop} {w W : World} {v : Value} {l : List ByteArray} {o : Obj} (h : StrsIn S w v l) (e : W = w.alloc o) : StrsIn S W v l := by subst e; exact h.alloc _

end Go.Proofs.YtnpaejknoipicafGreat

namespace Go.Proofs.YtnpaejknoipicafGreat
open Go.RowKit

def SlsIn (S : Nat → Prop) (w : World) (v : Value) (l : List Sk) : Prop := Sls w v l ∧ l.length ≤ 9223372036854775807 ∧ ∀ g, v.ownBlock = some g → 0 < l.length → S g ∧ g < w.heap.size
theorem SlsIn.to {S S' : Nat → Prop} {w w' : World} {v : Value} {l : List Sk} (h : SlsIn S w v l) (hs : SameOn S w w') (hm : ∀ g, g < w.heap.size → S g → S' g) : SlsIn S' w' v l := by
  obtain ⟨⟨h1, h2⟩, h3, h4⟩ := h
  refine ⟨⟨h1, ?_⟩, h3, fun g hg h0 => ⟨hm g (h4 g hg h0).2 (h4 g hg h0).1, Nat.lt_of_lt_of_le (h4 g hg h0).2 hs.1⟩⟩
  rcases h2 with h2 | ⟨b, off, c, rfl, hlt, hc⟩
  · exact .inl h2
  · by_cases h0 : 0 < l.length
    · exact .inr ⟨b, off, c, rfl, Nat.lt_of_lt_of_le hlt hs.1, fun j u hj => (World.cell?_of_block (hs.2 b hlt (h4 b rfl h0).1)).trans (hc j u hj)⟩
    · refine .inl ⟨by omega, some ⟨b, off, none⟩, c, by congr 1; omega⟩
theorem SlsIn.below {S : Nat → Prop} {w w' : World} {v : Value} {l : List Sk} (h : SlsIn S w v l) (hb : Below w.heap.size w w') : SlsIn S w' v l := h.to (SameOn.of_below hb) fun _ _ h => h
theorem SlsIn.mono {S S' : Nat → Prop} {w : World} {v : Value} {l : List Sk} (h : SlsIn S w v l) (hm : ∀ g, g < w.heap.size → S g → S' g) : SlsIn S' w v l := h.to (SameOn.refl _ _) hm
theorem SlsIn.nil (S : Nat → Prop) (w : World) : SlsIn S w (.slice none 0 0) [] := ⟨Sls.nil w, Nat.zero_le _, fun g hg => by simp [Value.ownBlock] at hg⟩
theorem SlsIn.len {S : Nat → Prop} {w : World} {v : Value} {l : List Sk} (h : SlsIn S w v l) : ∃ a c, v = .slice a l.length c := h.1.len
theorem SlsIn.of {S : Nat → Prop} {w : World} {v : Value} {l : List Sk} (h : Sls w v l) (hl : l.length ≤ 9223372036854775807) (hS : ∀ g, v.ownBlock = some g → 0 < l.length → S g) : SlsIn S w v l := by
  refine ⟨h, hl, fun g hg h0 => ⟨hS g hg h0, ?_⟩⟩
  obtain ⟨_, h4 | ⟨b, off, c, rfl, hb, _⟩⟩ := h
  · omega
  · have : b = g := by simpa [Value.ownBlock] using hg
    subst this; exact hb

/-- what a track's rows show -/
def TrIn (S : Nat → Prop) (w : World) (hv bv gv ov : Value) (t : Tr) : Prop := SlsIn S w hv t.h ∧ SlsIn S w bv t.o ∧ GrsIn S w gv t.L ∧ FrsIn S w ov t.O
theorem TrIn.to {S S' : Nat → Prop} {w w' : World} {hv bv gv ov : Value} {t : Tr} (h : TrIn S w hv bv gv ov t) (hs : SameOn S w w') (hm : ∀ g, g < w.heap.size → S g → S' g) : TrIn S' w' hv bv gv ov t :=
  ⟨h.1.to hs hm, h.2.1.to hs hm, h.2.2.1.to hs hm, h.2.2.2.to hs hm⟩
theorem TrIn.below {S : Nat → Prop} {w w' : World} {hv bv gv ov : Value} {t : Tr} (h : TrIn S w hv bv gv ov t) (hb : Below w.heap.size w w') : TrIn S w' hv bv gv ov t := h.to (SameOn.of_below hb) fun _ _ h => h
theorem TrIn.mono {S S' : Nat → Prop} {w : World} {hv bv gv ov : Value} {t : Tr} (h : TrIn S w hv bv gv ov t) (hm : ∀ g, g < w.heap.size → S g → S' g) : TrIn S' w hv bv gv ov t := h.to (SameOn.refl _ _) hm
theorem TrIn.zero (S : Nat → Prop) (w : World) : TrIn S w (.slice none 0 0) (.slice none 0 0) (.slice none 0 0) (.slice none 0 0) Tr.zero := ⟨SlsIn.nil _ _, SlsIn.nil _ _, GrsIn.nil _ _, FrsIn.nil _ _⟩
theorem TrIn.stay {S : Nat → Prop} {w : World} {hv bv gv ov : Value} {t : Tr} (h : TrIn S w hv bv gv ov t) : Stay w (fun U => TrIn S U hv bv gv ov t) := fun _ hb => h.below hb
theorem TrIn.slices {S : Nat → Prop} {w : World} {hv bv gv ov : Value} {t : Tr} (h : TrIn S w hv bv gv ov t) : ∃ ha hc ba bc ga gc oa oc, hv = .slice ha t.h.length hc ∧ bv = .slice ba t.o.length bc ∧ gv = .slice ga t.L.length gc ∧ ov = .slice oa t.O.length oc := by
  obtain ⟨h1, h2, h3, h4⟩ := h
  obtain ⟨a1, c1, e1⟩ := h1.len
  obtain ⟨a2, c2, e2⟩ := h2.len
  obtain ⟨a3, c3, e3, _⟩ := h3.len
  obtain ⟨a4, c4, e4, _⟩ := h4.len
  exact ⟨a1, c1, a2, c2, a3, c3, a4, c4, e1, e2, e3, e4⟩

/-- a track's seven cells -/
abbrev Tr.cells (t : Tr) (hv bv gv ov : Value) : Array Value := #[.int .i64 t.last, .int .i64 t.next, hv, bv, .int .i64 t.first, gv, ov]
/-- the taker's box: a track, and how many groups were closed; its rows lie elsewhere, in blocks of S -/
def TkB (S : Nat → Prop) (M : Nat) (w : World) (t : Tr) (c : Int) : Prop := ∃ hv bv gv ov, Blk w M #[.int .i64 t.last, .int .i64 t.next, hv, bv, .int .i64 t.first, gv, ov, .int .i64 c] 167 ∧ TrIn (fun g => S g ∧ g ≠ M) w hv bv gv ov t
theorem TkB.below {S : Nat → Prop} {M : Nat} {w w' : World} {t : Tr} {c : Int} (h : TkB S M w t c) (hb : Below w.heap.size w w') : TkB S M w' t c := by
  obtain ⟨hv, bv, gv, ov, h1, h2⟩ := h
  exact ⟨hv, bv, gv, ov, h1.below hb h1.lt, h2.below hb⟩
theorem TkB.lt {S : Nat → Prop} {M : Nat} {w : World} {t : Tr} {c : Int} (h : TkB S M w t c) : M < w.heap.size := by
  obtain ⟨_, _, _, _, h1, _⟩ := h
  exact h1.lt
theorem Blk.eight {w : World} {b : Nat} {x0 x1 x2 x3 x4 x5 x6 x7 : Value} {t : TypeId} (h : Blk w b #[x0, x1, x2, x3, x4, x5, x6, x7] t) :
    w.cell? ⟨b, 0, none⟩ = some x0 ∧ w.cell? ⟨b, 1, none⟩ = some x1 ∧ w.cell? ⟨b, 2, none⟩ = some x2 ∧ w.cell? ⟨b, 3, none⟩ = some x3 ∧ w.cell? ⟨b, 4, none⟩ = some x4 ∧ w.cell? ⟨b, 5, none⟩ = some x5 ∧ w.cell? ⟨b, 6, none⟩ = some x6 ∧ w.cell? ⟨b, 7, none⟩ = some x7 :=
  ⟨h.cell rfl, h.cell rfl, h.cell rfl, h.cell rfl, h.cell rfl, h.cell rfl, h.cell rfl, h.cell rfl⟩
theorem Blk.sevenc {w : World} {b : Nat} {x0 x1 x2 x3 x4 x5 x6 : Value} {t : TypeId} (h : Blk w b #[x0, x1, x2, x3, x4, x5, x6] t) :
    w.cell? ⟨b, 0, none⟩ = some x0 ∧ w.cell? ⟨b, 1, none⟩ = some x1 ∧ w.cell? ⟨b, 2, none⟩ = some x2 ∧ w.cell? ⟨b, 3, none⟩ = some x3 ∧ w.cell? ⟨b, 4, none⟩ = some x4 ∧ w.cell? ⟨b, 5, none⟩ = some x5 ∧ w.cell? ⟨b, 6, none⟩ = some x6 :=
  ⟨h.cell rfl, h.cell rfl, h.cell rfl, h.cell rfl, h.cell rfl, h.cell rfl, h.cell rfl⟩

end Go.Proofs.YtnpaejknoipicafGreat

namespace Go.Proofs.YtnpaejknoipicafGreat
open Go.ChangeShapes Go.WideShapes Go.ChangeAt Go.RowKit

section
variable {H : Type} {enc : TypeId × Value → H} {W : World} {r : Reach} {b0 base : Nat} {spare : Nat → Bool} {held : Bool} {v : Value} {d : DataW H} {p : List MemPlace}

theorem Tryz.cellsTrk : Tryz.prog.cellsOf 61 = 7 := by kernel_rfl
theorem Tryz.cellsTkI : Tryz.prog.cellsOf 3 = 1 := by kernel_rfl
theorem Tryz.cellsTkS : Tryz.prog.cellsOf 55 = 1 := by kernel_rfl
theorem Tryz.cellsTkB : Tryz.prog.cellsOf 57 = 2 := by kernel_rfl
theorem Tryz.cellsTkD : Tryz.prog.cellsOf 59 = 1 := by kernel_rfl
theorem Tryz.cellsTkSt : Tryz.prog.cellsOf 27 = 3 := by kernel_rfl
theorem Tryz.cellsTkGs : Tryz.prog.cellsOf 22 = 1 := by kernel_rfl
theorem Tryz.cellsTkG : Tryz.prog.cellsOf 25 = 1 := by kernel_rfl
theorem list7t {α : Type} {l : List α} (h : l.length = 7) : ∃ a b c d e f g, l = [a, b, c, d, e, f, g] := by
  match l, h with
  | [a, b, c, d, e, f, g], _ => exact ⟨a, b, c, d, e, f, g, rfl⟩
theorem list4t {α : Type} {l : List α} (h : l.length = 4) : ∃ a b c d, l = [a, b, c, d] := by
  match l, h with
  | [a, b, c, d], _ => exact ⟨a, b, c, d, rfl⟩

theorem slsIn_of {u : Value} {l : List Sk} (h : Sls W u l) (hl : l.length ≤ maxLen) : SlsIn (fun _ => True) W u l := SlsIn.of h (by unfold maxLen at hl; omega) fun _ _ _ => trivial

set_option maxRecDepth 100000 in
theorem trod_bufC {fuel : Nat} {k0 k1 : Value} {x : DataW H × List MemPlace} (h : DataW.trod enc Tryz.prog W base spare held fuel 57 [k0, k1] = some x) :
    ∃ (a : Int) (l : List Sk), k0 = .int .i64 a ∧ (Lit.int .i64 a).wf = true ∧ SlsIn (fun _ => True) W k1 l ∧ (∀ s ∈ l, s.fits) ∧ ∀ a n c, k1 = .slice a n c → n ≤ c := by
  obtain ⟨xs, n, _, _, _, hxl, hg⟩ := DataW.trod_struct Tryz.underlying57 h
  obtain ⟨x0, x1, rfl⟩ := list2 (show xs.length = 2 from hxl)
  have h0 : DataW.trod enc Tryz.prog W base spare held n 3 (([k0, k1].drop 0).take (Tryz.prog.cellsOf 3)) = some x0 := hg 0 _ rfl
  have h1 : DataW.trod enc Tryz.prog W base spare held n 55 (([k0, k1].drop 1).take (Tryz.prog.cellsOf 55)) = some x1 := hg 1 _ rfl
  rw [Tryz.cellsTkI] at h0
  rw [Tryz.cellsTkS] at h1
  obtain ⟨a, ea, _, wa⟩ := DataW.trod_int Tryz.underlying3 h0
  obtain ⟨u, l, eu, hS, hfit, hlen, hcap, _⟩ := trod_slots h1
  simp at ea eu
  subst ea eu
  exact ⟨a, l, rfl, wa, slsIn_of hS hlen, hfit, hcap⟩

set_option maxRecDepth 100000 in
theorem trod_bldC {fuel : Nat} {k0 : Value} {x : DataW H × List MemPlace} (h : DataW.trod enc Tryz.prog W base spare held fuel 59 [k0] = some x) :
    ∃ (l : List Sk), SlsIn (fun _ => True) W k0 l ∧ ∀ s ∈ l, s.fits := by
  obtain ⟨xs, n, _, _, _, hxl, hg⟩ := DataW.trod_struct Tryz.underlying59 h
  obtain ⟨x0, rfl⟩ := list1 (show xs.length = 1 from hxl)
  have h1 : DataW.trod enc Tryz.prog W base spare held n 55 (([k0].drop 0).take (Tryz.prog.cellsOf 55)) = some x0 := hg 0 _ rfl
  rw [Tryz.cellsTkS] at h1
  obtain ⟨u, l, eu, hS, hfit, hlen, _⟩ := trod_slots h1
  simp at eu
  subst eu
  exact ⟨l, slsIn_of hS hlen, hfit⟩

set_option maxRecDepth 100000 in
theorem trod_storeC {fuel : Nat} {k0 k1 k2 : Value} {x : DataW H × List MemPlace} (h : DataW.trod enc Tryz.prog W base spare held fuel 27 [k0, k1, k2] = some x) :
    ∃ (a : Int) (L : List (List Fr)) (O : List Fr), k0 = .int .i64 a ∧ (Lit.int .i64 a).wf = true ∧ GrsIn (fun _ => True) W k1 L ∧ FrsIn (fun _ => True) W k2 O := by
  obtain ⟨xs, n, _, _, _, hxl, hg⟩ := DataW.trod_struct Tryz.underlying27 h
  obtain ⟨x0, x1, x2, rfl⟩ := list3 (show xs.length = 3 from hxl)
  have h0 : DataW.trod enc Tryz.prog W base spare held n 3 (([k0, k1, k2].drop 0).take (Tryz.prog.cellsOf 3)) = some x0 := hg 0 _ rfl
  have h1 : DataW.trod enc Tryz.prog W base spare held n 22 (([k0, k1, k2].drop 1).take (Tryz.prog.cellsOf 22)) = some x1 := hg 1 _ rfl
  have h2 : DataW.trod enc Tryz.prog W base spare held n 25 (([k0, k1, k2].drop 2).take (Tryz.prog.cellsOf 25)) = some x2 := hg 2 _ rfl
  rw [Tryz.cellsTkI] at h0
  rw [Tryz.cellsTkGs] at h1
  rw [Tryz.cellsTkG] at h2
  obtain ⟨a, ea, _, wa⟩ := DataW.trod_int Tryz.underlying3 h0
  obtain ⟨u1, L, eu1, hL⟩ := trod_grs h1
  obtain ⟨u2, O, eu2, hO⟩ := trod_grp h2
  simp at ea eu1 eu2
  subst ea eu1 eu2
  exact ⟨a, L, O, rfl, wa, hL, hO⟩

set_option maxRecDepth 100000 in
theorem op_track (hval : Value.okWide Tryz.prog W r b0 61 v) (h : DataW.Trod enc Tryz.prog W base spare held 61 v d p) :
    ∃ (t : Tr) (hv bv gv ov : Value), v = .agg #[.int .i64 t.last, .int .i64 t.next, hv, bv, .int .i64 t.first, gv, ov] ∧ TrIn (fun _ => True) W hv bv gv ov t ∧ (Lit.int .i64 t.last).wf = true ∧ (Lit.int .i64 t.next).wf = true ∧ (Lit.int .i64 t.first).wf = true ∧ (∀ s ∈ t.h, s.fits) ∧ (∀ s ∈ t.o, s.fits) ∧ ∀ a n c, hv = .slice a n c → n ≤ c := by
  obtain ⟨cs, rfl, _⟩ := okWide_struct Tryz.underlying61 hval
  obtain ⟨fuel, hf⟩ := h
  obtain ⟨xs, n, _, _, hl, hxl, hg⟩ := DataW.trod_struct Tryz.underlying61 hf
  rw [Tryz.cellsTrk] at hl
  obtain ⟨c0, c1, c2, c3, c4, c5, c6, hcs⟩ := list7t hl
  obtain ⟨x0, x1, x2, x3, rfl⟩ := list4t (show xs.length = 4 from hxl)
  rw [hcs] at hg
  have h0 : DataW.trod enc Tryz.prog W base spare held n 3 (([c0, c1, c2, c3, c4, c5, c6].drop 0).take (Tryz.prog.cellsOf 3)) = some x0 := hg 0 _ rfl
  have h1 : DataW.trod enc Tryz.prog W base spare held n 57 (([c0, c1, c2, c3, c4, c5, c6].drop 1).take (Tryz.prog.cellsOf 57)) = some x1 := hg 1 _ rfl
  have h2 : DataW.trod enc Tryz.prog W base spare held n 59 (([c0, c1, c2, c3, c4, c5, c6].drop 3).take (Tryz.prog.cellsOf 59)) = some x2 := hg 2 _ rfl
  have h3 : DataW.trod enc Tryz.prog W base spare held n 27 (([c0, c1, c2, c3, c4, c5, c6].drop 4).take (Tryz.prog.cellsOf 27)) = some x3 := hg 3 _ rfl
  rw [Tryz.cellsTkI] at h0
  rw [Tryz.cellsTkB] at h1
  rw [Tryz.cellsTkD] at h2
  rw [Tryz.cellsTkSt] at h3
  obtain ⟨a, ea, _, wa⟩ := DataW.trod_int Tryz.underlying3 h0
  obtain ⟨b, lh, rfl, wb, hh, fh, hcp⟩ := trod_bufC (k0 := c1) (k1 := c2) h1
  obtain ⟨lo, ho, fo⟩ := trod_bldC (k0 := c3) h2
  obtain ⟨f, L, O, rfl, wf, hL, hO⟩ := trod_storeC (k0 := c4) (k1 := c5) (k2 := c6) h3
  simp at ea
  subst ea
  refine ⟨⟨a, b, lh, lo, f, L, O⟩, c2, c3, c5, c6, ?_, ⟨hh, ho, hL, hO⟩, wa, wb, wf, fh, fo, hcp⟩
  have : cs = #[.int .i64 a, .int .i64 b, c2, c3, .int .i64 f, c5, c6] := by
    apply Array.ext'
    simpa [Value.cells] using hcs
  rw [this]
end
end Go.Proofs.YtnpaejknoipicafGreat

namespace Go.Proofs.YtnpaejknoipicafGreat
open Go.RowKit

set_option maxHeartbeats 8000000 in
set_option maxRecDepth 100000 in
theorem tkKeep_any (S : Nat → Prop) (M : Nat) (t : Tr) (c : Int) (f : Fr) (pv : Value) (w : World) (hT : TkB S M w t c) (hp : StrsIn (fun _ => True) w pv f.parts) (hS : ∀ g, w.heap.size ≤ g → S g) (hc0 : 0 ≤ c) (hc1 : c ≤ 1000000) :
    Calls Tryz.prog 169 #[.pointer (some ⟨M, 0, none⟩), .agg #[.int .i64 f.time, .bool f.key, pv]] w fun e w' => e = .returned (.int .i64 (addsE t.first t.L t.O f)) ∧ TkB S M w' ⟨t.last, t.next, t.h, t.o, addsF t.first t.L t.O f, addsL t.first t.L t.O f, addsO t.first t.L t.O f⟩ (c + (if addsB t.first t.L t.O f then (1 : Nat) else 0)) ∧ Kept [M] w w' := by
  obtain ⟨hv, bv, gv, ov, hM, hr⟩ := hT
  obtain ⟨ha, hc, ba, bc, ga, gc, oa, oc, eh, eb, eg, eo⟩ := hr.slices
  obtain ⟨pa, pc, ep⟩ := hp.1.len
  obtain ⟨last, hlast⟩ : ∃ x, x = t.last := ⟨_, rfl⟩
  obtain ⟨next, hnext⟩ : ∃ x, x = t.next := ⟨_, rfl⟩
  obtain ⟨first, hfirst⟩ : ∃ x, x = t.first := ⟨_, rfl⟩
  obtain ⟨hn, hhn⟩ : ∃ x, x = t.h.length := ⟨_, rfl⟩
  obtain ⟨bn, hbn⟩ : ∃ x, x = t.o.length := ⟨_, rfl⟩
  obtain ⟨ln, hln⟩ : ∃ x, x = t.L.length := ⟨_, rfl⟩
  obtain ⟨lo, hlo⟩ : ∃ x, x = t.O.length := ⟨_, rfl⟩
  obtain ⟨pn, hpn⟩ : ∃ x, x = f.parts.length := ⟨_, rfl⟩
  obtain ⟨ft, hft⟩ : ∃ x, x = f.time := ⟨_, rfl⟩
  obtain ⟨fk, hfk⟩ : ∃ x, x = f.key := ⟨_, rfl⟩
  obtain ⟨E1, hE1⟩ : ∃ E, E = addsE t.first t.L t.O f := ⟨_, rfl⟩
  obtain ⟨F1, hF1⟩ : ∃ E, E = addsF t.first t.L t.O f := ⟨_, rfl⟩
  obtain ⟨L1, hL1⟩ : ∃ E, E = addsL t.first t.L t.O f := ⟨_, rfl⟩
  obtain ⟨O1, hO1⟩ : ∃ E, E = addsO t.first t.L t.O f := ⟨_, rfl⟩
  obtain ⟨B1, hB1⟩ : ∃ E, E = addsB t.first t.L t.O f := ⟨_, rfl⟩
  obtain ⟨nA, hnA⟩ : ∃ n, n = L1.length := ⟨_, rfl⟩
  obtain ⟨nO, hnO⟩ : ∃ n, n = O1.length := ⟨_, rfl⟩
  have HADDw : Hid (∀ U : World, Below w.heap.size w U → Calls Tryz.prog 14 #[.agg #[.int .i64 first, gv, ov], .agg #[.int .i64 ft, .bool fk, pv]] U fun e w' => ∃ va vc qa qc, e = .returned (.tuple #[.agg #[.int .i64 F1, .slice va nA vc, .slice qa nO qc], .bool B1, .int .i64 E1]) ∧ Hid (GrsIn (fun g => U.heap.size ≤ g) w' (.slice va nA vc) L1) ∧ Hid (FrsIn (fun g => U.heap.size ≤ g) w' (.slice qa nO qc) O1) ∧ Below U.heap.size U w') := fun U hU => by
    rw [hft, hfk, hfirst]
    refine (storeAdd_new t.first gv ov pv t.L t.O f U ((hr.2.2.1.mono fun _ _ _ => trivial).below hU) ((hr.2.2.2.mono fun _ _ _ => trivial).below hU) (hp.below hU)).mono ?_
    rintro e w' ⟨gv', ov', rfl, h1, h2, h3⟩
    rw [← hL1] at h1
    rw [← hO1] at h2
    obtain ⟨va, vc, ev, _, _⟩ := h1.len
    obtain ⟨qa, qc, eq, _, _⟩ := h2.len
    rw [← hnA] at ev
    rw [← hnO] at eq
    subst ev eq
    rw [← hE1, ← hF1, ← hB1]
    exact ⟨va, vc, qa, qc, rfl, h1, h2, h3⟩
  rw [← hE1, ← hF1, ← hL1, ← hO1, ← hB1, ← hlast, ← hnext, ← hft, ← hfk]
  rw [← hlast, ← hnext, ← hfirst] at hM
  rw [← hhn] at eh
  rw [← hbn] at eb
  rw [← hln] at eg
  rw [← hlo] at eo
  rw [← hpn] at ep
  have HSU : Hid (∀ g, w.heap.size ≤ g → S g) := hS
  clear hlast hnext hfirst hhn hbn hln hlo hpn hft hfk hE1 hF1 hL1 hO1 hB1 hnA hnO hp hS
  subst eh eb eg eo ep
  have HMw : Hid (Blk w M #[.int .i64 last, .int .i64 next, .slice ha hn hc, .slice ba bn bc, .int .i64 first, .slice ga ln gc, .slice oa lo oc, .int .i64 c] 167) := hM
  have HRw : Hid (TrIn (fun g => S g ∧ g ≠ M) w (.slice ha hn hc) (.slice ba bn bc) (.slice ga ln gc) (.slice oa lo oc) t) := hr
  have hMw := hM.lt
  clear hM hr
  go_enter Tryz.func169, Tryz.ntmps169
  go_wp2_with fail
  obtain ⟨w0, hw0⟩ : ∃ w0, w0 = w.alloc (.cells #[.int .i64 ft, .bool fk, .slice pa pn pc] 30) := ⟨_, rfl⟩
  have HB0 : Hid (Below w.heap.size w w0) := by rw [hw0]; exact (Below.refl _ _).alloc (Nat.le_refl _) _
  have z0 : w0.heap.size = w.heap.size + 1 := by rw [hw0]; simp
  have HM0 : Hid (Blk w0 M #[.int .i64 last, .int .i64 next, .slice ha hn hc, .slice ba bn bc, .int .i64 first, .slice ga ln gc, .slice oa lo oc, .int .i64 c] 167) := HMw.out.below HB0.out hMw
  have HF0 : Hid (Blk w0 w.heap.size #[.int .i64 ft, .bool fk, .slice pa pn pc] 30) := Blk.newE hw0
  have HR0 : Hid (TrIn (fun g => S g ∧ g ≠ M) w0 (.slice ha hn hc) (.slice ba bn bc) (.slice ga ln gc) (.slice oa lo oc) t) := HRw.out.below HB0.out
  have HADD : Hid (∀ U : World, Below w0.heap.size w0 U → Calls Tryz.prog 14 #[.agg #[.int .i64 first, .slice ga ln gc, .slice oa lo oc], .agg #[.int .i64 ft, .bool fk, .slice pa pn pc]] U fun e w' => ∃ va vc qa qc, e = .returned (.tuple #[.agg #[.int .i64 F1, .slice va nA vc, .slice qa nO qc], .bool B1, .int .i64 E1]) ∧ Hid (GrsIn (fun g => U.heap.size ≤ g) w' (.slice va nA vc) L1) ∧ Hid (FrsIn (fun g => U.heap.size ≤ g) w' (.slice qa nO qc) O1) ∧ Below U.heap.size U w') := fun U hU => HADDw.out U (HB0.out.trans (hU.mono (by omega)))
  rw [← hw0]
  clear hw0 HMw HRw HADDw
  refine region_main (by kernel_rfl) (by kernel_rfl) [.quiet (.pointer (some ⟨M, 0, none⟩)), .quiet (.pointer (some ⟨M, 0, none⟩)), .quiet (.pointer (some ⟨M, 0, none⟩)), .quiet (.pointer (some ⟨M, 4, none⟩)), .quiet (.agg #[.int .i64 first, .slice ga ln gc, .slice oa lo oc]), .quiet (.agg #[.int .i64 ft, .bool fk, .slice pa pn pc]), .main, .fin (fun r => r), .fin (exT 0), .fin (exT 1), .fin (exT 2), .box 27 #[.int .i64 0, .slice none 0 0, .slice none 0 0], .put 11 (fun r => aggC (exT 0 r)), .fin (exT 1), .fin (exT 2)] 6 (by kernel_rfl)
    (fun S r w' => ∃ va vc qa qc, r = .tuple #[.agg #[.int .i64 F1, .slice va nA vc, .slice qa nO qc], .bool B1, .int .i64 E1] ∧ GrsIn (fun g => S g ∧ w0.heap.size ≤ g) w' (.slice va nA vc) L1 ∧ FrsIn (fun g => S g ∧ w0.heap.size ≤ g) w' (.slice qa nO qc) O1) ?loc ?step ?fin
  case loc =>
    rintro S r w1 w3 ⟨va, vc, qa, qc, rfl, h1, h2⟩ hs hsame
    exact ⟨va, vc, qa, qc, rfl, h1.to ⟨hs, fun g hg hS => hsame g hS.1 hg⟩ (fun _ _ h => h), h2.to ⟨hs, fun g hg hS => hsame g hS.1 hg⟩ (fun _ _ h => h)⟩
  case step =>
    intro i o ho a' w' r hb hfree hvals
    have f0 : a'.eval (.tmp 0) = .pointer (some ⟨M, 0, none⟩) := (hfree 0 (by kernel_rfl)).trans rfl
    have f3 : a'.eval (.tmp 3) = .pointer (some ⟨w.heap.size, 0, none⟩) := (hfree 3 (by kernel_rfl)).trans rfl
    obtain ⟨y0, y1, y2, y3, y4, y5, y6, y7⟩ := (HM0.out.below hb HM0.out.lt).eight
    obtain ⟨j0, j1, j2⟩ := (HF0.out.below hb HF0.out.lt).three
    match i, ho with
    | 0, ho =>
      simp at ho; subst ho
      show (execOp a'.eval _).run _ w' = .ok (.value _) w'
      generalize a'.eval = ρ at *
      simp [execOp, go_sem, f0]
    | 1, ho =>
      simp at ho; subst ho
      have e9 : a'.eval (.tmp 9) = .pointer (some ⟨M, 0, none⟩) := hvals 0 _ (by kernel_rfl) rfl
      show (execOp a'.eval _).run _ w' = .ok (.value _) w'
      generalize a'.eval = ρ at *
      simp [execOp, go_sem, e9]
    | 2, ho =>
      simp at ho; subst ho
      have e10 : a'.eval (.tmp 10) = .pointer (some ⟨M, 0, none⟩) := hvals 1 _ (by kernel_rfl) rfl
      show (execOp a'.eval _).run _ w' = .ok (.value _) w'
      generalize a'.eval = ρ at *
      simp [execOp, go_sem, e10]
    | 3, ho =>
      simp at ho; subst ho
      have e11 : a'.eval (.tmp 11) = .pointer (some ⟨M, 0, none⟩) := hvals 2 _ (by kernel_rfl) rfl
      show (execOp a'.eval _).run _ w' = .ok (.value _) w'
      generalize a'.eval = ρ at *
      simp [execOp, go_sem, e11]
    | 4, ho =>
      simp at ho; subst ho
      have e12 : a'.eval (.tmp 12) = .pointer (some ⟨M, 4, none⟩) := hvals 3 _ (by kernel_rfl) rfl
      show (execOp a'.eval _).run _ w' = .ok (.value _) w'
      generalize a'.eval = ρ at *
      simp [execOp, go_sem, e12, y4, y5, y6]
    | 5, ho =>
      simp at ho; subst ho
      show (execOp a'.eval _).run _ w' = .ok (.value _) w'
      generalize a'.eval = ρ at *
      simp [execOp, go_sem, f3, j0, j1, j2]
    | 6, ho =>
      simp at ho; subst ho
      have e13 : a'.eval (.tmp 13) = .agg #[.int .i64 first, .slice ga ln gc, .slice oa lo oc] := hvals 4 _ (by kernel_rfl) rfl
      have e14 : a'.eval (.tmp 14) = .agg #[.int .i64 ft, .bool fk, .slice pa pn pc] := hvals 5 _ (by kernel_rfl) rfl
      have ef : a'.eval (.func 14) = .func (.func 14) #[] #[] := rfl
      show ∃ f args, (execOp a'.eval _).run _ w' = .ok (.enter f args) w' ∧ _
      generalize a'.eval = ρ at *
      refine ⟨14, #[.agg #[.int .i64 first, .slice ga ln gc, .slice oa lo oc], .agg #[.int .i64 ft, .bool fk, .slice pa pn pc]], by simp [execOp, go_sem, e13, e14, ef], ?_⟩
      refine (HADD.out w' hb).mono ?_
      rintro e w'' ⟨va, vc, qa, qc, rfl, h1, h2, hb4⟩
      exact ⟨_, rfl, ⟨va, vc, qa, qc, rfl, h1.out.mono (fun g hl hg => ⟨⟨hl, .inr hg⟩, (by have := hb.size; omega)⟩), h2.out.mono (fun g hl hg => ⟨⟨hl, .inr hg⟩, (by have := hb.size; omega)⟩)⟩, hb4⟩
    | 7, ho =>
      simp at ho; subst ho
      have e15 : a'.eval (.tmp 15) = r := hvals 6 _ (by kernel_rfl) rfl
      show ∀ S, _ → (execOp a'.eval _).run _ w' = .ok (.value _) w'
      rintro S ⟨va, vc, qa, qc, rfl, _, _⟩
      try simp only [exT] at e15
      generalize a'.eval = ρ at *
      simp [execOp, go_sem, e15]
    | 8, ho =>
      simp at ho; subst ho
      have e8 : a'.eval (.tmp 8) = r := hvals 7 _ (by kernel_rfl) rfl
      show ∀ S, _ → (execOp a'.eval _).run _ w' = .ok (.value _) w'
      rintro S ⟨va, vc, qa, qc, rfl, _, _⟩
      try simp only [exT] at e8
      generalize a'.eval = ρ at *
      simp [execOp, go_sem, e8, exT]
    | 9, ho =>
      simp at ho; subst ho
      have e8 : a'.eval (.tmp 8) = r := hvals 7 _ (by kernel_rfl) rfl
      show ∀ S, _ → (execOp a'.eval _).run _ w' = .ok (.value _) w'
      rintro S ⟨va, vc, qa, qc, rfl, _, _⟩
      try simp only [exT] at e8
      generalize a'.eval = ρ at *
      simp [execOp, go_sem, e8, exT]
    | 10, ho =>
      simp at ho; subst ho
      have e8 : a'.eval (.tmp 8) = r := hvals 7 _ (by kernel_rfl) rfl
      show ∀ S, _ → (execOp a'.eval _).run _ w' = .ok (.value _) w'
      rintro S ⟨va, vc, qa, qc, rfl, _, _⟩
      try simp only [exT] at e8
      generalize a'.eval = ρ at *
      simp [execOp, go_sem, e8, exT]
    | 11, ho =>
      simp at ho; subst ho
      show (execOp a'.eval _).run _ w' = .ok (.value _) _
      generalize a'.eval = ρ at *
      simp [execOp, go_sem]
    | 12, ho =>
      simp at ho; subst ho
      have e16 : a'.eval (.tmp 16) = (exT 0) r := hvals 8 _ (by kernel_rfl) rfl
      show ∀ S, _ → ∀ t z g C, _ → _ → _ → _ → ∃ w'', (execOp a'.eval _).run _ w' = .ok .skip w'' ∧ _
      rintro S ⟨va, vc, qa, qc, rfl, _, _⟩ t z g C hz hC hs (eb : a'.eval (.tmp 5) = _)
      cases hz
      obtain ⟨u0, u1, u2, q0, q1, q2⟩ := cells3 hC hs
      have p0 := hC.free 0
      have p1 := hC.free 1
      have p2 := hC.free 2
      obtain ⟨m1, m2, m3⟩ := set3 hC hs (.int .i64 F1) (.slice va nA vc) (.slice qa nO qc)
      simp only [exT] at e16
      generalize a'.eval = ρ at *
      exact ⟨_, by simp [execOp, go_sem, e16, eb, q0, q1, q2, p0, p1, p2], m1, m2, rfl, m3, rfl, rfl, rfl⟩
    | 13, ho =>
      simp at ho; subst ho
      have e17 : a'.eval (.tmp 17) = (exT 1) r := hvals 9 _ (by kernel_rfl) rfl
      show ∀ S, _ → (execOp a'.eval _).run _ w' = .ok (.value _) w'
      rintro S ⟨va, vc, qa, qc, rfl, _, _⟩
      try simp only [exT] at e17
      generalize a'.eval = ρ at *
      simp [execOp, go_sem, e17, exT]
    | 14, ho =>
      simp at ho; subst ho
      have e18 : a'.eval (.tmp 18) = (exT 2) r := hvals 10 _ (by kernel_rfl) rfl
      show ∀ S, _ → (execOp a'.eval _).run _ w' = .ok (.value _) w'
      rintro S ⟨va, vc, qa, qc, rfl, _, _⟩
      try simp only [exT] at e18
      generalize a'.eval = ρ at *
      simp [execOp, go_sem, e18, exT]
    | i + 15, ho => simp at ho
  case fin =>
    rintro r gs Sr W hb ⟨va, vc, qa, qc, rfl, h1, h2⟩ hS hbox hap
    obtain ⟨p1, p2, C, p3, p4⟩ := hbox 11 _ _ (by decide) rfl
    have p5 := p4 12 _ (by decide) rfl
    subst p5
    have KP : Hid (Blk W (gs 11) #[.int .i64 F1, .slice va nA vc, .slice qa nO qc] 27) := p3
    simp only [putK, Kd.out, exT, Act.put, List.setIfInBounds_toArray, List.set_cons_succ, List.set_cons_zero, List.getElem?_toArray, List.getElem?_cons_zero, List.getElem?_cons_succ, Option.getD_some]
    obtain ⟨p, hp⟩ : ∃ p, p = gs 11 := ⟨_, rfl⟩
    rw [← hp] at KP p1
    rw [← hp]
    have HBW : Hid (Below w0.heap.size w0 W) := hb
    have H1 : Hid (GrsIn (fun g => w0.heap.size ≤ g) W (.slice va nA vc) L1) := h1.mono fun _ _ h => h.2
    have H2 : Hid (FrsIn (fun g => w0.heap.size ≤ g) W (.slice qa nO qc) O1) := h2.mono fun _ _ h => h.2
    clear hp h1 h2 hS hbox hap p2 p3 p4 hb
    have HMW : Hid (Blk W M #[.int .i64 last, .int .i64 next, .slice ha hn hc, .slice ba bn bc, .int .i64 first, .slice ga ln gc, .slice oa lo oc, .int .i64 c] 167) := HM0.out.below HBW.out HM0.out.lt
    have HRW : Hid (TrIn (fun g => S g ∧ g ≠ M) W (.slice ha hn hc) (.slice ba bn bc) (.slice ga ln gc) (.slice oa lo oc) t) := HR0.out.below HBW.out
    obtain ⟨x0, x1, x2⟩ := KP.out.three
    obtain ⟨y0, y1, y2, y3, y4, y5, y6, y7⟩ := HMW.out.eight
    have fM := HMW.out.free
    have lM := HMW.out.lt
    have hpM : ¬ p = M := by omega
    obtain ⟨V, hV⟩ : ∃ V, V = ((W.setCell ⟨M, 4, none⟩ (.int .i64 F1)).setCell ⟨M, 5, none⟩ (.slice va nA vc)).setCell ⟨M, 6, none⟩ (.slice qa nO qc) := ⟨_, rfl⟩
    have hVo : ∀ g, g ≠ M → V.heap[g]? = W.heap[g]? := fun g hg => by
      rw [hV, Below.heap_setCell _ _ _ _ (by exact hg), Below.heap_setCell _ _ _ _ (by exact hg), Below.heap_setCell _ _ _ _ (by exact hg)]
    have hVs : V.heap.size = W.heap.size := by rw [hV]; simp
    have HMV : Hid (Blk V M #[.int .i64 last, .int .i64 next, .slice ha hn hc, .slice ba bn bc, .int .i64 F1, .slice va nA vc, .slice qa nO qc, .int .i64 c] 167) := by
      have := ((HMW.out.set 4 (.int .i64 F1)).set 5 (.slice va nA vc)).set 6 (.slice qa nO qc)
      rw [hV]; simpa [Hid] using this
    have HKV : Hid (Kept [M] w V) := by
      rw [hV]
      have k := (Kept.refl [M] w).below (HB0.out.trans (HBW.out.mono HB0.out.size))
      exact ((k.setCell (p := ⟨M, 4, none⟩) (by simp) _).setCell (p := ⟨M, 5, none⟩) (by simp) _).setCell (p := ⟨M, 6, none⟩) (by simp) _
    have HRV : Hid (SlsIn (fun g => S g ∧ g ≠ M) V (.slice ha hn hc) t.h ∧ SlsIn (fun g => S g ∧ g ≠ M) V (.slice ba bn bc) t.o ∧ GrsIn (fun g => S g ∧ g ≠ M) V (.slice va nA vc) L1 ∧ FrsIn (fun g => S g ∧ g ≠ M) V (.slice qa nO qc) O1) := by
      have so : SameOn (fun g => g ≠ M) W V := ⟨by omega, fun g _ hg => hVo g hg⟩
      have hsz := HB0.out.size
      exact ⟨HRW.out.1.to (so.mono fun g h => h.2) (fun _ _ h => h), HRW.out.2.1.to (so.mono fun g h => h.2) (fun _ _ h => h), H1.out.to (so.mono fun g h => by omega) (fun g _ h => ⟨HSU.out g (by omega), by omega⟩), H2.out.to (so.mono fun g h => by omega) (fun g _ h => ⟨HSU.out g (by omega), by omega⟩)⟩
    clear hVo hVs H1 H2 HRW HMW
    cases B1
    case false =>
      go_wp2_with fail
      rw [← hV]
      go_wp2
      go_ret
      refine ⟨rfl, ⟨_, _, _, _, ?_, HRV.out⟩, HKV.out⟩
      have := HMV.out
      simpa using this
    case true =>
      obtain ⟨V2, hV2⟩ : ∃ X, X = V.setCell ⟨M, 7, none⟩ (.int .i64 (c + 1)) := ⟨_, rfl⟩
      have HMV2 : Hid (Blk V2 M #[.int .i64 last, .int .i64 next, .slice ha hn hc, .slice ba bn bc, .int .i64 F1, .slice va nA vc, .slice qa nO qc, .int .i64 (c + 1)] 167) := by
        have := HMV.out.set 7 (.int .i64 (c + 1))
        rw [hV2]; simpa [Hid] using this
      have HKV2 : Hid (Kept [M] w V2) := by rw [hV2]; exact HKV.out.setCell (p := ⟨M, 7, none⟩) (by simp) _
      have HRV2 : Hid (SlsIn (fun g => S g ∧ g ≠ M) V2 (.slice ha hn hc) t.h ∧ SlsIn (fun g => S g ∧ g ≠ M) V2 (.slice ba bn bc) t.o ∧ GrsIn (fun g => S g ∧ g ≠ M) V2 (.slice va nA vc) L1 ∧ FrsIn (fun g => S g ∧ g ≠ M) V2 (.slice qa nO qc) O1) := by
        have so : SameOn (fun g => S g ∧ g ≠ M) V V2 := ⟨by rw [hV2]; simp, fun g _ hg => by rw [hV2, Below.heap_setCell _ _ _ _ (by exact hg.2)]⟩
        exact ⟨HRV.out.1.to so (fun _ _ h => h), HRV.out.2.1.to so (fun _ _ h => h), HRV.out.2.2.1.to so (fun _ _ h => h), HRV.out.2.2.2.to so (fun _ _ h => h)⟩
      go_upto_region 4 with fail
      rw [← hV]
      clear hV x0 x1 x2 y0 y1 y2 y3 y4 y5 y6 y7 fM lM
      obtain ⟨y0, y1, y2, y3, y4, y5, y6, y7⟩ := HMV.out.eight
      have fM := HMV.out.free
      have lM := HMV.out.lt
      go_wp2_with fail
      rw [← hV2]
      go_wp2
      go_ret
      exact ⟨rfl, ⟨_, _, _, _, HMV2.out, HRV2.out⟩, HKV2.out⟩

end Go.Proofs.YtnpaejknoipicafGreat

namespace Go.Proofs.YtnpaejknoipicafGreat
open Go.RowKit Go.Sort

/-- does the slot at a place go on with what is open? -/
def qO (l : List Sk) (k : Nat) : Bool := if k = 0 then (l[k]?.getD Sk.zero).p.f && !(l[k]?.getD Sk.zero).p.e else !(l[k]?.getD Sk.zero).p.f && !(l[k]?.getD Sk.zero).p.e && folB (l[k - 1]?.getD Sk.zero) (l[k]?.getD Sk.zero)

theorem fit_ogo (l : List Sk) : ∀ (m : List Sk) (k : Nat), l.drop k = m → chkFit (qO l) k m = ogo (if k = 0 then none else some (l[k - 1]?.getD Sk.zero)) m
  | [], _, _ => by simp [chkFit, ogo]
  | x :: r, k, hd => by
    have hk : k < l.length := by
      by_cases h : k < l.length
      · exact h
      · rw [List.drop_eq_nil_of_le (by omega)] at hd; cases hd
    have hx : l[k]?.getD Sk.zero = x := by
      rw [List.drop_eq_getElem_cons hk] at hd
      injection hd with h1 h2
      rw [List.getElem?_eq_getElem hk, Option.getD_some, h1]
    have hr : l.drop (k + 1) = r := by
      rw [List.drop_eq_getElem_cons hk] at hd
      injection hd
    have ih := fit_ogo l r (k + 1) hr
    rw [if_neg (by omega), show k + 1 - 1 = k by omega, hx] at ih
    have hq : qO l k = !badO (if k = 0 then none else some (l[k - 1]?.getD Sk.zero)) x := by
      unfold qO badO
      rw [hx]
      by_cases h0 : k = 0
      · rw [if_pos h0, if_pos h0]; cases x.p.f <;> cases x.p.e <;> rfl
      · rw [if_neg h0, if_neg h0]
        simp only [nextB]
        cases x.p.f <;> cases x.p.e <;> simp
    simp only [chkFit, ogo]
    by_cases hc : x.chk = 0
    · rw [if_pos hc, if_pos hc, hq]
      cases hb : badO (if k = 0 then none else some (l[k - 1]?.getD Sk.zero)) x
      · simp only [Bool.not_false, if_true, Bool.false_eq_true, if_false]; exact ih
      · simp
    · rw [if_neg hc, if_neg hc]
theorem fit_open (l : List Sk) : chkFit (qO l) 0 l = ogo none l := fit_ogo l l 0 rfl

set_option maxHeartbeats 6000000 in
set_option maxRecDepth 100000 in
theorem isBegun_any (v : Value) (l : List Sk) (k : Nat) (w : World) (hv : Sls w v l) (hk : k < l.length) (hlen : l.length ≤ 9223372036854775807) (hn : ¬ k = 0 → 0 ≤ (l[k - 1]?.getD Sk.zero).n ∧ (l[k - 1]?.getD Sk.zero).n ≤ 1000000001) :
    Calls Tryz.prog 136 #[v, .int .i64 k] w fun e w' => e = .returned (.bool (qO l k)) ∧ Below w.heap.size w w' := by
  obtain ⟨ao, c, rfl, hc⟩ := hv.parts
  obtain ⟨n, hnn⟩ : ∃ n, n = l.length := ⟨_, rfl⟩
  rw [← hnn] at hc hk hlen ⊢
  obtain ⟨b, off, rfl, hb, hat⟩ := hc k hk
  obtain ⟨x, hx⟩ : ∃ x, x = l[k]?.getD Sk.zero := ⟨_, rfl⟩
  obtain ⟨r, hr⟩ : ∃ r, r = qO l k := ⟨_, rfl⟩
  rw [← hr]
  have hr' : r = if k = 0 then x.p.f && !x.p.e else !x.p.f && !x.p.e && folB (l[k - 1]?.getD Sk.zero) x := by rw [hr, hx]; rfl
  rw [← hx] at hat
  have hki : (k : Int) < (n : Int) := by omega
  obtain ⟨g0, g1, g2, g3, g4, g5, g6⟩ := hat
  clear hr hx hnn
  by_cases hk0 : k = 0
  · subst hk0
    rw [if_pos rfl] at hr'
    simp only [Nat.zero_mul, Nat.add_zero] at g0 g1 g2 g3 g4 g5 g6
    subst hr'
    clear hc hv hn
    have hn0 : (0 : Int) < (n : Int) := by omega
    cases hf : x.p.f <;> cases he : x.p.e <;> rw [hf] at g3 <;> rw [he] at g4
    all_goals
      go_enter Tryz.func136, Tryz.ntmps136
      go_wp2
      go_quiet (fail)
      go_wp2
      go_ret
      exact ⟨rfl, below_drewN ((Below.refl _ _).alloc (Nat.le_refl _) _) _⟩
  · obtain ⟨j, hj⟩ : ∃ j, j = k - 1 := ⟨_, rfl⟩
    rw [if_neg hk0, ← hj] at hr'
    have hyb := hn hk0
    rw [← hj] at hyb
    obtain ⟨b2, off2, e2, hb2, hat2⟩ := hc j (by omega)
    simp only [Option.some.injEq, Addr.mk.injEq, and_true] at e2
    obtain ⟨rfl, rfl⟩ := e2
    obtain ⟨y, hy⟩ : ∃ y, y = l[j]?.getD Sk.zero := ⟨_, rfl⟩
    rw [← hy] at hat2 hr' hyb
    obtain ⟨p0, p1, p2, p3, p4, p5, p6⟩ := hat2
    have hji : (j : Int) < (n : Int) := by omega
    have hj1 : (k : Int) - 1 = (j : Int) := by omega
    have hkb : ((k : Int) == 0) = false := by simp; omega
    clear hy hc hv hn hj hk0
    cases hf : x.p.f
    · cases he : x.p.e
      · obtain ⟨t, ht⟩ : ∃ t, t = folB y x := ⟨_, rfl⟩
        rw [hf, he, ← ht] at hr'
        simp only [Bool.not_false, Bool.true_and] at hr'
        subst hr'
        obtain ⟨W, hW⟩ : ∃ W, W = w.alloc (.cells #[.int .i64 x.p.seq, .int .i64 x.p.time, .bool x.p.f, .bool x.p.e, .bool x.p.k, .string x.p.t] 89) := ⟨_, rfl⟩
        have bW : Below w.heap.size w W := by rw [hW]; exact (Below.refl _ w).alloc (Nat.le_refl _) _
        have kW : Blk W w.heap.size #[.int .i64 x.p.seq, .int .i64 x.p.time, .bool x.p.f, .bool x.p.e, .bool x.p.k, .string x.p.t] 89 := by rw [hW]; exact Blk.new w _ _
        have cF : ∀ d os, Calls Tryz.prog 164 #[.agg #[.int .i64 y.n, .int .i64 y.p.seq, .int .i64 y.p.time, .bool y.p.f, .bool y.p.e, .bool y.p.k, .string y.p.t], .agg #[.int .i64 x.n, .int .i64 x.p.seq, .int .i64 x.p.time, .bool x.p.f, .bool x.p.e, .bool x.p.k, .string x.p.t]] (grow (redrawn W d) os) fun e w'' => e = .returned (.bool r) ∧ ∃ p : Regrown, w'' = grow (redrawn W p.d) p.os := fun d os =>
          Calls.regrown_of (by rw [ht]; exact follows_any y x (grow (redrawn W d) os) hyb)
        have BW : Hid (Below w.heap.size w W) := bW
        have cel : ∀ (i : Nat) (u : Value), w.cell? ⟨b, i, none⟩ = some u → W.cell? ⟨b, i, none⟩ = some u := fun i u h => (bW.cell (p := ⟨b, i, none⟩) hb).trans h
        have k2 := kW.cell (j := 2) (u := .bool x.p.f) rfl
        have k3 := kW.cell (j := 3) (u := .bool x.p.e) rfl
        rw [hf] at k2 g3 cF hW
        rw [he] at k3 g4 cF hW
        have q0 := cell_regrown (cel _ _ p0)
        have q1 := cell_regrown (cel _ _ p1)
        have q2 := cell_regrown (cel _ _ p2)
        have q3 := cell_regrown (cel _ _ p3)
        have q4 := cell_regrown (cel _ _ p4)
        have q5 := cell_regrown (cel _ _ p5)
        have q6 := cell_regrown (cel _ _ p6)
        have z0 := cell_regrown (cel _ _ g0)
        have z1 := cell_regrown (cel _ _ g1)
        have z2 := cell_regrown (cel _ _ g2)
        have z3 := cell_regrown (cel _ _ g3)
        have z4 := cell_regrown (cel _ _ g4)
        have z5 := cell_regrown (cel _ _ g5)
        have z6 := cell_regrown (cel _ _ g6)
        have m2 := cell_regrown k2
        have m3 := cell_regrown k3
        have hwr : IntKind.i64.wrap (j : Int) = (j : Int) := by rw [IntKind.wrap_i64]; omega
        clear p0 p1 p2 p3 p4 p5 p6 k2 k3 kW bW cel ht
        go_enter Tryz.func136, Tryz.ntmps136
        go_wp2
        rw [← hW]
        clear hW g0 g1 g2 g3 g4 g5 g6
        refine wp_region_quiet_below (by kernel_rfl) (by kernel_rfl) ?_
        repeat (quiet_step (exact cF _ _))
        refine wpQuiet_nil ?_
        intro _ hw'
        obtain ⟨⟨dq, osq⟩, hw''⟩ := hw'
        subst hw''
        have bR := below_regrown W dq osq
        have BR : Hid (Below w.heap.size w (grow (redrawn W dq) osq)) := BW.out.trans (bR.mono BW.out.size)
        clear bR
        go_wp2
        go_ret
        exact ⟨rfl, BR.out⟩
      · rw [hf, he] at hr'
        simp only [Bool.not_true, Bool.and_false, Bool.false_and] at hr'
        subst hr'
        rw [hf] at g3
        rw [he] at g4
        go_enter Tryz.func136, Tryz.ntmps136
        go_wp2
        go_quiet (fail)
        go_wp2
        go_ret
        exact ⟨rfl, below_drewN ((Below.refl _ _).alloc (Nat.le_refl _) _) _⟩
    · rw [hf] at hr'
      simp only [Bool.not_true, Bool.false_and] at hr'
      subst hr'
      rw [hf] at g3
      go_enter Tryz.func136, Tryz.ntmps136
      go_wp2
      go_quiet (fail)
      go_wp2
      go_ret
      exact ⟨rfl, below_drewN ((Below.refl _ _).alloc (Nat.le_refl _) _) _⟩

end Go.Proofs.YtnpaejknoipicafGreat

namespace Go.Proofs.YtnpaejknoipicafGreat
open Go.RowKit

theorem chkFit_all (q : Nat → Bool) : ∀ (l : List Sk) (i : Nat), chkFit q i l = 0 → ∀ x ∈ l, x.chk = 0
  | [], _, _, x, hx => absurd hx List.not_mem_nil
  | y :: r, i, h, x, hx => by
    simp only [chkFit] at h
    by_cases hy : y.chk = 0
    · rw [if_pos hy] at h
      cases hq : q i
      · rw [hq] at h; simp at h
      · rw [hq, if_pos rfl] at h
        rcases List.mem_cons.1 hx with rfl | hx
        · exact hy
        · exact chkFit_all q r (i + 1) h x hx
    · rw [if_neg hy] at h; exact absurd h hy

/-- a closure that tells q of a place where all ahead is right, and changes nothing that was there -/
def FitsR (g : Nat) (lb : Array Value) (q : Nat → Bool) (l : List Sk) (w : World) : Prop :=
  ∀ (W : World) (k : Nat), k < l.length → (∀ x ∈ l.take k, x.chk = 0) → Below w.heap.size w W → Calls Tryz.prog g (#[.int .i64 k] ++ lb) W fun e w' => e = .returned (.bool (q k)) ∧ Below W.heap.size W w'

set_option maxHeartbeats 1600000 in
theorem checkAllR_any (g : Nat) (lb : Array Value) (q : Nat → Bool) (eg : Enters Tryz.prog g) (v : Value) (l : List Sk) (w : World) (hv : Sls w v l) (hlen : l.length ≤ 9223372036854775807) (hq : FitsR g lb q l w) :
    Calls Tryz.prog 123 #[v, .func (.func g) #[] lb] w fun e w' => e = .returned (.int .i64 (chkFit q 0 l)) ∧ Below w.heap.size w w' := by
  obtain ⟨ao, c, rfl, hc⟩ := hv.parts
  have HC : Hid (∀ k, k < l.length → ∃ b off, ao = some ⟨b, off, none⟩ ∧ b < w.heap.size ∧ At7 w b (off + k * 7) (l[k]?.getD Sk.zero)) := hc
  have HQ : Hid (FitsR g lb q l w) := hq
  obtain ⟨n, hn⟩ : ∃ n, n = l.length := ⟨_, rfl⟩
  have HN : Hid (n = l.length) := hn
  have eg' : ∀ (args : Array Value) (w : World), (callFunc g args).run Tryz.prog w = .ok (.enter g args) w := eg
  rw [← hn] at hlen ⊢
  clear hc hv hn hq eg
  go_enter Tryz.func123, Tryz.ntmps123
  go_wp2
  go_loopw [10] (fun i wr => ∃ k : Nat, k ≤ n ∧ i = .int .i64 k ∧ Hid (chkFit q 0 (l.take k) = 0) ∧ Below w.heap.size w wr)
    (fun i _ => n - (intOf i).toNat)
  case atStart => exact ⟨0, Nat.zero_le _, rfl, (show chkFit q 0 (l.take 0) = 0 from rfl), Below.refl _ _⟩
  case round =>
    obtain ⟨k, hk, rfl, HK, hbel⟩ := hrel
    by_cases hlt : k < n
    · obtain ⟨b, off, rfl, hb, hat⟩ := HC.out k (by rw [← HN.out]; exact hlt)
      obtain ⟨c0, c1, c2, c3, c4, c5, c6⟩ := hat.below hbel hb
      obtain ⟨x, hx⟩ : ∃ x, x = l[k]?.getD Sk.zero := ⟨_, rfl⟩
      rw [← hx] at c0 c1 c2 c3 c4 c5 c6
      have HX : Hid (x = l[k]?.getD Sk.zero) := hx
      clear hx hat
      obtain ⟨ch, hch⟩ : ∃ ch, ch = x.chk := ⟨_, rfl⟩
      have HCH : Hid (ch = x.chk) := hch
      have hck : ∀ w : World, Calls Tryz.prog 91 #[x.val] w fun e w' => e = .returned (.int .i64 ch) ∧ Below w.heap.size w w' := fun w => by rw [hch]; exact slotCheck_any x w
      clear hch
      obtain ⟨qk, hqk⟩ : ∃ qk, qk = q k := ⟨_, rfl⟩
      have HQK : Hid (qk = q k) := hqk
      have hfit : ∀ W : World, Below w.heap.size w W → Calls Tryz.prog g (#[.int .i64 k] ++ lb) W fun e w' => e = .returned (.bool qk) ∧ Below W.heap.size W w' := fun W hW => by rw [hqk]; exact HQ.out W k (by rw [← HN.out]; exact hlt) (chkFit_all _ _ _ HK.out) hW
      have HF : Hid (∀ W : World, Below w.heap.size w W → Calls Tryz.prog g (#[.int .i64 k] ++ lb) W fun e w' => e = .returned (.bool qk) ∧ Below W.heap.size W w') := hfit
      clear hqk hfit
      obtain ⟨xn, seq, time, xf, xe, xk, xt⟩ := x
      simp only [Sk.val] at hck c0 c1 c2 c3 c4 c5 c6
      have HB : Hid (Below w.heap.size w wr) := hbel
      clear hbel
      by_cases h0 : ch = 0
      · subst h0
        cases qk
        · go_wp2_with (first
            | (go_at_call 91; refine (hck _).mono ?_; rintro e w1 ⟨rfl, hbw⟩; have HB1 : Hid (Below w.heap.size w w1) := HB.out.trans (((Below.refl _ _).alloc HB.out.size _).trans (hbw.mono (by have := HB.out.size; simp; omega))))
            | (go_at_fn g; refine (HF.out _ HB1.out).mono ?_; rintro e w2 ⟨rfl, hbw2⟩))
          go_ret
          exact ⟨by rw [chkFit_no2 (by rw [← HN.out]; exact hlt) HK.out (by rw [← HX.out]; exact HCH.out.symm) HQK.out.symm]; rfl, HB1.out.trans (hbw2.mono HB1.out.size)⟩
        · go_wp2_with (first
            | (go_at_call 91; refine (hck _).mono ?_; rintro e w1 ⟨rfl, hbw⟩; have HB1 : Hid (Below w.heap.size w w1) := HB.out.trans (((Below.refl _ _).alloc HB.out.size _).trans (hbw.mono (by have := HB.out.size; simp; omega))))
            | (go_at_fn g; refine (HF.out _ HB1.out).mono ?_; rintro e w2 ⟨rfl, hbw2⟩))
          go_roundw
          case rel => exact ⟨k + 1, by omega, by go_num, (show chkFit q 0 (l.take (k + 1)) = 0 from chkFit_ok (by rw [← HN.out]; exact hlt) HK.out (by rw [← HX.out]; exact HCH.out.symm) HQK.out.symm), HB1.out.trans (hbw2.mono HB1.out.size)⟩
          case measure => simp [intOf]; omega
      · go_wp2_with (go_at_call 91; refine (hck _).mono ?_; rintro e w' ⟨rfl, hbw⟩)
        go_ret
        exact ⟨by rw [chkFit_no1 (by rw [← HN.out]; exact hlt) HK.out (by rw [← HX.out, ← HCH.out]; exact h0), ← HX.out, ← HCH.out]; rfl, HB.out.trans (((Below.refl _ _).alloc HB.out.size _).trans (hbw.mono (by have := HB.out.size; simp; omega)))⟩
    · have hkl : k = n := by omega
      subst hkl
      go_wp2
      go_ret
      have hk0 := HK.out
      rw [HN.out, List.take_length] at hk0
      rw [hk0]
      exact ⟨rfl, hbel⟩

end Go.Proofs.YtnpaejknoipicafGreat

namespace Go.Proofs.YtnpaejknoipicafGreat
open Go.RowKit

set_option maxHeartbeats 400000 in
theorem begunLit_fits (v : Value) (l : List Sk) (B : Nat) (w : World) (hB : Blk w B #[v] 59) (hv : Sls w v l) (hlen : l.length ≤ 9223372036854775807) :
    FitsR 135 #[.pointer (some ⟨B, 0, none⟩)] (qO l) l w := fun W k hk hok hb => by
  have hBW := hB.below hb hB.lt
  have c0 := hBW.one
  have hcall := isBegun_any v l k W (hv.below hb) hk hlen (fun h0 => by
    have hk1 : k - 1 < l.length := by omega
    rw [List.getElem?_eq_getElem hk1, Option.getD_some]
    have := Sk.chk_zero (hok l[k - 1] (by
      rw [List.mem_iff_getElem]
      exact ⟨k - 1, by simp; omega, by simp⟩))
    omega)
  obtain ⟨q, hq⟩ : ∃ q, q = qO l k := ⟨_, rfl⟩
  rw [← hq] at hcall ⊢
  obtain ⟨a, c, rfl⟩ := hv.len
  clear hq hBW hB hv hok
  show Calls Tryz.prog 135 #[.int .i64 k, .pointer (some ⟨B, 0, none⟩)] W _
  go_enter Tryz.func135, Tryz.ntmps135
  go_wp2_with (go_at_call 136; refine hcall.mono ?_; rintro e w1 ⟨rfl, hbw⟩)
  go_ret
  exact ⟨rfl, hbw⟩

set_option maxHeartbeats 1000000 in
theorem checkBuilder_any (v : Value) (l : List Sk) (w : World) (hv : Sls w v l) (hlen : l.length ≤ 9223372036854775807) :
    Calls Tryz.prog 90 #[.agg #[v]] w fun e w' => e = .returned (.int .i64 (ochk l)) ∧ Below w.heap.size w w' := by
  obtain ⟨a, c, hva⟩ := hv.len
  obtain ⟨n, hn⟩ : ∃ n, n = l.length := ⟨_, rfl⟩
  rw [← hn] at hva
  have hr : ochk l = if 4 ≤ n then 2 else ogo none l := by rw [hn]; rfl
  rw [hr]
  have hln : n ≤ 9223372036854775807 := by omega
  have hcA : Calls Tryz.prog 123 #[v, .func (.func 135) #[] #[.pointer (some ⟨w.heap.size, 0, none⟩)]] (w.alloc (.cells #[v] 59)) fun e w' => e = .returned (.int .i64 (ogo none l)) ∧ Below (w.alloc (.cells #[v] 59)).heap.size (w.alloc (.cells #[v] 59)) w' := by
    rw [← fit_open]
    exact checkAllR_any 135 #[.pointer (some ⟨w.heap.size, 0, none⟩)] (qO l) (enters_of Tryz.func135 (by kernel_rfl) rfl) v l _ (hv.alloc _) hlen (begunLit_fits v l w.heap.size _ (Blk.new w _ _) (hv.alloc _) hlen)
  obtain ⟨r, hrr⟩ : ∃ r, r = ogo none l := ⟨_, rfl⟩
  rw [← hrr] at hcA ⊢
  have HA : Hid (Calls Tryz.prog 123 #[v, .func (.func 135) #[] #[.pointer (some ⟨w.heap.size, 0, none⟩)]] (w.alloc (.cells #[v] 59)) fun e w' => e = .returned (.int .i64 r) ∧ Below (w.alloc (.cells #[v] 59)).heap.size (w.alloc (.cells #[v] 59)) w') := hcA
  clear hr hrr hcA hv hn hlen
  subst hva
  by_cases h4 : 4 ≤ n
  · rw [if_pos h4]
    go_enter Tryz.func90, Tryz.ntmps90
    go_wp2
    go_ret
    exact ⟨rfl, by go_grown⟩
  · rw [if_neg h4]
    go_enter Tryz.func90, Tryz.ntmps90
    go_wp2_with fail
    refine HA.out.mono ?_
    rintro e w1 ⟨rfl, hb1⟩
    have B1 : Hid (Below w.heap.size w w1) := ((Below.refl _ w).alloc (Nat.le_refl _) _).trans (hb1.mono (by simp))
    clear hb1
    go_wp2
    go_ret
    exact ⟨rfl, B1.out⟩

/-- the errno of Add, and what comes of it -/
def addE (l : List Sk) (x : Sk) : Int := if ochk l = 0 then x.chk else ochk l
theorem frameAdd_bad (v : Value) (l : List Sk) (x : Sk) (w : World) (hv : Sls w v l) (hlen : l.length ≤ 9223372036854775807) (hE : ¬ addE l x = 0) :
    Calls Tryz.prog 46 #[.agg #[v], x.val] w fun e w' => e = .returned (.tuple #[.agg #[.slice none 0 0], .agg #[.int .i64 0, .bool false, .slice none 0 0], .bool false, .int .i64 (addE l x)]) ∧ Below w.heap.size w w' :=
  frameAdd_no (ochk l) v l x w hv (fun w' hs => checkBuilder_any v l w' hs hlen) (addE l x) rfl hE
theorem addE_zero {l : List Sk} {x : Sk} (h : addE l x = 0) : ochk l = 0 ∧ x.chk = 0 ∧ l.length ≤ 3 ∧ ∀ y ∈ l, y.chk = 0 := by
  unfold addE at h
  by_cases h0 : ochk l = 0
  · rw [if_pos h0] at h
    have h1 := h0
    unfold ochk at h1
    by_cases h4 : 4 ≤ l.length
    · rw [if_pos h4] at h1; omega
    · rw [if_neg h4] at h1
      exact ⟨h0, h, by omega, ogo_all l none h1⟩
  · rw [if_neg h0] at h; exact absurd h h0
theorem frameAdd_good (v : Value) (l : List Sk) (x : Sk) (w : World) (hv : Sls w v l) (hE : addE l x = 0) :
    Calls Tryz.prog 46 #[.agg #[v], x.val] w fun e w' => ∃ ov pv, e = .returned (.tuple #[.agg #[ov], .agg #[.int .i64 (addT l x), .bool (addK l x), pv], .bool (addW l x), .int .i64 0]) ∧
      (Sls w' ov (addO l x) ∧ Strs w' pv (addP l x) ∧ (∀ g, ov.ownBlock = some g → w.heap.size ≤ g ∧ g < w'.heap.size) ∧ ∀ g, pv.ownBlock = some g → w.heap.size ≤ g ∧ g < w'.heap.size) ∧ Below w.heap.size w w' := by
  obtain ⟨h0, hx, h3, hl⟩ := addE_zero hE
  exact frameAdd_ok v l x w hv (fun w' hs => by rw [← h0]; exact checkBuilder_any v l w' hs (by omega)) h3 hl hx

/-- what Add answers: nothing beside an errno -/
structure AddR where
  o : List Sk
  t : Int
  k : Bool
  p : List ByteArray
  b : Bool
def addR (l : List Sk) (x : Sk) : AddR := if addE l x = 0 then ⟨addO l x, addT l x, addK l x, addP l x, addW l x⟩ else ⟨[], 0, false, [], false⟩
theorem frameAdd_any (v : Value) (l : List Sk) (x : Sk) (w : World) (hv : Sls w v l) (hlen : l.length ≤ 9223372036854775807) :
    Calls Tryz.prog 46 #[.agg #[v], x.val] w fun e w' => ∃ ov pv, e = .returned (.tuple #[.agg #[ov], .agg #[.int .i64 (addR l x).t, .bool (addR l x).k, pv], .bool (addR l x).b, .int .i64 (addE l x)]) ∧
      (Sls w' ov (addR l x).o ∧ Strs w' pv (addR l x).p ∧ (∀ g, ov.ownBlock = some g → w.heap.size ≤ g ∧ g < w'.heap.size) ∧ ∀ g, pv.ownBlock = some g → w.heap.size ≤ g ∧ g < w'.heap.size) ∧ Below w.heap.size w w' := by
  by_cases hE : addE l x = 0
  · have hr : addR l x = ⟨addO l x, addT l x, addK l x, addP l x, addW l x⟩ := by unfold addR; rw [if_pos hE]
    rw [hr, hE]
    exact frameAdd_good v l x w hv hE
  · have hr : addR l x = ⟨[], 0, false, [], false⟩ := by unfold addR; rw [if_neg hE]
    rw [hr]
    refine (frameAdd_bad v l x w hv hlen hE).mono ?_
    rintro e w' ⟨rfl, hb⟩
    exact ⟨_, _, rfl, ⟨Sls.nil _, Strs.nil _, fun g hg => by simp [Value.ownBlock] at hg, fun g hg => by simp [Value.ownBlock] at hg⟩, hb⟩

end Go.Proofs.YtnpaejknoipicafGreat
