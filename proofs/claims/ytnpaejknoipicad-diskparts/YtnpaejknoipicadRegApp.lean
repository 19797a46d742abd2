/-
  The region of 'append(append([]T{}, b.f...), x)', whatever order it draws.
-/
import Derived.Test.YtnpaejknoipicadRegInv
import Derived.Test.YtnpaejknoipicadCopyMany
import Derived.Test.YtnpaejknoipicadBlocks
import Derived.Test.YtnpaejknoipicadSlices
namespace Go.Proofs.Ytnpaejknoipicad
open Go.RowKit

/-- which ones must have come ahead -/
def waits (l : List Oper) (i j : Nat) : Bool := match l[i]? with
  | none => false
  | some o => o.after.toList.any fun e => e.on == j && Region.binds .any e
theorem waits_spec {l : List Oper} {i j : Nat} {o : Oper} {L : Array Bool} (h : waits l i j = true) (ho : l[i]? = some o) (hr : ∀ e ∈ o.after, Region.binds .any e = true → L.getD e.on false = true) : L.getD j false = true := by
  unfold waits at h
  rw [ho] at h
  obtain ⟨e, he, h1⟩ := List.any_eq_true.1 h
  simp only [Bool.and_eq_true, beq_iff_eq] at h1
  rw [← h1.1]; exact hr e (by simpa using he) h1.2

section
variable {P : Program} {Q : Exit → Act → World → Prop}

theorem oper_wp_ok {o : Oper} {a : Act} {w w' : World} {v : Value} {K : Act → World → Prop} (h : (execOp a.eval o).run P w = .ok (.value v) w') (hk : K (a.put o.dst v) w') : o.wp P a w K Q := by
  unfold Oper.wp; rw [h]; exact hk

theorem getD_some {L : Array Bool} {j i : Nat} (h : L.getD j false = true) : (L.setIfInBounds i true).getD j false = true := by
  by_cases e : j = i
  · subst e
    have : j < L.size := by
      by_cases hh : j < L.size
      · exact hh
      · simp [Array.getD_eq_getD_getElem?, Array.getElem?_eq_none (Nat.le_of_not_lt hh)] at h
    simp [Array.getD_eq_getD_getElem?, this]
  · rw [getD_set_other e]; exact h
theorem getD_back {L : Array Bool} {j i : Nat} (hne : j ≠ i) (h : (L.setIfInBounds i true).getD j false = true) : L.getD j false = true := by
  rw [getD_set_other hne] at h; exact h
theorem listed_no {L : Array Bool} {i : Nat} (h : L[i]? = some false) : ¬ L.getD i false = true := by simp [Array.getD_eq_getD_getElem?, h]

theorem setfun {L : Array Bool} {i : Nat} (h : L[i]? = some false) : (fun j => (L.setIfInBounds i true).getD j false) = fun j => decide (j = i) || L.getD j false := by
  funext j
  by_cases e : j = i
  · subst e; rw [getD_set_at h]; simp
  · rw [getD_set_other e]; simp [e]

/-- what 'append([]T{}, v...)' leaves -/
def App1 (P : Program) (W : World) (T E ty : TypeId) (size n : Nat) (cells : List Value) (v : Value) : Prop :=
  ∀ (w' : World) (g : Nat), Below W.heap.size W w' → W.heap.size ≤ g → Blk w' g #[] E → ∃ v' w2, (Builtin.append_ #[T, T] ty #[.slice (some ⟨g, 0, none⟩) 0 0, v]).run P w' = .ok v' w2 ∧
    w2.ownsRow W.heap.size E size v' n cells ∧ w'.grownBy w2 (some g) ∧ (v'.ownBlock = some g ∨ ∀ g', v'.ownBlock = some g' → w'.heap.size ≤ g')

theorem run_append_nil (w : World) (T ty E : TypeId) (i : TypeInfo) (ht : P.underlying T = some (.slice E)) (hi : P.info? E = some i) (g n c c' : Nat) (hn : n ≤ c) :
    (Builtin.append_ #[T, T] ty #[.slice (some ⟨g, 0, none⟩) n c, .slice none 0 c']).run P w = .ok (.slice (some ⟨g, 0, none⟩) n c) w := by
  simp [Builtin.append_, run_underlying ht, sizeOf, typeInfo, hi, Builtin.lenOf, hn, run_firstCells_none, storeCells]

theorem app1_any (W : World) (T E ty : TypeId) (i : TypeInfo) (z : Value) (size bytes : Nat) (ht : P.underlying T = some (.slice E)) (hi : P.info? E = some i) (hz : i.zero = some z) (hsize : i.size = size) (hby : i.bytes = bytes) (hzs : z.cells.size = size) (hsz : 0 < size)
    (n : Nat) (cells : List Value) (v : Value) (hv : Sl W v n size cells) (hc1 : ∀ u ∈ cells, u.oneCell' = true) (h63 : n ≤ maxLen) (hbytes : n * bytes ≤ 140737488355328) : App1 P W T E ty size n cells v := by
  intro w' g hb hg hk
  have own : w'.ownsRow W.heap.size E size (.slice (some ⟨g, 0, none⟩) 0 0) 0 [] := ⟨by simp, .inr ⟨g, 0, #[], rfl, hg, hk, Nat.le_refl _, by unfold maxLen; omega, by simp, by simp⟩⟩
  have main : ∀ (ad : Addr) (c : Nat), v = .slice (some ad) n c → (∀ j u, cells[j]? = some u → w'.cell? (ad.add j) = some u) → ∃ v' w2, (Builtin.append_ #[T, T] ty #[.slice (some ⟨g, 0, none⟩) 0 0, v]).run P w' = .ok v' w2 ∧
      w2.ownsRow W.heap.size E size v' n cells ∧ w'.grownBy w2 (some g) ∧ (v'.ownBlock = some g ∨ ∀ g', v'.ownBlock = some g' → w'.heap.size ≤ g') := fun ad c e hcn => by
    subst e
    obtain ⟨v', w2, hrun, g2, g3, g4⟩ := run_append_own2 (P := P) w' W.heap.size T ty E i z size bytes ht hi hz hsize hby hzs hsz (.slice (some ⟨g, 0, none⟩) 0 0) 0 [] own ad n c cells hv.1 hcn hc1 (by omega) (by rw [Nat.zero_add]; exact hbytes) hb.size
    rw [Nat.zero_add, List.nil_append] at g2
    exact ⟨v', w2, hrun, g2, g3, g4⟩
  obtain ⟨hl, ⟨h0, a, c, rfl⟩ | ⟨b, off, c, rfl, hlt, hc⟩⟩ := hv
  · subst h0
    have hce : cells = [] := List.eq_nil_of_length_eq_zero (by simpa using hl)
    subst hce
    cases a with
    | some ad => exact main ad c rfl (fun j u h => by simp at h)
    | none => exact ⟨_, _, run_append_nil w' T ty E i ht hi g 0 0 c (Nat.le_refl _), own, ⟨rfl, rfl, rfl, Nat.le_refl _, fun _ _ _ => rfl⟩, .inl rfl⟩
  · exact main ⟨b, off, none⟩ c rfl (fun j u hj => by rw [Addr.add_lit]; exact (hb.cell (p := ⟨b, off + j, none⟩) hlt).trans (hc j u hj))

/-- what is known of those that came -/
structure App2 (W : World) (E : TypeId) (size n : Nat) (cells xc : List Value) (v1 v2 v4 : Value) (ls : Nat → Bool) (vs : Nat → Value) (w : World) : Prop where
  below : Below W.heap.size W w
  f0 : ls 0 = true → ls 3 = false → ∃ g, vs 0 = .slice (some ⟨g, 0, none⟩) 0 0 ∧ W.heap.size ≤ g ∧ Blk w g #[] E
  f1 : ls 1 = true → vs 1 = v1
  f2 : ls 2 = true → vs 2 = v2
  f3 : ls 3 = true → ls 6 = false → w.ownsRow W.heap.size E size (vs 3) n cells
  f4 : ls 4 = true → vs 4 = v4
  f5 : ls 5 = true → ls 6 = false → ∃ g, vs 5 = .slice (some ⟨g, 0, none⟩) 1 1 ∧ W.heap.size ≤ g ∧ Blk w g xc.toArray E ∧ (ls 3 = true → (vs 3).ownBlock ≠ some g)
  f6 : ls 6 = true → w.ownsRow W.heap.size E size (vs 6) (n + 1) (cells ++ xc) ∧ ls 3 = true ∧ ls 5 = true
  f7 : ls 7 = true → vs 7 = vs 6 ∧ ls 6 = true

theorem region_app2 {id : Nat} {a : Act} {w : World} {o0 o1 o2 o3 o4 o5 o6 o7 : Oper} (hm : P.follows .mixedOrders = true)
    (hB : regOk [o0, o1, o2, o3, o4, o5, o6, o7] = true)
    (hw : (waits [o0, o1, o2, o3, o4, o5, o6, o7] 2 1 && waits [o0, o1, o2, o3, o4, o5, o6, o7] 3 0 && waits [o0, o1, o2, o3, o4, o5, o6, o7] 3 2 && waits [o0, o1, o2, o3, o4, o5, o6, o7] 5 4 && waits [o0, o1, o2, o3, o4, o5, o6, o7] 6 3 && waits [o0, o1, o2, o3, o4, o5, o6, o7] 6 5 && waits [o0, o1, o2, o3, o4, o5, o6, o7] 7 6) = true)
    (T E : TypeId) (i : TypeInfo) (z : Value) (size bytes : Nat) (ht : P.underlying T = some (.slice E)) (hi : P.info? E = some i) (hz : i.zero = some z) (hsize : i.size = size) (hby : i.bytes = bytes) (hzs : z.cells.size = size) (hsz : 0 < size)
    (k0 k1 k2 k3 k4 k5 k6 k7 sb : Nat) (d0 : o0.dst = some k0) (d1 : o1.dst = some k1) (d2 : o2.dst = some k2) (d3 : o3.dst = some k3) (d4 : o4.dst = some k4) (d5 : o5.dst = some k5) (d6 : o6.dst = some k6) (d7 : o7.dst = some k7)
    (hsz1 : ([k0, k1, k2, k3, k4, k5, k6, k7].all fun k => decide (k < a.tmps.size)) = true)
    (n : Nat) (cells : List Value) (v2 : Value) (happ : App1 P w T E o3.type size n cells v2)
    (xc : List Value) (hxl : xc.length = size) (hx1 : ∀ u ∈ xc, u.oneCell' = true)
    (v1 v4 : Value) (sx : Nat)
    (hsb : ([k0, k1, k2, k3, k4, k5, k6, k7].all fun k => decide (k ≠ sb) && decide (k ≠ sx)) = true)
    (r0 : ∀ (a' : Act) (w' : World), (execOp a'.eval o0).run P w' = .ok (.value (.slice (some ⟨w'.heap.size, 0, none⟩) 0 0)) (w'.alloc (.cells #[] E)))
    (r1 : ∀ (a' : Act) (w' : World), a'.eval (.tmp sb) = a.eval (.tmp sb) → (execOp a'.eval o1).run P w' = .ok (.value v1) w')
    (r2 : ∀ (a' : Act) (w' : World), a'.eval (.tmp k1) = v1 → Below w.heap.size w w' → (execOp a'.eval o2).run P w' = .ok (.value v2) w')
    (r3 : o3.op = .call { callee := .builtin .append, args := #[.tmp k0, .tmp k2], argTypes := #[T, T] })
    (r4 : ∀ (a' : Act) (w' : World), a'.eval (.tmp sx) = a.eval (.tmp sx) → Below w.heap.size w w' → (execOp a'.eval o4).run P w' = .ok (.value v4) w')
    (r5 : ∀ (a' : Act) (w' : World), a'.eval (.tmp k4) = v4 → (execOp a'.eval o5).run P w' = .ok (.value (.slice (some ⟨w'.heap.size, 0, none⟩) 1 1)) (w'.alloc (.cells xc.toArray E)))
    (r6 : o6.op = .call { callee := .builtin .append, args := #[.tmp k3, .tmp k5], argTypes := #[T, T] })
    (r7 : ∀ (a' : Act) (w' : World), (execOp a'.eval o7).run P w' = .ok (.value (a'.eval (.tmp k6))) w')
    (h63 : n + 1 ≤ maxLen) (hbytes : (n + 1) * bytes ≤ 140737488355328)
    (hend : ∀ (u0 u3 u5 v : Value) (w' : World), w'.ownsRow w.heap.size E size v (n + 1) (cells ++ xc) → Below w.heap.size w w' →
      Q .normal ((((((((a.put o0.dst u0).put o1.dst v1).put o2.dst v2).put o3.dst u3).put o4.dst v4).put o5.dst u5).put o6.dst v).put o7.dst v) w') :
    (Code.region id [o0, o1, o2, o3, o4, o5, o6, o7].toArray true).wp P Q a w := by
  simp only [Bool.and_eq_true] at hw
  obtain ⟨⟨⟨⟨⟨⟨w21, w30⟩, w32⟩, w54⟩, w63⟩, w65⟩, w76⟩ := hw
  have hap : dstsApart [o0, o1, o2, o3, o4, o5, o6, o7] = true := by
    simp only [regOk, Bool.and_eq_true] at hB; exact hB.1.1
  simp only [List.all_cons, List.all_nil, Bool.and_true, Bool.and_eq_true, decide_eq_true_eq] at hsz1 hsb
  obtain ⟨z0, z1, z2, z3, z4, z5, z6, z7⟩ := hsz1
  obtain ⟨⟨q0, y0⟩, ⟨q1, y1⟩, ⟨q2, y2⟩, ⟨q3, y3⟩, ⟨q4, y4⟩, ⟨q5, y5⟩, ⟨q6, y6⟩, q7, y7⟩ := hsb
  have hval : ∀ (L : Array Bool) (vs : Nat → Value) (j : Nat) (o : Oper) (k : Nat), [o0, o1, o2, o3, o4, o5, o6, o7][j]? = some o → o.dst = some k → k < a.tmps.size → L.getD j false = true → (putL L vs 0 [o0, o1, o2, o3, o4, o5, o6, o7] a).eval (.tmp k) = vs j :=
    fun L vs j o k h1 h2 h3 h4 => putL_at h4 _ 0 a o hap (Nat.zero_le _) (by simpa using h1) h2 h3
  have hoth : ∀ (L : Array Bool) (vs : Nat → Value) (s : Nat), k0 ≠ s → k1 ≠ s → k2 ≠ s → k3 ≠ s → k4 ≠ s → k5 ≠ s → k6 ≠ s → k7 ≠ s → (putL L vs 0 [o0, o1, o2, o3, o4, o5, o6, o7] a).eval (.tmp s) = a.eval (.tmp s) :=
    fun L vs s e0 e1 e2 e3 e4 e5 e6 e7 => putL_other _ 0 a (fun p hp t ht e => by
      injection e with e
      subst e
      simp only [List.mem_cons, List.not_mem_nil, or_false] at hp
      rcases hp with rfl | rfl | rfl | rfl | rfl | rfl | rfl | rfl
      · rw [d0] at ht; injection ht with ht; exact e0 ht
      · rw [d1] at ht; injection ht with ht; exact e1 ht
      · rw [d2] at ht; injection ht with ht; exact e2 ht
      · rw [d3] at ht; injection ht with ht; exact e3 ht
      · rw [d4] at ht; injection ht with ht; exact e4 ht
      · rw [d5] at ht; injection ht with ht; exact e5 ht
      · rw [d6] at ht; injection ht with ht; exact e6 ht
      · rw [d7] at ht; injection ht with ht; exact e7 ht)
  refine wp_region_inv hm hB (fun L vs w' => App2 w E size n cells xc v1 v2 v4 (fun j => L.getD j false) vs w') ?_ ?_ ?_
  · have hno : ∀ j, ¬ (Array.replicate [o0, o1, o2, o3, o4, o5, o6, o7].length false).getD j false = true := fun j => by
      simp [Array.getD_eq_getD_getElem?, Array.getElem?_replicate]; split <;> simp
    exact ⟨⟨rfl, rfl, rfl, Nat.le_refl _, fun _ _ => rfl⟩, fun h => absurd h (hno 0), fun h => absurd h (hno 1), fun h => absurd h (hno 2), fun h => absurd h (hno 3), fun h => absurd h (hno 4), fun h => absurd h (hno 5), fun h => absurd h (hno 6), fun h => absurd h (hno 7)⟩
  · intro L vs w' F j o ho hL hr
    have nj : L.getD j false = false := by simpa using listed_no hL
    have hset := setfun hL
    have hv := hval L vs
    have ho2 := hoth L vs
    have hwt : ∀ k, waits [o0, o1, o2, o3, o4, o5, o6, o7] j k = true → L.getD k false = true := fun k hk => waits_spec hk ho hr
    rw [hset]
    clear hset hr hL
    obtain ⟨ls, hls⟩ : ∃ ls : Nat → Bool, ls = fun j => L.getD j false := ⟨_, rfl⟩
    have hlsj : ∀ j, L.getD j false = ls j := fun j => by rw [hls]
    simp only [hlsj] at F nj hv hwt ⊢
    obtain ⟨fb, f0, f1, f2, f3, f4, f5, f6, f7⟩ := F
    match j, ho with
    | 0, ho =>
      simp at ho; subst ho
      refine oper_wp_ok (r0 _ w') ⟨_, rfl, ?_⟩
      have hb : Below w'.heap.size w' (w'.alloc (.cells #[] E)) := (Below.refl _ _).alloc (Nat.le_refl _) _
      refine ⟨fb.trans (hb.mono fb.size), fun _ _ => ⟨w'.heap.size, by rw [upd_at], fb.size, Blk.new _ _ _⟩, by simpa [upd] using f1, by simpa [upd] using f2, ?_, by simpa [upd] using f4, ?_, ?_, by simpa [upd] using f7⟩
      · simp only [upd]; simp; exact fun h1 h2 => (f3 h1 h2).alloc _
      · simp only [upd]; simp
        intro h1 h2
        obtain ⟨g, e1, e2, e3, e4⟩ := f5 h1 h2
        exact ⟨g, e1, e2, e3.alloc _, e4⟩
      · simp only [upd]; simp; exact fun h1 => ⟨(f6 h1).1.alloc _, (f6 h1).2⟩
    | 1, ho =>
      simp at ho; subst ho
      refine oper_wp_ok (r1 _ w' (ho2 _ q0 q1 q2 q3 q4 q5 q6 q7)) ⟨_, rfl, ?_⟩
      exact ⟨fb, by simpa [upd] using f0, by simp [upd], by simpa [upd] using f2, by simpa [upd] using f3, by simpa [upd] using f4, by simpa [upd] using f5, by simpa [upd] using f6, by simpa [upd] using f7⟩
    | 2, ho =>
      simp at ho; subst ho
      have l1 := hwt 1 w21
      refine oper_wp_ok (r2 _ w' ((hv 1 _ k1 rfl d1 z1 l1).trans (f1 l1)) fb) ⟨_, rfl, ?_⟩
      exact ⟨fb, by simpa [upd] using f0, by simpa [upd] using f1, by simp [upd], by simpa [upd] using f3, by simpa [upd] using f4, by simpa [upd] using f5, by simpa [upd] using f6, by simpa [upd] using f7⟩
    | 3, ho =>
      simp at ho; subst ho
      have l0 := hwt 0 w30
      have l2 := hwt 2 w32
      have n6 : ls 6 = false := by
        cases h : ls 6
        · rfl
        · rw [(f6 h).2.1] at nj; cases nj
      obtain ⟨g, e1, e2, e3⟩ := f0 l0 nj
      have ev0 := (hv 0 _ k0 rfl d0 z0 l0).trans e1
      have ev2 := (hv 2 _ k2 rfl d2 z2 l2).trans (f2 l2)
      obtain ⟨v', w2, hrun, g2, g3, g4⟩ := happ w' g fb e2 e3
      have hex : (execOp (putL L vs 0 [o0, o1, o2, o3, o4, o5, o6, o7] a).eval o3).run P w' = .ok (.value v') w2 := by
        simp [execOp, r3, resolve, invoke, builtin, ev0, ev2, hrun, Result.andThen]
      refine oper_wp_ok hex ⟨_, rfl, ?_⟩
      have hb2 : Below w.heap.size w w2 := fb.grown g3 fb.size (fun j hj => by injection hj with hj; omega)
      refine ⟨hb2, by simp, by simpa [upd] using f1, by simpa [upd] using f2, ?_, by simpa [upd] using f4, ?_, by simp [n6], by simpa [upd] using f7⟩
      · simp only [upd]; simp; exact fun _ => g2
      · simp only [upd]; simp
        intro h1 h2
        obtain ⟨g', e1', e2', e3', e4'⟩ := f5 h1 h2
        have hne : g' ≠ g := fun e => by
          subst e
          have h1 : w'.heap[g']? = some (.cells #[] E (0, 0)) := e3
          have h2 : w'.heap[g']? = some (.cells xc.toArray E (0, 0)) := e3'
          rw [h1] at h2
          have h3 : xc = [] := by simpa using h2.symm
          rw [h3] at hxl
          simp at hxl; omega
        refine ⟨g', e1', e2', (g3.block g' e3'.lt (by intro e; injection e with e; exact hne e)).trans e3', fun e => ?_⟩
        rcases g4 with g4 | g4
        · rw [g4] at e; injection e with e; exact hne e.symm
        · have := g4 g' e; have := e3'.lt; omega
    | 4, ho =>
      simp at ho; subst ho
      refine oper_wp_ok (r4 _ w' (ho2 _ y0 y1 y2 y3 y4 y5 y6 y7) fb) ⟨_, rfl, ?_⟩
      exact ⟨fb, by simpa [upd] using f0, by simpa [upd] using f1, by simpa [upd] using f2, by simpa [upd] using f3, by simp [upd], by simpa [upd] using f5, by simpa [upd] using f6, by simpa [upd] using f7⟩
    | 5, ho =>
      simp at ho; subst ho
      have l4 := hwt 4 w54
      refine oper_wp_ok (r5 _ w' ((hv 4 _ k4 rfl d4 z4 l4).trans (f4 l4))) ⟨_, rfl, ?_⟩
      have hb : Below w'.heap.size w' (w'.alloc (.cells xc.toArray E)) := (Below.refl _ _).alloc (Nat.le_refl _) _
      refine ⟨fb.trans (hb.mono fb.size), ?_, by simpa [upd] using f1, by simpa [upd] using f2, ?_, by simpa [upd] using f4, ?_, ?_, by simpa [upd] using f7⟩
      · simp only [upd]; simp
        intro h1 h2
        obtain ⟨g, e1, e2, e3⟩ := f0 h1 h2
        exact ⟨g, e1, e2, e3.alloc _⟩
      · simp only [upd]; simp; exact fun h1 h2 => (f3 h1 h2).alloc _
      · simp only [upd]; simp
        intro h6
        exact ⟨fb.size, Blk.new _ _ _, fun h3 e => by have := ((f3 h3 h6).lt _ e).2; omega⟩
      · simp only [upd]; simp; exact fun h1 => ⟨(f6 h1).1.alloc _, (f6 h1).2.1⟩
    | 6, ho =>
      simp at ho; subst ho
      have l3 := hwt 3 w63
      have l5 := hwt 5 w65
      have n7 : ls 7 = false := by
        cases h : ls 7
        · rfl
        · rw [(f7 h).2] at nj; cases nj
      obtain ⟨g, e1, e2, e3, e4⟩ := f5 l5 nj
      have ev3 := hv 3 _ k3 rfl d3 z3 l3
      have ev5 := (hv 5 _ k5 rfl d5 z5 l5).trans e1
      obtain ⟨v', w2, hrun, g2, g3, g4⟩ := run_append_own2 (P := P) w' w.heap.size T o6.type E i z size bytes ht hi hz hsize hby hzs hsz (vs 3) n cells (f3 l3 nj) ⟨g, 0, none⟩ 1 1 xc (by rw [hxl, Nat.one_mul]) (fun j u hj => by rw [Addr.add_lit, Nat.zero_add]; exact e3.cell (by simpa using hj)) hx1 h63 hbytes fb.size
      have hex : (execOp (putL L vs 0 [o0, o1, o2, o3, o4, o5, o6, o7] a).eval o6).run P w' = .ok (.value v') w2 := by
        simp [execOp, r6, resolve, invoke, builtin, ev3, ev5, hrun, Result.andThen]
      refine oper_wp_ok hex ⟨_, rfl, ?_⟩
      have hb2 : Below w.heap.size w w2 := fb.grown g3 fb.size (fun j hj => ((f3 l3 nj).lt j hj).1)
      refine ⟨hb2, ?_, by simpa [upd] using f1, by simpa [upd] using f2, by simp, by simpa [upd] using f4, by simp, ?_, by simp [n7]⟩
      · simp [l3]
      · simp only [upd]; simp; exact ⟨g2, l3, l5⟩
    | 7, ho =>
      simp at ho; subst ho
      have l6 := hwt 6 w76
      refine oper_wp_ok (r7 _ w') ⟨_, rfl, ?_⟩
      refine ⟨fb, by simpa [upd] using f0, by simpa [upd] using f1, by simpa [upd] using f2, by simpa [upd] using f3, by simpa [upd] using f4, by simpa [upd] using f5, by simpa [upd] using f6, ?_⟩
      simp only [upd]; simp
      exact ⟨hv 6 _ k6 rfl d6 z6 l6, l6⟩
    | j + 8, ho => simp at ho
  · intro L vs w' F hall
    obtain ⟨fb, f0, f1, f2, f3, f4, f5, f6, f7⟩ := F
    have := hend (vs 0) (vs 3) (vs 5) (vs 6) w' (f6 (hall 6 (by simp))).1 fb
    simp only [putL]
    rw [if_pos (hall 0 (by simp)), if_pos (hall (0 + 1) (by simp)), if_pos (hall (0 + 1 + 1) (by simp)), if_pos (hall (0 + 1 + 1 + 1) (by simp)), if_pos (hall (0 + 1 + 1 + 1 + 1) (by simp)), if_pos (hall (0 + 1 + 1 + 1 + 1 + 1) (by simp)), if_pos (hall (0 + 1 + 1 + 1 + 1 + 1 + 1) (by simp)), if_pos (hall (0 + 1 + 1 + 1 + 1 + 1 + 1 + 1) (by simp))]
    rw [show vs (0 + 1) = v1 from f1 (hall 1 (by simp)), show vs (0 + 1 + 1) = _ from f2 (hall 2 (by simp)), show vs (0 + 1 + 1 + 1 + 1) = _ from f4 (hall 4 (by simp)), show vs (0 + 1 + 1 + 1 + 1 + 1 + 1 + 1) = vs 6 from (f7 (hall 7 (by simp))).1]
    exact this
end
end Go.Proofs.Ytnpaejknoipicad
