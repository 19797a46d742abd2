/-
  A region that draws its order, in which what writes comes in one order only, and the rest reads: whatever order it draws.
-/
import Derived.Test.YtnpaejknoipicadRegMain
namespace Go.Proofs.Ytnpaejknoipicad
open Go.RowKit

/-- an operation of such a region: one that reads (ahead of a step of the chain), or a step of the chain -/
inductive Ck where
  | quiet (v : Value) (lim : Nat)
  | step (s : Nat)
def ckAt (ks : List Ck) (i : Nat) : Ck := (ks[i]?).getD (.quiet undef 0)
def Ck.out (r : Nat → Value) : Ck → Value
  | .quiet v _ => v
  | .step s => r s
def putC (r : Nat → Value) : List Ck → List Oper → Act → Act
  | d :: ks, o :: l, a => putC r ks l (a.put o.dst (d.out r))
  | _, _, a => a
def updR (r : Nat → Value) (s : Nat) (v : Value) : Nat → Value := fun t => if t = s then v else r t
theorem updR_at (r : Nat → Value) (s : Nat) (v : Value) : updR r s v s = v := by simp [updR]
theorem updR_ne {r : Nat → Value} {s t : Nat} {v : Value} (h : t ≠ s) : updR r s v t = r t := by simp [updR, h]
/-- the steps' places; what waits for what -/
def chainOk (ks : List Ck) (l : List Oper) (st : List Nat) (n : Nat) : Bool :=
  decide (ks.length = l.length) && (l.all fun o => match o.dst with | some k => decide (k < n) | none => true) &&
  ((List.range st.length).all fun s => match st[s]? with
    | some i => decide (i < l.length) && (match ckAt ks i with | .step t => t == s | _ => false) && (s == 0 || (match st[s - 1]? with | some j => waits l i j | none => false))
    | none => false) &&
  ((List.range l.length).all fun i => match ckAt ks i with
    | .quiet _ lim => decide (st.length ≤ lim) || (match st[lim]? with | some j => waits l j i | none => false)
    | .step t => st[t]? == some i)

section
variable {P : Program} {Q : Exit → Act → World → Prop}

theorem oper_wp_skip {o : Oper} {a : Act} {w w' : World} {K : Act → World → Prop} (h : (execOp a.eval o).run P w = .ok .skip w') (hk : K (a.put o.dst undef) w') : o.wp P a w K Q := by
  unfold Oper.wp; rw [h]; exact hk
theorem oper_wp_call {o : Oper} {a : Act} {w : World} {f : FuncId} {args : Array Value} {K : Act → World → Prop} (h : (execOp a.eval o).run P w = .ok (.enter f args) w) (hc : Calls P f args w fun e w'' => ∃ v, e = .returned v ∧ K (a.put o.dst v) w'') : o.wp P a w K Q := by
  unfold Oper.wp; rw [h, Oper.upon_enter]
  refine hc.mono ?_
  rintro e w'' ⟨v, rfl, hk⟩
  exact hk

structure RC (ks : List Ck) (l : List Oper) (n m : Nat) (I : Nat → (Nat → Value) → World → Prop) (ls : Nat → Bool) (vs : Nat → Value) (s : Nat) (r : Nat → Value) (w' : World) : Prop where
  lt : ∀ i, ls i = true → i < n
  steps : ∀ i t, i < n → ckAt ks i = .step t → (ls i = true ↔ t < s)
  vals : ∀ i, ls i = true → vs i = (ckAt ks i).out r
  inv : I s r w'
  le : s ≤ m
  closed : ∀ i j, ls j = true → waits l j i = true → ls i = true

theorem putC_all (L : Array Bool) (vs : Nat → Value) (r : Nat → Value) : ∀ (l : List Oper) (k : Nat) (ks : List Ck) (a : Act), ks.length = l.length → (∀ i, i < l.length → L.getD (k + i) false = true) → (∀ i, i < l.length → vs (k + i) = (ckAt ks i).out r) → putL L vs k l a = putC r ks l a
  | [], _, [], _, _, _, _ => rfl
  | o :: l, k, d :: ks, a, hl, hL, hv => by
    simp only [putL, putC]
    rw [if_pos (by simpa using hL 0 (by simp)), show vs k = d.out r by simpa [ckAt] using hv 0 (by simp)]
    refine putC_all L vs r l (k + 1) ks _ (by simpa using hl) (fun i hi => ?_) (fun i hi => ?_)
    · have := hL (i + 1) (by simpa using hi)
      rw [show k + (i + 1) = k + 1 + i by omega] at this; exact this
    · have := hv (i + 1) (by simpa using hi)
      rw [show k + (i + 1) = k + 1 + i by omega] at this
      simpa [ckAt] using this

theorem region_chain {id : Nat} {a : Act} {w : World} {l : List Oper} (hm : P.follows .mixedOrders = true) (hB : regOk l = true) (ks : List Ck) (st : List Nat) (hK : chainOk ks l st a.tmps.size = true)
    (I : Nat → (Nat → Value) → World → Prop) (h0 : I 0 (fun _ => undef) { w with drawn := w.drawn + 1 })
    (hstep : ∀ i o, l[i]? = some o → ∀ (a' : Act) (w' : World) (s : Nat) (r : Nat → Value), I s r w' → (∀ s, (l.all fun o => o.dst != some s) = true → a'.eval (.tmp s) = a.eval (.tmp s)) → (∀ j oj k, waits l i j = true → l[j]? = some oj → oj.dst = some k → a'.eval (.tmp k) = (ckAt ks j).out r) →
      match ckAt ks i with
      | .quiet v lim => s ≤ lim → (execOp a'.eval o).run P w' = .ok (.value v) w'
      | .step t => s = t → o.wp P a' w' (fun a'' w'' => ∃ v, a'' = a'.put o.dst v ∧ I (t + 1) (updR r t v) w'') Q)
    (hend : ∀ (r : Nat → Value) (w' : World), I st.length r w' → Q .normal (putC r ks l a) w') :
    (Code.region id l.toArray true).wp P Q a w := by
  simp only [chainOk, Bool.and_eq_true, decide_eq_true_eq] at hK
  obtain ⟨⟨⟨hlen, hdst⟩, hst⟩, hall⟩ := hK
  have hap : dstsApart l = true := by simp only [regOk, Bool.and_eq_true] at hB; exact hB.1.1
  have hal : ∀ i, i < l.length → _ := fun i hi => List.all_eq_true.1 hall i (List.mem_range.2 hi)
  have hsl : ∀ s, s < st.length → _ := fun s hs => List.all_eq_true.1 hst s (List.mem_range.2 hs)
  have hstp : ∀ s, s < st.length → ∃ i, st[s]? = some i ∧ i < l.length ∧ ckAt ks i = .step s ∧ (0 < s → ∃ j, st[s - 1]? = some j ∧ waits l i j = true) := fun s hs => by
    have h := hsl s hs
    have e : st[s]? = some st[s] := List.getElem?_eq_getElem hs
    rw [e] at h
    simp only [Bool.and_eq_true, decide_eq_true_eq, Bool.or_eq_true, beq_iff_eq] at h
    refine ⟨st[s], e, h.1.1, ?_, fun h0 => ?_⟩
    · have h2 := h.1.2
      cases hk : ckAt ks st[s] with
      | quiet v lim => rw [hk] at h2; cases h2
      | step t => rw [hk] at h2; simp at h2; rw [h2]
    · have h3 := h.2
      rcases h3 with h3 | h3
      · omega
      · have e2 : st[s - 1]? = some st[s - 1] := List.getElem?_eq_getElem (by omega)
        rw [e2] at h3
        exact ⟨_, e2, h3⟩
  have hst2 : ∀ i t, i < l.length → ckAt ks i = .step t → st[t]? = some i := fun i t hi hk => by
    have h := hal i hi
    rw [hk] at h
    simpa using h
  refine wp_region_inv hm hB (fun L vs w' => ∃ s r, RC ks l l.length st.length I (fun j => L.getD j false) vs s r w') ?_ ?_ ?_
  · have hno : ∀ j, ¬ (Array.replicate l.length false).getD j false = true := fun j => by
      simp [Array.getD_eq_getD_getElem?, Array.getElem?_replicate]; split <;> simp
    exact ⟨0, fun _ => undef, fun i h => absurd h (hno i), fun i t _ _ => ⟨fun h => absurd h (hno i), fun h => absurd h (Nat.not_lt_zero _)⟩, fun i h => absurd h (hno i), h0, Nat.zero_le _, fun _ j h => absurd h (hno j)⟩
  · rintro L vs w' ⟨s, r, F⟩ i o ho hL hr
    have hi : i < l.length := (List.getElem?_eq_some_iff.1 ho).1
    have ni : L.getD i false = false := by simpa using listed_no hL
    have hset := setfun hL
    have hwt : ∀ j, waits l i j = true → L.getD j false = true := fun j hw => waits_spec hw ho hr
    have hfree : ∀ s, (l.all fun o => o.dst != some s) = true → (putL L vs 0 l a).eval (.tmp s) = a.eval (.tmp s) := fun s hs => putL_other l 0 a (fun p hp t ht e => by
      injection e with e
      subst e
      have := List.all_eq_true.1 hs p hp
      rw [ht] at this
      simp at this)
    have hvals : ∀ j oj k, waits l i j = true → l[j]? = some oj → oj.dst = some k → (putL L vs 0 l a).eval (.tmp k) = (ckAt ks j).out r := fun j oj k hw hoj hk => by
      have h1 := hwt j hw
      have hk2 := List.all_eq_true.1 hdst oj (List.mem_of_getElem? hoj)
      rw [hk] at hk2
      rw [putL_at h1 l 0 a oj hap (Nat.zero_le _) (by simpa using hoj) hk (by simpa using hk2)]
      exact F.vals j h1
    have hs := hstep i o ho (putL L vs 0 l a) w' s r F.inv hfree hvals
    rw [hset]
    obtain ⟨ls, hls⟩ : ∃ ls : Nat → Bool, ls = fun j => L.getD j false := ⟨_, rfl⟩
    have hlsj : ∀ j, L.getD j false = ls j := fun j => by rw [hls]
    simp only [hlsj] at F ni hwt ⊢
    have hlt' : ∀ j, (decide (j = i) || ls j) = true → j < l.length := fun j hj => by
      simp only [Bool.or_eq_true, decide_eq_true_eq] at hj
      rcases hj with rfl | hj
      · exact hi
      · exact F.lt j hj
    have hcl : ∀ p j, (decide (j = i) || ls j) = true → waits l j p = true → (decide (p = i) || ls p) = true := fun p j hj hw => by
      simp only [Bool.or_eq_true, decide_eq_true_eq] at hj ⊢
      rcases hj with rfl | hj
      · exact .inr (hwt p hw)
      · exact .inr (F.closed p j hj hw)
    cases hk : ckAt ks i with
    | quiet v lim =>
      rw [hk] at hs
      have hle : s ≤ lim := by
        have h := hal i hi
        rw [hk] at h
        simp only [Bool.or_eq_true, decide_eq_true_eq] at h
        rcases h with h | h
        · exact Nat.le_trans F.le h
        · by_cases hlt : s ≤ lim
          · exact hlt
          · exfalso
            have hll : lim < st.length := by have := F.le; omega
            obtain ⟨j, e1, e2, e3, _⟩ := hstp lim hll
            rw [e1] at h
            have hlj := (F.steps j lim e2 e3).2 (by omega)
            rw [F.closed i j hlj h] at ni
            cases ni
      refine oper_wp_ok (hs hle) ⟨v, rfl, s, r, hlt', ?_, ?_, F.inv, F.le, hcl⟩
      · intro j t hj hjk
        have e : j ≠ i := fun e => by subst e; rw [hk] at hjk; cases hjk
        simpa [e] using F.steps j t hj hjk
      · intro j hj
        by_cases e : j = i
        · subst e; rw [upd_at, hk]; rfl
        · rw [upd_ne e]; exact F.vals j (by simpa [e] using hj)
    | step t =>
      rw [hk] at hs
      have hti := hst2 i t hi hk
      have htl : t < st.length := (List.getElem?_eq_some_iff.1 hti).1
      have hst' : s = t := by
        have h1 : ¬ t < s := fun h => by rw [(F.steps i t hi hk).2 h] at ni; cases ni
        by_cases h0 : t = 0
        · omega
        · obtain ⟨i', e1, e2, e3, e4⟩ := hstp t htl
          rw [hti] at e1
          injection e1 with e1
          subst e1
          obtain ⟨j, q1, q2⟩ := e4 (by omega)
          obtain ⟨j', r1, r2, r3, _⟩ := hstp (t - 1) (by omega)
          rw [q1] at r1
          injection r1 with r1
          subst r1
          have := (F.steps j (t - 1) r2 r3).1 (hwt j q2)
          omega
      subst hst'
      refine Oper.wp_mono ?_ (hs rfl)
      rintro a'' w'' ⟨v, h1, h2⟩
      refine ⟨v, h1, s + 1, updR r s v, hlt', ?_, ?_, h2, htl, hcl⟩
      · intro j t' hj hjk
        by_cases e : j = i
        · subst e
          rw [hk] at hjk
          injection hjk with hjk
          subst hjk
          simp
        · have h3 := F.steps j t' hj hjk
          have hne : t' ≠ s := fun e' => by
            subst e'
            have := hst2 j t' hj hjk
            rw [hti] at this
            injection this with this
            exact e this.symm
          simp only [e, decide_false, Bool.false_or]
          rw [h3]; omega
      · intro j hj
        by_cases e : j = i
        · subst e; rw [upd_at, hk]; exact (updR_at r s v).symm
        · have hlj : ls j = true := by simpa [e] using hj
          rw [upd_ne e, F.vals j hlj]
          cases hkj : ckAt ks j with
          | quiet v' lim' => rfl
          | step t' =>
            have := (F.steps j t' (F.lt j hlj) hkj).1 hlj
            exact (updR_ne (by omega)).symm
  · rintro L vs w' ⟨s, r, F⟩ hlst
    have hs : s = st.length := by
      by_cases h : s < st.length
      · obtain ⟨i, e1, e2, e3, _⟩ := hstp s h
        have := (F.steps i s e2 e3).1 (hlst i e2)
        omega
      · have := F.le; omega
    subst hs
    rw [putC_all L vs r l 0 ks a hlen (fun i hi => by rw [Nat.zero_add]; exact hlst i hi) (fun i hi => by rw [Nat.zero_add]; exact F.vals i (hlst i hi))]
    exact hend r w' F.inv
end
end Go.Proofs.Ytnpaejknoipicad
