/-
  Contract: disk.withinLimits.
-/
import Derived.Test.YtnpaejknoipicadRegChain
import Derived.Test.YtnpaejknoipicadMgDiskParts1
import Derived.Deep.Cut
import Derived.Deep.DeepCutAuto
import Derived.Test.YtnpaejknoipicadFrameCheck
import Derived.Test.YtnpaejknoipicadDiskMath
import Derived.RangeFuncNested
import Derived.RangeFuncBound
import Derived.RangeFuncCalls
import Derived.RangeFuncLeaves
import Derived.Shelf.Abstract
import Derived.Shelf.RegionOpen
import Derived.WalkKit
import Derived.OwnWalkIn
import Derived.TacticsInMore
import Derived.LoopNIn
import Derived.LoopIn
import Derived.Test.YtnpaejknoipicadRegChainG
import Derived.BigQuiet

namespace Go.Proofs.Ytnpaejknoipicad
open Go.RowKit

/-- an operation of such a region -/
inductive Cb where
  | quiet (v : Value) (lim : Nat)
  | step (s : Nat)
  | fin (t : Nat) (f : Value → Value)
  | box
def cbAt (ks : List Cb) (i : Nat) : Cb := (ks[i]?).getD (.quiet undef 0)
def Cb.out (r : Nat → Value) (b : Option Nat) : Cb → Value
  | .quiet v _ => v
  | .step s => r s
  | .fin t f => f (r t)
  | .box => match b with
    | some g => .pointer (some ⟨g, 0, none⟩)
    | none => undef
def Cb.isBox : Cb → Bool
  | .box => true
  | _ => false
def putB (r : Nat → Value) (b : Option Nat) : List Cb → List Oper → Act → Act
  | d :: ks, o :: l, a => putB r b ks l (a.put o.dst (d.out r b))
  | _, _, a => a
/-- the steps' places; what waits for what -/
def boxOk (ks : List Cb) (l : List Oper) (st : List Nat) (bx n : Nat) : Bool :=
  decide (ks.length = l.length) && (l.all fun o => match o.dst with | some k => decide (k < n) | none => true) &&
  ((List.range st.length).all fun s => match st[s]? with
    | some i => decide (i < l.length) && (match cbAt ks i with | .step t => t == s | _ => false) && (s == 0 || (match st[s - 1]? with | some j => waits l i j | none => false))
    | none => false) &&
  ((List.range l.length).all fun i => match cbAt ks i with
    | .quiet _ lim => decide (st.length ≤ lim) || (match st[lim]? with | some j => waits l j i | none => false)
    | .step t => st[t]? == some i
    | .fin t _ => (List.range l.length).any fun j => waits l i j && (match cbAt ks j with | .step t' => t' == t | .fin t' _ => t' == t | _ => false)
    | .box => i == bx) && decide (bx < l.length) && (cbAt ks bx).isBox

section
variable {P : Program} {Q : Exit → Act → World → Prop}

structure RB (ks : List Cb) (l : List Oper) (n m bx : Nat) (I : Nat → (Nat → Value) → Option Nat → World → Prop) (ls : Nat → Bool) (vs : Nat → Value) (s : Nat) (r : Nat → Value) (b : Option Nat) (w' : World) : Prop where
  lt : ∀ i, ls i = true → i < n
  steps : ∀ i t, i < n → cbAt ks i = .step t → (ls i = true ↔ t < s)
  fins : ∀ i t f, ls i = true → cbAt ks i = .fin t f → t < s
  box : ls bx = true ↔ b.isSome = true
  vals : ∀ i, ls i = true → vs i = (cbAt ks i).out r b
  inv : I s r b w'
  le : s ≤ m
  closed : ∀ i j, ls j = true → waits l j i = true → ls i = true

theorem putB_all (L : Array Bool) (vs : Nat → Value) (r : Nat → Value) (b : Option Nat) : ∀ (l : List Oper) (k : Nat) (ks : List Cb) (a : Act), ks.length = l.length → (∀ i, i < l.length → L.getD (k + i) false = true) → (∀ i, i < l.length → vs (k + i) = (cbAt ks i).out r b) → putL L vs k l a = putB r b ks l a
  | [], _, [], _, _, _, _ => rfl
  | o :: l, k, d :: ks, a, hl, hL, hv => by
    simp only [putL, putB]
    rw [if_pos (by simpa using hL 0 (by simp)), show vs k = d.out r b by simpa [cbAt] using hv 0 (by simp)]
    refine putB_all L vs r b l (k + 1) ks _ (by simpa using hl) (fun i hi => ?_) (fun i hi => ?_)
    · have := hL (i + 1) (by simpa using hi)
      rw [show k + (i + 1) = k + 1 + i by omega] at this; exact this
    · have := hv (i + 1) (by simpa using hi)
      rw [show k + (i + 1) = k + 1 + i by omega] at this
      simpa [cbAt] using this

theorem region_box {id : Nat} {a : Act} {w : World} {l : List Oper} (hm : P.follows .mixedOrders = true) (hB : regOk l = true) (ks : List Cb) (st : List Nat) (bx : Nat) (hK : boxOk ks l st bx a.tmps.size = true)
    (I : Nat → (Nat → Value) → Option Nat → World → Prop) (h0 : I 0 (fun _ => undef) none { w with drawn := w.drawn + 1 })
    (hstep : ∀ i o, l[i]? = some o → ∀ (a' : Act) (w' : World) (s : Nat) (r : Nat → Value) (b : Option Nat), I s r b w' → (∀ s, (l.all fun o => o.dst != some s) = true → a'.eval (.tmp s) = a.eval (.tmp s)) → (∀ j oj k, waits l i j = true → l[j]? = some oj → oj.dst = some k → a'.eval (.tmp k) = (cbAt ks j).out r b) → (waits l i bx = true → b.isSome = true) →
      match cbAt ks i with
      | .quiet v lim => s ≤ lim → (execOp a'.eval o).run P w' = .ok (.value v) w'
      | .step t => s = t → o.wp P a' w' (fun a'' w'' => ∃ v, a'' = a'.put o.dst v ∧ I (t + 1) (updR r t v) b w'') Q
      | .fin t f => t < s → (execOp a'.eval o).run P w' = .ok (.value (f (r t))) w'
      | .box => b = none → ∃ ob, (execOp a'.eval o).run P w' = .ok (.value (.pointer (some ⟨w'.heap.size, 0, none⟩))) (w'.alloc ob) ∧ I s r (some w'.heap.size) (w'.alloc ob))
    (hend : ∀ (r : Nat → Value) (g : Nat) (w' : World), I st.length r (some g) w' → Q .normal (putB r (some g) ks l a) w') :
    (Code.region id l.toArray true).wp P Q a w := by
  simp only [boxOk, Bool.and_eq_true, decide_eq_true_eq] at hK
  obtain ⟨⟨⟨⟨⟨hlen, hdst⟩, hst⟩, hall⟩, hbl⟩, hbb⟩ := hK
  have hbk : cbAt ks bx = .box := by cases h : cbAt ks bx <;> rw [h] at hbb <;> first | rfl | cases hbb
  have hap : dstsApart l = true := by simp only [regOk, Bool.and_eq_true] at hB; exact hB.1.1
  have hal : ∀ i, i < l.length → _ := fun i hi => List.all_eq_true.1 hall i (List.mem_range.2 hi)
  have hsl : ∀ s, s < st.length → _ := fun s hs => List.all_eq_true.1 hst s (List.mem_range.2 hs)
  have hstp : ∀ s, s < st.length → ∃ i, st[s]? = some i ∧ i < l.length ∧ cbAt ks i = .step s ∧ (0 < s → ∃ j, st[s - 1]? = some j ∧ waits l i j = true) := fun s hs => by
    have h := hsl s hs
    have e : st[s]? = some st[s] := List.getElem?_eq_getElem hs
    rw [e] at h
    simp only [Bool.and_eq_true, decide_eq_true_eq, Bool.or_eq_true, beq_iff_eq] at h
    refine ⟨st[s], e, h.1.1, ?_, fun h0 => ?_⟩
    · have h2 := h.1.2
      cases hk : cbAt ks st[s] with
      | quiet v lim => rw [hk] at h2; cases h2
      | fin t f => rw [hk] at h2; cases h2
      | box => rw [hk] at h2; cases h2
      | step t => rw [hk] at h2; simp at h2; rw [h2]
    · have h3 := h.2
      rcases h3 with h3 | h3
      · omega
      · have e2 : st[s - 1]? = some st[s - 1] := List.getElem?_eq_getElem (by omega)
        rw [e2] at h3
        exact ⟨_, e2, h3⟩
  have hst2 : ∀ i t, i < l.length → cbAt ks i = .step t → st[t]? = some i := fun i t hi hk => by
    have h := hal i hi
    rw [hk] at h
    simpa using h
  refine wp_region_inv hm hB (fun L vs w' => ∃ s r b, RB ks l l.length st.length bx I (fun j => L.getD j false) vs s r b w') ?_ ?_ ?_
  · have hno : ∀ j, ¬ (Array.replicate l.length false).getD j false = true := fun j => by
      simp [Array.getD_eq_getD_getElem?, Array.getElem?_replicate]; split <;> simp
    exact ⟨0, fun _ => undef, none, fun i h => absurd h (hno i), fun i t _ _ => ⟨fun h => absurd h (hno i), fun h => absurd h (Nat.not_lt_zero _)⟩, fun i _ _ h => absurd h (hno i), ⟨fun h => absurd h (hno bx), fun h => by cases h⟩, fun i h => absurd h (hno i), h0, Nat.zero_le _, fun _ j h => absurd h (hno j)⟩
  · rintro L vs w' ⟨s, r, b, F⟩ i o ho hL hr
    have hi : i < l.length := (List.getElem?_eq_some_iff.1 ho).1
    have ni : L.getD i false = false := by simpa using listed_no hL
    have hset := setfun hL
    have hwt : ∀ j, waits l i j = true → L.getD j false = true := fun j hw => waits_spec hw ho hr
    have hfree : ∀ s, (l.all fun o => o.dst != some s) = true → (putL L vs 0 l a).eval (.tmp s) = a.eval (.tmp s) := fun s hs => putL_other l 0 a (fun p hp t ht e => by
      injection e with e
      subst e
      have := List.all_eq_true.1 hs p hp
      rw [ht] at this
      simp at this)
    have hvals : ∀ j oj k, waits l i j = true → l[j]? = some oj → oj.dst = some k → (putL L vs 0 l a).eval (.tmp k) = (cbAt ks j).out r b := fun j oj k hw hoj hk => by
      have h1 := hwt j hw
      have hk2 := List.all_eq_true.1 hdst oj (List.mem_of_getElem? hoj)
      rw [hk] at hk2
      rw [putL_at h1 l 0 a oj hap (Nat.zero_le _) (by simpa using hoj) hk (by simpa using hk2)]
      exact F.vals j h1
    have hs := hstep i o ho (putL L vs 0 l a) w' s r b F.inv hfree hvals (fun hw => F.box.1 (hwt bx hw))
    rw [hset]
    obtain ⟨ls, hls⟩ : ∃ ls : Nat → Bool, ls = fun j => L.getD j false := ⟨_, rfl⟩
    have hlsj : ∀ j, L.getD j false = ls j := fun j => by rw [hls]
    simp only [hlsj] at F ni hwt ⊢
    have hlt' : ∀ j, (decide (j = i) || ls j) = true → j < l.length := fun j hj => by
      simp only [Bool.or_eq_true, decide_eq_true_eq] at hj
      rcases hj with rfl | hj
      · exact hi
      · exact F.lt j hj
    have hcl : ∀ p j, (decide (j = i) || ls j) = true → waits l j p = true → (decide (p = i) || ls p) = true := fun p j hj hw => by
      simp only [Bool.or_eq_true, decide_eq_true_eq] at hj ⊢
      rcases hj with rfl | hj
      · exact .inr (hwt p hw)
      · exact .inr (F.closed p j hj hw)
    have hbne : ∀ k, cbAt ks i = k → k.isBox = false → bx ≠ i := fun k h1 h2 e => by subst e; rw [hbk] at h1; subst h1; cases h2
    have hbxs : ∀ k, cbAt ks i = k → k.isBox = false → ((decide (bx = i) || ls bx) = true ↔ b.isSome = true) := fun k h1 h2 => by
      have := hbne k h1 h2
      simpa [this] using F.box
    have plain : ∀ (k : Cb) (v : Value), cbAt ks i = k → k.isBox = false → (∀ t, k ≠ .step t) → (∀ t f, k = .fin t f → t < s) → k.out r b = v → ∃ s r b, RB ks l l.length st.length bx I (fun j => decide (j = i) || ls j) (upd vs i v) s r b w' := fun k v hk h1 h2 h3 h4 => by
      refine ⟨s, r, b, hlt', ?_, ?_, hbxs k hk h1, ?_, F.inv, F.le, hcl⟩
      · intro j t hj hjk
        have e : j ≠ i := fun e => by subst e; rw [hk] at hjk; exact h2 t hjk
        simpa [e] using F.steps j t hj hjk
      · intro j t f hj hjk
        by_cases e : j = i
        · subst e; rw [hk] at hjk; exact h3 t f hjk
        · exact F.fins j t f (by simpa [e] using hj) hjk
      · intro j hj
        by_cases e : j = i
        · subst e; rw [upd_at, hk, h4]
        · rw [upd_ne e]; exact F.vals j (by simpa [e] using hj)
    cases hk : cbAt ks i with
    | fin t f =>
      rw [hk] at hs
      have hts : t < s := by
        have h := hal i hi
        rw [hk] at h
        obtain ⟨j, hjm, hj⟩ := List.any_eq_true.1 h
        simp only [Bool.and_eq_true] at hj
        have hjl := hwt j hj.1
        have h2 := hj.2
        cases hkj : cbAt ks j with
        | quiet v lim => rw [hkj] at h2; cases h2
        | box => rw [hkj] at h2; cases h2
        | step t' => rw [hkj] at h2; simp at h2; subst h2; exact (F.steps j t' (F.lt j hjl) hkj).1 hjl
        | fin t' f' => rw [hkj] at h2; simp at h2; subst h2; exact F.fins j t' f' hjl hkj
      exact oper_wp_ok (hs hts) ⟨_, rfl, plain (.fin t f) _ hk rfl (fun _ e => by cases e) (fun t' f' e => by injection e with e1; omega) rfl⟩
    | box =>
      rw [hk] at hs
      have hib : i = bx := by
        have h := hal i hi
        rw [hk] at h
        simpa using h
      subst hib
      have hb0 : b = none := by
        cases b with
        | none => rfl
        | some g => have := F.box.2 rfl; rw [this] at ni; cases ni
      subst hb0
      obtain ⟨ob, h1, h2⟩ := hs rfl
      refine oper_wp_ok h1 ⟨_, rfl, s, r, some w'.heap.size, hlt', ?_, ?_, ⟨fun _ => rfl, fun _ => by simp⟩, ?_, h2, F.le, hcl⟩
      · intro j t hj hjk
        have e : j ≠ i := fun e => by subst e; rw [hk] at hjk; cases hjk
        simpa [e] using F.steps j t hj hjk
      · intro j t f hj hjk
        have e : j ≠ i := fun e => by subst e; rw [hk] at hjk; cases hjk
        exact F.fins j t f (by simpa [e] using hj) hjk
      · intro j hj
        by_cases e : j = i
        · subst e; rw [upd_at, hk]; rfl
        · have hlj : ls j = true := by simpa [e] using hj
          rw [upd_ne e, F.vals j hlj]
          have hjb : cbAt ks j ≠ .box := fun e' => by
            have h := hal j (F.lt j hlj)
            rw [e'] at h
            exact e (by simpa using h)
          cases hkj : cbAt ks j with
          | quiet v' lim' => rfl
          | step t' => rfl
          | fin t' f' => rfl
          | box => exact absurd hkj hjb
    | quiet v lim =>
      rw [hk] at hs
      have hle : s ≤ lim := by
        have h := hal i hi
        rw [hk] at h
        simp only [Bool.or_eq_true, decide_eq_true_eq] at h
        rcases h with h | h
        · exact Nat.le_trans F.le h
        · by_cases hlt : s ≤ lim
          · exact hlt
          · exfalso
            have hll : lim < st.length := by have := F.le; omega
            obtain ⟨j, e1, e2, e3, _⟩ := hstp lim hll
            rw [e1] at h
            have hlj := (F.steps j lim e2 e3).2 (by omega)
            rw [F.closed i j hlj h] at ni
            cases ni
      exact oper_wp_ok (hs hle) ⟨v, rfl, plain (.quiet v lim) v hk rfl (fun _ e => by cases e) (fun _ _ e => by cases e) rfl⟩
    | step t =>
      rw [hk] at hs
      have hti := hst2 i t hi hk
      have htl : t < st.length := (List.getElem?_eq_some_iff.1 hti).1
      have hst' : s = t := by
        have h1 : ¬ t < s := fun h => by rw [(F.steps i t hi hk).2 h] at ni; cases ni
        by_cases h0 : t = 0
        · omega
        · obtain ⟨i', e1, e2, e3, e4⟩ := hstp t htl
          rw [hti] at e1
          injection e1 with e1
          subst e1
          obtain ⟨j, q1, q2⟩ := e4 (by omega)
          obtain ⟨j', r1, r2, r3, _⟩ := hstp (t - 1) (by omega)
          rw [q1] at r1
          injection r1 with r1
          subst r1
          have := (F.steps j (t - 1) r2 r3).1 (hwt j q2)
          omega
      subst hst'
      refine Oper.wp_mono ?_ (hs rfl)
      rintro a'' w'' ⟨v, h1, h2⟩
      refine ⟨v, h1, s + 1, updR r s v, b, hlt', ?_, ?_, hbxs _ hk rfl, ?_, h2, htl, hcl⟩
      · intro j t' hj hjk
        by_cases e : j = i
        · subst e
          rw [hk] at hjk
          injection hjk with hjk
          subst hjk
          simp
        · have h3 := F.steps j t' hj hjk
          have hne : t' ≠ s := fun e' => by
            subst e'
            have := hst2 j t' hj hjk
            rw [hti] at this
            injection this with this
            exact e this.symm
          simp only [e, decide_false, Bool.false_or]
          rw [h3]; omega
      · intro j t' f hj hjk
        have e : j ≠ i := fun e => by subst e; rw [hk] at hjk; cases hjk
        have := F.fins j t' f (by simpa [e] using hj) hjk
        omega
      · intro j hj
        by_cases e : j = i
        · subst e; rw [upd_at, hk]; exact (updR_at r s v).symm
        · have hlj : ls j = true := by simpa [e] using hj
          rw [upd_ne e, F.vals j hlj]
          cases hkj : cbAt ks j with
          | quiet v' lim' => rfl
          | box => rfl
          | fin t' f' =>
            have := F.fins j t' f' hlj hkj
            exact congrArg f' (updR_ne (by omega)).symm
          | step t' =>
            have := (F.steps j t' (F.lt j hlj) hkj).1 hlj
            exact (updR_ne (by omega)).symm
  · rintro L vs w' ⟨s, r, b, F⟩ hlst
    have hs : s = st.length := by
      by_cases h : s < st.length
      · obtain ⟨i, e1, e2, e3, _⟩ := hstp s h
        have := (F.steps i s e2 e3).1 (hlst i e2)
        omega
      · have := F.le; omega
    subst hs
    obtain ⟨g, hg⟩ : ∃ g, b = some g := Option.isSome_iff_exists.1 (F.box.1 (hlst bx hbl))
    subst hg
    rw [putB_all L vs r (some g) l 0 ks a hlen (fun i hi => by rw [Nat.zero_add]; exact hlst i hi) (fun i hi => by rw [Nat.zero_add]; exact F.vals i (hlst i hi))]
    exact hend r g w' F.inv
end
end Go.Proofs.Ytnpaejknoipicad

namespace Go.Proofs.Ytnpaejknoipicad
open Go.RowKit

def gon (o : List Fr) (f : Fr) : Bool := decide (0 < o.length) && decide (o.length < 6) && decide ((frAt o (o.length - 1)).time ≤ f.time)
theorem gon_grow {o : List Fr} {f : Fr} (hk : f.key = false) : growG o f = if gon o f then o ++ [f] else o := by
  unfold growG gon
  rw [if_neg (by simp [hk])]
  by_cases h : o.length = 0 ∨ 6 ≤ o.length ∨ f.time < (frAt o (o.length - 1)).time
  · rw [if_pos h, if_neg]
    simp only [Bool.and_eq_true, decide_eq_true_eq]
    omega
  · rw [if_neg h, if_pos]
    simp only [Bool.and_eq_true, decide_eq_true_eq]
    omega

set_option maxHeartbeats 2000000 in
theorem goesOn_any (base M : Nat) (fv cv : Value) (o : List Fr) (cl : List (List Fr)) (f : Fr) (pa : Option Addr) (pn pc : Nat) (w : World) (hM : GMk base M w fv cv o cl) :
    Calls Try.prog 110 #[.pointer (some ⟨M, 0, none⟩), .agg #[.int .i64 f.time, .bool f.key, .slice pa pn pc]] w fun e w' => e = .returned (.bool (gon o f)) ∧ Below w.heap.size w w' := by
  obtain ⟨kM, hF, _⟩ := hM
  obtain ⟨ao, c, efv, h1, h2, hc⟩ := hF.frsIn (S' := fun _ => True) (fun _ _ _ => trivial) (fun _ _ => trivial)
  obtain ⟨n, hn⟩ : ∃ n, n = o.length := ⟨_, rfl⟩
  rw [← hn] at efv h1
  have k0 := kM.two.1
  have hMw := kM.lt
  have hMw1 : M < w.heap.size + 1 := by omega
  rw [efv] at k0
  unfold gon
  rw [← hn]
  obtain ⟨t, k, ps⟩ := f
  simp only
  by_cases h0 : n = 0
  · have hd : decide (0 < n) = false := decide_eq_false (by omega)
    rw [hd]
    subst h0
    clear hn hc efv kM hF
    go_enter Try.func110, Try.ntmps110
    go_wp2_with fail
    go_quiet (fail)
    go_wp2
    go_ret
    exact ⟨by simp, below_drewN ((Below.refl _ w).alloc (Nat.le_refl _) _) _⟩
  · have hd : decide (0 < n) = true := decide_eq_true (by omega)
    rw [hd, Bool.true_and]
    by_cases h6 : n < 6
    · have hd6 : decide (n < 6) = true := decide_eq_true h6
      rw [hd6, Bool.true_and]
      obtain ⟨b, off, e1, hb, _, pv, c0, _⟩ := hc (n - 1) (by omega)
      obtain ⟨n1, hn1⟩ : ∃ n1, n1 = n - 1 := ⟨_, rfl⟩
      rw [← hn1] at c0 ⊢
      obtain ⟨t', ht'⟩ : ∃ t', t' = (frAt o n1).time := ⟨_, rfl⟩
      rw [show (o[n1]?.getD Fr.zero).time = t' from ht'.symm] at c0
      rw [← ht']
      subst e1
      have hn1i : (n : Int) - 1 = (n1 : Int) := by omega
      have hn1l : (n1 : Int) < (n : Int) := by omega
      have hn1w : IntKind.i64.wrap (n1 : Int) = (n1 : Int) := by rw [IntKind.wrap_i64]; omega
      have hn6i : (n : Int) < 6 := by omega
      have hb1 : b < w.heap.size + 1 := by omega
      clear hn hc efv kM hF ht' hn1
      go_enter Try.func110, Try.ntmps110
      go_wp2_with fail
      go_quiet (fail)
      go_wp2
      go_ret
      exact ⟨by simp, below_drewN ((Below.refl _ w).alloc (Nat.le_refl _) _) _⟩
    · have hd6 : decide (n < 6) = false := decide_eq_false h6
      rw [hd6, Bool.false_and]
      have hn6i : ¬ (n : Int) < 6 := by omega
      have hd6i : decide ((n : Int) < 6) = false := decide_eq_false hn6i
      clear hn hc efv kM hF
      go_enter Try.func110, Try.ntmps110
      go_wp2_with fail
      go_quiet (fail)
      go_wp2
      go_ret
      exact ⟨by simp, below_drewN ((Below.refl _ w).alloc (Nat.le_refl _) _) _⟩

set_option maxHeartbeats 4000000 in
set_option maxRecDepth 100000 in
theorem groupTake_any (base M : Nat) (fv cv : Value) (o : List Fr) (cl : List (List Fr)) (f : Fr) (pv : Value) (w : World) (hM : GMk base M w fv cv o cl) (hbM : base ≤ M) (ho : o.length ≤ 6) (hcl : cl.length ≤ 1000) (hp : StrsIn (fun g => g < base) w pv f.parts) (hf : f.chk = 0) :
    Calls Try.prog 103 #[.pointer (some ⟨M, 0, none⟩), .agg #[.int .i64 f.time, .bool f.key, pv]] w fun e w' => e = .returned (.tuple #[]) ∧ GMake base M w' (growG o f) (if f.key && decide (0 < o.length) then cl ++ [o] else cl) ∧ Below base w w' := by
  obtain ⟨i0, hi, hz0, hz1, hz2⟩ := info_parts Try.infoFrm
  obtain ⟨pa, pc, ep⟩ := hp.1.len
  have HP : Hid (StrsIn (fun g => g < base) w pv f.parts) := hp
  obtain ⟨R, hR⟩ : ∃ R, R = growG o f := ⟨_, rfl⟩
  obtain ⟨C, hC⟩ : ∃ C, C = if f.key && decide (0 < o.length) then cl ++ [o] else cl := ⟨_, rfl⟩
  obtain ⟨o', ho'⟩ : ∃ o', o' = if f.key then [] else o := ⟨_, rfl⟩
  have HKEY : Hid (f.key = true → R = o' ++ [f] ∧ C = (if 0 < o.length then cl ++ [o] else cl) ∧ o' = []) := fun h => by
    refine ⟨?_, ?_, by rw [ho', if_pos h]⟩
    · rw [hR, ho', if_pos h]; unfold growG; rw [if_pos h]; rfl
    · rw [hC, h, Bool.true_and]
      by_cases h0 : 0 < o.length
      · rw [if_pos (decide_eq_true h0), if_pos h0]
      · rw [if_neg (by rw [decide_eq_true_eq]; exact h0), if_neg h0]
  have HNK : Hid (f.key = false → C = cl ∧ o' = o ∧ (gon o f = true → R = o' ++ [f]) ∧ (gon o f = false → R = o)) := fun h => by
    have e : o' = o := by rw [ho', h]; rfl
    refine ⟨by rw [hC, h]; rfl, e, fun h2 => ?_, fun h2 => ?_⟩
    · rw [hR, gon_grow h, h2, if_pos rfl, e]
    · rw [hR, gon_grow h, h2]; rfl
  have HO7 : Hid (o'.length ≤ 6) := by
    show _ ≤ _
    rw [ho']
    split
    · simp
    · exact ho
  have HGO : Hid (∀ w' : World, GMk base M w' fv cv o cl → Calls Try.prog 110 #[.pointer (some ⟨M, 0, none⟩), .agg #[.int .i64 f.time, .bool f.key, .slice pa f.parts.length pc]] w' fun e w'' => e = .returned (.bool (gon o f)) ∧ Below w'.heap.size w' w'') := fun w' h => goesOn_any base M fv cv o cl f _ _ _ w' h
  have HCL : Hid (∀ w' : World, GMk base M w' fv cv o cl → Calls Try.prog 109 #[.pointer (some ⟨M, 0, none⟩)] w' fun e w'' => e = .returned (.tuple #[]) ∧ (∃ cv', GMk base M w'' (.slice none 0 0) cv' [] (if 0 < o.length then cl ++ [o] else cl)) ∧ Below base w' w'' ∧ ∀ j, j < w'.heap.size → j ≠ M → some j ≠ cv.ownBlock → w''.heap[j]? = w'.heap[j]?) := fun w' h => groupClose_any base M fv cv o cl w' h hbM ho hcl
  have HCF : Hid (∀ w' : World, StrsIn (fun g => g < base) w' pv f.parts → Calls Try.prog 68 #[.agg #[.int .i64 f.time, .bool f.key, pv]] w' fun e w'' => ∃ a c, e = .returned (.agg #[.int .i64 f.time, .bool f.key, .slice a f.parts.length c]) ∧ StrsIn (fun g => w'.heap.size ≤ g) w'' (.slice a f.parts.length c) f.parts ∧ Below w'.heap.size w' w'') := fun w' h => cloneFrame_any _ f pv w' h hf
  have HMK : Hid (GMk base M w fv cv o cl) := hM
  have hMw := hM.1.lt
  obtain ⟨gg, hgg⟩ : ∃ gg, gg = gon o f := ⟨_, rfl⟩
  rw [← hgg] at HGO HNK
  rw [← hR, ← hC]
  obtain ⟨t, k, parts⟩ := f
  simp only at ep HP HGO HCF HKEY HNK ⊢
  obtain ⟨pn, hpn⟩ : ∃ pn, pn = parts.length := ⟨_, rfl⟩
  have HPN : Hid (pn = parts.length) := hpn
  rw [← hpn] at ep HGO HCF
  clear hM hp hf hR hC ho' hgg hpn ho hcl
  have HEP : Hid (pv = .slice pa pn pc) := ep
  subst ep
  go_enter Try.func103, Try.ntmps103
  go_upto_if 5 with fail
  go_cut [] (fun wc => ∃ fv' cv', Hid (GMk base M wc fv' cv' o' C) ∧ Hid (R = o' ++ [⟨t, k, parts⟩]) ∧ Hid (Blk wc w.heap.size #[.int .i64 t, .bool k, .slice pa pn pc] 36) ∧ Hid (∀ g, fv'.ownBlock = some g → g ≠ w.heap.size) ∧ Hid (StrsIn (fun g => g < base) wc (.slice pa pn pc) parts) ∧ Hid (Below base w wc))
  case first =>
    have MK1 : Hid (GMk base M (w.alloc (.cells #[.int .i64 t, .bool k, .slice pa pn pc] 36)) fv cv o cl) := HMK.out.below ((Below.refl _ w).alloc (Nat.le_refl _) _)
    cases k
    · have hnk := HNK.out rfl
      have HNK2 : Hid (C = cl ∧ o' = o ∧ (gg = true → R = o' ++ [⟨t, false, parts⟩]) ∧ (gg = false → R = o)) := hnk
      clear hnk
      go_wp2_with fail
      refine (HGO.out _ MK1.out).mono ?_
      rintro e w1 ⟨rfl, hb1⟩
      have B1 : Hid (Below w.heap.size w w1) := ((Below.refl _ w).alloc (Nat.le_refl _) _).trans (hb1.mono (by simp))
      have MK2 : Hid (GMk base M w1 fv cv o C) := by rw [HNK2.out.1]; exact MK1.out.below hb1
      have KF : Hid (Blk w1 w.heap.size #[.int .i64 t, .bool false, .slice pa pn pc] 36) := (Blk.new w _ _).below hb1 (by simp)
      have SP : Hid (StrsIn (fun g => g < base) w1 (.slice pa pn pc) parts) := HP.out.below B1.out
      clear hb1
      cases gg
      · have HRO : Hid (R = o) := HNK2.out.2.2.2 rfl
        go_wp2
        refine bodyPost_ret (v := .tuple #[]) (results_none rfl _ _ _) rfl ?_
        exact ⟨rfl, ⟨fv, cv, by rw [HRO.out]; exact MK2.out⟩, B1.out.mono (by omega)⟩
      · have HRO : Hid (R = o' ++ [⟨t, false, parts⟩]) := HNK2.out.2.2.1 rfl
        go_wp2_with fail
        go_meet
        case rel => exact ⟨fv, cv, (show GMk base M w1 fv cv o' C by rw [HNK2.out.2.1]; exact MK2.out), HRO, KF, (show ∀ g, _ → _ from fun g hg e => by have := (HMK.out.2.1.lt g hg).2; omega), SP, (show Below base w w1 from B1.out.mono (by omega))⟩
    · have hk := HKEY.out rfl
      have HK2 : Hid (R = o' ++ [⟨t, true, parts⟩] ∧ C = (if 0 < o.length then cl ++ [o] else cl) ∧ o' = []) := hk
      clear hk
      go_wp2_with fail
      refine (HCL.out _ MK1.out).mono ?_
      rintro e w1 ⟨rfl, ⟨cv', hmk⟩, hb1, oth⟩
      have B1 : Hid (Below base w w1) := ((Below.refl base w).alloc (by omega) _).trans hb1
      have KF : Hid (Blk w1 w.heap.size #[.int .i64 t, .bool true, .slice pa pn pc] 36) := (oth w.heap.size (by simp) (by omega) (fun e => by have := (HMK.out.2.2.lt _ e.symm).2; omega)).trans (Blk.new w _ _)
      have MK2 : Hid (GMk base M w1 (.slice none 0 0) cv' o' C) := by rw [HK2.out.2.1, HK2.out.2.2]; exact hmk
      have SP : Hid (StrsIn (fun g => g < base) w1 (.slice pa pn pc) parts) := HP.out.to ⟨B1.out.size, fun g _ h => B1.out.block g h⟩ (fun _ _ h => h)
      have HRO : Hid (R = o' ++ [⟨t, true, parts⟩]) := HK2.out.1
      clear hmk hb1 oth
      go_wp2_with fail
      go_meet
      case rel => exact ⟨.slice none 0 0, cv', MK2, HRO, KF, (show ∀ g, _ → _ from fun g hg => by simp [Value.ownBlock] at hg), SP, B1⟩
  case rest =>
    obtain ⟨fv', cv', MK, HR, KF, NF, SP, BC⟩ := hcut
    have hmk := MK.out
    obtain ⟨kM, hF, hCl⟩ := hmk
    obtain ⟨qs, fq1, fq2, fq3⟩ := hF
    obtain ⟨fa, fc, efv, hfc, _⟩ := owns_cap fq2
    have hql : qs.length = o'.length := by rw [← fq1, List.length_map]
    obtain ⟨n, hn⟩ : ∃ n, n = o'.length := ⟨_, rfl⟩
    have HN : Hid (n = o'.length) := hn
    have hn6 : n ≤ 6 := by rw [hn]; exact HO7.out
    rw [hql, ← hn] at efv hfc fq2
    have HE1 : Hid (fv' = .slice fa n fc) := efv
    have k0 := kM.two.1
    rw [efv] at k0
    have FQ1 : Hid (qs.map Prod.fst = o') := fq1
    have FQ2 : Hid (wc.ownsRow base 36 3 fv' n (frCells qs)) := fq2
    have FQ3 : Hid (∀ p ∈ qs, StrsIn (GS base M fv' cv') wc p.2 p.1.parts) := fq3
    have HQL : Hid (qs.length = n) := by show _ = _; rw [hql, hn]
    have hMc := kM.lt
    have hKl := KF.out.lt
    obtain ⟨y0, y1, y2⟩ := KF.out.three
    clear kM hCl fq1 fq2 fq3 efv hql hn
    go_wp2_with fail
    refine region_chain (by kernel_rfl) (by kernel_rfl) [.quiet (.pointer (some ⟨M, 0, none⟩)) 4, .quiet (.pointer (some ⟨M, 0, none⟩)) 4, .quiet (.pointer (some ⟨M, 0, none⟩)) 4, .quiet (.pointer (some ⟨M, 0, none⟩)) 4, .quiet (.pointer (some ⟨M, 0, none⟩)) 4, .quiet (.slice fa n fc) 2, .quiet (.agg #[.int .i64 t, .bool k, .slice pa pn pc]) 0, .step 0, .step 1, .step 2, .quiet (.pointer (some ⟨M, 0, none⟩)) 4, .quiet (.pointer (some ⟨M, 0, none⟩)) 4, .quiet (.pointer (some ⟨M, 0, none⟩)) 4, .step 3] [7, 8, 9, 13] (by kernel_rfl)
      (fun s r w' => match s with
        | 0 => Below wc.heap.size wc w'
        | 1 => ∃ a c, r 0 = .agg #[.int .i64 t, .bool k, .slice a pn c] ∧ StrsIn (fun g => wc.heap.size ≤ g) w' (.slice a pn c) parts ∧ Below wc.heap.size wc w'
        | 2 => ∃ a c V, StrsIn (fun g => wc.heap.size ≤ g) V (.slice a pn c) parts ∧ Below wc.heap.size wc V ∧ w' = V.alloc (.cells #[.int .i64 t, .bool k, .slice a pn c] 36) ∧ r 1 = .slice (some ⟨V.heap.size, 0, none⟩) 1 1
        | 3 => ∃ a c V, StrsIn (fun g => wc.heap.size ≤ g) V (.slice a pn c) parts ∧ Below wc.heap.size wc V ∧ w'.ownsRow base 36 3 (r 2) (n + 1) (frCells qs ++ [.int .i64 t, .bool k, .slice a pn c]) ∧ (V.alloc (.cells #[.int .i64 t, .bool k, .slice a pn c] 36)).grownBy w' fv'.ownBlock ∧ ((r 2).ownBlock = fv'.ownBlock ∨ ∀ g, (r 2).ownBlock = some g → (V.alloc (.cells #[.int .i64 t, .bool k, .slice a pn c] 36)).heap.size ≤ g)
        | _ => ∃ a c V w2 v', StrsIn (fun g => wc.heap.size ≤ g) V (.slice a pn c) parts ∧ Below wc.heap.size wc V ∧ w2.ownsRow base 36 3 v' (n + 1) (frCells qs ++ [.int .i64 t, .bool k, .slice a pn c]) ∧ (V.alloc (.cells #[.int .i64 t, .bool k, .slice a pn c] 36)).grownBy w2 fv'.ownBlock ∧ (v'.ownBlock = fv'.ownBlock ∨ ∀ g, v'.ownBlock = some g → (V.alloc (.cells #[.int .i64 t, .bool k, .slice a pn c] 36)).heap.size ≤ g) ∧ w' = w2.setCell ⟨M, 0, none⟩ v') ((Below.refl _ wc).drew) ?step ?fin
    case step =>
      intro i o ho a' w' s r hI hfree hvals
      have f0 : a'.eval (.tmp 0) = .pointer (some ⟨M, 0, none⟩) := (hfree 0 (by kernel_rfl)).trans rfl
      have f3 : a'.eval (.tmp 3) = .pointer (some ⟨w.heap.size, 0, none⟩) := (hfree 3 (by kernel_rfl)).trans rfl
      match i, ho with
      | 0, ho | 1, ho =>
        simp at ho; subst ho
        show s ≤ 4 → (execOp a'.eval _).run _ w' = .ok (.value _) w'
        intro _
        generalize a'.eval = ρ at *
        simp [execOp, go_sem, f0]
      | 2, ho =>
        simp at ho; subst ho
        have e1 : a'.eval (.tmp 13) = .pointer (some ⟨M, 0, none⟩) := hvals 1 _ _ (by kernel_rfl) rfl rfl
        show s ≤ 4 → (execOp a'.eval _).run _ w' = .ok (.value _) w'
        intro _
        generalize a'.eval = ρ at *
        simp [execOp, go_sem, e1]
      | 3, ho =>
        simp at ho; subst ho
        have e1 : a'.eval (.tmp 14) = .pointer (some ⟨M, 0, none⟩) := hvals 2 _ _ (by kernel_rfl) rfl rfl
        show s ≤ 4 → (execOp a'.eval _).run _ w' = .ok (.value _) w'
        intro _
        generalize a'.eval = ρ at *
        simp [execOp, go_sem, e1]
      | 4, ho =>
        simp at ho; subst ho
        have e1 : a'.eval (.tmp 15) = .pointer (some ⟨M, 0, none⟩) := hvals 3 _ _ (by kernel_rfl) rfl rfl
        show s ≤ 4 → (execOp a'.eval _).run _ w' = .ok (.value _) w'
        intro _
        generalize a'.eval = ρ at *
        simp [execOp, go_sem, e1]
      | 5, ho =>
        simp at ho; subst ho
        have e1 : a'.eval (.tmp 16) = .pointer (some ⟨M, 0, none⟩) := hvals 4 _ _ (by kernel_rfl) rfl rfl
        show s ≤ 2 → (execOp a'.eval _).run _ w' = .ok (.value _) w'
        intro hs
        have hc : w'.cell? ⟨M, 0, none⟩ = some (.slice fa n fc) := by
          match s, hs, hI with
          | 0, _, hI => exact (Below.cell hI (p := ⟨M, 0, none⟩) hMc).trans k0
          | 1, _, ⟨_, _, _, _, hI⟩ => exact (Below.cell hI (p := ⟨M, 0, none⟩) hMc).trans k0
          | 2, _, ⟨_, _, V, _, hI, hw, _⟩ => rw [hw]; exact (World.cell?_alloc_past _ _ _ (Nat.lt_of_lt_of_le hMc hI.size)).trans ((Below.cell hI (p := ⟨M, 0, none⟩) hMc).trans k0)
        generalize a'.eval = ρ at *
        simp [execOp, go_sem, e1, hc]
      | 6, ho =>
        simp at ho; subst ho
        show s ≤ 0 → (execOp a'.eval _).run _ w' = .ok (.value _) w'
        intro hs
        have hB : Below wc.heap.size wc w' := by
          match s, hs, hI with
          | 0, _, hI => exact hI
        have z0 := (hB.cell (p := ⟨w.heap.size, 0, none⟩) hKl).trans y0
        have z1 := (hB.cell (p := ⟨w.heap.size, 1, none⟩) hKl).trans y1
        have z2 := (hB.cell (p := ⟨w.heap.size, 2, none⟩) hKl).trans y2
        generalize a'.eval = ρ at *
        simp [execOp, go_sem, f3, z0, z1, z2]
      | 7, ho =>
        simp at ho; subst ho
        have e1 : a'.eval (.tmp 18) = .agg #[.int .i64 t, .bool k, .slice pa pn pc] := hvals 6 _ _ (by kernel_rfl) rfl rfl
        have ef : a'.eval (.func 68) = .func (.func 68) #[] #[] := rfl
        show s = 0 → Oper.wp _ _ _ _ _ _
        intro hs
        subst hs
        have hB : Below wc.heap.size wc w' := hI
        refine oper_wp_call (f := 68) (args := #[.agg #[.int .i64 t, .bool k, .slice pa pn pc]]) ?_ ?_
        · generalize a'.eval = ρ at *
          simp [execOp, go_sem, e1, ef]
        · refine (HCF.out w' (SP.out.below hB)).mono ?_
          rintro e w'' ⟨a, c, rfl, hs1, hb1⟩
          refine ⟨_, rfl, _, rfl, a, c, updR_at _ _ _, hs1.mono (fun g _ hg => Nat.le_trans hB.size hg), hB.trans (hb1.mono hB.size)⟩
      | 8, ho =>
        simp at ho; subst ho
        have e1 : a'.eval (.tmp 19) = r 0 := hvals 7 _ _ (by kernel_rfl) rfl rfl
        show s = 1 → Oper.wp _ _ _ _ _ _
        intro hs
        subst hs
        obtain ⟨a, c, hr0, h1, h2⟩ := hI
        rw [hr0] at e1
        refine oper_wp_ok (v := .slice (some ⟨w'.heap.size, 0, none⟩) 1 1) (w' := w'.alloc (.cells #[.int .i64 t, .bool k, .slice a pn c] 36)) ?_ ⟨_, rfl, a, c, w', h1, h2, rfl, updR_at _ _ _⟩
        generalize a'.eval = ρ at *
        simp [execOp, go_sem, e1]
      | 9, ho =>
        simp at ho; subst ho
        have e1 : a'.eval (.tmp 17) = .slice fa n fc := hvals 5 _ _ (by kernel_rfl) rfl rfl
        have e2 : a'.eval (.tmp 20) = r 1 := hvals 8 _ _ (by kernel_rfl) rfl rfl
        show s = 2 → Oper.wp _ _ _ _ _ _
        intro hs
        subst hs
        obtain ⟨a, c, V, h1, h2, hw, hr1⟩ := hI
        rw [hr1] at e2
        subst hw
        have hV := h2.size
        have hown : (V.alloc (.cells #[.int .i64 t, .bool k, .slice a pn c] 36)).ownsRow base 36 3 fv' n (frCells qs) := (owns_below FQ2.out h2 (Nat.le_refl _)).alloc _
        obtain ⟨v', w2, hrun, g2, g3, g4⟩ := run_append_own2 (P := Try.prog) (V.alloc (.cells #[.int .i64 t, .bool k, .slice a pn c] 36)) base 23 23 36 i0 _ 3 40 Try.underlying23 hi hz0 hz1 hz2 rfl (by decide) fv' n (frCells qs) hown ⟨V.heap.size, 0, none⟩ 1 1 [.int .i64 t, .bool k, .slice a pn c] rfl (fun j u hj => by
            rw [Addr.add_lit, Nat.zero_add]
            exact (Blk.new V #[.int .i64 t, .bool k, .slice a pn c] 36).cell (by simpa using hj)) (fun u hu => by simp at hu; rcases hu with rfl | rfl | rfl <;> rfl) (by unfold maxLen; omega) (by omega) (by simp; omega)
        rw [HE1.out] at hrun
        refine oper_wp_ok (v := v') (w' := w2) ?_ ⟨_, rfl, a, c, V, h1, h2, ?_⟩
        · generalize a'.eval = ρ at *
          simp [execOp, resolve, invoke, builtin, e1, e2, hrun, Result.andThen]
        · rw [updR_at]
          exact ⟨g2, g3, g4⟩
      | 10, ho =>
        simp at ho; subst ho
        have e1 : a'.eval (.tmp 12) = .pointer (some ⟨M, 0, none⟩) := hvals 0 _ _ (by kernel_rfl) rfl rfl
        show s ≤ 4 → (execOp a'.eval _).run _ w' = .ok (.value _) w'
        intro _
        generalize a'.eval = ρ at *
        simp [execOp, go_sem, e1]
      | 11, ho =>
        simp at ho; subst ho
        have e1 : a'.eval (.tmp 22) = .pointer (some ⟨M, 0, none⟩) := hvals 10 _ _ (by kernel_rfl) rfl rfl
        show s ≤ 4 → (execOp a'.eval _).run _ w' = .ok (.value _) w'
        intro _
        generalize a'.eval = ρ at *
        simp [execOp, go_sem, e1]
      | 12, ho =>
        simp at ho; subst ho
        have e1 : a'.eval (.tmp 23) = .pointer (some ⟨M, 0, none⟩) := hvals 11 _ _ (by kernel_rfl) rfl rfl
        show s ≤ 4 → (execOp a'.eval _).run _ w' = .ok (.value _) w'
        intro _
        generalize a'.eval = ρ at *
        simp [execOp, go_sem, e1]
      | 13, ho =>
        simp at ho; subst ho
        have e1 : a'.eval (.tmp 24) = .pointer (some ⟨M, 0, none⟩) := hvals 12 _ _ (by kernel_rfl) rfl rfl
        have e2 : a'.eval (.tmp 21) = r 2 := hvals 9 _ _ (by kernel_rfl) rfl rfl
        show s = 3 → Oper.wp _ _ _ _ _ _
        intro hs
        subst hs
        obtain ⟨a, c, V, h1, h2, g2, g3, g4⟩ := hI
        obtain ⟨va, vc, ev, _⟩ := owns_cap g2
        have hV := h2.size
        have kM2 : Blk w' M #[fv', cv'] 148 := (g3.block M (by simp; omega) (fun e => MK.out.fneM e.symm)).trans ((MK.out.1.below h2 hMc).alloc _)
        have z0 := kM2.two.1
        have z1 := kM2.free 0
        refine oper_wp_skip (w' := w'.setCell ⟨M, 0, none⟩ (r 2)) ?_ ⟨_, rfl, a, c, V, w', r 2, h1, h2, g2, g3, g4, rfl⟩
        rw [ev] at e2 ⊢
        generalize a'.eval = ρ at *
        simp [execOp, go_sem, e1, e2, z0, z1]
      | i + 14, ho => simp at ho
    case fin =>
      rintro r w' ⟨a, c, V, w2, v', h1, h2, g2, g3, g4, hw⟩
      have hmk := MK.out
      have hV := h2.size
      have hsz2 := g3.size
      simp only [World.size_alloc] at hsz2
      have kM2 : Blk w2 M #[fv', cv'] 148 := (g3.block M (by simp; omega) (fun e => hmk.fneM e.symm)).trans ((hmk.1.below h2 hMc).alloc _)
      have hvM : v'.ownBlock ≠ some M := fun e => by
        rcases g4 with g4 | g4
        · rw [g4] at e; exact hmk.fneM e
        · have := g4 M e; simp at this; omega
      have hnew : ∀ g, g < V.heap.size → some g ≠ fv'.ownBlock → some g ≠ v'.ownBlock := fun g hg h1 e => by
        rcases g4 with g4 | g4
        · rw [g4] at e; exact h1 e
        · have := g4 g e.symm; simp at this; omega
      have hsm : SameOn (fun g => g < V.heap.size ∧ some g ≠ fv'.ownBlock) V w2 := ⟨by omega, fun g hg h2 => by
        rw [g3.block g (by simp; omega) h2.2]
        exact Below.heap_alloc V _ g hg⟩
      have hsm2 : SameOn (GS base M fv' cv') wc w2 := (SameOn.of_below h2).trans (hsm.mono' (fun g hg hs => ⟨hg, hs.2.2.1⟩))
      have hSS : ∀ g, g < wc.heap.size → GS base M fv' cv' g → GS base M v' cv' g := fun g hg hs => ⟨hs.1, hs.2.1, hnew g (by omega) hs.2.2.1, hs.2.2.2⟩
      have hcb : ∀ g, cv'.ownBlock = some g → w2.heap[g]? = wc.heap[g]? := fun g hg => by
        have h3 := (hmk.2.2.lt g hg).2
        rw [hsm.2 g (by omega) ⟨by omega, fun e => hmk.fnec g e.symm hg⟩]
        exact h2.block g h3
      have hp2 : StrsIn (GS base M v' cv') w2 (.slice a pn c) parts := by
        refine (h1.mono (S' := fun g => wc.heap.size ≤ g ∧ g < V.heap.size) (fun g hg h => ⟨h, hg⟩)).to (hsm.mono (fun g hg => ⟨hg.2, fun e => by have := (hmk.2.1.lt g e.symm).2; omega⟩)) (fun g hg hs => ⟨?_, ?_, ?_, ?_⟩)
        · have := hmk.1.lt; omega
        · omega
        · exact hnew g hs.2 (fun e => by have := (hmk.2.1.lt g e.symm).2; omega)
        · exact fun e => by have := (hmk.2.2.lt g e.symm).2; omega
      have hof : OwnFrs base (GS base M v' cv') w2 v' (o' ++ [⟨t, k, parts⟩]) := by
        refine ⟨qs ++ [(⟨t, k, parts⟩, .slice a pn c)], by rw [List.map_append, FQ1.out]; rfl, by rw [List.length_append, frCells_append, HQL.out]; exact g2, fun p hp => ?_⟩
        rcases List.mem_append.1 hp with hp | hp
        · exact (FQ3.out p hp).to hsm2 hSS
        · simp at hp; subst hp; exact hp2
      have hoc : OwnGrs base (GS base M v' cv') w2 cv' C := hmk.2.2.to hsm2 hSS hcb
      have set0 : SameOn (GS base M v' cv') w2 (w2.setCell ⟨M, 0, none⟩ v') := SameOn.setCell (fun g hg => hg.2.1) _
      have FIN : Hid (GMake base M (w2.setCell ⟨M, 0, none⟩ v') R C) := ⟨v', cv', kM2.set 0 _, by
          rw [HR.out]
          exact hof.to set0 (fun _ _ h => h) (fun g hg => Below.heap_setCell _ _ _ _ (fun e => hvM (by rw [hg]; exact congrArg some e))),
        hoc.to set0 (fun _ _ h => h) (fun g hg => Below.heap_setCell _ _ _ _ (fun e => hmk.cneM (by rw [hg]; exact congrArg some e)))⟩
      have BEL : Hid (Below base w (w2.setCell ⟨M, 0, none⟩ v')) := (((BC.out.trans (h2.mono (by have := hmk.1.lt; omega))).alloc (by have := hmk.1.lt; omega) _).grown g3 (by have := hmk.1.lt; simp; omega) (fun j hj => (hmk.2.1.lt j hj).1)).setCell (by exact hbM) _
      subst hw
      simp only [putC, Ck.out]
      clear hof hoc hp2 hSS hsm2 hcb hsm hnew g2 g3 g4 kM2 k0 y0 y1 y2 set0
      go_wp2
      go_end0
      exact ⟨rfl, FIN.out, BEL.out⟩

end Go.Proofs.Ytnpaejknoipicad

namespace Go.Proofs.Ytnpaejknoipicad
open Go.RowKit

def eachE (l : List Fr) : Int := goN (fun k => (frAt l k).chk) l.length 0

set_option maxHeartbeats 4000000 in
set_option maxRecDepth 100000 in
theorem groupEach_any (base M : Nat) (v : Value) (l : List Fr) (w : World) (hM : GMk base M w (.slice none 0 0) (.slice none 0 0) [] []) (hbM : base ≤ M) (hv : FrsIn (fun g => g < base) w v l) (hl : l.length ≤ 100) :
    Calls Try.prog 102 #[v, .func (.func 103) #[.pointer (some ⟨M, 0, none⟩)] #[]] w fun e w' => e = .returned (.int .i64 (eachE l)) ∧ (eachE l = 0 → GMake base M w' (upG l l.length).2 (upG l l.length).1) ∧ Below base w w' := by
  have HV : Hid (FrsIn (fun g => g < base) w v l) := hv
  obtain ⟨ao, c, hva, h1, h2, hc⟩ := hv
  have HC : Hid (∀ k, k < l.length → ∃ b off, ao = some ⟨b, off, none⟩ ∧ b < w.heap.size ∧ b < base ∧ At3In (fun g => g < base) w b (off + k * 3) (l[k]?.getD Fr.zero)) := hc
  obtain ⟨n, hn⟩ : ∃ n, n = l.length := ⟨_, rfl⟩
  have HN : Hid (n = l.length) := hn
  have hbw : base ≤ w.heap.size := by have := hM.1.lt; omega
  obtain ⟨E, hE⟩ : ∃ E, E = eachE l := ⟨_, rfl⟩
  have HE : Hid (E = goN (fun k => (frAt l k).chk) n 0) := by show _ = _; rw [hE, hn]; rfl
  have HMK : Hid (GMk base M w (.slice none 0 0) (.slice none 0 0) [] []) := hM
  have eg : Enters Try.prog 103 := enters_of Try.func103 (by kernel_rfl) rfl
  have eg' : ∀ (args : Array Value) (w : World), (callFunc 103 args).run Try.prog w = .ok (.enter 103 args) w := eg
  rw [← hn] at hva h1 hl
  rw [← hE, ← hn]
  clear hc hn hE hM eg
  subst hva
  go_enter Try.func102, Try.ntmps102
  go_wp2_with fail
  go_loopw [10] (fun i wr => ∃ k : Nat, k ≤ n ∧ i = .int .i64 k ∧ Hid (∀ j, j < k → (frAt l j).chk = 0) ∧ Hid (GMake base M wr (upG l k).2 (upG l k).1) ∧ Hid (Below base w wr))
    (fun i _ => n - (intOf i).toNat)
  case atStart => exact ⟨0, Nat.zero_le _, rfl, (show ∀ j, j < 0 → _ from fun j hj => absurd hj (Nat.not_lt_zero _)), ⟨_, _, HMK.out⟩, Below.refl _ _⟩
  case round =>
    obtain ⟨k, hk, rfl, HK, MK, HB⟩ := hrel
    by_cases hlt : k < n
    · obtain ⟨b, off, hao, hb, hbb, pv, c0, c1, c2, hp⟩ := HC.out k (by rw [← HN.out]; exact hlt)
      have d0 := (HB.out.cell (p := ⟨b, off + k * 3, none⟩) hbb).trans c0
      have d1 := (HB.out.cell (p := ⟨b, off + k * 3 + 1, none⟩) hbb).trans c1
      have d2 := (HB.out.cell (p := ⟨b, off + k * 3 + 2, none⟩) hbb).trans c2
      have hpr : StrsIn (fun g => g < base) wr pv (l[k]?.getD Fr.zero).parts := hp.to ⟨HB.out.size, fun g _ h => HB.out.block g h⟩ (fun _ _ h => h)
      obtain ⟨f, hf⟩ : ∃ f, f = frAt l k := ⟨_, rfl⟩
      rw [show (l[k]?.getD Fr.zero) = f from hf.symm] at d0 d1 hpr
      obtain ⟨pa, pc, ep⟩ := hpr.1.len
      obtain ⟨fv, cv, mk⟩ := MK.out
      have hlens := upG_len l k (by rw [← HN.out]; omega)
      have HUP : Hid (upG l (k + 1) = stepG (upG l k) f) := by show _ = _; rw [hf]; exact upG_succ l k (by rw [← HN.out]; exact hlt)
      have HFC : Hid (frAt l k = f) := hf.symm
      obtain ⟨cl, o, hco⟩ : ∃ cl o, upG l k = (cl, o) := ⟨_, _, rfl⟩
      rw [hco] at mk hlens HUP
      simp only at mk hlens
      have HM1 : Hid (GMk base M wr fv cv o cl) := mk
      have HTK : Hid (f.chk = 0 → ∀ w' : World, GMk base M w' fv cv o cl → StrsIn (fun g => g < base) w' pv f.parts → Calls Try.prog 103 #[.pointer (some ⟨M, 0, none⟩), .agg #[.int .i64 f.time, .bool f.key, pv]] w' fun e w'' => e = .returned (.tuple #[]) ∧ GMake base M w'' (growG o f) (if f.key && decide (0 < o.length) then cl ++ [o] else cl) ∧ Below base w' w'') := fun h w' h1 h2 => groupTake_any base M fv cv o cl f pv w' h1 hbM hlens.1 (by have := hlens.2; omega) h2 h
      obtain ⟨ck, hck⟩ : ∃ ck, ck = f.chk := ⟨_, rfl⟩
      have HCF : Hid (∀ w' : World, Strs w' pv f.parts → Calls Try.prog 65 #[.agg #[.int .i64 f.time, .bool f.key, pv]] w' fun e w'' => e = .returned (.int .i64 ck) ∧ Below w'.heap.size w' w'') := fun w' hs => by rw [hck]; exact frameCheck_any f.time f.key _ f.parts w' hs hpr.2.1
      have HP : Hid (StrsIn (fun g => g < base) wr pv f.parts) := hpr
      have HCK : Hid (ck = f.chk) := hck
      rw [← hck] at HTK
      obtain ⟨R, hR⟩ : ∃ R, R = growG o f := ⟨_, rfl⟩
      obtain ⟨C, hC⟩ : ∃ C, C = (if f.key && decide (0 < o.length) then cl ++ [o] else cl) := ⟨_, rfl⟩
      have HUP2 : Hid (upG l (k + 1) = (C, R)) := by show _ = _; rw [HUP.out, hR, hC]; rfl
      rw [← hR, ← hC] at HTK
      obtain ⟨pn, hpn⟩ : ∃ pn, pn = f.parts.length := ⟨_, rfl⟩
      rw [← hpn] at ep
      subst ep
      subst hao
      have hlti : (k : Int) < (n : Int) := by omega
      obtain ⟨ft, fk, fp⟩ := f
      simp only at d0 d1 HP HCF HTK
      clear c0 c1 c2 hp hpr hf hck hpn hco mk hlens hR hC MK HUP
      go_wp2_with fail
      refine (HCF.out _ (HP.out.1.below ((Below.refl _ wr).alloc (Nat.le_refl _) _))).mono ?_
      rintro e w1 ⟨rfl, hb1⟩
      have B1 : Hid (Below wr.heap.size wr w1) := ((Below.refl _ wr).alloc (Nat.le_refl _) _).trans (hb1.mono (by simp))
      have BB1 : Hid (Below base w w1) := HB.out.trans (B1.out.mono (by have := HB.out.size; omega))
      obtain ⟨y0, y1, y2⟩ := ((Blk.new wr #[.int .i64 ft, .bool fk, .slice pa pn pc] 36).below hb1 (by simp)).three
      clear hb1 d0 d1 d2
      by_cases hc0 : ck = 0
      · have MK1 : Hid (GMk base M w1 fv cv o cl) := HM1.out.below B1.out
        have SP1 : Hid (StrsIn (fun g => g < base) w1 (.slice pa pn pc) fp) := HP.out.below B1.out
        have HCK0 : Hid ((frAt l k).chk = 0) := by show _ = _; rw [HFC.out, ← HCK.out, hc0]
        have HT2 : Hid (∀ w' : World, GMk base M w' fv cv o cl → StrsIn (fun g => g < base) w' (.slice pa pn pc) fp → Calls Try.prog 103 #[.pointer (some ⟨M, 0, none⟩), .agg #[.int .i64 ft, .bool fk, .slice pa pn pc]] w' fun e w'' => e = .returned (.tuple #[]) ∧ GMake base M w'' R C ∧ Below base w' w'') := HTK.out hc0
        subst hc0
        clear HTK HCK
        go_wp2_with (go_at_fn 103; refine (HT2.out _ MK1.out SP1.out).mono ?_; rintro e w2 ⟨rfl, mk2, hb2⟩)
        have MK3 : Hid (GMake base M w2 (upG l (k + 1)).2 (upG l (k + 1)).1) := by show GMake _ _ _ _ _; rw [HUP2.out]; exact mk2
        have BB2 : Hid (Below base w w2) := BB1.out.trans hb2
        clear mk2 hb2 y0 y1 y2
        go_roundw
        case rel => exact ⟨k + 1, by omega, by go_num, (show ∀ j, j < k + 1 → _ from fun j hj => by
          by_cases e : j = k
          · subst e; exact HCK0.out
          · exact HK.out j (by omega)), MK3, BB2⟩
        case measure => simp [intOf]; omega
      · have HEE : Hid (E = ck) := by
          show _ = _
          rw [HE.out, goN_hit n 0 k (Nat.zero_le _) (by omega) (fun j _ hj => HK.out j hj) (by rw [HFC.out, ← HCK.out]; exact hc0), HFC.out, ← HCK.out]
        go_wp2
        go_ret
        exact ⟨by rw [HEE.out]; rfl, fun h => absurd (HEE.out.symm.trans h) hc0, BB1.out⟩
    · have hkl : k = n := by omega
      subst hkl
      have HEE : Hid (E = 0) := by show _ = _; rw [HE.out]; exact goN_all _ _ (fun j _ hj => HK.out j (by omega))
      go_wp2
      go_ret
      exact ⟨by rw [HEE.out]; rfl, fun _ => MK.out, HB.out⟩

end Go.Proofs.Ytnpaejknoipicad

namespace Go.Proofs.Ytnpaejknoipicad
open Go.RowKit

/-- what All answers lies in blocks of its own -/
def Fresh3 (base : Nat) (w : World) (cv fv : Value) (r : List (List Fr) × List Fr) : Prop := GrsIn (fun g => base ≤ g) w cv r.1 ∧ FrsIn (fun g => base ≤ g) w fv r.2

set_option maxHeartbeats 4000000 in
set_option maxRecDepth 100000 in
theorem groupAll_any (v : Value) (l : List Fr) (w : World) (S : Nat → Prop) (hv : FrsIn S w v l) :
    Calls Try.prog 86 #[v] w fun e w' => ∃ ca cc fa fc, e = .returned (.tuple #[.slice ca (groupsR l).1.length cc, .agg #[.slice fa (groupsR l).2.length fc], .int .i64 (groupsE l)]) ∧ GrsIn (fun g => w.heap.size ≤ g) w' (.slice ca (groupsR l).1.length cc) (groupsR l).1 ∧ FrsIn (fun g => w.heap.size ≤ g) w' (.slice fa (groupsR l).2.length fc) (groupsR l).2 ∧ Below w.heap.size w w' := by
  obtain ⟨a, c, hva, _, hl⟩ := hv.len
  have HV : Hid (FrsIn S w v l) := hv
  obtain ⟨n, hn⟩ : ∃ n, n = l.length := ⟨_, rfl⟩
  have HN : Hid (n = l.length) := hn
  obtain ⟨E, hE⟩ : ∃ E, E = groupsE l := ⟨_, rfl⟩
  obtain ⟨R, hR⟩ : ∃ R, R = groupsR l := ⟨_, rfl⟩
  have HE : Hid (E = if 100 < n then 2 else eachE l) := by show _ = _; rw [hE, hn]; rfl
  have HR : Hid (R = if E = 0 then upG l n else ([], [])) := by show _ = _; rw [hR, hE, hn]; rfl
  rw [← hn] at hva hl
  rw [← hE, ← hR]
  clear hv hn hE hR
  subst hva
  by_cases h1 : 100 < n
  · have hE2 : E = 2 := by rw [HE.out, if_pos h1]
    have hR2 : R = ([], []) := by rw [HR.out, hE2]; rfl
    rw [hE2, hR2]
    have hr := Blk.new w #[.slice none 0 0] 25
    have r0 := hr.one
    have r1 := hr.free 0
    have HBl : Hid (Below w.heap.size w (w.alloc (.cells #[.slice none 0 0] 25))) := (Below.refl _ w).alloc (Nat.le_refl _) _
    clear hr
    go_enter Try.func86, Try.ntmps86
    go_wp2
    exact bodyPost_ret (v := .tuple #[.slice none 0 0, .agg #[.slice none 0 0], .int .i64 2]) (by simp [results, Try.results86, go_sem]) rfl ⟨none, 0, none, 0, rfl, GrsIn.nil _ _, FrsIn.nil _ _, HBl.out⟩
  have hn100 : n ≤ 100 := by omega
  have HE2 : Hid (E = eachE l) := by show _ = _; rw [HE.out, if_neg h1]
  have HEA : Hid (∀ w' : World, GMk (w.heap.size + 1) (w.heap.size + 1) w' (.slice none 0 0) (.slice none 0 0) [] [] → FrsIn (fun g => g < w.heap.size + 1) w' (.slice a n c) l → Calls Try.prog 102 #[.slice a n c, .func (.func 103) #[.pointer (some ⟨w.heap.size + 1, 0, none⟩)] #[]] w' fun e w'' => e = .returned (.int .i64 E) ∧ (E = 0 → GMake (w.heap.size + 1) (w.heap.size + 1) w'' (upG l n).2 (upG l n).1) ∧ Below (w.heap.size + 1) w' w'') := fun w' h1 h2 => by
    have := groupEach_any (w.heap.size + 1) (w.heap.size + 1) (.slice a n c) l w' h1 (Nat.le_refl _) h2 (by rw [← HN.out]; exact hn100)
    rw [← HE2.out, ← HN.out] at this
    exact this
  clear HE h1
  go_enter Try.func86, Try.ntmps86
  have HM0 : Hid (GMk (w.heap.size + 1) (w.heap.size + 1) ((w.alloc (.cells #[.slice none 0 0] 25)).alloc (.cells #[.slice none 0 0, .slice none 0 0] 148)) (.slice none 0 0) (.slice none 0 0) [] []) := by
    refine ⟨?_, OwnFrs.nil _ _ _, OwnGrs.nil _ _ _⟩
    have := Blk.new (w.alloc (.cells #[.slice none 0 0] 25)) #[.slice none 0 0, .slice none 0 0] 148
    simp only [World.size_alloc] at this
    exact this
  have HV0 : Hid (FrsIn (fun g => g < w.heap.size + 1) ((w.alloc (.cells #[.slice none 0 0] 25)).alloc (.cells #[.slice none 0 0, .slice none 0 0] 148)) (.slice a n c) l) := ((HV.out.mono (S' := fun g => g < w.heap.size + 1) (fun g hg _ => by show g < _; omega)).alloc _).alloc _
  go_wp2_with fail
  refine (HEA.out _ HM0.out HV0.out).mono ?_
  rintro e w1 ⟨rfl, hmk, hb1⟩
  have kR : Blk w1 w.heap.size #[.slice none 0 0] 25 := ((Blk.new w #[.slice none 0 0] 25).alloc (.cells #[.slice none 0 0, .slice none 0 0] 148)).below hb1 (by omega)
  have B1 : Hid (Below w.heap.size w w1) := (((Below.refl _ w).alloc (Nat.le_refl _) _).alloc (by simp) _).trans (hb1.mono (by omega))
  have r0 := kR.one
  have r1 := kR.free 0
  by_cases hE0 : E = 0
  · obtain ⟨fv, cv, mk⟩ := hmk hE0
    have hR2 : R = upG l n := by rw [HR.out, if_pos hE0]
    rw [← hR2] at mk
    obtain ⟨kM, hF, hC⟩ := mk
    have GF : FrsIn (fun g => w.heap.size + 1 ≤ g) w1 fv R.2 := hF.frsIn (fun g _ h => h.1) (fun g hg => (hF.lt g hg).1)
    have GC : GrsIn (fun g => w.heap.size + 1 ≤ g) w1 cv R.1 := hC.grsIn (fun g _ h => h.1) (fun g hg => (hC.lt g hg).1)
    obtain ⟨fa, fc, efv, _⟩ := GF.len
    obtain ⟨ca, cc, ecv, _⟩ := GC.len
    obtain ⟨k0, k1⟩ := kM.two
    rw [efv] at GF k0
    rw [ecv] at GC k1
    have HGF : Hid (FrsIn (fun g => w.heap.size + 1 ≤ g) w1 (.slice fa R.2.length fc) R.2) := GF
    have HGC : Hid (GrsIn (fun g => w.heap.size + 1 ≤ g) w1 (.slice ca R.1.length cc) R.1) := GC
    obtain ⟨nF, hnF⟩ : ∃ nF, nF = R.2.length := ⟨_, rfl⟩
    obtain ⟨nC, hnC⟩ : ∃ nC, nC = R.1.length := ⟨_, rfl⟩
    rw [← hnF] at HGF k0
    rw [← hnC] at HGC k1
    have HNF : Hid (nF = R.2.length) := hnF
    have HNC : Hid (nC = R.1.length) := hnC
    have hne : ¬ w.heap.size + 1 = w.heap.size := by omega
    have hMl := kM.lt
    subst hE0
    clear hmk hb1 kR kM hF hC efv ecv GF GC hR2 hnF hnC
    go_wp2_with fail
    go_region
    all_goals
      go_wp2
      refine bodyPost_ret (v := .tuple #[.slice ca nC cc, .agg #[.slice fa nF fc], .int .i64 0]) (by simp [results, Try.results86, go_sem, r0]) rfl ⟨ca, cc, fa, fc, by rw [HNC.out, HNF.out], ?_, ?_, ?_⟩
      · rw [← HNC.out]
        exact HGC.out.to (SameOn.setCell (fun g (hg : w.heap.size + 1 ≤ g) => by show g ≠ w.heap.size; omega) _) (fun g _ hg => by omega)
      · rw [← HNF.out]
        exact HGF.out.to (SameOn.setCell (fun g (hg : w.heap.size + 1 ≤ g) => by show g ≠ w.heap.size; omega) _) (fun g _ hg => by omega)
      · exact (B1.out.setCell (by simp) _).drew
  · have hR2 : R = ([], []) := by rw [HR.out, if_neg hE0]
    have HR2 : Hid (R = ([], [])) := hR2
    clear hmk hb1 kR hR2
    go_wp2
    refine bodyPost_ret (v := .tuple #[.slice none 0 0, .agg #[.slice none 0 0], .int .i64 E]) (by simp [results, Try.results86, go_sem, r0]) rfl ?_
    rw [HR2.out]
    exact ⟨none, 0, none, 0, rfl, GrsIn.nil _ _, FrsIn.nil _ _, B1.out.setCell (by simp) _⟩

end Go.Proofs.Ytnpaejknoipicad

namespace Go.Proofs.Ytnpaejknoipicad
open Go.RowKit

theorem FrsIn.two {S : Nat → Prop} {w : World} {b : Nat} {f : Fr} {pv : Value} (hb : Blk w b #[.int .i64 f.time, .bool f.key, pv] 36) (hS : S b) (hp : StrsIn S w pv f.parts) : FrsIn S w (.slice (some ⟨b, 0, none⟩) 1 1) [f] := FrsIn.one hb hS hp

/-- what is known behind each step -/
def AddI (w1 : World) (f : Fr) (pa : Option Addr) (pn pc : Nat) (oa : Option Addr) (lo oc : Nat) (X : List Fr) (C : List (List Fr)) (R : List Fr) (E : Int) (s : Nat) (r : Nat → Value) (b : Option Nat) (w' : World) : Prop :=
  Below w1.heap.size w1 w' ∧ (s ≤ 4 → ∀ g, b = some g → w1.heap.size ≤ g ∧ Blk w' g #[.slice none 0 0] 25) ∧ match s with
    | 0 => True
    | 1 => ∃ g1, r 0 = .slice (some ⟨g1, 0, none⟩) 1 1 ∧ Blk w' g1 #[.int .i64 f.time, .bool f.key, .slice pa pn pc] 36
    | 2 => ∃ g1 g2, r 1 = .slice (some ⟨g2, 0, none⟩) 2 2 ∧ Blk w' g1 #[.int .i64 f.time, .bool f.key, .slice pa pn pc] 36 ∧ Blk w' g2 #[.slice oa lo oc, .slice (some ⟨g1, 0, none⟩) 1 1] 23
    | 3 => FrsIn (fun _ => True) w' (r 2) X
    | 4 => ∃ ca cc fa fc, r 3 = .tuple #[.slice ca C.length cc, .agg #[.slice fa R.length fc], .int .i64 E] ∧ GrsIn (fun x => b ≠ some x ∧ w1.heap.size ≤ x) w' (.slice ca C.length cc) C ∧ FrsIn (fun x => b ≠ some x ∧ w1.heap.size ≤ x) w' (.slice fa R.length fc) R
    | _ => ∃ g ca cc fa fc, b = some g ∧ w1.heap.size ≤ g ∧ r 3 = .tuple #[.slice ca C.length cc, .agg #[.slice fa R.length fc], .int .i64 E] ∧ GrsIn (fun x => b ≠ some x ∧ w1.heap.size ≤ x) w' (.slice ca C.length cc) C ∧ FrsIn (fun x => b ≠ some x ∧ w1.heap.size ≤ x) w' (.slice fa R.length fc) R ∧ Blk w' g #[.slice fa R.length fc] 25

theorem AddI.box {w1 : World} {f : Fr} {pa : Option Addr} {pn pc : Nat} {oa : Option Addr} {lo oc : Nat} {X : List Fr} {C : List (List Fr)} {R : List Fr} {E : Int} {s : Nat} {r : Nat → Value} {w' : World} (h : AddI w1 f pa pn pc oa lo oc X C R E s r none w') : AddI w1 f pa pn pc oa lo oc X C R E s r (some w'.heap.size) (w'.alloc (.cells #[.slice none 0 0] 25)) := by
  obtain ⟨h1, _, h3⟩ := h
  refine ⟨h1.alloc h1.size _, fun _ g hg => by injection hg with hg; subst hg; exact ⟨h1.size, Blk.new _ _ _⟩, ?_⟩
  match s, h3 with
  | 0, _ => trivial
  | 1, ⟨g1, e1, e2⟩ => exact ⟨g1, e1, e2.alloc _⟩
  | 2, ⟨g1, g2, e1, e2, e3⟩ => exact ⟨g1, g2, e1, e2.alloc _, e3.alloc _⟩
  | 3, h => exact FrsIn.alloc h _
  | 4, ⟨ca, cc, fa, fc, e1, e2, e3⟩ => exact ⟨ca, cc, fa, fc, e1, (e2.mono fun g hg h => ⟨fun e => (by injection e with e; omega), h.2⟩).alloc _, (e3.mono fun g hg h => ⟨fun e => (by injection e with e; omega), h.2⟩).alloc _⟩
  | _ + 5, ⟨g, _, _, _, _, e, _⟩ => cases e

end Go.Proofs.Ytnpaejknoipicad

namespace Go.Proofs.Ytnpaejknoipicad
open Go.RowKit

/-- what the frames of a right group make: that group -/
theorem upG_group {O : List Fr} (h : O = [] ∨ gchk O = 0) : ∀ k, k ≤ O.length → upG O k = ([], O.take k) := by
  rcases h with h | h
  · subst h; intro k hk
    have : k = 0 := by simpa using hk
    subst this; rfl
  · obtain ⟨_, h6, hc⟩ := gchk_zero.1 h
    intro k
    induction k with
    | zero => intro _; rfl
    | succ k ih =>
      intro hk
      rw [upG_succ O k (by omega), ih (by omega), take_one (by omega) Fr.zero]
      have hin := (hc k (by omega)).2
      unfold inPl at hin
      by_cases h0 : k = 0
      · subst h0
        rw [if_pos rfl] at hin
        simp [stepG, growG, hin]
      · rw [if_neg h0] at hin
        simp only [Bool.and_eq_true, Bool.not_eq_true', decide_eq_true_eq] at hin
        have hl : (O.take k).length = k := by simp; omega
        have hlast : frAt (O.take k) (k - 1) = frAt O (k - 1) := by
          unfold frAt; rw [List.getElem?_take_of_lt (by omega)]
        simp only [stepG, hin.1, Bool.false_and, Bool.false_eq_true, if_false]
        unfold growG
        rw [if_neg (by rw [hin.1]; simp), hl, hlast, if_neg (by omega)]
theorem groups_more {O : List Fr} {f : Fr} (h : O = [] ∨ gchk O = 0) (hf : f.chk = 0) : groupsE (O ++ [f]) = 0 ∧ groupsR (O ++ [f]) = (if f.key && decide (0 < O.length) then [O] else [], growG O f) := by
  have hO6 : O.length ≤ 6 := by
    rcases h with h | h
    · rw [h]; simp
    · exact (gchk_zero.1 h).2.1
  have hok : ∀ k, k < (O ++ [f]).length → (frAt (O ++ [f]) k).chk = 0 := fun k hk => by
    by_cases hkl : k < O.length
    · have e : frAt (O ++ [f]) k = frAt O k := by unfold frAt; rw [List.getElem?_append_left hkl]
      rw [e]
      rcases h with h | h
      · rw [h] at hkl; simp at hkl
      · exact ((gchk_zero.1 h).2.2 k hkl).1
    · have : k = O.length := by simp at hk; omega
      subst this
      have e : frAt (O ++ [f]) O.length = f := by unfold frAt; simp
      rw [e]; exact hf
  have hE : groupsE (O ++ [f]) = 0 := by
    unfold groupsE
    rw [if_neg (by simp; omega)]
    exact goN_all _ _ (fun j _ hj => hok j (by omega))
  refine ⟨hE, ?_⟩
  unfold groupsR
  rw [if_pos hE]
  have h1 : upG (O ++ [f]) (O ++ [f]).length = stepG (upG O O.length) f := by
    unfold upG
    rw [List.take_length, List.take_length, List.foldl_append]; rfl
  rw [h1, upG_group h O.length (Nat.le_refl _), List.take_length]
  simp [stepG]

set_option maxHeartbeats 8000000 in
set_option maxRecDepth 100000 in
theorem keeperAdd_any (M : Nat) (first : Int) (gv ov pv : Value) (L : List (List Fr)) (O : List Fr) (f : Fr) (w : World) (hM : Blk w M #[.int .i64 first, gv, ov] 72) (hg : GrsIn (fun g => g ≠ M) w gv L) (ho : FrsIn (fun g => g ≠ M) w ov O) (hp : StrsIn (fun g => g ≠ M) w pv f.parts)
    (hL : L.length ≤ 5) (hLr : ∀ g ∈ L, gchk g = 0) (hOr : O = [] ∨ gchk O = 0) (hf : f.chk = 0) (hf0 : 0 ≤ first) (hf1 : first ≤ 100000) (C : List (List Fr)) (hC : C = if f.key && decide (0 < O.length) then [O] else []) :
    Calls Try.prog 66 #[.pointer (some ⟨M, 0, none⟩), .agg #[.int .i64 f.time, .bool f.key, pv]] w fun e w' => e = .returned (.bool (decide (0 < C.length))) ∧ ∃ gv' ov', Blk w' M #[.int .i64 (first + trimD (L ++ C)), gv', ov'] 72 ∧ GrsIn (fun g => w.heap.size ≤ g) w' gv' ((L ++ C).drop (trimD (L ++ C))) ∧ FrsIn (fun g => w.heap.size ≤ g) w' ov' (growG O f) ∧ Kept [M] w w' := by
  obtain ⟨hE, hR⟩ := groups_more hOr hf
  rw [← hC] at hR
  obtain ⟨R, hRR⟩ : ∃ R, R = growG O f := ⟨_, rfl⟩
  rw [← hRR] at hR
  obtain ⟨ga, gc, eg, _, _⟩ := hg.len
  obtain ⟨oa, oc, eo, _, _⟩ := ho.len
  obtain ⟨pa, pc, ep⟩ := hp.1.len
  obtain ⟨ln, hln⟩ : ∃ n, n = L.length := ⟨_, rfl⟩
  obtain ⟨lo, hlo⟩ : ∃ n, n = O.length := ⟨_, rfl⟩
  obtain ⟨pn, hpn⟩ : ∃ n, n = f.parts.length := ⟨_, rfl⟩
  rw [← hln] at eg
  rw [← hlo] at eo
  rw [← hpn] at ep
  have hO6 : O.length ≤ 6 := by
    rcases hOr with h | h
    · rw [h]; simp
    · exact (gchk_zero.1 h).2.1
  have hC1 : C.length ≤ 1 := by rw [hC]; split <;> simp
  have HX : Hid (∀ (U : World) (x : Value), FrsIn (fun _ => True) U x (O ++ [f]) → Calls Try.prog 86 #[x] U fun e w'' => ∃ ca cc fa fc, e = .returned (.tuple #[.slice ca C.length cc, .agg #[.slice fa R.length fc], .int .i64 0]) ∧ GrsIn (fun g => U.heap.size ≤ g) w'' (.slice ca C.length cc) C ∧ FrsIn (fun g => U.heap.size ≤ g) w'' (.slice fa R.length fc) R ∧ Below U.heap.size U w'') := fun U x hx => by
    have := groupAll_any x (O ++ [f]) U _ hx
    rw [hE, hR] at this
    exact this
  have HG : Hid (GrsIn (fun g => g ≠ M) w gv L) := hg
  have HO : Hid (FrsIn (fun g => g ≠ M) w ov O) := ho
  have HP : Hid (StrsIn (fun g => g ≠ M) w pv f.parts) := hp
  have HM : Hid (Blk w M #[.int .i64 first, gv, ov] 72) := hM
  have HLR : Hid (∀ g ∈ L, gchk g = 0) := hLr
  have HO6 : Hid (O.length ≤ 6) := hO6
  have HLO : Hid (lo = O.length) := hlo
  have hMw : M < w.heap.size := hM.lt
  rw [← hRR]
  clear hE hR hg ho hp hM hLr hOr hf hRR hC hln hpn hlo
  subst eg eo ep
  go_enter Try.func66, Try.ntmps66
  go_wp2_with fail
  obtain ⟨w1, hw1⟩ : ∃ w1, w1 = w.alloc (.cells #[.int .i64 f.time, .bool f.key, .slice pa pn pc] 36) := ⟨_, rfl⟩
  have B1 : Below w.heap.size w w1 := by rw [hw1]; exact (Below.refl _ _).alloc (Nat.le_refl _) _
  have KF : Blk w1 w.heap.size #[.int .i64 f.time, .bool f.key, .slice pa pn pc] 36 := by rw [hw1]; exact Blk.new _ _ _
  have KM : Blk w1 M #[.int .i64 first, .slice ga ln gc, .slice oa lo oc] 72 := HM.out.below B1 hMw
  have hw1s : w1.heap.size = w.heap.size + 1 := by rw [hw1]; simp
  rw [← hw1]
  have BB1 : Hid (Below w.heap.size w w1) := B1
  have KMH : Hid (Blk w1 M #[.int .i64 first, .slice ga ln gc, .slice oa lo oc] 72) := KM
  clear hw1 B1
  refine region_box (by kernel_rfl) (by kernel_rfl) [.quiet (.pointer (some ⟨M, 0, none⟩)) 5, .quiet (.pointer (some ⟨M, 0, none⟩)) 5, .quiet (.pointer (some ⟨M, 0, none⟩)) 5, .quiet (.pointer (some ⟨M, 2, none⟩)) 5, .quiet (.pointer (some ⟨M, 2, none⟩)) 5, .quiet (.slice oa lo oc) 5, .quiet (.agg #[.int .i64 f.time, .bool f.key, .slice pa pn pc]) 5, .step 0, .step 1, .step 2, .step 3, .fin 3 (fun x => x), .fin 3 (exT 0), .fin 3 (exT 1), .fin 3 (exT 2), .box, .fin 3 (exT 0), .step 4, .fin 3 (exT 2)] [7, 8, 9, 10, 17] 15 (by kernel_rfl)
    (AddI w1 f pa pn pc oa lo oc (O ++ [f]) C R 0) ?i0 ?step ?fin
  case i0 => exact ⟨⟨rfl, rfl, rfl, Nat.le_refl _, fun _ _ => rfl⟩, fun _ g hg => (by cases hg), trivial⟩
  case step =>
    intro i o ho a' w' s r b hI hfree hvals hbx
    have f0 : a'.eval (.tmp 0) = .pointer (some ⟨M, 0, none⟩) := (hfree 0 (by kernel_rfl)).trans rfl
    have f3 : a'.eval (.tmp 3) = .pointer (some ⟨w.heap.size, 0, none⟩) := (hfree 3 (by kernel_rfl)).trans rfl
    have hBw : Below w1.heap.size w1 w' := hI.1
    have hMw1 := KM.lt
    have hFw1 := KF.lt
    obtain ⟨_, _, y2⟩ := (KM.below hBw hMw1).three
    obtain ⟨z0, z1, z2⟩ := (KF.below hBw hFw1).three
    have hR3 : 3 < s → ∃ ca cc fa fc, r 3 = .tuple #[.slice ca C.length cc, .agg #[.slice fa R.length fc], .int .i64 0] := fun hs => by
      match s, hs, hI.2.2 with
      | 4, _, ⟨ca, cc, fa, fc, e, _⟩ => exact ⟨ca, cc, fa, fc, e⟩
      | _ + 5, _, ⟨_, ca, cc, fa, fc, _, _, e, _⟩ => exact ⟨ca, cc, fa, fc, e⟩
    match i, ho with
    | 0, ho =>
      simp at ho; subst ho
      show s ≤ 5 → (execOp a'.eval _).run _ w' = .ok (.value _) w'
      intro _
      generalize a'.eval = ρ at *
      simp [execOp, go_sem, f0]
    | 1, ho =>
      simp at ho; subst ho
      have e1 : a'.eval (.tmp 9) = .pointer (some ⟨M, 0, none⟩) := hvals 0 _ _ (by kernel_rfl) rfl rfl
      show s ≤ 5 → (execOp a'.eval _).run _ w' = .ok (.value _) w'
      intro _
      generalize a'.eval = ρ at *
      simp [execOp, go_sem, e1]
    | 2, ho =>
      simp at ho; subst ho
      have e1 : a'.eval (.tmp 10) = .pointer (some ⟨M, 0, none⟩) := hvals 1 _ _ (by kernel_rfl) rfl rfl
      show s ≤ 5 → (execOp a'.eval _).run _ w' = .ok (.value _) w'
      intro _
      generalize a'.eval = ρ at *
      simp [execOp, go_sem, e1]
    | 3, ho =>
      simp at ho; subst ho
      have e1 : a'.eval (.tmp 11) = .pointer (some ⟨M, 0, none⟩) := hvals 2 _ _ (by kernel_rfl) rfl rfl
      show s ≤ 5 → (execOp a'.eval _).run _ w' = .ok (.value _) w'
      intro _
      generalize a'.eval = ρ at *
      simp [execOp, go_sem, e1]
    | 4, ho =>
      simp at ho; subst ho
      have e1 : a'.eval (.tmp 12) = .pointer (some ⟨M, 2, none⟩) := hvals 3 _ _ (by kernel_rfl) rfl rfl
      show s ≤ 5 → (execOp a'.eval _).run _ w' = .ok (.value _) w'
      intro _
      generalize a'.eval = ρ at *
      simp [execOp, go_sem, e1]
    | 5, ho =>
      simp at ho; subst ho
      have e1 : a'.eval (.tmp 13) = .pointer (some ⟨M, 2, none⟩) := hvals 4 _ _ (by kernel_rfl) rfl rfl
      show s ≤ 5 → (execOp a'.eval _).run _ w' = .ok (.value _) w'
      intro _
      generalize a'.eval = ρ at *
      simp [execOp, go_sem, e1, y2]
    | 6, ho =>
      simp at ho; subst ho
      show s ≤ 5 → (execOp a'.eval _).run _ w' = .ok (.value _) w'
      intro _
      generalize a'.eval = ρ at *
      simp [execOp, go_sem, f3, z0, z1, z2]
    | 7, ho =>
      simp at ho; subst ho
      have e1 : a'.eval (.tmp 15) = .agg #[.int .i64 f.time, .bool f.key, .slice pa pn pc] := hvals 6 _ _ (by kernel_rfl) rfl rfl
      show s = 0 → _
      intro hs
      subst hs
      refine oper_wp_ok (v := .slice (some ⟨w'.heap.size, 0, none⟩) 1 1) (w' := w'.alloc (.cells #[.int .i64 f.time, .bool f.key, .slice pa pn pc] 36)) ?_ ⟨_, rfl, hBw.alloc hBw.size _, fun _ g hg => ⟨(hI.2.1 (by omega) g hg).1, (hI.2.1 (by omega) g hg).2.alloc _⟩, w'.heap.size, updR_at _ _ _, Blk.new _ _ _⟩
      generalize a'.eval = ρ at *
      simp [execOp, go_sem, e1]
    | 8, ho =>
      simp at ho; subst ho
      show s = 1 → _
      intro hs
      subst hs
      obtain ⟨g1, q1, q2⟩ := hI.2.2
      have e1 : a'.eval (.tmp 14) = .slice oa lo oc := hvals 5 _ _ (by kernel_rfl) rfl rfl
      have e2 : a'.eval (.tmp 16) = .slice (some ⟨g1, 0, none⟩) 1 1 := (hvals 7 _ _ (by kernel_rfl) rfl rfl).trans q1
      refine oper_wp_ok (v := .slice (some ⟨w'.heap.size, 0, none⟩) 2 2) (w' := w'.alloc (.cells #[.slice oa lo oc, .slice (some ⟨g1, 0, none⟩) 1 1] 23)) ?_ ⟨_, rfl, hBw.alloc hBw.size _, fun _ g hg => ⟨(hI.2.1 (by omega) g hg).1, (hI.2.1 (by omega) g hg).2.alloc _⟩, g1, w'.heap.size, updR_at _ _ _, q2.alloc _, Blk.new _ _ _⟩
      generalize a'.eval = ρ at *
      simp [execOp, go_sem, e1, e2]
    | 9, ho =>
      simp at ho; subst ho
      show s = 2 → _
      intro hs
      subst hs
      obtain ⟨g1, g2, q1, q2, q3⟩ := hI.2.2
      have e1 : a'.eval (.tmp 17) = .slice (some ⟨g2, 0, none⟩) 2 2 := (hvals 8 _ _ (by kernel_rfl) rfl rfl).trans q1
      have ef : a'.eval (.func 87) = .func (.func 87) #[] #[] := rfl
      obtain ⟨t0, t1⟩ := q3.two
      have hbw : Below w.heap.size w w' := BB1.out.trans (hBw.mono BB1.out.size)
      have hc := concatFrs_any (fun _ => True) g2 (.slice oa lo oc) (.slice (some ⟨g1, 0, none⟩) 1 1) O [f] w' t0 t1 ((HO.out.below hbw).mono fun _ _ _ => trivial) (FrsIn.one q2 trivial ((HP.out.below hbw).mono fun _ _ _ => trivial)) (by have := HO6.out; simp; omega)
      refine oper_wp_call (f := 87) (args := #[.slice (some ⟨g2, 0, none⟩) 2 2]) ?_ (hc.mono ?_)
      · generalize a'.eval = ρ at *
        simp [execOp, go_sem, e1, ef]
      · rintro e w'' ⟨u, rfl, o1, b1⟩
        exact ⟨u, rfl, u, rfl, hBw.trans (b1.mono hBw.size), fun _ g hg => ⟨(hI.2.1 (by omega) g hg).1, (hI.2.1 (by omega) g hg).2.below b1 (hI.2.1 (by omega) g hg).2.lt⟩, by show FrsIn _ _ _ _; rw [updR_at]; exact o1.frsIn (fun _ _ _ => trivial) (fun _ _ => trivial)⟩
    | 10, ho =>
      simp at ho; subst ho
      show s = 3 → _
      intro hs
      subst hs
      have e1 : a'.eval (.tmp 18) = r 2 := hvals 9 _ _ (by kernel_rfl) rfl rfl
      have ef : a'.eval (.func 86) = .func (.func 86) #[] #[] := rfl
      refine oper_wp_call (f := 86) (args := #[r 2]) ?_ ((HX.out w' (r 2) hI.2.2).mono ?_)
      · generalize a'.eval = ρ at *
        simp [execOp, go_sem, e1, ef]
      · rintro e w'' ⟨ca, cc, fa, fc, rfl, s1, s2, b1⟩
        have hne : ∀ x, w'.heap.size ≤ x → b ≠ some x := fun x hx e => by have := (hI.2.1 (by omega) x e).2.lt; omega
        exact ⟨_, rfl, _, rfl, hBw.trans (b1.mono hBw.size), fun _ g hg => ⟨(hI.2.1 (by omega) g hg).1, (hI.2.1 (by omega) g hg).2.below b1 (hI.2.1 (by omega) g hg).2.lt⟩, ca, cc, fa, fc, updR_at _ _ _, s1.mono fun x _ hx => ⟨hne x hx, by have := hBw.size; omega⟩, s2.mono fun x _ hx => ⟨hne x hx, by have := hBw.size; omega⟩⟩
    | 11, ho =>
      simp at ho; subst ho
      have e1 : a'.eval (.tmp 19) = r 3 := hvals 10 _ _ (by kernel_rfl) rfl rfl
      show 3 < s → (execOp a'.eval _).run _ w' = .ok (.value _) w'
      intro hs
      obtain ⟨ca, cc, fa, fc, er⟩ := hR3 hs
      rw [er] at e1 ⊢
      generalize a'.eval = ρ at *
      simp [execOp, go_sem, e1]
    | 12, ho =>
      simp at ho; subst ho
      have e1 : a'.eval (.tmp 8) = r 3 := hvals 11 _ _ (by kernel_rfl) rfl rfl
      show 3 < s → (execOp a'.eval _).run _ w' = .ok (.value _) w'
      intro hs
      obtain ⟨ca, cc, fa, fc, er⟩ := hR3 hs
      rw [er] at e1 ⊢
      simp only [exT] at e1 ⊢
      generalize a'.eval = ρ at *
      simp [execOp, go_sem, e1]
    | 13, ho =>
      simp at ho; subst ho
      have e1 : a'.eval (.tmp 8) = r 3 := hvals 11 _ _ (by kernel_rfl) rfl rfl
      show 3 < s → (execOp a'.eval _).run _ w' = .ok (.value _) w'
      intro hs
      obtain ⟨ca, cc, fa, fc, er⟩ := hR3 hs
      rw [er] at e1 ⊢
      simp only [exT] at e1 ⊢
      generalize a'.eval = ρ at *
      simp [execOp, go_sem, e1]
    | 14, ho =>
      simp at ho; subst ho
      have e1 : a'.eval (.tmp 8) = r 3 := hvals 11 _ _ (by kernel_rfl) rfl rfl
      show 3 < s → (execOp a'.eval _).run _ w' = .ok (.value _) w'
      intro hs
      obtain ⟨ca, cc, fa, fc, er⟩ := hR3 hs
      rw [er] at e1 ⊢
      simp only [exT] at e1 ⊢
      generalize a'.eval = ρ at *
      simp [execOp, go_sem, e1]
    | 15, ho =>
      simp at ho; subst ho
      show b = none → _
      intro hb
      subst hb
      refine ⟨.cells #[.slice none 0 0] 25, ?_, hI.box⟩
      generalize a'.eval = ρ at *
      simp [execOp, go_sem]
    | 16, ho =>
      simp at ho; subst ho
      have e1 : a'.eval (.tmp 20) = exT 0 (r 3) := hvals 12 _ _ (by kernel_rfl) rfl rfl
      show 3 < s → (execOp a'.eval _).run _ w' = .ok (.value _) w'
      intro hs
      obtain ⟨ca, cc, fa, fc, er⟩ := hR3 hs
      rw [er] at e1 ⊢
      simp only [exT] at e1 ⊢
      generalize a'.eval = ρ at *
      simp [execOp, go_sem, e1]
    | 17, ho =>
      simp at ho; subst ho
      show s = 4 → _
      intro hs
      subst hs
      obtain ⟨ca, cc, fa, fc, er, s1, s2⟩ := hI.2.2
      obtain ⟨g, hg⟩ := Option.isSome_iff_exists.1 (hbx (by kernel_rfl))
      subst hg
      obtain ⟨hgb, kg⟩ := hI.2.1 (by omega) g rfl
      have e1 : a'.eval (.tmp 6) = .pointer (some ⟨g, 0, none⟩) := hvals 15 _ _ (by kernel_rfl) rfl rfl
      have e2 : a'.eval (.tmp 21) = .agg #[.slice fa R.length fc] := (hvals 13 _ _ (by kernel_rfl) rfl rfl).trans (by show exT 1 (r 3) = _; rw [er]; rfl)
      have t0 := kg.one
      have t1 := kg.free 0
      refine oper_wp_skip (w' := w'.setCell ⟨g, 0, none⟩ (.slice fa R.length fc)) ?_ ⟨_, rfl, hBw.setCell hgb _, fun h => absurd h (by omega), ?_⟩
      · generalize a'.eval = ρ at *
        simp [execOp, go_sem, e1, e2, t0, t1]
      · exact ⟨g, ca, cc, fa, fc, rfl, hgb, by rw [updR_ne (by omega)]; exact er, s1.to (SameOn.setCell (fun x hx e => hx.1 (by rw [e])) _) (fun _ _ h => h), s2.to (SameOn.setCell (fun x hx e => hx.1 (by rw [e])) _) (fun _ _ h => h), kg.set 0 _⟩
    | 18, ho =>
      simp at ho; subst ho
      have e1 : a'.eval (.tmp 22) = exT 2 (r 3) := hvals 14 _ _ (by kernel_rfl) rfl rfl
      show 3 < s → (execOp a'.eval _).run _ w' = .ok (.value _) w'
      intro hs
      obtain ⟨ca, cc, fa, fc, er⟩ := hR3 hs
      rw [er] at e1 ⊢
      simp only [exT] at e1 ⊢
      generalize a'.eval = ρ at *
      simp [execOp, go_sem, e1]
    | i + 19, ho => simp at ho
  case fin =>
    rintro r g W ⟨hB, _, g', ca, cc, fa, fc, hgg, hg1, er, s1, s2, kg⟩
    injection hgg with hgg
    subst hgg
    simp only [putB, Cb.out, er, exT]
    obtain ⟨nC, hnC⟩ : ∃ n, n = C.length := ⟨_, rfl⟩
    obtain ⟨nR, hnR⟩ : ∃ n, n = R.length := ⟨_, rfl⟩
    rw [← hnC] at s1
    rw [← hnR] at s2 kg
    have HNC : Hid (nC = C.length) := hnC
    simp only [← hnC, ← hnR]
    have KMW : Blk W M #[.int .i64 first, .slice ga ln gc, .slice oa lo oc] 72 := KMH.out.below hB KMH.out.lt
    have BW : Below w.heap.size w W := BB1.out.trans (hB.mono BB1.out.size)
    have GW : GrsIn (fun x => x ≠ M) W (.slice ga ln gc) L := HG.out.below BW
    have hMW : M < W.heap.size := KMW.lt
    have HCLN : Hid (Calls Try.prog 88 #[.slice ga ln gc] W fun e w' => ∃ u, e = .returned u ∧ OwnGrs W.heap.size (NS W.heap.size u) w' u L ∧ Below W.heap.size W w') := cloneGroups_any _ _ L W GW (by omega) HLR.out
    have S1 : Hid (GrsIn (fun x => w1.heap.size ≤ x ∧ x < W.heap.size) W (.slice ca nC cc) C) := s1.mono fun x hx h => ⟨h.2, hx⟩
    have S2 : Hid (FrsIn (fun x => w1.heap.size ≤ x ∧ x < W.heap.size) W (.slice fa nR fc) R) := s2.mono fun x hx h => ⟨h.2, hx⟩
    have KG : Hid (Blk W g #[.slice fa nR fc] 25) := kg
    have KMW2 : Hid (Blk W M #[.int .i64 first, .slice ga ln gc, .slice oa lo oc] 72) := KMW
    have HKW : Hid (Kept [M] w W) := (Kept.refl [M] w).below BW
    have hgM : g ≠ M := by omega
    have hWw : w.heap.size ≤ W.heap.size := BW.size
    obtain ⟨q0, q1, q2⟩ := KMW.three
    clear s1 s2 kg hB er BW GW KMW
    have HNR : Hid (nR = R.length) := hnR
    clear hnC hnR KM KF
    go_wp2_with fail
    refine HCLN.out.mono ?_
    rintro e w2 ⟨u, rfl, ou, bu⟩
    have hu : ∀ x, u.ownBlock = some x → W.heap.size ≤ x ∧ x < w2.heap.size := ou.lt
    have O2 : OwnGrs W.heap.size (fun x => w.heap.size ≤ x ∧ some x ≠ u.ownBlock ∧ x < w2.heap.size) w2 u L := ou.to (SameOn.refl _ _) (fun x hx h => ⟨by have := h.1; omega, h.2, hx⟩) (fun _ _ => rfl)
    have S3 : GrsIn (fun x => w.heap.size ≤ x ∧ some x ≠ u.ownBlock ∧ x < w2.heap.size) w2 (.slice ca nC cc) C := (S1.out.below bu).mono fun x hx h => ⟨by have := h.1; omega, fun e => (by have := (hu x e.symm).1; omega), hx⟩
    obtain ⟨qs, t1, t2, t3⟩ := S3.sl
    obtain ⟨v', w3, r3, o3, g3, dd⟩ := groups_app O2 t1 t2 t3 (fun x hx => hx.2.1) (by omega) bu.size
    have hg3 : ∀ x, x < W.heap.size → w3.heap[x]? = W.heap[x]? := fun x hx => (g3.block x (Nat.lt_of_lt_of_le hx bu.size) (fun e => by have := (hu x e.symm).1; omega)).trans (bu.block x hx)
    have hs3 : w2.heap.size ≤ w3.heap.size := g3.size
    have hWs3 : W.heap.size ≤ w3.heap.size := Nat.le_trans bu.size hs3
    have BW3 : Below W.heap.size W w3 := bu.grown g3 bu.size (fun x hx => (hu x hx).1)
    have K3 : Blk w3 M #[.int .i64 first, .slice ga ln gc, .slice oa lo oc] 72 := (hg3 M hMW).trans KMW2.out
    have G3 : Blk w3 g #[.slice fa nR fc] 25 := (hg3 g KG.out.lt).trans KG.out
    have hv' : ∀ x, v'.ownBlock = some x → W.heap.size ≤ x := fun x hx => (o3.lt x hx).1
    have V3 : GrsIn (fun x => w.heap.size ≤ x) w3 v' (L ++ C) := o3.grsIn (fun x _ h => h.1) (fun x hx => by have := hv' x hx; omega)
    have R3 : FrsIn (fun x => w.heap.size ≤ x) w3 (.slice fa nR fc) R := S2.out.to ⟨hWs3, fun x hx _ => hg3 x hx⟩ (fun x _ h => by have := h.1; omega)
    obtain ⟨va, vc, ev, _, _⟩ := V3.len
    obtain ⟨nV, hnV⟩ : ∃ n, n = (L ++ C).length := ⟨_, rfl⟩
    rw [← hnV] at ev
    clear hnV
    have c1 := K3.three
    obtain ⟨c10, c11, c12⟩ := c1
    have fr := K3.free
    have cg := G3.one
    obtain ⟨w5, hw5⟩ : ∃ w5, w5 = (w3.setCell ⟨M, 1, none⟩ v').setCell ⟨M, 2, none⟩ (.slice fa nR fc) := ⟨_, rfl⟩
    have K5 : Blk w5 M #[.int .i64 first, v', .slice fa nR fc] 72 := by
      rw [hw5]; exact (K3.set 1 v').set 2 (.slice fa nR fc)
    have same5 : SameOn (fun x => w.heap.size ≤ x) w3 w5 := by
      rw [hw5]
      exact (SameOn.setCell (S := fun x => w.heap.size ≤ x) (w := w3) (a := ⟨M, 1, none⟩) (fun x hx => (by show x ≠ M; omega)) v').trans (SameOn.setCell (S := fun x => w.heap.size ≤ x) (w := w3.setCell ⟨M, 1, none⟩ v') (a := ⟨M, 2, none⟩) (fun x hx => (by show x ≠ M; omega)) (.slice fa nR fc))
    have V5 : GrsIn (fun x => w.heap.size ≤ x) w5 v' (L ++ C) := V3.to same5 (fun _ _ h => h)
    have R5 : Hid (FrsIn (fun x => w.heap.size ≤ x) w5 (.slice fa nR fc) R) := R3.to same5 (fun _ _ h => h)
    have P5 : Hid (Kept [M] w w5) := by
      rw [hw5]; exact ((HKW.out.below BW3).setCell (by simp) _).setCell (by simp) _
    have HLG : Hid (Calls Try.prog 89 #[.pointer (some ⟨M, 0, none⟩)] w5 fun e w' => e = .returned (.tuple #[]) ∧ ∃ gv', Blk w' M #[.int .i64 (first + trimD (L ++ C)), gv', .slice fa nR fc] 72 ∧ GrsIn (fun x => w.heap.size ≤ x) w' gv' ((L ++ C).drop (trimD (L ++ C))) ∧ Kept [M] w5 w') := letGo_any M first v' _ (L ++ C) _ w5 K5 V5 (fun x hx => (by show x ≠ M; omega)) (by simp; omega) hf0 (by omega)
    clear ou bu hu O2 S3 t1 t2 t3 o3 g3 dd hg3 hs3 BW3 K3 G3 hv' V3 R3 K5 V5 same5 q0 q1 q2 HCLN
    subst ev
    go_wp2_with (at_builtin; refine wpList_append_run rfl (.tmp 29) (.tmp 30) 22 22 rfl _ _ rfl rfl r3 ?_)
    rw [← hw5]
    refine HLG.out.mono ?_
    rintro e w6 ⟨rfl, gv', k6, v6, p6⟩
    have R6 : FrsIn (fun x => w.heap.size ≤ x) w6 (.slice fa nR fc) R := R5.out.to ⟨p6.size, fun x hx h => p6.block x hx (by simp; omega)⟩ (fun _ _ h => h)
    have FIN : Hid (∃ gv' ov', Blk w6 M #[.int .i64 (first + trimD (L ++ C)), gv', ov'] 72 ∧ GrsIn (fun g => w.heap.size ≤ g) w6 gv' ((L ++ C).drop (trimD (L ++ C))) ∧ FrsIn (fun g => w.heap.size ≤ g) w6 ov' R ∧ Kept [M] w w6) := ⟨gv', .slice fa nR fc, k6, v6, R6, P5.out.trans p6⟩
    clear k6 v6 p6 R6 R5 P5 HLG hw5 c10 c11 c12 fr cg r3
    go_wp2
    go_ret
    exact ⟨by rw [← HNC.out]; first | rfl | simp, FIN.out⟩

end Go.Proofs.Ytnpaejknoipicad

namespace Go.Proofs.Ytnpaejknoipicad
open Go.RowKit

/-- the group that a frame closes -/
def closedG (O : List Fr) (f : Fr) : List (List Fr) := if f.key && decide (0 < O.length) then [O] else []
/-- what Add says, and what it leaves -/
def addsE (first : Int) (L : List (List Fr)) (O : List Fr) (f : Fr) : Int := if stchk first L O = 0 then (if f.chk = 0 then (if 100000 < first + trimD (L ++ closedG O f) then 2 else 0) else f.chk) else stchk first L O
def addsF (first : Int) (L : List (List Fr)) (O : List Fr) (f : Fr) : Int := if addsE first L O f = 0 then first + trimD (L ++ closedG O f) else 0
def addsL (first : Int) (L : List (List Fr)) (O : List Fr) (f : Fr) : List (List Fr) := if addsE first L O f = 0 then (L ++ closedG O f).drop (trimD (L ++ closedG O f)) else []
def addsO (first : Int) (L : List (List Fr)) (O : List Fr) (f : Fr) : List Fr := if addsE first L O f = 0 then growG O f else []
def addsB (first : Int) (L : List (List Fr)) (O : List Fr) (f : Fr) : Bool := if addsE first L O f = 0 then decide (0 < (closedG O f).length) else false

set_option maxHeartbeats 8000000 in
set_option maxRecDepth 100000 in
theorem storeAdd_new (first : Int) (gv ov pv : Value) (L : List (List Fr)) (O : List Fr) (f : Fr) (w : World) (hg : GrsIn (fun _ => True) w gv L) (ho : FrsIn (fun _ => True) w ov O) (hp : StrsIn (fun _ => True) w pv f.parts) :
    Calls Try.prog 38 #[.agg #[.int .i64 first, gv, ov], .agg #[.int .i64 f.time, .bool f.key, pv]] w fun e w' => ∃ gv' ov', e = .returned (.tuple #[.agg #[.int .i64 (addsF first L O f), gv', ov'], .bool (addsB first L O f), .int .i64 (addsE first L O f)]) ∧ GrsIn (fun g => w.heap.size ≤ g) w' gv' (addsL first L O f) ∧ FrsIn (fun g => w.heap.size ≤ g) w' ov' (addsO first L O f) ∧ Below w.heap.size w w' := by
  obtain ⟨ga, gc, eg, _, _⟩ := hg.len
  obtain ⟨oa, oc, eo, _, _⟩ := ho.len
  obtain ⟨pa, pc, ep⟩ := hp.1.len
  obtain ⟨ln, hln⟩ : ∃ n, n = L.length := ⟨_, rfl⟩
  obtain ⟨lo, hlo⟩ : ∃ n, n = O.length := ⟨_, rfl⟩
  obtain ⟨pn, hpn⟩ : ∃ n, n = f.parts.length := ⟨_, rfl⟩
  rw [← hln] at eg
  rw [← hlo] at eo
  rw [← hpn] at ep
  have HG : Hid (GrsIn (fun g => g < w.heap.size) w gv L) := hg.mono fun g h _ => h
  have HO : Hid (FrsIn (fun g => g < w.heap.size) w ov O) := ho.mono fun g h _ => h
  have HP : Hid (StrsIn (fun g => g < w.heap.size) w pv f.parts) := hp.mono fun g h _ => h
  obtain ⟨E, hE⟩ : ∃ E, E = addsE first L O f := ⟨_, rfl⟩
  obtain ⟨K, hK⟩ : ∃ K, K = stchk first L O := ⟨_, rfl⟩
  obtain ⟨Z, hZ⟩ : ∃ Z, Z = f.chk := ⟨_, rfl⟩
  obtain ⟨C, hC⟩ : ∃ C, C = closedG O f := ⟨_, rfl⟩
  have HE : Hid (E = if K = 0 then (if Z = 0 then (if 100000 < first + trimD (L ++ C) then 2 else 0) else Z) else K) := by show _ = _; rw [hE, hK, hZ, hC]; rfl
  have HBAD : Hid (¬ E = 0 → addsF first L O f = 0 ∧ addsL first L O f = [] ∧ addsO first L O f = [] ∧ addsB first L O f = false) := fun h => by
    rw [hE] at h
    exact ⟨if_neg h, if_neg h, if_neg h, if_neg h⟩
  have HGOOD : Hid (E = 0 → addsF first L O f = first + trimD (L ++ C) ∧ addsL first L O f = (L ++ C).drop (trimD (L ++ C)) ∧ addsO first L O f = growG O f ∧ addsB first L O f = decide (0 < C.length)) := fun h => by
    rw [hE] at h
    rw [hC]
    exact ⟨if_pos h, if_pos h, if_pos h, if_pos h⟩
  have HCK : Hid (∀ U, Below w.heap.size w U → Calls Try.prog 29 #[.agg #[.int .i64 first, gv, ov]] U fun e w' => e = .returned (.int .i64 K) ∧ Below U.heap.size U w') := fun U hU => by
    rw [hK]; exact storeCheck_any _ first gv ov L O U (HG.out.below hU) (HO.out.below hU)
  have HCF : Hid (∀ U, Below w.heap.size w U → Calls Try.prog 65 #[.agg #[.int .i64 f.time, .bool f.key, pv]] U fun e w' => e = .returned (.int .i64 Z) ∧ Below U.heap.size U w') := fun U hU => by
    rw [hZ]; exact frameCheck_any _ _ _ _ _ (HP.out.below hU).1 HP.out.2.1
  have HADD : Hid (K = 0 → Z = 0 → ∀ (M : Nat) (U : World), w.heap.size ≤ M → Blk U M #[.int .i64 first, gv, ov] 72 → Below w.heap.size w U → Calls Try.prog 66 #[.pointer (some ⟨M, 0, none⟩), .agg #[.int .i64 f.time, .bool f.key, pv]] U fun e w' => e = .returned (.bool (decide (0 < C.length))) ∧ ∃ gv' ov', Blk w' M #[.int .i64 (first + trimD (L ++ C)), gv', ov'] 72 ∧ GrsIn (fun g => U.heap.size ≤ g) w' gv' ((L ++ C).drop (trimD (L ++ C))) ∧ FrsIn (fun g => U.heap.size ≤ g) w' ov' (growG O f) ∧ Kept [M] U w') := fun h1 h2 M U hM hk hU => by
    have h1' : stchk first L O = 0 := by rw [← hK]; exact h1
    obtain ⟨a1, a2, a3, a4, _, a6⟩ := stchk_zero.1 h1'
    exact keeperAdd_any M first gv ov pv L O f U hk ((HG.out.below hU).mono fun g _ h => by omega) ((HO.out.below hU).mono fun g _ h => by omega) ((HP.out.below hU).mono fun g _ h => by omega) a3 a4 a6 (by rw [← hZ]; exact h2) a1 a2 C hC
  have HTR : Hid (K = 0 → 0 ≤ first ∧ first ≤ 100000) := fun h => by
    have h1' : stchk first L O = 0 := by rw [← hK]; exact h
    obtain ⟨a1, a2, _⟩ := stchk_zero.1 h1'
    exact ⟨a1, a2⟩
  have HEE : Hid (E = addsE first L O f) := hE
  clear hg ho hp hE hK hZ hC hln hlo hpn
  subst eg eo ep
  go_enter Try.func38, Try.ntmps38
  go_wp2_with fail
  obtain ⟨w1, hw1⟩ : ∃ w1, w1 = ((w.alloc (.cells #[.int .i64 first, .slice ga ln gc, .slice oa lo oc] 27)).alloc (.cells #[.int .i64 f.time, .bool f.key, .slice pa pn pc] 36)).alloc (.cells #[.int .i64 0, .slice none 0 0, .slice none 0 0] 27) := ⟨_, rfl⟩
  have B1 : Hid (Below w.heap.size w w1) := by
    rw [hw1]; exact (((Below.refl _ _).alloc (Nat.le_refl _) _).alloc (by simp) _).alloc (by simp; omega) _
  have K1 : Hid (Blk w1 w.heap.size #[.int .i64 first, .slice ga ln gc, .slice oa lo oc] 27) := by rw [hw1]; exact ((Blk.new w _ _).alloc _).alloc _
  have F1 : Hid (Blk w1 (w.heap.size + 1) #[.int .i64 f.time, .bool f.key, .slice pa pn pc] 36) := by
    have := (Blk.new (w.alloc (.cells #[.int .i64 first, .slice ga ln gc, .slice oa lo oc] 27)) #[.int .i64 f.time, .bool f.key, .slice pa pn pc] 36).alloc (.cells #[.int .i64 0, .slice none 0 0, .slice none 0 0] 27)
    rw [hw1]; simpa [Hid] using this
  have R1 : Hid (Blk w1 (w.heap.size + 1 + 1) #[.int .i64 0, .slice none 0 0, .slice none 0 0] 27) := by
    have := Blk.new ((w.alloc (.cells #[.int .i64 first, .slice ga ln gc, .slice oa lo oc] 27)).alloc (.cells #[.int .i64 f.time, .bool f.key, .slice pa pn pc] 36)) #[.int .i64 0, .slice none 0 0, .slice none 0 0] 27
    rw [hw1]; simpa [Hid] using this
  rw [← hw1]
  clear hw1
  refine (HCK.out _ B1.out).mono ?_
  rintro e w2 ⟨rfl, hb⟩
  have B2 : Hid (Below w.heap.size w w2) := B1.out.trans (hb.mono B1.out.size)
  have K2 : Hid (Blk w2 w.heap.size #[.int .i64 first, .slice ga ln gc, .slice oa lo oc] 27) := K1.out.below hb K1.out.lt
  have F2 : Hid (Blk w2 (w.heap.size + 1) #[.int .i64 f.time, .bool f.key, .slice pa pn pc] 36) := F1.out.below hb F1.out.lt
  have R2 : Hid (Blk w2 (w.heap.size + 1 + 1) #[.int .i64 0, .slice none 0 0, .slice none 0 0] 27) := R1.out.below hb R1.out.lt
  clear hb B1 K1 F1 R1 HCK
  by_cases hK : K = 0
  case neg =>
    have HEK : Hid (E = K) := by show _ = _; rw [HE.out, if_neg hK]
    obtain ⟨r0, r1, r2⟩ := R2.out.three
    have fr := R2.out.free
    go_wp2
    obtain ⟨b1, b2, b3, b4⟩ := HBAD.out (by rw [HEK.out]; exact hK)
    rw [b1, b2, b3, b4, ← HEE.out, HEK.out]
    refine bodyPost_ret (v := .tuple #[.agg #[.int .i64 0, .slice none 0 0, .slice none 0 0], .bool false, .int .i64 K]) (by simp [results, Try.results38, go_sem, r0, r1, r2]) rfl ⟨_, _, rfl, GrsIn.nil _ _, FrsIn.nil _ _, ?_⟩
    first | exact B2.out | exact ((B2.out.setCell (by show _ ≤ w.heap.size + 1 + 1; omega) _).setCell (by show _ ≤ w.heap.size + 1 + 1; omega) _).setCell (by show _ ≤ w.heap.size + 1 + 1; omega) _
  obtain ⟨hf0, hf1⟩ := HTR.out hK
  obtain ⟨f0, f1, f2⟩ := F2.out.three
  go_wp2_with fail
  refine (HCF.out _ B2.out).mono ?_
  rintro e w3 ⟨rfl, hb⟩
  have B3 : Hid (Below w.heap.size w w3) := B2.out.trans (hb.mono B2.out.size)
  have K3 : Hid (Blk w3 w.heap.size #[.int .i64 first, .slice ga ln gc, .slice oa lo oc] 27) := K2.out.below hb K2.out.lt
  have F3 : Hid (Blk w3 (w.heap.size + 1) #[.int .i64 f.time, .bool f.key, .slice pa pn pc] 36) := F2.out.below hb F2.out.lt
  have R3 : Hid (Blk w3 (w.heap.size + 1 + 1) #[.int .i64 0, .slice none 0 0, .slice none 0 0] 27) := R2.out.below hb R2.out.lt
  clear hb B2 K2 F2 R2 HCF f0 f1 f2
  by_cases hZ : Z = 0
  case neg =>
    have HEK : Hid (E = Z) := by show _ = _; rw [HE.out, if_pos hK, if_neg hZ]
    obtain ⟨r0, r1, r2⟩ := R3.out.three
    have fr := R3.out.free
    subst hK
    go_wp2
    obtain ⟨b1, b2, b3, b4⟩ := HBAD.out (by rw [HEK.out]; exact hZ)
    rw [b1, b2, b3, b4, ← HEE.out, HEK.out]
    refine bodyPost_ret (v := .tuple #[.agg #[.int .i64 0, .slice none 0 0, .slice none 0 0], .bool false, .int .i64 Z]) (by simp [results, Try.results38, go_sem, r0, r1, r2]) rfl ⟨_, _, rfl, GrsIn.nil _ _, FrsIn.nil _ _, ?_⟩
    first | exact B3.out | exact ((B3.out.setCell (by show _ ≤ w.heap.size + 1 + 1; omega) _).setCell (by show _ ≤ w.heap.size + 1 + 1; omega) _).setCell (by show _ ≤ w.heap.size + 1 + 1; omega) _
  have HAD2 : Hid (∀ (M : Nat) (U : World), w.heap.size ≤ M → Blk U M #[.int .i64 first, .slice ga ln gc, .slice oa lo oc] 72 → Below w.heap.size w U → Calls Try.prog 66 #[.pointer (some ⟨M, 0, none⟩), .agg #[.int .i64 f.time, .bool f.key, .slice pa pn pc]] U fun e w' => e = .returned (.bool (decide (0 < C.length))) ∧ ∃ gv' ov', Blk w' M #[.int .i64 (first + trimD (L ++ C)), gv', ov'] 72 ∧ GrsIn (fun g => U.heap.size ≤ g) w' gv' ((L ++ C).drop (trimD (L ++ C))) ∧ FrsIn (fun g => U.heap.size ≤ g) w' ov' (growG O f) ∧ Kept [M] U w') := HADD.out hK hZ
  have HE2 : Hid (E = if 100000 < first + trimD (L ++ C) then 2 else 0) := by show _ = _; rw [HE.out, if_pos hK, if_pos hZ]
  obtain ⟨T, hT⟩ : ∃ T : Int, T = first + trimD (L ++ C) := ⟨_, rfl⟩
  obtain ⟨D, hD⟩ : ∃ D : Bool, D = decide (0 < C.length) := ⟨_, rfl⟩
  rw [← hT] at HAD2 HE2 HGOOD
  rw [← hD] at HAD2 HGOOD
  clear HADD HE HTR hT hD
  subst hK hZ
  obtain ⟨k0, k1, k2⟩ := K3.out.three
  obtain ⟨f0, f1, f2⟩ := F3.out.three
  have hFl : w.heap.size + 1 < w3.heap.size := F3.out.lt
  have hKl : w.heap.size < w3.heap.size := K3.out.lt
  go_wp2_with fail
  obtain ⟨U, hU⟩ : ∃ U, U = w3.alloc (.cells #[.int .i64 first, .slice ga ln gc, .slice oa lo oc] 72) := ⟨_, rfl⟩
  have BU : Hid (Below w.heap.size w U) := by rw [hU]; exact B3.out.alloc B3.out.size _
  have KU : Hid (Blk U w3.heap.size #[.int .i64 first, .slice ga ln gc, .slice oa lo oc] 72) := by rw [hU]; exact Blk.new _ _ _
  have RU : Hid (Blk U (w.heap.size + 1 + 1) #[.int .i64 0, .slice none 0 0, .slice none 0 0] 27) := by rw [hU]; exact R3.out.alloc _
  rw [← hU]
  have hMR : w.heap.size + 1 + 1 < w3.heap.size := R3.out.lt
  clear hU k0 k1 k2 f0 f1 f2 K3 F3 R3 B3
  refine (HAD2.out _ _ (by omega) KU.out BU.out).mono ?_
  rintro e w5 ⟨rfl, gv', ov', k5, v5, o5, p5⟩
  have B5 : Hid (Below w.heap.size w w5) := BU.out.trans (p5.toBelow BU.out.size (fun k hk => by simp at hk; omega))
  have R5 : Hid (Blk w5 (w.heap.size + 1 + 1) #[.int .i64 0, .slice none 0 0, .slice none 0 0] 27) := RU.out.kept p5 (by simp; omega)
  have hRU := RU.out.lt
  obtain ⟨va, vc, ev, _, _⟩ := v5.len
  obtain ⟨qa, qc, eq, _, _⟩ := o5.len
  obtain ⟨nv, hnv⟩ : ∃ n, n = ((L ++ C).drop (trimD (L ++ C))).length := ⟨_, rfl⟩
  obtain ⟨nq, hnq⟩ : ∃ n, n = (growG O f).length := ⟨_, rfl⟩
  rw [← hnv] at ev
  rw [← hnq] at eq
  clear hnv hnq
  subst ev eq
  have V5 : Hid (GrsIn (fun g => U.heap.size ≤ g) w5 (.slice va nv vc) ((L ++ C).drop (trimD (L ++ C)))) := v5
  have O5 : Hid (FrsIn (fun g => U.heap.size ≤ g) w5 (.slice qa nq qc) (growG O f)) := o5
  obtain ⟨k0, k1, k2⟩ := k5.three
  obtain ⟨r0, r1, r2⟩ := R5.out.three
  have fr := R5.out.free
  clear v5 o5 p5 HAD2 RU KU
  by_cases hT : 100000 < T
  · have HEK : Hid (E = 2) := by show _ = _; rw [HE2.out, if_pos hT]
    go_wp2
    obtain ⟨b1, b2, b3, b4⟩ := HBAD.out (by rw [HEK.out]; decide)
    rw [b1, b2, b3, b4, ← HEE.out, HEK.out]
    refine bodyPost_ret (v := .tuple #[.agg #[.int .i64 0, .slice none 0 0, .slice none 0 0], .bool false, .int .i64 2]) (by simp [results, Try.results38, go_sem, r0, r1, r2]) rfl ⟨_, _, rfl, GrsIn.nil _ _, FrsIn.nil _ _, ?_⟩
    first | exact B5.out | exact ((B5.out.setCell (by show _ ≤ w.heap.size + 1 + 1; omega) _).setCell (by show _ ≤ w.heap.size + 1 + 1; omega) _).setCell (by show _ ≤ w.heap.size + 1 + 1; omega) _
  · have HEK : Hid (E = 0) := by show _ = _; rw [HE2.out, if_neg hT]
    obtain ⟨V, hV⟩ : ∃ V, V = ((w5.setCell ⟨w.heap.size + 1 + 1, 0, none⟩ (.int .i64 T)).setCell ⟨w.heap.size + 1 + 1, 1, none⟩ (.slice va nv vc)).setCell ⟨w.heap.size + 1 + 1, 2, none⟩ (.slice qa nq qc) := ⟨_, rfl⟩
    have KV : Blk V (w.heap.size + 1 + 1) #[.int .i64 T, .slice va nv vc, .slice qa nq qc] 27 := by
      rw [hV]; exact ((R5.out.set 0 (.int .i64 T)).set 1 (.slice va nv vc)).set 2 (.slice qa nq qc)
    have hVo : ∀ g, g ≠ w.heap.size + 1 + 1 → V.heap[g]? = w5.heap[g]? := fun g hg => by
      rw [hV, Below.heap_setCell _ _ _ _ (by exact hg), Below.heap_setCell _ _ _ _ (by exact hg), Below.heap_setCell _ _ _ _ (by exact hg)]
    have hVs : V.heap.size = w5.heap.size := by rw [hV]; simp
    have GV : Hid (GrsIn (fun g => w.heap.size ≤ g) V (.slice va nv vc) ((L ++ C).drop (trimD (L ++ C)))) := V5.out.to ⟨by omega, fun g _ hg => hVo g (by omega)⟩ (fun _ _ _ => by omega)
    have OV : Hid (FrsIn (fun g => w.heap.size ≤ g) V (.slice qa nq qc) (growG O f)) := O5.out.to ⟨by omega, fun g _ hg => hVo g (by omega)⟩ (fun _ _ _ => by omega)
    have BV : Hid (Below w.heap.size w V) := by
      rw [hV]; exact ((B5.out.setCell (by show _ ≤ w.heap.size + 1 + 1; omega) _).setCell (by show _ ≤ w.heap.size + 1 + 1; omega) _).setCell (by show _ ≤ w.heap.size + 1 + 1; omega) _
    obtain ⟨c0, c1, c2⟩ := KV.three
    clear hVo hVs V5 O5 KV
    go_wp2_with fail
    rw [← hV]
    obtain ⟨b1, b2, b3, b4⟩ := HGOOD.out HEK.out
    rw [b1, b2, b3, b4, ← HEE.out, HEK.out]
    exact bodyPost_ret (v := .tuple #[.agg #[.int .i64 T, .slice va nv vc, .slice qa nq qc], .bool D, .int .i64 0]) (by simp [results, Try.results38, go_sem, c0, c1, c2]) rfl ⟨_, _, rfl, GV.out, OV.out, BV.out⟩

theorem storeAdd_any (first : Int) (gv ov pv : Value) (L : List (List Fr)) (O : List Fr) (f : Fr) (w : World) (hg : GrsIn (fun _ => True) w gv L) (ho : FrsIn (fun _ => True) w ov O) (hp : StrsIn (fun _ => True) w pv f.parts) :
    Calls Try.prog 38 #[.agg #[.int .i64 first, gv, ov], .agg #[.int .i64 f.time, .bool f.key, pv]] w fun e w' => ∃ gv' ov', e = .returned (.tuple #[.agg #[.int .i64 (addsF first L O f), gv', ov'], .bool (addsB first L O f), .int .i64 (addsE first L O f)]) ∧ GrsIn (fun _ => True) w' gv' (addsL first L O f) ∧ FrsIn (fun _ => True) w' ov' (addsO first L O f) ∧ Below w.heap.size w w' := by
  refine (storeAdd_new first gv ov pv L O f w hg ho hp).mono ?_
  rintro e w' ⟨gv', ov', he, h1, h2, h3⟩
  exact ⟨gv', ov', he, h1.mono (fun _ _ _ => trivial), h2.mono (fun _ _ _ => trivial), h3⟩

end Go.Proofs.Ytnpaejknoipicad

namespace Go.Proofs.Ytnpaejknoipicad
open Go.RowKit

/-- what Get says, and what it finds -/
def getE (first : Int) (L : List (List Fr)) (O : List Fr) (n : Int) : Int := if stchk first L O = 0 then (if n < first then 5 else if ((allG L O).length : Int) ≤ n - first then 5 else 0) else stchk first L O
def getG (first : Int) (L : List (List Fr)) (O : List Fr) (n : Int) : List Fr := if getE first L O n = 0 then grAt (allG L O) (n - first).toNat else []
theorem allG_len (L : List (List Fr)) (O : List Fr) (h : L.length ≤ 5) : (allG L O).length ≤ 6 := by
  unfold allG; split
  · simp; omega
  · omega
theorem allG_right {first : Int} {L : List (List Fr)} {O : List Fr} (h : stchk first L O = 0) : ∀ g ∈ allG L O, gchk g = 0 := by
  obtain ⟨_, _, _, h1, _, h2⟩ := stchk_zero.1 h
  intro g hg
  unfold allG at hg
  split at hg
  · rcases List.mem_append.1 hg with hg | hg
    · exact h1 g hg
    · simp at hg; subst hg
      rcases h2 with h2 | h2
      · rename_i h0; rw [h2] at h0; simp at h0
      · exact h2
  · exact h1 g hg

set_option maxHeartbeats 4000000 in
set_option maxRecDepth 100000 in
theorem storeGet_new (first : Int) (gv ov : Value) (L : List (List Fr)) (O : List Fr) (n : Int) (w : World) (hg : GrsIn (fun _ => True) w gv L) (ho : FrsIn (fun _ => True) w ov O) (hnb : n ≤ 9223372036854775807) :
    Calls Try.prog 11 #[.agg #[.int .i64 first, gv, ov], .int .i64 n] w fun e w' => ∃ a c, e = .returned (.tuple #[.agg #[.slice a (getG first L O n).length c], .int .i64 (getE first L O n)]) ∧ FrsIn (fun g => w.heap.size ≤ g) w' (.slice a (getG first L O n).length c) (getG first L O n) ∧ Below w.heap.size w w' := by
  obtain ⟨ga, gc, eg, _, _⟩ := hg.len
  obtain ⟨oa, oc, eo, _, _⟩ := ho.len
  obtain ⟨ln, hln⟩ : ∃ n, n = L.length := ⟨_, rfl⟩
  obtain ⟨lo, hlo⟩ : ∃ n, n = O.length := ⟨_, rfl⟩
  rw [← hln] at eg
  rw [← hlo] at eo
  have HG : Hid (GrsIn (fun _ => True) w gv L) := hg
  have HO : Hid (FrsIn (fun _ => True) w ov O) := ho
  obtain ⟨E, hE⟩ : ∃ E, E = getE first L O n := ⟨_, rfl⟩
  obtain ⟨G, hG⟩ : ∃ G, G = getG first L O n := ⟨_, rfl⟩
  obtain ⟨K, hK⟩ : ∃ K, K = stchk first L O := ⟨_, rfl⟩
  have HE : Hid (E = if K = 0 then (if n < first then 5 else if ((allG L O).length : Int) ≤ n - first then 5 else 0) else K) := by show _ = _; rw [hE, hK]; rfl
  have HGG : Hid (G = if E = 0 then grAt (allG L O) (n - first).toNat else []) := by show _ = _; rw [hG, hE]; rfl
  have HC : Hid (∀ U, Below w.heap.size w U → Calls Try.prog 29 #[.agg #[.int .i64 first, gv, ov]] U fun e w' => e = .returned (.int .i64 K) ∧ Below U.heap.size U w') := fun U hU => by
    rw [hK]; exact storeCheck_any _ first gv ov L O U (HG.out.below hU) (HO.out.below hU)
  have HK0 : Hid (K = 0 → 0 ≤ first ∧ first ≤ 100000 ∧ L.length ≤ 5 ∧ (∀ g ∈ allG L O, gchk g = 0)) := fun h => by
    have h' : stchk first L O = 0 := by rw [← hK]; exact h
    obtain ⟨h1, h2, h3, _⟩ := stchk_zero.1 h'
    exact ⟨h1, h2, h3, allG_right h'⟩
  rw [← hE, ← hG]
  clear hg ho hE hG hK hln hlo
  subst eg eo
  go_enter Try.func11, Try.ntmps11
  go_wp2_with fail
  have B1 : Hid (Below w.heap.size w ((w.alloc (.cells #[.int .i64 first, .slice ga ln gc, .slice oa lo oc] 27)).alloc (.cells #[.slice none 0 0] 25))) := ((Below.refl _ _).alloc (Nat.le_refl _) _).alloc (by simp) _
  have K1 : Hid (Blk ((w.alloc (.cells #[.int .i64 first, .slice ga ln gc, .slice oa lo oc] 27)).alloc (.cells #[.slice none 0 0] 25)) w.heap.size #[.int .i64 first, .slice ga ln gc, .slice oa lo oc] 27) := (Blk.new w _ _).alloc _
  have R1 : Hid (Blk ((w.alloc (.cells #[.int .i64 first, .slice ga ln gc, .slice oa lo oc] 27)).alloc (.cells #[.slice none 0 0] 25)) (w.heap.size + 1) #[.slice none 0 0] 25) := by
    have := Blk.new (w.alloc (.cells #[.int .i64 first, .slice ga ln gc, .slice oa lo oc] 27)) #[.slice none 0 0] 25
    simpa [Hid] using this
  refine (HC.out _ B1.out).mono ?_
  rintro e w2 ⟨rfl, hb2⟩
  have B2 : Hid (Below w.heap.size w w2) := B1.out.trans (hb2.mono B1.out.size)
  have K2 : Hid (Blk w2 w.heap.size #[.int .i64 first, .slice ga ln gc, .slice oa lo oc] 27) := K1.out.below hb2 K1.out.lt
  have R2 : Hid (Blk w2 (w.heap.size + 1) #[.slice none 0 0] 25) := R1.out.below hb2 R1.out.lt
  clear hb2 B1 K1 R1 HC
  obtain ⟨k0, k1, k2⟩ := K2.out.three
  have r0 := R2.out.one
  have r1 := R2.out.free 0
  by_cases hK : K = 0
  case neg =>
    have HEE : Hid (E = K ∧ G = []) := by
      have e1 : E = K := by rw [HE.out, if_neg hK]
      exact ⟨e1, by rw [HGG.out, if_neg (by rw [e1]; exact hK)]⟩
    go_wp2
    obtain ⟨e1, e2⟩ := HEE.out
    rw [e1, e2]
    exact bodyPost_ret (v := .tuple #[.agg #[.slice none 0 0], .int .i64 K]) (by simp [results, Try.results11, go_sem, r0]) rfl ⟨none, 0, rfl, FrsIn.nil _ _, by first | exact B2.out | exact B2.out.setCell (by simp) _⟩
  obtain ⟨hf0, hf1, hL5, hAR⟩ := HK0.out hK
  have HAR : Hid (∀ g ∈ allG L O, gchk g = 0) := hAR
  have HE2 : Hid (E = if n < first then 5 else if ((allG L O).length : Int) ≤ n - first then 5 else 0) := by show _ = _; rw [HE.out, if_pos hK]
  have HAL : Hid ((allG L O).length ≤ 6) := allG_len L O hL5
  have HL5 : Hid (L.length ≤ 100) := by show _ ≤ _; omega
  clear hAR HE HK0 hL5
  subst hK
  obtain ⟨A, hA⟩ : ∃ A, A = allG L O := ⟨_, rfl⟩
  rw [← hA] at HAR HE2 HAL HGG
  obtain ⟨q, hq⟩ : ∃ q, q = A.length := ⟨_, rfl⟩
  have HQ : Hid (q = A.length) := hq
  have hq6 : q ≤ 6 := by rw [hq]; exact HAL.out
  rw [← hq] at HE2
  have HALL : Hid (∀ (M : Nat) (U : World), Blk U M #[.int .i64 first, .slice ga ln gc, .slice oa lo oc] 72 → Below w.heap.size w U → Calls Try.prog 37 #[.pointer (some ⟨M, 0, none⟩)] U fun e w' => ∃ a c, e = .returned (.slice a q c) ∧ Hid (GrsIn (fun _ => True) w' (.slice a q c) A) ∧ Below U.heap.size U w') := fun M U h1 h2 => by
    refine (keeperAll_any M first _ _ L O U h1 (HG.out.below h2) (HO.out.below h2) HL5.out).mono ?_
    rintro e w' ⟨u, rfl, h3, h4⟩
    rw [← hA] at h3
    obtain ⟨a, c, e, _, _⟩ := h3.len
    rw [← hq] at e
    subst e
    exact ⟨a, c, rfl, h3, h4⟩
  clear hA hq
  go_wp2_with fail
  have B3 : Hid (Below w.heap.size w (w2.alloc (.cells #[.int .i64 first, .slice ga ln gc, .slice oa lo oc] 72))) := B2.out.alloc B2.out.size _
  have M3 : Hid (Blk (w2.alloc (.cells #[.int .i64 first, .slice ga ln gc, .slice oa lo oc] 72)) w2.heap.size #[.int .i64 first, .slice ga ln gc, .slice oa lo oc] 72) := Blk.new _ _ _
  refine (HALL.out _ _ M3.out B3.out).mono ?_
  rintro e w4 ⟨ua, uc, rfl, GU, hb4⟩
  have B4 : Hid (Below w.heap.size w w4) := B3.out.trans (hb4.mono B3.out.size)
  have M4 : Hid (Blk w4 w2.heap.size #[.int .i64 first, .slice ga ln gc, .slice oa lo oc] 72) := M3.out.below hb4 M3.out.lt
  have R4 : Hid (Blk w4 (w.heap.size + 1) #[.slice none 0 0] 25) := (R2.out.alloc _).below hb4 (by have := R2.out.lt; simp; omega)
  clear hb4 B3 M3 B2 K2 R2 k0 k1 k2 r0 r1 HALL
  obtain ⟨k0, k1, k2⟩ := M4.out.three
  have r0 := R4.out.one
  have r1 := R4.out.free 0
  by_cases hn1 : n < first
  · have HEE : Hid (E = 5 ∧ G = []) := by
      have e1 : E = 5 := by rw [HE2.out, if_pos hn1]
      exact ⟨e1, by rw [HGG.out, if_neg (by rw [e1]; decide)]⟩
    go_wp2
    obtain ⟨e1, e2⟩ := HEE.out
    rw [e1, e2]
    exact bodyPost_ret (v := .tuple #[.agg #[.slice none 0 0], .int .i64 5]) (by simp [results, Try.results11, go_sem, r0]) rfl ⟨none, 0, rfl, FrsIn.nil _ _, by first | exact B4.out | exact B4.out.setCell (by simp) _⟩
  by_cases hn2 : (q : Int) ≤ n - first
  · have HEE : Hid (E = 5 ∧ G = []) := by
      have e1 : E = 5 := by rw [HE2.out, if_neg hn1, if_pos hn2]
      exact ⟨e1, by rw [HGG.out, if_neg (by rw [e1]; decide)]⟩
    go_wp2
    obtain ⟨e1, e2⟩ := HEE.out
    rw [e1, e2]
    exact bodyPost_ret (v := .tuple #[.agg #[.slice none 0 0], .int .i64 5]) (by simp [results, Try.results11, go_sem, r0]) rfl ⟨none, 0, rfl, FrsIn.nil _ _, by first | exact B4.out | exact B4.out.setCell (by simp) _⟩
  obtain ⟨d, hd⟩ : ∃ d : Nat, (d : Int) = n - first := ⟨(n - first).toNat, by omega⟩
  have hdq : d < q := by omega
  have hnd : n = first + d := by omega
  have HEE : Hid (E = 0 ∧ G = grAt A d) := by
    have e1 : E = 0 := by rw [HE2.out, if_neg hn1, if_neg hn2]
    exact ⟨e1, by rw [HGG.out, if_pos e1, ← hd]; rfl⟩
  obtain ⟨ao, c', eu, _, _, hc⟩ := GU.out
  rw [← HQ.out] at eu
  injection eu with eu eu2 eu3
  clear eu2
  subst eu eu3
  obtain ⟨b, off, e1, hb, _, sv, c0, hsv⟩ := hc d (by rw [← HQ.out]; exact hdq)
  have hGd : grAt A d = G := HEE.out.2.symm
  rw [show A[d]?.getD [] = G from hGd] at hsv
  obtain ⟨sa, sc, es, _, _⟩ := hsv.len
  obtain ⟨gn, hgn⟩ : ∃ gn, gn = G.length := ⟨_, rfl⟩
  rw [← hgn] at es
  have HGN : Hid (gn = G.length) := hgn
  have hGR : gchk G = 0 := HAR.out G (by rw [← hGd]; unfold grAt; rw [List.getElem?_eq_getElem (by rw [← HQ.out]; exact hdq)]; exact List.getElem_mem _)
  have HCL : Hid (Calls Try.prog 41 #[.agg #[sv]] w4 fun e w' => ∃ a c, e = .returned (.agg #[.slice a gn c]) ∧ Hid (FrsIn (fun g => w4.heap.size ≤ g) w' (.slice a gn c) G) ∧ Below w4.heap.size w4 w') := by
    show Calls _ _ _ _ _
    rw [hgn]; exact cloneGroup_any _ sv G w4 hsv hGR
  have HE0 : Hid (E = 0) := HEE.out.1
  have hdw : IntKind.i64.wrap (d : Int) = (d : Int) := by rw [IntKind.wrap_i64]; omega
  have hdqi : (d : Int) < (q : Int) := by omega
  have hnf : first + (d : Int) - first = (d : Int) := by omega
  have hnl : ¬ first + (d : Int) < first := by omega
  have hqd : ¬ (q : Int) ≤ (d : Int) := by omega
  clear hc hsv hGd hGR hn1 hn2 hd HE2 HGG HEE hgn
  subst hnd es e1
  go_wp2_with fail
  refine HCL.out.mono ?_
  rintro e w5 ⟨a5, c5, rfl, HF5, hb5⟩
  have B5 : Hid (Below w.heap.size w w5) := B4.out.trans (hb5.mono B4.out.size)
  have K5 := R4.out.below hb5 R4.out.lt
  have q0 := K5.one
  have q1 := K5.free 0
  have c9 : (w5.setCell ⟨w.heap.size + 1, 0, none⟩ (.slice a5 gn c5)).cell? ⟨w.heap.size + 1, 0, none⟩ = some (.slice a5 gn c5) := (K5.set 0 _).cell rfl
  have hlt4 := R4.out.lt
  have F9 : Hid (FrsIn (fun g => w.heap.size ≤ g) (w5.setCell ⟨w.heap.size + 1, 0, none⟩ (.slice a5 gn c5)) (.slice a5 gn c5) G) := HF5.out.to (SameOn.setCell (fun g hg => by simp at hg ⊢; omega) _) (fun g _ h => by omega)
  clear hb5 K5 HF5 HCL c0 k0 k1 k2 r0 r1
  go_wp2
  rw [HE0.out, ← HGN.out]
  exact bodyPost_ret (v := .tuple #[.agg #[.slice a5 gn c5], .int .i64 0]) (by simp [results, Try.results11, go_sem, c9]) rfl ⟨a5, c5, rfl, F9.out, B5.out.setCell (by simp) _⟩

theorem storeGet_any (first : Int) (gv ov : Value) (L : List (List Fr)) (O : List Fr) (n : Int) (w : World) (hg : GrsIn (fun _ => True) w gv L) (ho : FrsIn (fun _ => True) w ov O) (hnb : n ≤ 9223372036854775807) :
    Calls Try.prog 11 #[.agg #[.int .i64 first, gv, ov], .int .i64 n] w fun e w' => ∃ a c, e = .returned (.tuple #[.agg #[.slice a (getG first L O n).length c], .int .i64 (getE first L O n)]) ∧ FrsIn (fun _ => True) w' (.slice a (getG first L O n).length c) (getG first L O n) ∧ Below w.heap.size w w' := by
  refine (storeGet_new first gv ov L O n w hg ho hnb).mono ?_
  rintro e w' ⟨a, c, rfl, h1, h2⟩
  exact ⟨a, c, rfl, h1.mono (fun _ _ _ => trivial), h2⟩

end Go.Proofs.Ytnpaejknoipicad

namespace Go.Proofs.Ytnpaejknoipicad
open Go.RowKit

/-- the last one behind the first that begins so early, or the first one -/
def seekI (A : List (List Fr)) (t : Int) : Nat → Nat
  | 0 => 0
  | i + 1 => if (frAt (grAt A (i + 1)) 0).time ≤ t then i + 1 else seekI A t i
theorem seekI_le (A : List (List Fr)) (t : Int) : ∀ i, seekI A t i ≤ i
  | 0 => Nat.le_refl _
  | i + 1 => by
    unfold seekI; split
    · exact Nat.le_refl _
    · exact Nat.le_succ_of_le (seekI_le A t i)
theorem seekI_hit {A : List (List Fr)} {t : Int} {i i1 : Nat} (h : i = i1 + 1) (hl : (frAt (grAt A i) 0).time ≤ t) : seekI A t i = i := by
  subst h; simp only [seekI]; rw [if_pos hl]
theorem seekI_miss {A : List (List Fr)} {t : Int} {i i1 : Nat} (h : i = i1 + 1) (hl : ¬ (frAt (grAt A i) 0).time ≤ t) : seekI A t i = seekI A t i1 := by
  subst h; simp only [seekI]; rw [if_neg hl]
def seekE (first : Int) (L : List (List Fr)) (O : List Fr) (t : Int) : Int := if stchk first L O = 0 then (if t < 0 then 3 else if 1000000 < t then 3 else if (allG L O).length = 0 then 5 else 0) else stchk first L O
def seekN (first : Int) (L : List (List Fr)) (O : List Fr) (t : Int) : Int := if seekE first L O t = 0 then first + seekI (allG L O) t ((allG L O).length - 1) else 0

set_option maxHeartbeats 4000000 in
set_option maxRecDepth 100000 in
theorem storeSeek_any (first : Int) (gv ov : Value) (L : List (List Fr)) (O : List Fr) (t : Int) (w : World) (hg : GrsIn (fun _ => True) w gv L) (ho : FrsIn (fun _ => True) w ov O) :
    Calls Try.prog 9 #[.agg #[.int .i64 first, gv, ov], .int .i64 t] w fun e w' => e = .returned (.tuple #[.int .i64 (seekN first L O t), .int .i64 (seekE first L O t)]) ∧ Below w.heap.size w w' := by
  obtain ⟨ga, gc, eg, _, _⟩ := hg.len
  obtain ⟨oa, oc, eo, _, _⟩ := ho.len
  obtain ⟨ln, hln⟩ : ∃ n, n = L.length := ⟨_, rfl⟩
  obtain ⟨lo, hlo⟩ : ∃ n, n = O.length := ⟨_, rfl⟩
  rw [← hln] at eg
  rw [← hlo] at eo
  have HG : Hid (GrsIn (fun _ => True) w gv L) := hg
  have HO : Hid (FrsIn (fun _ => True) w ov O) := ho
  obtain ⟨E, hE⟩ : ∃ E, E = seekE first L O t := ⟨_, rfl⟩
  obtain ⟨N, hN⟩ : ∃ N, N = seekN first L O t := ⟨_, rfl⟩
  obtain ⟨K, hK⟩ : ∃ K, K = stchk first L O := ⟨_, rfl⟩
  have HE : Hid (E = if K = 0 then (if t < 0 then 3 else if 1000000 < t then 3 else if (allG L O).length = 0 then 5 else 0) else K) := by show _ = _; rw [hE, hK]; rfl
  have HNN : Hid (N = if E = 0 then first + seekI (allG L O) t ((allG L O).length - 1) else 0) := by show _ = _; rw [hN, hE]; rfl
  have HC : Hid (∀ U, Below w.heap.size w U → Calls Try.prog 29 #[.agg #[.int .i64 first, gv, ov]] U fun e w' => e = .returned (.int .i64 K) ∧ Below U.heap.size U w') := fun U hU => by
    rw [hK]; exact storeCheck_any _ first gv ov L O U (HG.out.below hU) (HO.out.below hU)
  have HK0 : Hid (K = 0 → 0 ≤ first ∧ first ≤ 100000 ∧ L.length ≤ 5 ∧ (∀ g ∈ allG L O, gchk g = 0)) := fun h => by
    have h' : stchk first L O = 0 := by rw [← hK]; exact h
    obtain ⟨h1, h2, h3, _⟩ := stchk_zero.1 h'
    exact ⟨h1, h2, h3, allG_right h'⟩
  have HBAD : Hid (∀ e : Int, E = e → ¬ e = 0 → N = 0) := fun e h1 h2 => by rw [HNN.out, if_neg (by rw [h1]; exact h2)]
  rw [← hE, ← hN]
  clear hg ho hE hN hK hln hlo
  subst eg eo
  go_enter Try.func9, Try.ntmps9
  go_wp2_with fail
  have B1 : Hid (Below w.heap.size w (w.alloc (.cells #[.int .i64 first, .slice ga ln gc, .slice oa lo oc] 27))) := (Below.refl _ _).alloc (Nat.le_refl _) _
  have K1 : Hid (Blk (w.alloc (.cells #[.int .i64 first, .slice ga ln gc, .slice oa lo oc] 27)) w.heap.size #[.int .i64 first, .slice ga ln gc, .slice oa lo oc] 27) := Blk.new w _ _
  refine (HC.out _ B1.out).mono ?_
  rintro e w2 ⟨rfl, hb2⟩
  have B2 : Hid (Below w.heap.size w w2) := B1.out.trans (hb2.mono B1.out.size)
  have K2 : Hid (Blk w2 w.heap.size #[.int .i64 first, .slice ga ln gc, .slice oa lo oc] 27) := K1.out.below hb2 K1.out.lt
  clear hb2 B1 K1 HC
  obtain ⟨k0, k1, k2⟩ := K2.out.three
  by_cases hK : K = 0
  case neg =>
    have e1 : E = K := by rw [HE.out, if_neg hK]
    have HEE : Hid (E = K ∧ N = 0) := ⟨e1, HBAD.out K e1 hK⟩
    clear e1
    go_wp2
    obtain ⟨e1, e2⟩ := HEE.out
    rw [e1, e2]
    go_ret2
    exact ⟨rfl, B2.out⟩
  obtain ⟨hf0, hf1, hL5, hAR⟩ := HK0.out hK
  have HAR : Hid (∀ g ∈ allG L O, gchk g = 0) := hAR
  have HE2 : Hid (E = if t < 0 then 3 else if 1000000 < t then 3 else if (allG L O).length = 0 then 5 else 0) := by show _ = _; rw [HE.out, if_pos hK]
  have HAL : Hid ((allG L O).length ≤ 6) := allG_len L O hL5
  have HL5 : Hid (L.length ≤ 100) := by show _ ≤ _; omega
  clear hAR HE HK0 hL5
  subst hK
  by_cases ht1 : t < 0
  · have e1 : E = 3 := by rw [HE2.out, if_pos ht1]
    have HEE : Hid (E = 3 ∧ N = 0) := ⟨e1, HBAD.out 3 e1 (by decide)⟩
    clear e1
    go_wp2
    obtain ⟨e1, e2⟩ := HEE.out
    rw [e1, e2]
    go_ret2
    exact ⟨rfl, B2.out⟩
  by_cases ht2 : 1000000 < t
  · have e1 : E = 3 := by rw [HE2.out, if_neg ht1, if_pos ht2]
    have HEE : Hid (E = 3 ∧ N = 0) := ⟨e1, HBAD.out 3 e1 (by decide)⟩
    clear e1
    go_wp2
    obtain ⟨e1, e2⟩ := HEE.out
    rw [e1, e2]
    go_ret2
    exact ⟨rfl, B2.out⟩
  obtain ⟨A, hA⟩ : ∃ A, A = allG L O := ⟨_, rfl⟩
  rw [← hA] at HAR HE2 HAL HNN
  obtain ⟨q, hq⟩ : ∃ q, q = A.length := ⟨_, rfl⟩
  have HQ : Hid (q = A.length) := hq
  have hq6 : q ≤ 6 := by rw [hq]; exact HAL.out
  rw [← hq] at HE2 HNN
  have HALL : Hid (∀ (M : Nat) (U : World), Blk U M #[.int .i64 first, .slice ga ln gc, .slice oa lo oc] 72 → Below w.heap.size w U → Calls Try.prog 37 #[.pointer (some ⟨M, 0, none⟩)] U fun e w' => ∃ a c, e = .returned (.slice a q c) ∧ Hid (GrsIn (fun _ => True) w' (.slice a q c) A) ∧ Below U.heap.size U w') := fun M U h1 h2 => by
    refine (keeperAll_any M first _ _ L O U h1 (HG.out.below h2) (HO.out.below h2) HL5.out).mono ?_
    rintro e w' ⟨u, rfl, h3, h4⟩
    rw [← hA] at h3
    obtain ⟨a, c, e, _, _⟩ := h3.len
    rw [← hq] at e
    subst e
    exact ⟨a, c, rfl, h3, h4⟩
  clear hA hq
  go_wp2_with fail
  have B3 : Hid (Below w.heap.size w (w2.alloc (.cells #[.int .i64 first, .slice ga ln gc, .slice oa lo oc] 72))) := B2.out.alloc B2.out.size _
  have M3 : Hid (Blk (w2.alloc (.cells #[.int .i64 first, .slice ga ln gc, .slice oa lo oc] 72)) w2.heap.size #[.int .i64 first, .slice ga ln gc, .slice oa lo oc] 72) := Blk.new _ _ _
  refine (HALL.out _ _ M3.out B3.out).mono ?_
  rintro e w4 ⟨ua, uc, rfl, GU, hb4⟩
  have B4 : Hid (Below w.heap.size w w4) := B3.out.trans (hb4.mono B3.out.size)
  have M4 : Hid (Blk w4 w2.heap.size #[.int .i64 first, .slice ga ln gc, .slice oa lo oc] 72) := M3.out.below hb4 M3.out.lt
  clear hb4 B3 M3 B2 K2 k0 k1 k2 HALL
  obtain ⟨k0, k1, k2⟩ := M4.out.three
  by_cases hq0 : q = 0
  · have e1 : E = 5 := by rw [HE2.out, if_neg (by omega), if_neg (by omega), if_pos hq0]
    have HEE : Hid (E = 5 ∧ N = 0) := ⟨e1, HBAD.out 5 e1 (by decide)⟩
    clear e1
    subst hq0
    go_wp2
    obtain ⟨e1, e2⟩ := HEE.out
    rw [e1, e2]
    go_ret2
    exact ⟨rfl, B4.out⟩
  have e1 : E = 0 := by rw [HE2.out, if_neg (by omega), if_neg (by omega), if_neg hq0]
  have HEE : Hid (E = 0 ∧ N = first + seekI A t (q - 1)) := ⟨e1, by rw [HNN.out, if_pos e1]⟩
  obtain ⟨ao, c', eu, _, _, hc⟩ := GU.out
  rw [← HQ.out] at eu
  injection eu with eu eu2 eu3
  clear eu2
  subst eu eu3
  have HTM : Hid (∀ i, i < q → ∃ b off sa sn sc b2 off2, ua = some ⟨b, off, none⟩ ∧ b < w4.heap.size ∧ w4.cell? ⟨b, off + i, none⟩ = some (.slice (some ⟨b2, off2, none⟩) sn sc) ∧ 0 < sn ∧ sa = (frAt (grAt A i) 0).time ∧ w4.cell? ⟨b2, off2, none⟩ = some (.int .i64 sa)) := fun i hi => by
    obtain ⟨b, off, e1, hb, _, sv, c0, hsv⟩ := hc i (by rw [← HQ.out]; exact hi)
    have hgr : gchk (grAt A i) = 0 := HAR.out _ (by unfold grAt; rw [List.getElem?_eq_getElem (by rw [← HQ.out]; exact hi)]; exact List.getElem_mem _)
    obtain ⟨h0, _⟩ := gchk_zero.1 hgr
    obtain ⟨sa, sc, es, _, _, hf⟩ := hsv
    obtain ⟨b2, off2, e2, _, _, pv, d0, _⟩ := hf 0 h0
    subst e2
    exact ⟨b, off, _, _, sc, b2, off2, e1, hb, by rw [c0, es], h0, rfl, by simpa using d0⟩
  have hqi : ((q : Int) == 0) = false := by simp; omega
  obtain ⟨q1, hq1⟩ : ∃ q1, q1 = q - 1 := ⟨_, rfl⟩
  have hq1i : (q : Int) - 1 = (q1 : Int) := by omega
  rw [← hq1] at HEE
  have hq1l : q1 < q := by omega
  clear e1 hc HAR HE2 HNN HBAD hq1
  go_wp2_with fail
  go_loopw [9] (fun s wr => ∃ i : Nat, i ≤ q1 ∧ s = .int .i64 i ∧ Hid (seekI A t q1 = seekI A t i) ∧ wr = w4)
    (fun s _ => (intOf s).toNat)
  case atStart => exact ⟨q1, Nat.le_refl _, by go_num, (show _ = _ from rfl), rfl⟩
  case round =>
    obtain ⟨i, hi, rfl, HI, rfl⟩ := hrel
    by_cases hi0 : i = 0
    · subst hi0
      go_wp2
      obtain ⟨e1, e2⟩ := HEE.out
      rw [e1, e2, HI.out]
      go_ret2
      exact ⟨by simp [seekI], B4.out⟩
    · obtain ⟨b, off, sa, sn, sc, b2, off2, eu, hb, c0, hsn, hsa, d0⟩ := HTM.out i (by omega)
      have hi0i : (0 : Int) < (i : Int) := by omega
      have hiq : (i : Int) < (q : Int) := by omega
      have hsni : (0 : Int) < (sn : Int) := by omega
      have HSA : Hid (sa = (frAt (grAt A i) 0).time) := hsa
      obtain ⟨i1, hi1⟩ : ∃ i1, i = i1 + 1 := ⟨i - 1, by omega⟩
      have HI1 : Hid (i = i1 + 1) := hi1
      have hi1i : (i : Int) - 1 = (i1 : Int) := by omega
      clear hsa hi1
      subst eu
      by_cases hle : sa ≤ t
      · have HS : Hid (seekI A t i = i) := seekI_hit HI1.out (by rw [← HSA.out]; exact hle)
        go_wp2
        obtain ⟨e1, e2⟩ := HEE.out
        rw [e1, e2, HI.out, HS.out]
        go_ret2
        exact ⟨rfl, B4.out⟩
      · have HS : Hid (seekI A t q1 = seekI A t i1) := HI.out.trans (seekI_miss HI1.out (by rw [← HSA.out]; exact hle))
        go_wp2_with fail
        go_roundw
        case rel => exact ⟨i1, by have := HI1.out; omega, by go_num, HS, by first | rfl | trivial⟩
        case measure => simp [intOf]; omega

end Go.Proofs.Ytnpaejknoipicad

namespace Go.Proofs.Ytnpaejknoipicad

theorem trimD_le : ∀ L : List (List Fr), trimD L ≤ L.length - 1
  | [] => Nat.le_refl _
  | g :: r => by
    unfold trimD
    split
    · rename_i h
      have := fullB_len h
      have := trimD_le r
      simp at *
      omega
    · omega
theorem trimD_done : ∀ L : List (List Fr), fullB (L.drop (trimD L)) = false
  | [] => fullB_nil
  | g :: r => by
    unfold trimD
    split
    · rw [List.drop_succ_cons]; exact trimD_done r
    · rename_i h; simpa using h
theorem closedG_cases (O : List Fr) (f : Fr) : (closedG O f = [] ∧ ¬ (f.key = true ∧ 0 < O.length)) ∨ (closedG O f = [O] ∧ f.key = true ∧ 0 < O.length) := by
  unfold closedG
  by_cases h : (f.key && decide (0 < O.length)) = true
  · rw [if_pos h]
    simp only [Bool.and_eq_true, decide_eq_true_eq] at h
    exact .inr ⟨rfl, h⟩
  · rw [if_neg h]
    simp only [Bool.and_eq_true, decide_eq_true_eq] at h
    exact .inl ⟨rfl, h⟩
theorem addsE_zero {first : Int} {L : List (List Fr)} {O : List Fr} {f : Fr} (h : addsE first L O f = 0) : stchk first L O = 0 ∧ f.chk = 0 ∧ first + trimD (L ++ closedG O f) ≤ 100000 ∧ addsF first L O f = first + trimD (L ++ closedG O f) ∧ addsL first L O f = (L ++ closedG O f).drop (trimD (L ++ closedG O f)) ∧ addsO first L O f = growG O f ∧ addsB first L O f = decide (0 < (closedG O f).length) := by
  have h0 := h
  unfold addsE at h0
  by_cases h1 : stchk first L O = 0
  · rw [if_pos h1] at h0
    by_cases h2 : f.chk = 0
    · rw [if_pos h2] at h0
      by_cases h3 : 100000 < first + trimD (L ++ closedG O f)
      · rw [if_pos h3] at h0; cases h0
      · exact ⟨h1, h2, by omega, if_pos h, if_pos h, if_pos h, if_pos h⟩
    · rw [if_neg h2] at h0; exact absurd h0 h2
  · rw [if_neg h1] at h0; exact absurd h0 h1
theorem addsE_bad {first : Int} {L : List (List Fr)} {O : List Fr} {f : Fr} (h : ¬ addsE first L O f = 0) : addsF first L O f = 0 ∧ addsL first L O f = [] ∧ addsO first L O f = [] ∧ addsB first L O f = false := ⟨if_neg h, if_neg h, if_neg h, if_neg h⟩
theorem growG_right {O : List Fr} {f : Fr} (hO : O = [] ∨ gchk O = 0) (hf : f.chk = 0) : growG O f = [] ∨ gchk (growG O f) = 0 := by
  have := stepG_right (s := ([], O)) (f := f) ⟨fun g hg => absurd hg List.not_mem_nil, hO⟩ hf
  exact this.2
/-- what Add leaves is right -/
theorem adds_right {first : Int} {L : List (List Fr)} {O : List Fr} {f : Fr} (h : addsE first L O f = 0) : stchk (addsF first L O f) (addsL first L O f) (addsO first L O f) = 0 := by
  obtain ⟨h1, h2, h3, e1, e2, e3, _⟩ := addsE_zero h
  obtain ⟨a1, a2, a3, a4, a5, a6⟩ := stchk_zero.1 h1
  rw [e1, e2, e3]
  have hd := trimD_done (L ++ closedG O f)
  simp only [fullB, Bool.or_eq_false_iff, decide_eq_false_iff_not] at hd
  refine stchk_zero.2 ⟨by omega, h3, by omega, fun g hg => ?_, hd.2, growG_right a6 h2⟩
  have hm := List.mem_of_mem_drop hg
  rcases List.mem_append.1 hm with hm | hm
  · exact a4 g hm
  · rcases closedG_cases O f with ⟨e, _⟩ | ⟨e, _, h0⟩
    · rw [e] at hm; exact absurd hm List.not_mem_nil
    · rw [e] at hm
      simp at hm
      subst hm
      rcases a6 with a6 | a6
      · rw [a6] at h0; simp at h0
      · exact a6
theorem fullB_right {first : Int} {L : List (List Fr)} {O : List Fr} (h : stchk first L O = 0) : fullB L = false := by
  obtain ⟨_, _, a3, _, a5, _⟩ := stchk_zero.1 h
  simp only [fullB, Bool.or_eq_false_iff, decide_eq_false_iff_not]
  exact ⟨by omega, a5⟩
/-- a frame that closes none leaves the closed ones as they were -/
theorem adds_open {first : Int} {L : List (List Fr)} {O : List Fr} {f : Fr} (h : addsE first L O f = 0) (hb : addsB first L O f = false) : addsF first L O f = first ∧ addsL first L O f = L := by
  obtain ⟨h1, _, _, e1, e2, _, e4⟩ := addsE_zero h
  rw [e4, decide_eq_false_iff_not] at hb
  have hc : closedG O f = [] := List.eq_nil_of_length_eq_zero (by omega)
  rw [hc, List.append_nil] at e1 e2
  rw [trimD_no (fullB_right h1)] at e1 e2
  exact ⟨by rw [e1]; simp, by rw [e2]; simp⟩
theorem grAt_append (L M : List (List Fr)) (k : Nat) : grAt (L ++ M) k = if k < L.length then grAt L k else grAt M (k - L.length) := by
  unfold grAt
  split
  · rename_i h; rw [List.getElem?_append_left h]
  · rename_i h; rw [List.getElem?_append_right (by omega)]
theorem grAt_drop (L : List (List Fr)) (d k : Nat) : grAt (L.drop d) k = grAt L (d + k) := by
  unfold grAt; rw [List.getElem?_drop]
/-- what Get says of a store that is right -/
theorem getE_in {first : Int} {L : List (List Fr)} {O : List Fr} (h : stchk first L O = 0) {n : Int} {d : Nat} (hn : n = first + d) (hd : d < (allG L O).length) : getE first L O n = 0 ∧ getG first L O n = grAt (allG L O) d := by
  have e : getE first L O n = 0 := by
    unfold getE; rw [if_pos h, if_neg (by omega), if_neg (by omega)]
  refine ⟨e, ?_⟩
  unfold getG; rw [if_pos e]
  congr 1; omega
theorem getE_out {first : Int} {L : List (List Fr)} {O : List Fr} (h : stchk first L O = 0) {n : Int} (hn : n < first ∨ first + (allG L O).length ≤ n) : getE first L O n = 5 ∧ getG first L O n = [] := by
  have e : getE first L O n = 5 := by
    unfold getE; rw [if_pos h]
    by_cases h1 : n < first
    · rw [if_pos h1]
    · rw [if_neg h1, if_pos (by omega)]
  exact ⟨e, by unfold getG; rw [if_neg (by rw [e]; decide)]⟩
theorem allG_length (L : List (List Fr)) (O : List Fr) : (allG L O).length = L.length + (if 0 < O.length then 1 else 0) := by
  unfold allG; split <;> simp
/-- what was stored is there, by its number, or is gone -/
theorem adds_get {first : Int} {L : List (List Fr)} {O : List Fr} {f : Fr} (h : addsE first L O f = 0) {i : Nat} (hi : i < (L ++ closedG O f).length) :
    (first + i < addsF first L O f → getE (addsF first L O f) (addsL first L O f) (addsO first L O f) (first + i) = 5) ∧
    (¬ first + i < addsF first L O f → getE (addsF first L O f) (addsL first L O f) (addsO first L O f) (first + i) = 0 ∧ getG (addsF first L O f) (addsL first L O f) (addsO first L O f) (first + i) = grAt (L ++ closedG O f) i) := by
  have hr := adds_right h
  obtain ⟨_, _, _, e1, e2, _, _⟩ := addsE_zero h
  refine ⟨fun h1 => (getE_out hr (.inl h1)).1, fun h1 => ?_⟩
  rw [e1] at h1
  have hd : i - trimD (L ++ closedG O f) < (addsL first L O f).length := by rw [e2, List.length_drop]; omega
  obtain ⟨g1, g2⟩ := getE_in hr (n := first + i) (d := i - trimD (L ++ closedG O f)) (by rw [e1]; omega) (by rw [allG_length]; omega)
  refine ⟨g1, ?_⟩
  rw [g2]
  unfold allG
  have : grAt (addsL first L O f) (i - trimD (L ++ closedG O f)) = grAt (L ++ closedG O f) i := by
    rw [e2, grAt_drop]; congr 1; omega
  split
  · rw [grAt_append, if_pos hd, this]
  · exact this
/-- the newest one is there -/
theorem adds_last {first : Int} {L : List (List Fr)} {O : List Fr} {f : Fr} (h : addsE first L O f = 0) : addsF first L O f ≤ first + ((L ++ closedG O f).length - 1 : Nat) ∧ first ≤ addsF first L O f ∧ (0 < (L ++ closedG O f).length → 0 < (addsL first L O f).length) := by
  obtain ⟨_, _, _, e1, e2, _, _⟩ := addsE_zero h
  have := trimD_le (L ++ closedG O f)
  rw [e1, e2, List.length_drop]
  exact ⟨by omega, by omega, fun _ => by omega⟩
/-- what Seek finds -/
theorem seekI_spec (A : List (List Fr)) (t : Int) : ∀ i, (∀ j, seekI A t i < j → j ≤ i → t < (frAt (grAt A j) 0).time) ∧ (t < (frAt (grAt A (seekI A t i)) 0).time → seekI A t i = 0)
  | 0 => ⟨fun j h1 h2 => by simp [seekI] at h1; omega, fun _ => rfl⟩
  | i + 1 => by
    by_cases h : (frAt (grAt A (i + 1)) 0).time ≤ t
    · rw [seekI_hit rfl h]
      exact ⟨fun j h1 h2 => by omega, fun h2 => by omega⟩
    · rw [seekI_miss rfl h]
      have ih := seekI_spec A t i
      refine ⟨fun j h1 h2 => ?_, ih.2⟩
      by_cases hj : j = i + 1
      · subst hj; omega
      · exact ih.1 j h1 (by omega)
theorem seekE_zero {first : Int} {L : List (List Fr)} {O : List Fr} {t : Int} (h : seekE first L O t = 0) : stchk first L O = 0 ∧ 0 ≤ t ∧ t ≤ 1000000 ∧ 0 < (allG L O).length ∧ seekN first L O t = first + seekI (allG L O) t ((allG L O).length - 1) := by
  have h0 := h
  unfold seekE at h0
  by_cases h1 : stchk first L O = 0
  · rw [if_pos h1] at h0
    by_cases h2 : t < 0
    · rw [if_pos h2] at h0; cases h0
    rw [if_neg h2] at h0
    by_cases h3 : 1000000 < t
    · rw [if_pos h3] at h0; cases h0
    rw [if_neg h3] at h0
    by_cases h4 : (allG L O).length = 0
    · rw [if_pos h4] at h0; cases h0
    exact ⟨h1, by omega, by omega, by omega, if_pos h⟩
  · rw [if_neg h1] at h0; exact absurd h0 h1

end Go.Proofs.Ytnpaejknoipicad

namespace Go.Proofs.Ytnpaejknoipicad

theorem diskE_zero {l : List UInt8} {s : Int} : diskE l s = 0 ↔ l.length ≤ 2000 ∧ okRs (recs l) = true ∧ ∃ k, k ≤ (recs l).length ∧ s = endK (recs l) k := by
  unfold diskE
  by_cases h1 : 2000 < l.length
  · rw [if_pos h1]
    exact ⟨fun h => (by cases h), fun h => (by omega)⟩
  · rw [if_neg h1]
    cases h2 : okRs (recs l)
    · simp
    · by_cases h3 : ∃ k, k ≤ (recs l).length ∧ s = endK (recs l) k
      · rw [if_pos rfl, if_pos h3]; exact ⟨fun _ => ⟨by omega, rfl, h3⟩, fun _ => rfl⟩
      · rw [if_pos rfl, if_neg h3]; exact ⟨fun h => (by cases h), fun h => absurd h.2.2 h3⟩
theorem recAt_take {b : List (List UInt8)} {k i : Nat} (h : i < k) : recAt (b.take k) i = recAt b i := by
  unfold recAt; rw [List.getElem?_take, if_pos h]
theorem recAt_left {b c : List (List UInt8)} {i : Nat} (h : i < b.length) : recAt (b ++ c) i = recAt b i := by
  unfold recAt; rw [List.getElem?_append_left h]
theorem recAt_last (b : List (List UInt8)) (x : List UInt8) : recAt (b ++ [x]) b.length = x := by simp [recAt]
theorem endK_take {b : List (List UInt8)} {k i : Nat} (h : i ≤ k) : endK (b.take k) i = endK b i := by
  unfold endK; rw [List.take_take, Nat.min_eq_left h]
theorem endK_left {b c : List (List UInt8)} {i : Nat} (h : i ≤ b.length) : endK (b ++ c) i = endK b i := by
  unfold endK; rw [List.take_append_of_le_length h]
theorem endK_mono {b : List (List UInt8)} {i j : Nat} (h : i ≤ j) (hj : j ≤ b.length) : endK b i ≤ endK b j := by
  induction j with
  | zero => have : i = 0 := by omega
            subst this; exact Nat.le_refl _
  | succ j ih =>
    by_cases he : i = j + 1
    · subst he; exact Nat.le_refl _
    · have := ih (by omega) (by omega)
      rw [endK_succ (by omega)]; omega
theorem endK_lt {b : List (List UInt8)} {i j : Nat} (h : i < j) (hj : j ≤ b.length) : endK b i < endK b j := by
  have h1 := endK_mono (b := b) (i := i + 1) (j := j) h hj
  rw [endK_succ (by omega)] at h1; omega
theorem okRs_take {b : List (List UInt8)} (h : okRs b = true) (k : Nat) : okRs (b.take k) = true := by
  have h := of_decide_eq_true h
  refine decide_eq_true fun i hi => ?_
  rw [List.length_take] at hi
  have h1 := h i (by omega)
  unfold okR at h1 ⊢
  rw [recAt_take (by omega), recAt_take (by omega)]; exact h1
theorem okRs_snoc {b : List (List UInt8)} {x : List UInt8} {n : Int} {g : List Fr} (h : okRs b = true) (hx : decR x = some (n, g)) (hn : b.length = 0 ∨ n = decN (recAt b 0) + b.length) : okRs (b ++ [x]) = true := by
  have h := of_decide_eq_true h
  have hN : decN x = n := by unfold decN; rw [hx]; rfl
  refine decide_eq_true fun i hi => ?_
  rw [List.length_append, List.length_singleton] at hi
  by_cases he : i < b.length
  · have h1 := h i he
    unfold okR at h1 ⊢
    rw [recAt_left he, recAt_left (by omega)]; exact h1
  · have he : i = b.length := by omega
    subst he
    unfold okR
    rw [recAt_last, hx, hN]
    rcases hn with h0 | h0
    · have : b = [] := List.eq_nil_of_length_eq_zero h0
      subst this
      simp [recAt, hN]
    · by_cases hz : b.length = 0
      · have : b = [] := List.eq_nil_of_length_eq_zero hz
        subst this
        simp [recAt, hN]
      · rw [recAt_left (by omega)]
        simp [h0]
theorem dGs_length (l : List UInt8) : (dGs l).length = (recs l).length := by simp [dGs]
/-- a beginning of a disk -/
theorem take_facts {l : List UInt8} {n : Nat} (hn : n ≤ l.length) : ∃ k, k ≤ (recs l).length ∧ recs (l.take n) = (recs l).take k ∧ dGs (l.take n) = (dGs l).take k ∧ dEnd (l.take n) = endK (recs l) k ∧ endK (recs l) k ≤ n ∧ (k < (recs l).length → n < endK (recs l) (k + 1)) ∧ (0 < k → dFirst (l.take n) = dFirst l) := by
  obtain ⟨k, h1, h2, h3, h4⟩ := recs_take l.length l n (Nat.le_refl _) hn
  refine ⟨k, h1, h2, by unfold dGs; rw [h2, List.map_take], ?_, h3, h4, fun h => ?_⟩
  · unfold dEnd; rw [h2, List.length_take, Nat.min_eq_left h1, endK_take (Nat.le_refl _)]
  · unfold dFirst; rw [h2, recAt_take h]
theorem take_right {l : List UInt8} {n : Nat} {s : Int} (hn : n ≤ l.length) (h : diskE l s = 0) (hs : s ≤ n) : diskE (l.take n) s = 0 := by
  obtain ⟨h1, h2, j, h3, h4⟩ := diskE_zero.1 h
  obtain ⟨k, i1, i2, _, _, i5, i6, _⟩ := take_facts hn
  refine diskE_zero.2 ⟨by rw [List.length_take]; omega, by rw [i2]; exact okRs_take h2 k, j, ?_, ?_⟩
  · rw [i2, List.length_take]
    by_cases hjk : j ≤ k
    · omega
    · have := i6 (by omega)
      have := endK_mono (b := recs l) (i := k + 1) (j := j) (by omega) h3
      omega
  · by_cases hjk : j ≤ k
    · rw [i2, endK_take hjk]; exact h4
    · have := i6 (by omega)
      have := endK_mono (b := recs l) (i := k + 1) (j := j) (by omega) h3
      omega
theorem take_zero {l : List UInt8} {n : Nat} {s : Int} (hn : n ≤ l.length) (h : diskE l s = 0) : diskE (l.take n) 0 = 0 := by
  obtain ⟨h1, h2, _⟩ := diskE_zero.1 h
  exact take_right hn (diskE_zero.2 ⟨h1, h2, 0, Nat.zero_le _, rfl⟩) (by omega)
/-- all of it, and nothing torn -/
theorem whole_facts (l : List UInt8) : recs (l.take (dEnd l)) = recs l ∧ dEnd (l.take (dEnd l)) = dEnd l ∧ dEnd l ≤ l.length ∧ (l.take (dEnd l)).length = dEnd l := by
  have hle : dEnd l ≤ l.length := recs_le l (Nat.le_refl _)
  obtain ⟨k, i1, i2, _, i4, i5, i6, _⟩ := take_facts hle
  have hk : k = (recs l).length := by
    by_cases h : k = (recs l).length
    · exact h
    · have h1 := i6 (by omega)
      have h2 := endK_mono (b := recs l) (i := k + 1) (j := (recs l).length) (by omega) (Nat.le_refl _)
      unfold dEnd at h1; omega
  subst hk
  exact ⟨by rw [i2, List.take_length], i4, hle, by rw [List.length_take]; omega⟩
theorem whole_right {l : List UInt8} {s : Int} (h : diskE l s = 0) : diskE (l.take (dEnd l)) (dEnd l) = 0 ∧ dGs (l.take (dEnd l)) = dGs l ∧ dFirst (l.take (dEnd l)) = dFirst l := by
  obtain ⟨h1, h2, _⟩ := diskE_zero.1 h
  obtain ⟨e1, e2, e3, e4⟩ := whole_facts l
  refine ⟨diskE_zero.2 ⟨by omega, by rw [e1]; exact h2, (recs l).length, by rw [e1]; exact Nat.le_refl _, by rw [e1]; rfl⟩, by unfold dGs; rw [e1], by unfold dFirst; rw [e1]⟩
/-- does a number go on? -/
def goesB (l : List UInt8) (n : Int) : Bool := decide ((recs l).length = 0) || decide (n = dFirst l + (recs l).length)
/-- what Append says -/
def appE (l : List UInt8) (s n : Int) (g : List Fr) : Int :=
  if diskE l s = 0 then (if recE n g = 0 then (if dEnd l < l.length ∨ goesB l n = false then 4 else if 2000 < l.length + (recB n g).length then 2 else 0) else recE n g) else diskE l s
theorem appE_zero {l : List UInt8} {s n : Int} {g : List Fr} (h : appE l s n g = 0) : diskE l s = 0 ∧ recE n g = 0 ∧ dEnd l = l.length ∧ goesB l n = true ∧ l.length + (recB n g).length ≤ 2000 := by
  unfold appE at h
  by_cases h1 : diskE l s = 0
  · rw [if_pos h1] at h
    by_cases h2 : recE n g = 0
    · rw [if_pos h2] at h
      by_cases h3 : dEnd l < l.length ∨ goesB l n = false
      · rw [if_pos h3] at h; cases h
      · rw [if_neg h3] at h
        by_cases h4 : 2000 < l.length + (recB n g).length
        · rw [if_pos h4] at h; cases h
        · have := (whole_facts l).2.2.1
          refine ⟨h1, h2, by omega, ?_, by omega⟩
          cases hg : goesB l n
          · exact absurd (.inr hg) h3
          · rfl
    · rw [if_neg h2] at h; exact absurd h h2
  · rw [if_neg h1] at h; exact absurd h h1
/-- one record more -/
theorem app_facts {l : List UInt8} {s n : Int} {g : List Fr} (h : appE l s n g = 0) : recs (l ++ recB n g) = recs l ++ [encG n g] ∧ diskE (l ++ recB n g) s = 0 ∧ dGs (l ++ recB n g) = dGs l ++ [g] ∧ dFirst (l ++ recB n g) = (if (recs l).length = 0 then n else dFirst l) ∧ dEnd (l ++ recB n g) = (l ++ recB n g).length ∧ diskE (l ++ recB n g) (l ++ recB n g).length = 0 := by
  obtain ⟨h1, h2, h3, h4, h5⟩ := appE_zero h
  obtain ⟨k1, k2, j, k3, k4⟩ := diskE_zero.1 h1
  have hd := decR_enc h2
  have hr : recs (l ++ recB n g) = recs l ++ [encG n g] := by
    rw [recs_append _ l.length l (Nat.le_refl _) h3]
    have ht := tkR_rec h2 []
    rw [List.append_nil] at ht
    rw [recs_cons ht]; rfl
  have hok : okRs (recs (l ++ recB n g)) = true := by
    rw [hr]
    refine okRs_snoc k2 hd ?_
    unfold goesB at h4
    simp only [Bool.or_eq_true, decide_eq_true_eq] at h4
    exact h4
  have hE : dEnd (l ++ recB n g) = (l ++ recB n g).length := by
    unfold dEnd
    rw [hr, List.length_append, List.length_singleton, endK_succ (by simp), endK_left (Nat.le_refl _), recAt_last, List.length_append, recB_len]
    unfold dEnd at h3; omega
  refine ⟨hr, diskE_zero.2 ⟨by rw [List.length_append]; exact h5, hok, j, by rw [hr, List.length_append]; omega, by rw [hr, endK_left k3]; exact k4⟩, ?_, ?_, hE, diskE_zero.2 ⟨by rw [List.length_append]; exact h5, hok, (recs (l ++ recB n g)).length, Nat.le_refl _, by rw [← hE]; rfl⟩⟩
  · unfold dGs
    rw [hr, List.map_append]
    have : decG (encG n g) = g := by unfold decG; rw [hd]; rfl
    simp [this]
  · have hN : decN (encG n g) = n := by unfold decN; rw [hd]; rfl
    unfold dFirst
    rw [hr]
    by_cases hz : (recs l).length = 0
    · have : recs l = [] := List.eq_nil_of_length_eq_zero hz
      rw [if_pos hz, this]
      exact hN
    · rw [if_neg hz, recAt_left (by omega)]
theorem fullB_more (L M : List (List Fr)) (h : fullB L = true) : fullB (L ++ M) = true := by
  simp only [fullB, tooB, Bool.or_eq_true, Bool.and_eq_true, decide_eq_true_eq] at h ⊢
  have hl : (L ++ M).length = L.length + M.length := List.length_append
  have hs : sumG (L ++ M) = sumG L + sumG M := by unfold sumG; rw [List.map_append, List.sum_append]
  omega
theorem trimD_more (L M : List (List Fr)) : trimD L ≤ trimD (L ++ M) := by
  induction L with
  | nil => exact Nat.zero_le _
  | cons g r ih =>
    by_cases h : fullB (g :: r) = true
    · rw [trimD_yes h, trimD_yes (fullB_more _ M h)]
      simp only [List.cons_append, List.tail_cons]; omega
    · rw [trimD_no (by simpa using h)]; exact Nat.zero_le _
/-- groups of a right disk are right, and so are their numbers -/
theorem dGs_right {l : List UInt8} {s : Int} (h : diskE l s = 0) : (∀ g ∈ dGs l, gchk g = 0) ∧ 0 ≤ dFirst l ∧ dFirst l + ((dGs l).length - 1 : Nat) ≤ 100000 := by
  obtain ⟨h1, h2, _⟩ := diskE_zero.1 h
  refine ⟨fun g hg => ?_, ?_, ?_⟩
  · obtain ⟨x, hx, rfl⟩ := List.mem_map.1 hg
    obtain ⟨i, hi, e⟩ := List.mem_iff_getElem.1 hx
    obtain ⟨n, g, _, _, e2, e3⟩ := okRs_at h2 hi
    have e4 : recAt (recs l) i = x := by rw [← e]; simp [recAt, List.getElem?_eq_getElem hi]
    rw [e4] at e2
    rw [← e2]; exact (recE_zero.1 e3).2.2
  · by_cases hz : (recs l).length = 0
    · rw [dFirst_none hz]; exact Int.le_refl _
    · obtain ⟨n, g, _, e1, _, e3⟩ := okRs_at h2 (k := 0) (by omega)
      have := (recE_zero.1 e3).1
      unfold dFirst; omega
  · rw [dGs_length]
    by_cases hz : (recs l).length = 0
    · rw [dFirst_none hz, hz]; omega
    · obtain ⟨n, g, _, e1, _, e3⟩ := okRs_at h2 (k := (recs l).length - 1) (by omega)
      have := (recE_zero.1 e3).2.1
      unfold dFirst; omega
/-- what Open finds -/
def opF (l : List UInt8) : Int := dFirst l + trimD (dGs l)
def opL (l : List UInt8) : List (List Fr) := (dGs l).drop (trimD (dGs l))
theorem op_right {l : List UInt8} {s : Int} (h : diskE l s = 0) : stchk (opF l) (opL l) [] = 0 := by
  obtain ⟨h1, h2, h3⟩ := dGs_right h
  have h4 := trimD_le (dGs l)
  have h5 := trimD_done (dGs l)
  have h6 : (opL l).length ≤ 5 ∧ tooB (opL l) = false := by
    unfold opL
    simp only [fullB, Bool.or_eq_false_iff, decide_eq_false_iff_not] at h5
    exact ⟨by omega, h5.2⟩
  exact stchk_zero.2 ⟨by unfold opF; omega, by unfold opF; omega, h6.1, fun g hg => h1 g (List.mem_of_mem_drop hg), h6.2, .inl rfl⟩

end Go.Proofs.Ytnpaejknoipicad

namespace Go.Proofs.Ytnpaejknoipicad
open Go.RowKit

def recX (b : List (List UInt8)) (k : Nat) : List UInt8 × Nat := (recAt b k, endK b (k + 1))
def recXs (b : List (List UInt8)) (k : Nat) : List (List UInt8 × Nat) := (List.range k).map (recX b)
theorem recXs_succ (b : List (List UInt8)) (k : Nat) : recXs b (k + 1) = recXs b k ++ [recX b k] := by simp [recXs, List.range_succ]
theorem recXs_len (b : List (List UInt8)) (k : Nat) : (recXs b k).length = k := by simp [recXs]
theorem recXs_fst {b : List (List UInt8)} : ∀ {k : Nat}, k ≤ b.length → (recXs b k).map Prod.fst = b.take k
  | 0, _ => rfl
  | k + 1, h => by
    rw [recXs_succ, List.map_append, recXs_fst (by omega), take_one (show k < b.length by omega) []]
    rfl
/-- what read holds behind these records: the first number, the groups, where they end, whether synced is an end -/
def rdF (pre : List (List UInt8 × Nat)) : Int := decN (recAt (pre.map Prod.fst) 0)
def rdG (pre : List (List UInt8 × Nat)) : List (List Fr) := pre.map fun x => decG x.1
def rdE (pre : List (List UInt8 × Nat)) : Nat := (pre.getLast?.map Prod.snd).getD 0
def rdI (s : Int) (pre : List (List UInt8 × Nat)) : Bool := s == 0 || pre.any fun x => s == (x.2 : Int)
theorem rdG_snoc (pre : List (List UInt8 × Nat)) (x : List UInt8 × Nat) : rdG (pre ++ [x]) = rdG pre ++ [decG x.1] := by simp [rdG]
theorem rdG_len (pre : List (List UInt8 × Nat)) : (rdG pre).length = pre.length := by simp [rdG]
theorem rdE_snoc (pre : List (List UInt8 × Nat)) (x : List UInt8 × Nat) : rdE (pre ++ [x]) = x.2 := by simp [rdE]
theorem rdI_snoc (s : Int) (pre : List (List UInt8 × Nat)) (x : List UInt8 × Nat) : rdI s (pre ++ [x]) = (rdI s pre || (s == (x.2 : Int))) := by simp [rdI, Bool.or_assoc]
theorem rdF_one (x : List UInt8 × Nat) : rdF ([] ++ [x]) = decN x.1 := rfl
theorem rdF_snoc {pre : List (List UInt8 × Nat)} (x : List UInt8 × Nat) (h : 0 < pre.length) : rdF (pre ++ [x]) = rdF pre := by
  unfold rdF
  rw [List.map_append, recAt_left (by simpa using h)]
theorem rdF_all (l : List UInt8) : rdF (recXs (recs l) (recs l).length) = dFirst l := by
  unfold rdF dFirst
  rw [recXs_fst (Nat.le_refl _), List.take_length]
theorem rdG_all (l : List UInt8) : rdG (recXs (recs l) (recs l).length) = dGs l := by
  have := recXs_fst (b := recs l) (Nat.le_refl _)
  rw [List.take_length] at this
  unfold rdG dGs
  rw [show (fun x : List UInt8 × Nat => decG x.1) = decG ∘ Prod.fst from rfl, ← List.map_map, this]
theorem rdE_all (l : List UInt8) : rdE (recXs (recs l) (recs l).length) = dEnd l := by
  unfold dEnd
  cases h : (recs l).length with
  | zero => rfl
  | succ k => rw [recXs_succ, rdE_snoc]; rfl
theorem rdI_upto (b : List (List UInt8)) (s : Int) : ∀ k, rdI s (recXs b k) = decide (∃ j, j ≤ k ∧ s = (endK b j : Int))
  | 0 => by
    have : rdI s (recXs b 0) = (s == 0) := by simp [rdI, recXs]
    rw [this, Bool.eq_iff_iff, decide_eq_true_eq, beq_iff_eq]
    constructor
    · intro h; exact ⟨0, Nat.le_refl _, by rw [endK_zero, h]; rfl⟩
    · rintro ⟨j, hj, h⟩
      have : j = 0 := by omega
      subst this
      rw [endK_zero] at h; exact h
  | k + 1 => by
    rw [recXs_succ, rdI_snoc, rdI_upto b s k, Bool.eq_iff_iff, Bool.or_eq_true, decide_eq_true_eq, decide_eq_true_eq, beq_iff_eq]
    constructor
    · rintro (⟨j, hj, h⟩ | h)
      · exact ⟨j, by omega, h⟩
      · exact ⟨k + 1, Nat.le_refl _, h⟩
    · rintro ⟨j, hj, h⟩
      by_cases hk : j ≤ k
      · exact .inl ⟨j, hk, h⟩
      · have : j = k + 1 := by omega
        subst this
        exact .inr h
/-- these records are right, number by number -/
def rdOk (pre : List (List UInt8 × Nat)) : Prop := okRs (pre.map Prod.fst) = true
theorem rdOk_nil : rdOk [] := by unfold rdOk; decide
theorem rdOk_snoc {pre : List (List UInt8 × Nat)} {x : List UInt8 × Nat} {n : Int} {g : List Fr} (h : rdOk pre) (hx : decR x.1 = some (n, g)) (hn : pre.length = 0 ∨ n = rdF pre + pre.length) : rdOk (pre ++ [x]) := by
  unfold rdOk
  rw [List.map_append]
  exact okRs_snoc h hx (by simpa [rdF] using hn)
theorem rdOk_first {pre : List (List UInt8 × Nat)} (h : rdOk pre) : 0 ≤ rdF pre ∧ rdF pre ≤ 100000 := by
  cases pre with
  | nil => exact ⟨by decide, by decide⟩
  | cons x r =>
    obtain ⟨n, g, hd, hn, _, he⟩ := okRs_at h (k := 0) (by simp)
    have := recE_zero.1 he
    unfold rdF
    simp only [List.map_cons] at hn ⊢
    have h0 : n = decN (recAt (x.1 :: r.map Prod.fst) 0) := by simpa using hn
    omega
theorem rdOk_bad {pre : List (List UInt8 × Nat)} {x : List UInt8 × Nat} (hb : decR x.1 = none ∨ ∃ n g, decR x.1 = some (n, g) ∧ ¬ (pre.length = 0 ∨ n = rdF pre + pre.length)) : ¬ rdOk (pre ++ [x]) := by
  intro h
  unfold rdOk at h
  obtain ⟨n, g, hd, hn, _, _⟩ := okRs_at h (k := pre.length) (by simp)
  have e1 : recAt ((pre ++ [x]).map Prod.fst) pre.length = x.1 := by
    rw [List.map_append]
    have := recAt_last (pre.map Prod.fst) x.1
    rw [List.length_map] at this
    exact this
  rw [e1] at hd
  rcases hb with hb | ⟨n', g', hb, hno⟩
  · rw [hb] at hd; cases hd
  · rw [hb] at hd
    cases hd
    by_cases h0 : pre.length = 0
    · exact hno (.inl h0)
    · refine hno (.inr ?_)
      rw [hn]
      have := rdF_snoc x (show 0 < pre.length by omega)
      unfold rdF at this
      rw [this]; rfl

/-- block g holds cells -/
def Cz (w : World) (g : Nat) : Prop := ∃ C t z, w.heap[g]? = some (.cells C t z)
theorem Cz.of_cell {w : World} {g i : Nat} {v : Value} (h : w.cell? ⟨g, i, none⟩ = some v) : Cz w g := by
  unfold World.cell? at h
  cases hg : w.heap[g]? with
  | none => rw [hg] at h; simp at h
  | some o =>
    cases o with
    | cells C t z => exact ⟨C, t, z, hg⟩
    | _ => rw [hg] at h; simp at h
theorem StrsIn.cz {S : Nat → Prop} {w : World} {v : Value} {l : List ByteArray} (h : StrsIn S w v l) : StrsIn (fun g => S g ∧ Cz w g) w v l := by
  obtain ⟨h1, h2, h3⟩ := h
  refine ⟨h1, h2, fun g hg h0 => ⟨⟨(h3 g hg h0).1, ?_⟩, (h3 g hg h0).2⟩⟩
  obtain ⟨hl, ⟨h, _⟩ | ⟨b, off, c, rfl, _, hc⟩⟩ := h1
  · omega
  · cases hg
    cases l with
    | nil => simp at h0
    | cons x r => exact Cz.of_cell (hc 0 (.string x) rfl)
theorem FrsIn.cz {S : Nat → Prop} {w : World} {v : Value} {l : List Fr} (h : FrsIn S w v l) : FrsIn (fun g => S g ∧ Cz w g) w v l := by
  obtain ⟨ao, c, hv, h1, h2, hc⟩ := h
  refine ⟨ao, c, hv, h1, h2, fun k hk => ?_⟩
  obtain ⟨b, off, e1, e2, e3, pv, q1, q2, q3, q4⟩ := hc k hk
  exact ⟨b, off, e1, e2, ⟨e3, Cz.of_cell q1⟩, pv, q1, q2, q3, q4.cz⟩
/-- a turn of a block that is no cells leaves the call's own rows of groups as they were -/
theorem OwnGrs.others {base : Nat} {w w' : World} {v : Value} {L : List (List Fr)} {row : Option Nat} (h : OwnGrs base (NS base v) w v L) (hg : w.grownBy w' row) (hr : ∀ r, row = some r → ∃ o : Obj, w.heap[r]? = some o ∧ o.isCells = false) : OwnGrs base (NS base v) w' v L := by
  have hne : ∀ g, Cz w g → some g ≠ row := fun g ⟨C, t, z, hc⟩ e => by
    obtain ⟨o, ho, hn⟩ := hr g e.symm
    rw [hc] at ho; cases ho; cases hn
  have hb := h.blk
  obtain ⟨ps, p1, p2, p3⟩ := h
  have h' : OwnGrs base (fun g => NS base v g ∧ Cz w g) w v L := ⟨ps, p1, p2, fun p hp => (p3 p hp).cz⟩
  refine h'.to (SameOn.grown hg (fun g hS => hne g hS.2)) (fun _ _ h => h.1) (fun g hv => ?_)
  obtain ⟨cur, hB⟩ := hb g hv
  exact hg.block g hB.lt (hne g ⟨_, _, _, hB⟩)
theorem Blk.others {w w' : World} {b : Nat} {C : Array Value} {t : TypeId} {row : Option Nat} (h : Blk w b C t) (hg : w.grownBy w' row) (hr : ∀ r, row = some r → ∃ o : Obj, w.heap[r]? = some o ∧ o.isCells = false) : Blk w' b C t :=
  (hg.block b h.lt (fun e => by obtain ⟨o, ho, hc⟩ := hr b e.symm; rw [show w.heap[b]? = _ from h] at ho; cases ho; cases hc)).trans h

end Go.Proofs.Ytnpaejknoipicad

namespace Go.Proofs.Ytnpaejknoipicad
open Go.RowKit Go.Shelf
attribute [local go_sem] Oper.semAt_some

/-- how a record is handed to the loop's body -/
def encR (x : List UInt8 × Nat) : Array Value := #[.string (ba x.1), .int .i64 (x.2 : Int)]
/-- what a round must keep: the data's box -/
def KpD (D : Nat) (w w' : World) : Prop := w.heap.size ≤ w'.heap.size ∧ w'.heap[D]? = w.heap[D]?

def strSize : Value → Nat
  | .string s => s.size
  | _ => 0

set_option maxHeartbeats 4000000 in
set_option maxRecDepth 100000 in
theorem records1_in (n yl D : Nat) (l : List UInt8) (J Jx : List (List UInt8 × Nat) → World → Prop) (W : World)
    (hlen : l.length ≤ 1000000) (hD : Blk W D #[.string (ba l)] 9) (hJ : AbidesFrom W.heap.size J)
    (hY : ∀ pre x W1, J pre W1 → pre.length < (recs l).length → YieldAt Fence.wide (n - 1) Try.prog yl (encR x) W1 fun e W' =>
      (e = .returned (.bool true) ∧ J (pre ++ [x]) W' ∧ KpD D W1 W') ∨ (e = .returned (.bool false) ∧ Jx (pre ++ [x]) W'))
    (h0 : J [] W) :
    CallsIn Fence.wide n Try.prog 91 #[.func (.yield yl) #[] #[], .pointer (some ⟨D, 0, none⟩)] W fun e W' => (∃ v, e = .returned v) ∧
      ((∃ ys, ys = recXs (recs l) (recs l).length ∧ J ys W') ∨ (∃ pre, (∃ k, k ≤ (recs l).length ∧ pre = recXs (recs l) k) ∧ Jx pre W')) := by
  have hmf : ∀ (fn : Fn) (first cap : Array Value) (w : World), (Instr.makeFunc fn first cap).run Try.prog w = .ok (.func fn first cap) w := fun _ _ _ _ => rfl
  have c0 := hD.cell (j := 0) (u := .string (ba l)) rfl
  obtain ⟨b, hb⟩ : ∃ b, b = recs l := ⟨_, rfl⟩
  obtain ⟨N, hN⟩ : ∃ N, N = b.length := ⟨_, rfl⟩
  have HTN : Hid (tkR (l.drop (endK b N)) = none) := by show _ = _; rw [hN, hb]; exact recs_none l
  have HTS : Hid (∀ k, k < N → tkR (l.drop (endK b k)) = some (recAt b k, l.drop (endK b (k + 1))) ∧ endK b (k + 1) ≤ l.length ∧ endK b k < endK b (k + 1)) := fun k hk => by
    rw [hN, hb] at hk
    rw [hb]
    exact ⟨recs_some l hk, recs_le l hk, endK_lt (by omega) hk⟩
  rw [← hb, ← hN]
  rw [← hb, ← hN] at hY
  have HY := @id (Hid _) hY
  have HJ : Hid (AbidesFrom W.heap.size J) := hJ
  have HD : Hid (Blk W D #[.string (ba l)] 9) := hD
  clear hb hN hD hJ hY
  refine callsIn_of_wp Try.func91 rfl trivial ?_ rfl
  simp only [Try.ntmps91, List.size_toArray, List.length_cons, List.length_nil, Nat.reduceAdd, Nat.reduceSub, Array.replicate_succ, Array.replicate_zero, List.push_toArray, List.append_toArray, List.nil_append, List.cons_append]
  gi_wp2
  gi_loopw [3] (fun p wr => ∃ k, k ≤ N ∧ p = .string (ba (l.drop (endK b k))) ∧ Hid (J (recXs b k) wr) ∧ Hid (Blk wr D #[.string (ba l)] 9) ∧ W.heap.size ≤ wr.heap.size)
    (fun p _ => strSize p)
  case atStart => exact ⟨0, Nat.zero_le _, by rw [endK_zero, List.drop_zero], h0, HD.out, Nat.le_refl _⟩
  case round =>
    obtain ⟨k, hk, rfl, HJk, HDk, hsz⟩ := hrel
    obtain ⟨q, hq⟩ : ∃ q, q = l.drop (endK b k) := ⟨_, rfl⟩
    have HQ : Hid (q = l.drop (endK b k)) := hq
    rw [← hq]
    clear hq c0 HD
    by_cases he : q = []
    · have hkN : k = N := by
        by_cases h : k < N
        · have := (HTS.out k h).1
          rw [← HQ.out, he] at this
          cases this
        · omega
      subst he hkN
      have hbe : (ba []).toList.isEmpty = true := by rw [ByteArray.toList_eq, ba_data]; rfl
      gi_wp2
      go_end0
      exact ⟨⟨_, rfl⟩, .inl ⟨_, rfl, HJk.out⟩⟩
    · have hbe : (ba q).toList.isEmpty = false := by
        rw [ByteArray.toList_eq, ba_data]
        cases q with
        | nil => exact absurd rfl he
        | cons x t => rfl
      have KB := Blk.new wr #[.string ⟨#[]⟩] 9
      have HRR : Hid (Calls Try.prog 92 #[.string (ba q), .func (.func 93) #[] #[.pointer (some ⟨wr.heap.size, 0, none⟩)]] (wr.alloc (.cells #[.string ⟨#[]⟩] 9)) fun e w' =>
          Kept [wr.heap.size] (wr.alloc (.cells #[.string ⟨#[]⟩] 9)) w' ∧ ((tkR q = none ∧ e = .returned (.tuple #[.string ⟨#[]⟩, .bool false])) ∨ ∃ a r, tkR q = some (a, r) ∧ e = .returned (.tuple #[.string (ba r), .bool true]) ∧ Blk w' wr.heap.size #[.string (ba a)] 9)) := readRec_any wr.heap.size q ⟨#[]⟩ _ KB
      gi_wp2_with fail
      refine ⟨trivial, (fun h => nomatch h), ?_⟩
      refine (callsIn_wide.2 HRR.out).mono ?_
      have hB0 : Below wr.heap.size wr (wr.alloc (.cells #[.string ⟨#[]⟩] 9)) := (Below.refl _ wr).alloc (Nat.le_refl _) _
      rintro e w1 ⟨k1, ⟨hT, rfl⟩ | ⟨a, r, hT, rfl, KB1⟩⟩
      · have hB1 : Below wr.heap.size wr w1 := hB0.trans (k1.toBelow (by simp) (by intro j hj; simp at hj; omega))
        have HJ1 : Hid (J (recXs b k) w1) := HJ.out _ _ _ none HJk.out ⟨hB1.os, hB1.tape, hB1.output, hB1.size, fun j hj _ => hB1.block j hj⟩ (fun r h => nomatch h)
        have hkN : k = N := by
          by_cases h : k < N
          · have := (HTS.out k h).1
            rw [← HQ.out, hT] at this
            cases this
          · omega
        subst hkN
        clear HRR k1 hT KB hB0 hB1
        gi_wp2_with fail
        refine ⟨(fun _ h => nomatch h), ?_⟩
        gi_wp2_with fail
        refine bodyPost_ret (results_none rfl _ _ _) rfl ?_
        exact ⟨⟨_, rfl⟩, .inl ⟨_, rfl, HJ1.out⟩⟩
      · have hkN : k < N := by
          by_cases h : k = N
          · subst h
            have := HTN.out
            rw [← HQ.out, hT] at this
            cases this
          · omega
        obtain ⟨t1, t2, t3⟩ := HTS.out k hkN
        rw [← HQ.out, hT] at t1
        injection t1 with t1
        injection t1 with t1 t4
        subst t1
        have hB1 : Below wr.heap.size wr w1 := hB0.trans (k1.toBelow (by simp) (by intro j hj; simp at hj; omega))
        have HJ1 : Hid (J (recXs b k) w1) := HJ.out _ _ _ none HJk.out ⟨hB1.os, hB1.tape, hB1.output, hB1.size, fun j hj _ => hB1.block j hj⟩ (fun r h => nomatch h)
        have KD1 := HDk.out.below hB1 HDk.out.lt
        obtain ⟨fn, tmps, assign, body, hy, hR⟩ := HY.out _ (recX b k) w1 HJ1.out (by rw [recXs_len]; exact hkN)
        have b1 := KB1.cell (j := 0) (u := .string (ba (recAt b k))) rfl
        have d1 := KD1.cell (j := 0) (u := .string (ba l)) rfl
        obtain ⟨E1, hE1⟩ : ∃ x, x = endK b (k + 1) := ⟨_, rfl⟩
        obtain ⟨A, hA⟩ : ∃ x, x = recAt b k := ⟨_, rfl⟩
        obtain ⟨rl, hrl⟩ : ∃ x, x = r.length := ⟨_, rfl⟩
        obtain ⟨ll, hll⟩ : ∃ x, x = l.length := ⟨_, rfl⟩
        have hbr : (ba r).size = rl := by rw [ba_size, hrl]
        have hbl : (ba l).size = ll := by rw [ba_size, hll]
        have hsub : wrap64 ((ll : Int) - (rl : Int)) = (E1 : Int) := by
          have : rl = ll - E1 := by rw [hrl, t4, List.length_drop, hll, hE1]
          unfold wrap64; omega
        unfold encR recX at hy
        dsimp only at hy
        rw [← hE1, ← hA] at hy
        rw [← hA] at b1
        have HE1 : Hid (E1 = endK b (k + 1)) := hE1
        have HR2 : Hid (RoundIn Fence.wide (n - 1) Try.prog yl fn tmps assign body w1 fun e W' => (e = .returned (.bool true) ∧ J (recXs b k ++ [recX b k]) W' ∧ KpD D w1 W') ∨ (e = .returned (.bool false) ∧ Jx (recXs b k ++ [recX b k]) W')) := hR
        have HLT : Hid (strSize (.string (ba r)) < strSize (.string (ba q))) := by
          show (ba r).size < (ba q).size
          rw [ba_size, ba_size, t4, HQ.out, List.length_drop, List.length_drop]; omega
        have HR4 : Hid (r = l.drop (endK b (k + 1))) := t4
        have HD1 : Hid (Blk w1 D #[.string (ba l)] 9) := KD1
        have HS1 : Hid (wr.heap.size ≤ w1.heap.size) := hB1.size
        clear HRR k1 hT KB hB0 hB1 KB1 KD1 hR hE1 hA hrl hll t2 t3 t4 HJ1
        gi_wp2_with fail
        refine ⟨(fun h => nomatch h), ?_⟩
        refine HR2.out.mono ?_
        rintro e w3 (⟨rfl, hJ3, hk3⟩ | ⟨rfl, hJx3⟩)
        · have HJ3 : Hid (J (recXs b (k + 1)) w3) := by rw [recXs_succ]; exact hJ3
          have HD3 : Hid (Blk w3 D #[.string (ba l)] 9) := hk3.2.trans HD1.out
          have HS3 : Hid (W.heap.size ≤ w3.heap.size) := by have := HS1.out; have := hk3.1; show _ ≤ _; omega
          clear hJ3 hk3 hy d1 b1 HR2 HD1 HS1
          gi_wp2_with fail
          go_roundw
          case rel => exact ⟨k + 1, by omega, by rw [HR4.out], HJ3.out, HD3.out, HS3.out⟩
          case measure => exact HLT.out
        · have HJX : Hid (Jx (recXs b (k + 1)) w3) := by rw [recXs_succ]; exact hJx3
          clear hJx3 hy d1 b1 HR2 HD1 HS1
          gi_wp2_with fail
          refine bodyPost_ret (results_none rfl _ _ _) rfl ?_
          exact ⟨⟨_, rfl⟩, .inr ⟨_, ⟨k + 1, by omega, rfl⟩, HJX.out⟩⟩

theorem records_stops (n D : Nat) (l : List UInt8) (w : World) (hlen : l.length ≤ 1000000) (hD : Blk w D #[.string (ba l)] 9) :
    SeqStopsK Fence.wide n Try.prog 91 #[.pointer (some ⟨D, 0, none⟩)] encR (KpD D) (fun ys => ys = recXs (recs l) (recs l).length) (fun pre => ∃ k, k ≤ (recs l).length ∧ pre = recXs (recs l) k) (recs l).length w := fun yl J Jx W hW hJ _ hY h0 =>
  records1_in n yl D l J Jx W hlen (hD.below hW hD.lt) hJ hY h0

set_option maxHeartbeats 1000000 in
theorem records_in (n : Nat) (s : ByteArray) (w : World) :
    CallsIn Fence.wide n Try.prog 69 #[.string s] w fun e w' => e = .returned (.func (.func 91) #[] #[.pointer (some ⟨w.heap.size, 0, none⟩)]) ∧ w' = w.alloc (.cells #[.string s] 9) := by
  have hmf : ∀ (fn : Fn) (first cap : Array Value) (w : World), (Instr.makeFunc fn first cap).run Try.prog w = .ok (.func fn first cap) w := fun _ _ _ _ => rfl
  refine callsIn_of_wp Try.func69 rfl trivial ?_ rfl
  simp only [Try.ntmps69, List.size_toArray, List.length_cons, List.length_nil, Nat.reduceAdd, Nat.reduceSub, Array.replicate_succ, Array.replicate_zero, List.push_toArray, List.append_toArray, List.nil_append, List.cons_append]
  gi_wp2
  go_ret
  exact ⟨rfl, rfl⟩

end Go.Proofs.Ytnpaejknoipicad

namespace Go.Proofs.Ytnpaejknoipicad
open Go.RowKit

/-- the box of what read has found so far -/
def rdC (f e : Int) (gv : Value) (b : Bool) : Array Value := #[.int .i64 f, gv, .int .i64 e, .bool b]

set_option maxHeartbeats 2000000 in
theorem rdGoes_any (C m : Nat) (f n e : Int) (ga : Option Addr) (gc : Nat) (b : Bool) (w : World) (hb : Blk w C (rdC f e (.slice ga m gc) b) 81) (hf : 0 ≤ f ∧ f ≤ 100000) (hm : m ≤ 2000) :
    Calls Try.prog 49 #[.pointer (some ⟨C, 0, none⟩), .int .i64 n] w fun e w' => e = .returned (.bool (decide (m = 0) || decide (n = f + m))) ∧ Below w.heap.size w w' := by
  have c0 := hb.cell (j := 0) (u := .int .i64 f) rfl
  have c1 := hb.cell (j := 1) (u := .slice ga m gc) rfl
  obtain ⟨r, hr⟩ : ∃ r, r = (decide (m = 0) || decide (n = f + m)) := ⟨_, rfl⟩
  have hw1 : wrap64 (f + (m : Int)) = f + m := by unfold wrap64; omega
  rw [← hr]
  by_cases h : m = 0
  · have hz : ((m : Int) == 0) = true := by simp [h]
    have hr1 : r = true := by rw [hr]; simp [h]
    subst hr1
    clear hr hw1 hb h
    go_enter Try.func49, Try.ntmps49
    go_wp2_with fail
    go_quiet (fail)
    go_wp2
    go_ret
    exact ⟨rfl, below_drewN (Below.refl _ _) _⟩
  · have hz : ((m : Int) == 0) = false := by simp; omega
    have hr1 : (n == f + (m : Int)) = r := by rw [hr, decide_eq_false h, Bool.false_or, Bool.eq_iff_iff, beq_iff_eq, decide_eq_true_eq]
    clear hr hb h
    go_enter Try.func49, Try.ntmps49
    go_wp2_with fail
    go_quiet (fail)
    go_wp2
    go_ret
    exact ⟨rfl, below_drewN (Below.refl _ _) _⟩

/-- as it was, but block C and the row of u -/
def Bt (C : Nat) (u : Value) (w w' : World) : Prop := w'.os = w.os ∧ w'.tape = w.tape ∧ w'.output = w.output ∧ w.heap.size ≤ w'.heap.size ∧ ∀ k, k < w.heap.size → k ≠ C → some k ≠ u.ownBlock → w'.heap[k]? = w.heap[k]?
theorem gr_snocK {base : Nat} {w : World} {u sv : Value} {L : List (List Fr)} {g : List Fr} (h : OwnGrs base (NS base u) w u L) (hp : FrsIn (NS base u) w sv g) (hl : L.length ≤ 999) (hb : base ≤ w.heap.size) :
    ∃ v' w', (Builtin.append_ #[22, 22] 22 #[u, .slice (some ⟨w.heap.size, 0, none⟩) 1 1]).run Try.prog (w.alloc (.cells #[sv] 25)) = .ok v' w' ∧ OwnGrs base (NS base v') w' v' (L ++ [g]) ∧ (w.alloc (.cells #[sv] 25)).grownBy w' u.ownBlock := by
  have h1 : OwnGrs base (fun g => NS base u g ∧ g < w.heap.size) (w.alloc (.cells #[sv] 25)) u L := (h.to (SameOn.refl _ _) (fun g hg hs => ⟨hs, hg⟩) (fun _ _ => rfl)).below ((Below.refl _ w).alloc (Nat.le_refl _) _)
  obtain ⟨v', w', r, o, gr, dd⟩ := groups_app (qs := [(g, sv)]) h1 rfl (Sl.new w #[sv] 25 1 1 1 rfl) (fun p hp' => by
    simp at hp'; subst hp'
    exact ((hp.mono (S' := fun g => NS base u g ∧ g < w.heap.size) fun g hg hs => ⟨hs, hg⟩).alloc _)) (fun g hg => hg.1.2) (by simp; omega) (by simp; omega)
  refine ⟨v', w', r, o.to (SameOn.refl _ _) (fun g _ hg => ⟨hg.1.1, fun e => ?_⟩) (fun _ _ => rfl), gr⟩
  rcases dd with d | d
  · rw [d] at e; exact hg.1.2 e
  · have := d g e.symm; simp at this; omega

set_option maxHeartbeats 4000000 in
set_option maxRecDepth 100000 in
theorem rdAdd_any (base C m : Nat) (f n e : Int) (u sv : Value) (b : Bool) (L : List (List Fr)) (g : List Fr) (w : World) (hb : Blk w C (rdC f e u b) 81) (hu : OwnGrs base (NS base u) w u L) (hC : C < base) (hg : FrsIn (NS base u) w sv g) (hL : L.length = m) (hm : m ≤ 999) (hbase : base ≤ w.heap.size) :
    Calls Try.prog 71 #[.pointer (some ⟨C, 0, none⟩), .int .i64 n, .agg #[sv]] w fun e' w' => e' = .returned (.tuple #[]) ∧ ∃ v', Blk w' C (rdC (if m = 0 then n else f) e v' b) 81 ∧ OwnGrs base (NS base v') w' v' (L ++ [g]) ∧ Bt C u w w' := by
  obtain ⟨ua, uc, eu⟩ : ∃ a c, u = .slice a m c := by
    obtain ⟨ps, p1, p2, _⟩ := hu
    obtain ⟨a, c, h, _⟩ := owns_cap p2
    exact ⟨a, c, by rw [h, ← hL, ← p1, List.length_map]⟩
  subst eu
  obtain ⟨f', hf'⟩ : ∃ f', f' = (if m = 0 then n else f) := ⟨_, rfl⟩
  rw [← hf']
  obtain ⟨ga, gc, eg, _, _⟩ := hg.len
  obtain ⟨gn, hgn⟩ : ∃ x, x = g.length := ⟨_, rfl⟩
  rw [← hgn] at eg
  subst eg
  have c1 := hb.cell (j := 1) (u := .slice ua m uc) rfl
  have c0 := hb.cell (j := 0) (u := .int .i64 f) rfl
  have cf := hb.free 0
  have hCw := hb.lt
  obtain ⟨X, hX⟩ : ∃ X, X = w.heap.size := ⟨_, rfl⟩
  have HLM : Hid (L.length = m) := hL
  have HCB : Hid (C < base) := hC
  have HCU : Hid (some C ≠ (Value.slice ua m uc).ownBlock) := fun h => by have := (hu.lt C h.symm).1; omega
  have fin : ∀ WR, ((WR = w.alloc (.cells #[(.slice ga gn gc)] 25) ∧ f' = f) ∨ WR = (w.setCell ⟨C, 0, none⟩ (.int .i64 f')).alloc (.cells #[(.slice ga gn gc)] 25)) →
      Hid (Blk WR C (rdC f' e (.slice ua m uc) b) 81) ∧ Hid (OwnGrs base (NS base (.slice ua m uc)) WR (.slice ua m uc) L) ∧ Hid (FrsIn (NS base (.slice ua m uc)) WR (.slice ga gn gc) g) ∧ Hid (WR.heap.size = w.heap.size + 1) ∧ Hid (Bt C (.slice ua m uc) w WR) ∧ Hid (Blk WR X #[(.slice ga gn gc)] 25) := by
    intro WR h
    have hal : Below w.heap.size w (w.alloc (.cells #[(.slice ga gn gc)] 25)) := (Below.refl _ w).alloc (Nat.le_refl _) _
    have hx : Blk (w.alloc (.cells #[(.slice ga gn gc)] 25)) X #[(.slice ga gn gc)] 25 := by rw [hX]; exact Blk.new w _ _
    have hbt : Bt C (.slice ua m uc) w (w.alloc (.cells #[(.slice ga gn gc)] 25)) := ⟨rfl, rfl, rfl, by simp, fun k hk _ _ => hal.block k hk⟩
    rcases h with ⟨h, h0⟩ | h
    · subst h h0
      exact ⟨hb.alloc _, hu.below hal, hg.alloc _, by simp [Hid], hbt, hx⟩
    · subst h
      have hws : (w.setCell ⟨C, 0, none⟩ (.int .i64 f')).heap.size = w.heap.size := by simp
      have hal2 : ∀ o, Below w.heap.size (w.setCell ⟨C, 0, none⟩ (.int .i64 f')) ((w.setCell ⟨C, 0, none⟩ (.int .i64 f')).alloc o) := fun o => (Below.refl _ _).alloc (by omega) _
      have hSC : SameOn (NS base (.slice ua m uc)) w (w.setCell ⟨C, 0, none⟩ (.int .i64 f')) := SameOn.setCell (a := ⟨C, 0, none⟩) (fun j hj => by have := hj.1; show j ≠ C; omega) _
      refine ⟨(hb.set 0 _).alloc _, ?_, (hg.to hSC (fun _ _ h => h)).alloc _, by simp [Hid], ⟨rfl, rfl, rfl, by simp, fun k hk h1 _ => ((hal2 _).block k hk).trans (Below.heap_setCell _ _ _ _ h1)⟩, by rw [hX, ← hws]; exact Blk.new _ _ _⟩
      exact (hu.to hSC (fun _ _ h => h) (fun j hj => Below.heap_setCell _ _ _ _ (by have := (hu.lt j hj).1; show j ≠ C; omega))).below ((Below.refl _ _).alloc (Nat.le_refl _) _)
  have HB0 : Hid (base ≤ w.heap.size) := hbase
  have HXw : Hid (X = w.heap.size) := hX
  have hXb : (w.alloc (.cells #[(.slice ga gn gc)] 25)).cell? ⟨C, 1, none⟩ = some (.slice ua m uc) := (hb.alloc _).cell rfl
  have hXz : (w.alloc (.cells #[(.slice ga gn gc)] 25)).cell? ⟨C, 0, none⟩ = some (.int .i64 f) := (hb.alloc _).cell rfl
  have hXf : (w.alloc (.cells #[(.slice ga gn gc)] 25)).frozen? ⟨C, 0, none⟩ = false := (hb.alloc _).free 0
  have HF' : Hid (f' = (if m = 0 then n else f)) := hf'
  have HFIN := @id (Hid _) fin
  clear fin hb hu hg hL hC hbase hX hf' hgn hXb hXz hXf
  go_enter Try.func71, Try.ntmps71
  by_cases h : m = 0
  · have hz : ((m : Int) == 0) = true := by simp [h]
    have hff : f' = n := by rw [HF'.out, if_pos h]
    subst hff
    clear h
    go_wp2_with fail
    obtain ⟨WR, hWR⟩ : ∃ WR, WR = (w.setCell ⟨C, 0, none⟩ (.int .i64 f')).alloc (.cells #[(.slice ga gn gc)] 25) := ⟨_, rfl⟩
    obtain ⟨KC, HOW, HSV, HSZ, HBW, KX⟩ := HFIN.out WR (.inr hWR)
    have q1 := KC.out.cell (j := 1) (u := .slice ua m uc) rfl
    have qX := KX.out.cell (j := 0) (u := (.slice ga gn gc)) rfl
    have HC : Hid (C < WR.heap.size) := KC.out.lt
    have HX : Hid (X < WR.heap.size) := KX.out.lt
    have HWR : Hid (base ≤ WR.heap.size) := by have := HSZ.out; have := HB0.out; show _ ≤ _; omega
    rw [← hWR]
    rw [← HXw.out]
    clear HFIN hWR
    refine region_chainG (by kernel_rfl) (by kernel_rfl) [.quiet (.pointer (some ⟨C, 0, none⟩)) 3, .quiet (.pointer (some ⟨C, 0, none⟩)) 3, .quiet (.pointer (some ⟨C, 0, none⟩)) 3, .quiet (.pointer (some ⟨C, 1, none⟩)) 3, .quiet (.slice ua m uc) 1, .quiet (.agg #[(.slice ga gn gc)]) 0, .step 0, .step 1, .quiet (.pointer (some ⟨C, 0, none⟩)) 3, .quiet (.pointer (some ⟨C, 1, none⟩)) 3, .step 2] [6, 7, 10] (by kernel_rfl)
      (fun s r w' => match s with
        | 0 => Below WR.heap.size WR w'
        | 1 => ∃ V, Below WR.heap.size WR V ∧ w' = V.alloc (.cells #[(.slice ga gn gc)] 25) ∧ r 0 = .slice (some ⟨V.heap.size, 0, none⟩) 1 1
        | 2 => ∃ V, Below WR.heap.size WR V ∧ OwnGrs base (NS base (r 1)) w' (r 1) (L ++ [g]) ∧ (V.alloc (.cells #[(.slice ga gn gc)] 25)).grownBy w' (Value.slice ua m uc).ownBlock
        | _ => ∃ V W2 v', Below WR.heap.size WR V ∧ OwnGrs base (NS base v') W2 v' (L ++ [g]) ∧ (V.alloc (.cells #[(.slice ga gn gc)] 25)).grownBy W2 (Value.slice ua m uc).ownBlock ∧ w' = W2.setCell ⟨C, 1, none⟩ v'
        ) ((Below.refl _ WR).drew) ?step ?fin
    case step =>
      intro i o ho a' w' s r hI hfree hvals
      have y1 : s ≤ 1 → w'.cell? ⟨C, 1, none⟩ = some (.slice ua m uc) := fun hs => by
        match s, hI, hs with
        | 0, hI, _ => exact (Below.cell hI HC.out).trans q1
        | 1, ⟨V, hI, hw, _⟩, _ => rw [hw]; exact (Below.cell (hI.alloc hI.size _) HC.out).trans q1
      have yX : s ≤ 0 → w'.cell? ⟨X, 0, none⟩ = some (.slice ga gn gc) := fun hs => by
        match s, hI, hs with
        | 0, hI, _ => exact (Below.cell hI HX.out).trans qX
      match i, ho with
      | 0, ho =>
        simp at ho; subst ho
        have e0 : a'.eval (.tmp 0) = .pointer (some ⟨C, 0, none⟩) := (hfree 0 (by kernel_rfl)).trans rfl
        show s ≤ 3 → _
        intro hs
        refine .inl ⟨rfl, ?_⟩
        generalize a'.eval = ρ at *
        simp [execOp, go_sem, e0]
      | 1, ho =>
        simp at ho; subst ho
        have e0 : a'.eval (.tmp 0) = .pointer (some ⟨C, 0, none⟩) := (hfree 0 (by kernel_rfl)).trans rfl
        show s ≤ 3 → _
        intro hs
        refine .inl ⟨rfl, ?_⟩
        generalize a'.eval = ρ at *
        simp [execOp, go_sem, e0]
      | 2, ho =>
        simp at ho; subst ho
        have e17 : a'.eval (.tmp 17) = .pointer (some ⟨C, 0, none⟩) := hvals 1 _ _ (by kernel_rfl) rfl rfl
        show s ≤ 3 → _
        intro hs
        refine .inl ⟨rfl, ?_⟩
        generalize a'.eval = ρ at *
        simp [execOp, go_sem, e17]
      | 3, ho =>
        simp at ho; subst ho
        have e18 : a'.eval (.tmp 18) = .pointer (some ⟨C, 0, none⟩) := hvals 2 _ _ (by kernel_rfl) rfl rfl
        show s ≤ 3 → _
        intro hs
        refine .inl ⟨rfl, ?_⟩
        generalize a'.eval = ρ at *
        simp [execOp, go_sem, e18]
      | 4, ho =>
        simp at ho; subst ho
        have e19 : a'.eval (.tmp 19) = .pointer (some ⟨C, 1, none⟩) := hvals 3 _ _ (by kernel_rfl) rfl rfl
        show s ≤ 1 → _
        intro hs
        refine .inl ⟨rfl, ?_⟩
        generalize a'.eval = ρ at *
        simp [execOp, go_sem, e19, (y1 hs)]
      | 5, ho =>
        simp at ho; subst ho
        have e5 : a'.eval (.tmp 5) = .pointer (some ⟨X, 0, none⟩) := (hfree 5 (by kernel_rfl)).trans rfl
        show s ≤ 0 → _
        intro hs
        refine .inl ⟨rfl, ?_⟩
        generalize a'.eval = ρ at *
        simp [execOp, go_sem, e5, (yX hs)]
      | 6, ho =>
        simp at ho; subst ho
        have e21 : a'.eval (.tmp 21) = .agg #[(.slice ga gn gc)] := hvals 5 _ _ (by kernel_rfl) rfl rfl
        show s = 0 → _ ∧ Oper.wp _ _ _ _ _ _
        intro hs
        subst hs
        refine ⟨rfl, ?_⟩
        have hB : Below WR.heap.size WR w' := hI
        refine oper_wp_ok (v := .slice (some ⟨w'.heap.size, 0, none⟩) 1 1) (w' := w'.alloc (.cells #[(.slice ga gn gc)] 25)) ?_ ⟨_, rfl, w', hB, rfl, updR_at _ _ _⟩
        generalize a'.eval = ρ at *
        simp [execOp, go_sem, e21]
      | 7, ho =>
        simp at ho; subst ho
        have e20 : a'.eval (.tmp 20) = .slice ua m uc := hvals 4 _ _ (by kernel_rfl) rfl rfl
        have e22 : a'.eval (.tmp 22) = r 0 := hvals 6 _ _ (by kernel_rfl) rfl rfl
        show s = 1 → _ ∧ Oper.wp _ _ _ _ _ _
        intro hs
        subst hs
        refine ⟨rfl, ?_⟩
        obtain ⟨V, hB, hw, hr2⟩ := hI
        rw [hr2] at e22
        subst hw
        obtain ⟨v', w2, hrun, g2, g3⟩ := gr_snocK (HOW.out.below hB) (HSV.out.below hB) (by have := HLM.out; omega) (by have := hB.size; have := HWR.out; omega)
        refine oper_wp_ok (v := v') (w' := w2) ?_ ⟨_, rfl, V, hB, ?_, g3⟩
        · generalize a'.eval = ρ at *
          simp [execOp, resolve, invoke, builtin, e20, e22, hrun, Result.andThen]
        · rw [updR_at]; exact g2
      | 8, ho =>
        simp at ho; subst ho
        have e16 : a'.eval (.tmp 16) = .pointer (some ⟨C, 0, none⟩) := hvals 0 _ _ (by kernel_rfl) rfl rfl
        show s ≤ 3 → _
        intro hs
        refine .inl ⟨rfl, ?_⟩
        generalize a'.eval = ρ at *
        simp [execOp, go_sem, e16]
      | 9, ho =>
        simp at ho; subst ho
        have e24 : a'.eval (.tmp 24) = .pointer (some ⟨C, 0, none⟩) := hvals 8 _ _ (by kernel_rfl) rfl rfl
        show s ≤ 3 → _
        intro hs
        refine .inl ⟨rfl, ?_⟩
        generalize a'.eval = ρ at *
        simp [execOp, go_sem, e24]
      | 10, ho =>
        simp at ho; subst ho
        have e25 : a'.eval (.tmp 25) = .pointer (some ⟨C, 1, none⟩) := hvals 9 _ _ (by kernel_rfl) rfl rfl
        have e23 : a'.eval (.tmp 23) = r 1 := hvals 7 _ _ (by kernel_rfl) rfl rfl
        show s = 2 → _ ∧ Oper.wp _ _ _ _ _ _
        intro hs
        subst hs
        refine ⟨rfl, ?_⟩
        obtain ⟨V, hB, g2, g3⟩ := hI
        have hVs := hB.size
        have hk : Blk w' C (rdC f' e (.slice ua m uc) b) 81 := (g3.block C (by have := HC.out; simp; omega) HCU.out).trans ((KC.out.below hB HC.out).alloc _)
        have z1 := hk.cell (j := 1) (u := .slice ua m uc) rfl
        have zf := hk.free 1
        obtain ⟨xa, xc, ex⟩ : ∃ a c, r 1 = .slice a (m + 1) c := by obtain ⟨a, c, h, _⟩ := owns_cap (show _ from g2.choose_spec.2.1); exact ⟨a, c, by rw [h, ← List.length_map (f := Prod.fst), g2.choose_spec.1, List.length_append, HLM.out]; rfl⟩
        refine oper_wp_skip (w' := w'.setCell ⟨C, 1, none⟩ (r 1)) ?_ ⟨undef, rfl, V, w', r 1, hB, g2, g3, rfl⟩
        rw [ex] at e23 ⊢
        generalize a'.eval = ρ at *
        simp [execOp, go_sem, e23, e25, z1, zf]
    case fin =>
      rintro r w7 ⟨V, W2, v', hB, g2, g3, rfl⟩
      simp only [putC, Ck.out, Act.put, List.setIfInBounds_toArray, List.set_cons_succ, List.set_cons_zero]
      have hVs := hB.size
      have hk : Blk W2 C (rdC f' e (.slice ua m uc) b) 81 := (g3.block C (by have := HC.out; simp; omega) HCU.out).trans ((KC.out.below hB HC.out).alloc _)
      go_wp2_with fail
      go_end0
      refine ⟨rfl, v', hk.set 1 _, g2.to (SameOn.setCell (S := NS base v') (a := ⟨C, 1, none⟩) (fun j hj => by have := hj.1; have := HCB.out; show j ≠ C; omega) _) (fun _ _ h => h) (fun j hj => Below.heap_setCell _ _ _ _ (by have := (g2.lt j hj).1; have := HCB.out; show j ≠ C; omega)), ?_⟩
      have hBW := HBW.out
      refine ⟨g3.os.trans (hB.os.trans hBW.1), g3.tape.trans (hB.tape.trans hBW.2.1), g3.output.trans (hB.output.trans hBW.2.2.1), by have := hBW.2.2.2.1; have := g3.size; simp at this ⊢; omega, fun j hj h1 h2 => ?_⟩
      have := hBW.2.2.2.1
      exact (Below.heap_setCell _ _ _ _ h1).trans ((g3.block j (by simp; omega) h2).trans ((Below.heap_alloc _ _ _ (by omega)).trans ((hB.block j (by omega)).trans (hBW.2.2.2.2 j hj h1 h2))))
  · have hz : ((m : Int) == 0) = false := by simp; omega
    have hff : f' = f := HF'.out.trans (if_neg h)
    subst hff
    clear h
    go_wp2_with fail
    obtain ⟨WR, hWR⟩ : ∃ WR, WR = w.alloc (.cells #[(.slice ga gn gc)] 25) := ⟨_, rfl⟩
    obtain ⟨KC, HOW, HSV, HSZ, HBW, KX⟩ := HFIN.out WR (.inl ⟨hWR, by first | exact rfl | trivial⟩)
    have q1 := KC.out.cell (j := 1) (u := .slice ua m uc) rfl
    have qX := KX.out.cell (j := 0) (u := (.slice ga gn gc)) rfl
    have HC : Hid (C < WR.heap.size) := KC.out.lt
    have HX : Hid (X < WR.heap.size) := KX.out.lt
    have HWR : Hid (base ≤ WR.heap.size) := by have := HSZ.out; have := HB0.out; show _ ≤ _; omega
    rw [← hWR]
    rw [← HXw.out]
    clear HFIN hWR
    refine region_chainG (by kernel_rfl) (by kernel_rfl) [.quiet (.pointer (some ⟨C, 0, none⟩)) 3, .quiet (.pointer (some ⟨C, 0, none⟩)) 3, .quiet (.pointer (some ⟨C, 0, none⟩)) 3, .quiet (.pointer (some ⟨C, 1, none⟩)) 3, .quiet (.slice ua m uc) 1, .quiet (.agg #[(.slice ga gn gc)]) 0, .step 0, .step 1, .quiet (.pointer (some ⟨C, 0, none⟩)) 3, .quiet (.pointer (some ⟨C, 1, none⟩)) 3, .step 2] [6, 7, 10] (by kernel_rfl)
      (fun s r w' => match s with
        | 0 => Below WR.heap.size WR w'
        | 1 => ∃ V, Below WR.heap.size WR V ∧ w' = V.alloc (.cells #[(.slice ga gn gc)] 25) ∧ r 0 = .slice (some ⟨V.heap.size, 0, none⟩) 1 1
        | 2 => ∃ V, Below WR.heap.size WR V ∧ OwnGrs base (NS base (r 1)) w' (r 1) (L ++ [g]) ∧ (V.alloc (.cells #[(.slice ga gn gc)] 25)).grownBy w' (Value.slice ua m uc).ownBlock
        | _ => ∃ V W2 v', Below WR.heap.size WR V ∧ OwnGrs base (NS base v') W2 v' (L ++ [g]) ∧ (V.alloc (.cells #[(.slice ga gn gc)] 25)).grownBy W2 (Value.slice ua m uc).ownBlock ∧ w' = W2.setCell ⟨C, 1, none⟩ v'
        ) ((Below.refl _ WR).drew) ?step ?fin
    case step =>
      intro i o ho a' w' s r hI hfree hvals
      have y1 : s ≤ 1 → w'.cell? ⟨C, 1, none⟩ = some (.slice ua m uc) := fun hs => by
        match s, hI, hs with
        | 0, hI, _ => exact (Below.cell hI HC.out).trans q1
        | 1, ⟨V, hI, hw, _⟩, _ => rw [hw]; exact (Below.cell (hI.alloc hI.size _) HC.out).trans q1
      have yX : s ≤ 0 → w'.cell? ⟨X, 0, none⟩ = some (.slice ga gn gc) := fun hs => by
        match s, hI, hs with
        | 0, hI, _ => exact (Below.cell hI HX.out).trans qX
      match i, ho with
      | 0, ho =>
        simp at ho; subst ho
        have e0 : a'.eval (.tmp 0) = .pointer (some ⟨C, 0, none⟩) := (hfree 0 (by kernel_rfl)).trans rfl
        show s ≤ 3 → _
        intro hs
        refine .inl ⟨rfl, ?_⟩
        generalize a'.eval = ρ at *
        simp [execOp, go_sem, e0]
      | 1, ho =>
        simp at ho; subst ho
        have e0 : a'.eval (.tmp 0) = .pointer (some ⟨C, 0, none⟩) := (hfree 0 (by kernel_rfl)).trans rfl
        show s ≤ 3 → _
        intro hs
        refine .inl ⟨rfl, ?_⟩
        generalize a'.eval = ρ at *
        simp [execOp, go_sem, e0]
      | 2, ho =>
        simp at ho; subst ho
        have e17 : a'.eval (.tmp 17) = .pointer (some ⟨C, 0, none⟩) := hvals 1 _ _ (by kernel_rfl) rfl rfl
        show s ≤ 3 → _
        intro hs
        refine .inl ⟨rfl, ?_⟩
        generalize a'.eval = ρ at *
        simp [execOp, go_sem, e17]
      | 3, ho =>
        simp at ho; subst ho
        have e18 : a'.eval (.tmp 18) = .pointer (some ⟨C, 0, none⟩) := hvals 2 _ _ (by kernel_rfl) rfl rfl
        show s ≤ 3 → _
        intro hs
        refine .inl ⟨rfl, ?_⟩
        generalize a'.eval = ρ at *
        simp [execOp, go_sem, e18]
      | 4, ho =>
        simp at ho; subst ho
        have e19 : a'.eval (.tmp 19) = .pointer (some ⟨C, 1, none⟩) := hvals 3 _ _ (by kernel_rfl) rfl rfl
        show s ≤ 1 → _
        intro hs
        refine .inl ⟨rfl, ?_⟩
        generalize a'.eval = ρ at *
        simp [execOp, go_sem, e19, (y1 hs)]
      | 5, ho =>
        simp at ho; subst ho
        have e5 : a'.eval (.tmp 5) = .pointer (some ⟨X, 0, none⟩) := (hfree 5 (by kernel_rfl)).trans rfl
        show s ≤ 0 → _
        intro hs
        refine .inl ⟨rfl, ?_⟩
        generalize a'.eval = ρ at *
        simp [execOp, go_sem, e5, (yX hs)]
      | 6, ho =>
        simp at ho; subst ho
        have e21 : a'.eval (.tmp 21) = .agg #[(.slice ga gn gc)] := hvals 5 _ _ (by kernel_rfl) rfl rfl
        show s = 0 → _ ∧ Oper.wp _ _ _ _ _ _
        intro hs
        subst hs
        refine ⟨rfl, ?_⟩
        have hB : Below WR.heap.size WR w' := hI
        refine oper_wp_ok (v := .slice (some ⟨w'.heap.size, 0, none⟩) 1 1) (w' := w'.alloc (.cells #[(.slice ga gn gc)] 25)) ?_ ⟨_, rfl, w', hB, rfl, updR_at _ _ _⟩
        generalize a'.eval = ρ at *
        simp [execOp, go_sem, e21]
      | 7, ho =>
        simp at ho; subst ho
        have e20 : a'.eval (.tmp 20) = .slice ua m uc := hvals 4 _ _ (by kernel_rfl) rfl rfl
        have e22 : a'.eval (.tmp 22) = r 0 := hvals 6 _ _ (by kernel_rfl) rfl rfl
        show s = 1 → _ ∧ Oper.wp _ _ _ _ _ _
        intro hs
        subst hs
        refine ⟨rfl, ?_⟩
        obtain ⟨V, hB, hw, hr2⟩ := hI
        rw [hr2] at e22
        subst hw
        obtain ⟨v', w2, hrun, g2, g3⟩ := gr_snocK (HOW.out.below hB) (HSV.out.below hB) (by have := HLM.out; omega) (by have := hB.size; have := HWR.out; omega)
        refine oper_wp_ok (v := v') (w' := w2) ?_ ⟨_, rfl, V, hB, ?_, g3⟩
        · generalize a'.eval = ρ at *
          simp [execOp, resolve, invoke, builtin, e20, e22, hrun, Result.andThen]
        · rw [updR_at]; exact g2
      | 8, ho =>
        simp at ho; subst ho
        have e16 : a'.eval (.tmp 16) = .pointer (some ⟨C, 0, none⟩) := hvals 0 _ _ (by kernel_rfl) rfl rfl
        show s ≤ 3 → _
        intro hs
        refine .inl ⟨rfl, ?_⟩
        generalize a'.eval = ρ at *
        simp [execOp, go_sem, e16]
      | 9, ho =>
        simp at ho; subst ho
        have e24 : a'.eval (.tmp 24) = .pointer (some ⟨C, 0, none⟩) := hvals 8 _ _ (by kernel_rfl) rfl rfl
        show s ≤ 3 → _
        intro hs
        refine .inl ⟨rfl, ?_⟩
        generalize a'.eval = ρ at *
        simp [execOp, go_sem, e24]
      | 10, ho =>
        simp at ho; subst ho
        have e25 : a'.eval (.tmp 25) = .pointer (some ⟨C, 1, none⟩) := hvals 9 _ _ (by kernel_rfl) rfl rfl
        have e23 : a'.eval (.tmp 23) = r 1 := hvals 7 _ _ (by kernel_rfl) rfl rfl
        show s = 2 → _ ∧ Oper.wp _ _ _ _ _ _
        intro hs
        subst hs
        refine ⟨rfl, ?_⟩
        obtain ⟨V, hB, g2, g3⟩ := hI
        have hVs := hB.size
        have hk : Blk w' C (rdC f' e (.slice ua m uc) b) 81 := (g3.block C (by have := HC.out; simp; omega) HCU.out).trans ((KC.out.below hB HC.out).alloc _)
        have z1 := hk.cell (j := 1) (u := .slice ua m uc) rfl
        have zf := hk.free 1
        obtain ⟨xa, xc, ex⟩ : ∃ a c, r 1 = .slice a (m + 1) c := by obtain ⟨a, c, h, _⟩ := owns_cap (show _ from g2.choose_spec.2.1); exact ⟨a, c, by rw [h, ← List.length_map (f := Prod.fst), g2.choose_spec.1, List.length_append, HLM.out]; rfl⟩
        refine oper_wp_skip (w' := w'.setCell ⟨C, 1, none⟩ (r 1)) ?_ ⟨undef, rfl, V, w', r 1, hB, g2, g3, rfl⟩
        rw [ex] at e23 ⊢
        generalize a'.eval = ρ at *
        simp [execOp, go_sem, e23, e25, z1, zf]
    case fin =>
      rintro r w7 ⟨V, W2, v', hB, g2, g3, rfl⟩
      simp only [putC, Ck.out, Act.put, List.setIfInBounds_toArray, List.set_cons_succ, List.set_cons_zero]
      have hVs := hB.size
      have hk : Blk W2 C (rdC f' e (.slice ua m uc) b) 81 := (g3.block C (by have := HC.out; simp; omega) HCU.out).trans ((KC.out.below hB HC.out).alloc _)
      go_wp2_with fail
      go_end0
      refine ⟨rfl, v', hk.set 1 _, g2.to (SameOn.setCell (S := NS base v') (a := ⟨C, 1, none⟩) (fun j hj => by have := hj.1; have := HCB.out; show j ≠ C; omega) _) (fun _ _ h => h) (fun j hj => Below.heap_setCell _ _ _ _ (by have := (g2.lt j hj).1; have := HCB.out; show j ≠ C; omega)), ?_⟩
      have hBW := HBW.out
      refine ⟨g3.os.trans (hB.os.trans hBW.1), g3.tape.trans (hB.tape.trans hBW.2.1), g3.output.trans (hB.output.trans hBW.2.2.1), by have := hBW.2.2.2.1; have := g3.size; simp at this ⊢; omega, fun j hj h1 h2 => ?_⟩
      have := hBW.2.2.2.1
      exact (Below.heap_setCell _ _ _ _ h1).trans ((g3.block j (by simp; omega) h2).trans ((Below.heap_alloc _ _ _ (by omega)).trans ((hB.block j (by omega)).trans (hBW.2.2.2.2 j hj h1 h2))))

end Go.Proofs.Ytnpaejknoipicad

namespace Go.Proofs.Ytnpaejknoipicad
open Go.RowKit

/-- decode answers: the right group that just these bytes tell, in new memory; else anything, and false -/
theorem decode_post {l : List UInt8} {n : Int} {fs : List Fr} {r : List UInt8} (h : tkG l = some (n, fs, r)) : decR l = if r = [] ∧ recE n fs = 0 then some (n, fs) else none := by
  unfold decR; rw [h]; rfl

set_option maxHeartbeats 4000000 in
set_option maxRecDepth 100000 in
theorem diskDecode_any (l : List UInt8) (w : World) :
    Calls Try.prog 70 #[.string (ba l)] w fun e w' => ∃ n ga gm gc ok, e = .returned (.tuple #[.int .i64 n, .agg #[.slice ga gm gc], .bool ok]) ∧ Below w.heap.size w w' ∧
      ((ok = false ∧ decR l = none) ∨ ∃ fs, ok = true ∧ decR l = some (n, fs) ∧ FrsIn (fun g => w.heap.size ≤ g) w' (.slice ga gm gc) fs) := by
  have hmf : ∀ (fn : Fn) (first cap : Array Value) (w : World), (Instr.makeFunc fn first cap).run Try.prog w = .ok (.func fn first cap) w := fun _ _ _ _ => rfl
  obtain ⟨D, hD⟩ : ∃ D, D = decR l := ⟨_, rfl⟩
  have HN : Hid (tkG l = none → D = none) := fun h => by rw [hD]; unfold decR; rw [h]; rfl
  have HS : Hid (∀ n fs r, tkG l = some (n, fs, r) → D = if r = [] ∧ recE n fs = 0 then some (n, fs) else none) := fun n fs r h => by rw [hD]; exact decode_post h
  have HRD := @id (Hid _) (fun Nb Gb y0 w bN bG h => readDecode_any Nb Gb l y0 w bN bG h)
  rw [← hD]
  obtain ⟨T, hT⟩ : ∃ T, T = tkG l := ⟨_, rfl⟩
  rw [← hT] at HN HS HRD
  clear hD hT
  go_enter Try.func70, Try.ntmps70
  go_wp2_with fail
  obtain ⟨W0, hW0⟩ : ∃ W0, W0 = ((w.alloc (.cells #[.slice none 0 0] 25)).alloc (.cells #[.int .i64 0] 3)).alloc (.cells #[.slice none 0 0] 25) := ⟨_, rfl⟩
  have KR0 : Blk W0 w.heap.size #[.slice none 0 0] 25 := by rw [hW0]; exact ((Blk.new w _ _).alloc _).alloc _
  have KN0 : Blk W0 (w.heap.size + 1) #[.int .i64 0] 3 := by
    have := Blk.new (w.alloc (.cells #[.slice none 0 0] 25)) #[.int .i64 0] 3
    rw [World.size_alloc] at this
    rw [hW0]; exact this.alloc _
  have KG0 : Blk W0 (w.heap.size + 1 + 1) #[.slice none 0 0] 25 := by
    have := Blk.new ((w.alloc (.cells #[.slice none 0 0] 25)).alloc (.cells #[.int .i64 0] 3)) #[.slice none 0 0] 25
    rw [World.size_alloc, World.size_alloc] at this
    rw [hW0]; exact this
  have hB0 : Below w.heap.size w W0 := by rw [hW0]; go_grown
  have hs0 : W0.heap.size = w.heap.size + 3 := by rw [hW0]; simp
  rw [← hW0]
  clear hW0
  refine (HRD.out _ _ 0 W0 KN0 KG0 (by omega)).mono ?_
  rintro e w1 ⟨k1, ⟨hT, rfl⟩ | ⟨n, fs, r, gv, hT, rfl, KN1, KG1, hF⟩⟩
  · have KR1 := KR0.kept k1 (by simp; omega)
    have HD : Hid (D = none) := HN.out hT
    have HB1 : Hid (Below w.heap.size w w1) := hB0.trans (k1.toBelow (by omega) (by intro k hk; simp at hk; omega))
    have r0 := KR1.cell (j := 0) (u := .slice none 0 0) rfl
    have rf := KR1.free 0
    have KR2 := KR1.set 0 (.slice none 0 0)
    have r2 := KR2.cell (j := 0) (u := .slice none 0 0) rfl
    clear hT HN HS HRD KN0 KG0 k1 KR0 hB0 KR1 KR2
    go_wp2_with fail
    exact bodyPost_ret (v := .tuple #[.int .i64 0, .agg #[.slice none 0 0], .bool false]) (by simp [results, Try.results70, go_sem, r2]) rfl ⟨0, none, 0, 0, false, rfl, HB1.out.setCell (p := ⟨w.heap.size, 0, none⟩) (Nat.le_refl _) _, .inl ⟨rfl, HD.out⟩⟩
  · have KR1 := KR0.kept k1 (by simp; omega)
    have HD : Hid (D = if r = [] ∧ recE n fs = 0 then some (n, fs) else none) := HS.out n fs r hT
    have HB1 : Hid (Below w.heap.size w w1) := hB0.trans (k1.toBelow (by omega) (by intro k hk; simp at hk; omega))
    have r0 := KR1.cell (j := 0) (u := .slice none 0 0) rfl
    have rf := KR1.free 0
    by_cases hr : r = []
    · subst hr
      obtain ⟨ga, gc, eg, _, _⟩ := hF.len
      obtain ⟨m, hm⟩ : ∃ m, m = fs.length := ⟨_, rfl⟩
      rw [← hm] at eg
      subst eg
      have n1 := KN1.cell (j := 0) (u := .int .i64 n) rfl
      have g1 := KG1.cell (j := 0) (u := .slice ga m gc) rfl
      have HEN : Hid (Calls Try.prog 16 #[.int .i64 n, .agg #[.slice ga m gc]] w1 fun r w' => r = .returned (.tuple #[.string (if recE n fs = 0 then ba (recB n fs) else ⟨#[]⟩), .int .i64 (recE n fs)]) ∧ Below w1.heap.size w1 w') := diskEncode_any _ n fs _ w1 hF
      obtain ⟨E, hE⟩ : ∃ E, E = recE n fs := ⟨_, rfl⟩
      have HDT : Hid (E = 0 → D = some (n, fs)) := fun h => by rw [HD.out, if_pos ⟨rfl, by rw [← hE]; exact h⟩]
      have HDF : Hid (¬ E = 0 → D = none) := fun h => by rw [HD.out, if_neg (fun h2 => h (by rw [hE]; exact h2.2))]
      obtain ⟨X, hX⟩ : ∃ X, X = (if recE n fs = 0 then ba (recB n fs) else ⟨#[]⟩) := ⟨_, rfl⟩
      rw [← hX, ← hE] at HEN
      have HF : Hid (FrsIn (fun g => w.heap.size + 3 ≤ g) w1 (.slice ga m gc) fs) := hF.mono (fun g _ hg => by have : W0.heap.size ≤ g := hg; show _ ≤ _; omega)
      have HKR : Hid (Blk w1 w.heap.size #[.slice none 0 0] 25) := KR1
      have HKN : Hid (Blk w1 (w.heap.size + 1) #[.int .i64 n] 3) := KN1
      have HKG : Hid (Blk w1 (w.heap.size + 1 + 1) #[.slice ga m gc] 25) := KG1
      have hbe : (ba []).toList.isEmpty = true := by rw [ByteArray.toList_eq, ba_data]; rfl
      clear hT HN HS HRD KN0 KG0 k1 KR0 hB0 KR1 hF HD hE hX hm KN1 KG1
      go_wp2_with fail
      refine HEN.out.mono ?_
      rintro e w2 ⟨rfl, b2⟩
      have HB2 : Hid (Below w.heap.size w w2) := HB1.out.trans (b2.mono HB1.out.size)
      have KR2 := HKR.out.below b2 HKR.out.lt
      have KN2 := HKN.out.below b2 HKN.out.lt
      have KG2 := HKG.out.below b2 HKG.out.lt
      have HF2 : Hid (FrsIn (fun g => w.heap.size + 3 ≤ g) w2 (.slice ga m gc) fs) := HF.out.below b2
      have n2 := KN2.cell (j := 0) (u := .int .i64 n) rfl
      have g2 := KG2.cell (j := 0) (u := .slice ga m gc) rfl
      have s0 := KR2.cell (j := 0) (u := .slice none 0 0) rfl
      have sf := KR2.free 0
      have HKR2 : Hid (Blk w2 w.heap.size #[.slice none 0 0] 25) := KR2
      obtain ⟨q, hq⟩ : ∃ q, q = (E == 0) := ⟨_, rfl⟩
      have HQ : Hid ((q = true → E = 0) ∧ (q = false → ¬ E = 0)) := by rw [hq]; exact ⟨fun h => by simpa using h, fun h => by simpa using h⟩
      have hq' := hq.symm
      clear HEN HB1 HKR HKN HKG HF b2 KR2 KN2 KG2 hq r0 rf n1 g1
      go_wp2_with fail
      have KV := (HKR2.out.set 0 (.slice ga m gc)).drew
      have r3 := KV.cell (j := 0) (u := .slice ga m gc) rfl
      have HFIN : Hid (∃ n' ga' gm' gc' ok', (Ending.returned (.tuple #[.int .i64 n, .agg #[.slice ga m gc], .bool q]) = Ending.returned (.tuple #[.int .i64 n', .agg #[.slice ga' gm' gc'], .bool ok'])) ∧ Below w.heap.size w (w2.setCell ⟨w.heap.size, 0, none⟩ (.slice ga m gc)).drew ∧ ((ok' = false ∧ D = none) ∨ ∃ fs, ok' = true ∧ D = some (n', fs) ∧ FrsIn (fun g => w.heap.size ≤ g) (w2.setCell ⟨w.heap.size, 0, none⟩ (.slice ga m gc)).drew (.slice ga' gm' gc') fs)) := by
        refine ⟨n, ga, m, gc, q, rfl, (HB2.out.setCell (p := ⟨w.heap.size, 0, none⟩) (Nat.le_refl _) _).drew, ?_⟩
        cases hq2 : q with
        | false => exact .inl ⟨rfl, HDF.out (HQ.out.2 hq2)⟩
        | true => exact .inr ⟨fs, rfl, HDT.out (HQ.out.1 hq2), HF2.out.to (SameOn.setCell (S := fun g => w.heap.size + 3 ≤ g) (a := ⟨w.heap.size, 0, none⟩) (fun g hg => by show g ≠ w.heap.size; omega) _) (fun g _ hg => by show w.heap.size ≤ g; omega)⟩
      clear HQ HDT HDF HF2 HKR2 HB2 KV
      go_region_with fail
      all_goals (go_wp2_with fail)
      all_goals (exact bodyPost_ret (v := .tuple #[.int .i64 n, .agg #[.slice ga m gc], .bool q]) (by simp [results, Try.results70, go_sem, r3]) rfl HFIN.out)
    · have hre : (ba r).toList.isEmpty = false := by
        rw [ByteArray.toList_eq, ba_data]
        cases r with
        | nil => exact absurd rfl hr
        | cons x t => rfl
      have HD2 : Hid (D = none) := by rw [HD.out, if_neg (fun h => hr h.1)]; trivial
      have KR2 := KR1.set 0 (.slice none 0 0)
      have r2 := KR2.cell (j := 0) (u := .slice none 0 0) rfl
      clear hT HN HS HRD KN0 KG0 k1 KR0 hB0 KR1 KR2 hF HD hr
      go_wp2_with fail
      exact bodyPost_ret (v := .tuple #[.int .i64 0, .agg #[.slice none 0 0], .bool false]) (by simp [results, Try.results70, go_sem, r2]) rfl ⟨0, none, 0, 0, false, rfl, HB1.out.setCell (p := ⟨w.heap.size, 0, none⟩) (Nat.le_refl _) _, .inl ⟨rfl, HD2.out⟩⟩

end Go.Proofs.Ytnpaejknoipicad

namespace Go.Proofs.Ytnpaejknoipicad
open Go.RowKit Go.Shelf
attribute [local go_sem] Oper.semAt_some

/-- what read answers of a disk that is right -/
def rdV (l : List UInt8) (gv : Value) : Value := .agg #[.int .i64 (dFirst l), gv, .int .i64 (dEnd l), .bool (decide (dEnd l < l.length))]
def rdZ : Value := .agg #[.int .i64 0, .slice none 0 0, .int .i64 0, .bool false]
def rdZC : Array Value := #[.int .i64 0, .slice none 0 0, .int .i64 0, .bool false]

theorem rd_start (w : World) (l : List UInt8) (s : Int) (q : Bool) : ∀ W0, W0 = (((((w.alloc (.cells #[.string (ba l), .int .i64 s] 39)).alloc (.cells rdZC 81)).alloc (.cells #[.int .i64 0] 28)).alloc (.cells rdZC 81)).alloc (.cells #[.bool q] 4)).alloc (.cells #[.string (ba l)] 9) →
    Blk W0 w.heap.size #[.string (ba l), .int .i64 s] 39 ∧ Blk W0 (w.heap.size + 1) rdZC 81 ∧ Blk W0 (w.heap.size + 1 + 1) #[.int .i64 0] 28 ∧ Blk W0 (w.heap.size + 1 + 1 + 1) rdZC 81 ∧ Blk W0 (w.heap.size + 1 + 1 + 1 + 1) #[.bool q] 4 ∧ Blk W0 (w.heap.size + 1 + 1 + 1 + 1 + 1) #[.string (ba l)] 9 ∧ Below w.heap.size w W0 ∧ W0.heap.size = w.heap.size + 6 := by
  intro W0 h
  obtain ⟨W1, h1⟩ : ∃ W1, W1 = w.alloc (.cells #[.string (ba l), .int .i64 s] 39) := ⟨_, rfl⟩
  obtain ⟨W2, h2⟩ : ∃ W2, W2 = W1.alloc (.cells rdZC 81) := ⟨_, rfl⟩
  obtain ⟨W3, h3⟩ : ∃ W3, W3 = W2.alloc (.cells #[.int .i64 0] 28) := ⟨_, rfl⟩
  obtain ⟨W4, h4⟩ : ∃ W4, W4 = W3.alloc (.cells rdZC 81) := ⟨_, rfl⟩
  obtain ⟨W5, h5⟩ : ∃ W5, W5 = W4.alloc (.cells #[.bool q] 4) := ⟨_, rfl⟩
  rw [← h1, ← h2, ← h3, ← h4, ← h5] at h
  have s1 : W1.heap.size = w.heap.size + 1 := by rw [h1, World.size_alloc]
  have s2 : W2.heap.size = w.heap.size + 1 + 1 := by rw [h2, World.size_alloc, s1]
  have s3 : W3.heap.size = w.heap.size + 1 + 1 + 1 := by rw [h3, World.size_alloc, s2]
  have s4 : W4.heap.size = w.heap.size + 1 + 1 + 1 + 1 := by rw [h4, World.size_alloc, s3]
  have s5 : W5.heap.size = w.heap.size + 1 + 1 + 1 + 1 + 1 := by rw [h5, World.size_alloc, s4]
  have k1 : Blk W1 w.heap.size #[.string (ba l), .int .i64 s] 39 := Blk.newE h1
  have k2 : Blk W2 (w.heap.size + 1) rdZC 81 := s1 ▸ Blk.newE h2
  have k3 : Blk W3 (w.heap.size + 1 + 1) #[.int .i64 0] 28 := s2 ▸ Blk.newE h3
  have k4 : Blk W4 (w.heap.size + 1 + 1 + 1) rdZC 81 := s3 ▸ Blk.newE h4
  have k5 : Blk W5 (w.heap.size + 1 + 1 + 1 + 1) #[.bool q] 4 := s4 ▸ Blk.newE h5
  have k6 : Blk W0 (w.heap.size + 1 + 1 + 1 + 1 + 1) #[.string (ba l)] 9 := s5 ▸ Blk.newE h
  have b1 : Below w.heap.size w W1 := by rw [h1]; exact (Below.refl _ w).alloc (Nat.le_refl _) _
  have b2 : Below w.heap.size w W2 := by rw [h2]; exact b1.alloc (by omega) _
  have b3 : Below w.heap.size w W3 := by rw [h3]; exact b2.alloc (by omega) _
  have b4 : Below w.heap.size w W4 := by rw [h4]; exact b3.alloc (by omega) _
  have b5 : Below w.heap.size w W5 := by rw [h5]; exact b4.alloc (by omega) _
  have b6 : Below w.heap.size w W0 := by rw [h]; exact b5.alloc (by omega) _
  have a2 : ∀ {b C t}, Blk W1 b C t → Blk W2 b C t := fun h' => by rw [h2]; exact h'.alloc _
  have a3 : ∀ {b C t}, Blk W2 b C t → Blk W3 b C t := fun h' => by rw [h3]; exact h'.alloc _
  have a4 : ∀ {b C t}, Blk W3 b C t → Blk W4 b C t := fun h' => by rw [h4]; exact h'.alloc _
  have a5 : ∀ {b C t}, Blk W4 b C t → Blk W5 b C t := fun h' => by rw [h5]; exact h'.alloc _
  have a6 : ∀ {b C t}, Blk W5 b C t → Blk W0 b C t := fun h' => by rw [h]; exact h'.alloc _
  exact ⟨a6 (a5 (a4 (a3 (a2 k1)))), a6 (a5 (a4 (a3 k2))), a6 (a5 (a4 k3)), a6 (a5 k4), a6 k5, k6, b6, by rw [h, World.size_alloc, s5]⟩

/-- between two rounds of read -/
def RdI (w : World) (l : List UInt8) (s : Int) (base : Nat) (pre : List (List UInt8 × Nat)) (W : World) : Prop :=
  (∃ ga gc, Blk W (w.heap.size + 1 + 1 + 1) (rdC (rdF pre) (rdE pre) (.slice ga pre.length gc) false) 81 ∧ OwnGrs base (NS base (.slice ga pre.length gc)) W (.slice ga pre.length gc) (rdG pre)) ∧
  Blk W (w.heap.size + 1 + 1 + 1 + 1) #[.bool (rdI s pre)] 4 ∧ Blk W w.heap.size #[.string (ba l), .int .i64 s] 39 ∧ Blk W (w.heap.size + 1) rdZC 81 ∧ Blk W (w.heap.size + 1 + 1) #[.int .i64 0] 28 ∧
  rdOk pre ∧ Below w.heap.size w W ∧ base ≤ W.heap.size
/-- read has found what is not right -/
def RdX (w : World) (c : Code) (pre : List (List UInt8 × Nat)) (W : World) : Prop :=
  c = .ret ∧ ¬ rdOk pre ∧ Blk W (w.heap.size + 1) rdZC 81 ∧ Blk W (w.heap.size + 1 + 1) #[.int .i64 1] 28 ∧ Below w.heap.size w W
theorem RdI.own {w : World} {l : List UInt8} {s : Int} {base : Nat} (hb : w.heap.size ≤ base) : OwnFrom base (RdI w l s base) := by
  rintro pre X Y row ⟨⟨ga, gc, h1, h2⟩, h3, h4, h5, h6, h7, h8, h9⟩ hg hr
  have hr' := fun r e => (hr r e).2
  exact ⟨⟨ga, gc, h1.others hg hr', h2.others hg hr'⟩, h3.others hg hr', h4.others hg hr', h5.others hg hr', h6.others hg hr', h7, h8.grown hg h8.size (fun k e => by have := (hr k e).1; omega), by have := hg.size; omega⟩
theorem RdX.own {w : World} {base : Nat} (hb : w.heap.size ≤ base) (c : Code) : OwnFrom base (RdX w c) := by
  rintro pre X Y row ⟨h1, h2, h3, h4, h5⟩ hg hr
  have hr' := fun r e => (hr r e).2
  exact ⟨h1, h2, h3.others hg hr', h4.others hg hr', h5.grown hg h5.size (fun k e => by have := (hr k e).1; omega)⟩
theorem endK_ge (b : List (List UInt8)) : ∀ k, k ≤ b.length → 2 * k ≤ endK b k
  | 0, _ => Nat.zero_le _
  | k + 1, h => by rw [endK_succ (by omega)]; have := endK_ge b k (by omega); omega
theorem KeepsOthers.of_below {W W' : World} (h : Below W.heap.size W W') : KeepsOthers W W' := ⟨h.size, fun k _ hk _ => (h.block k (Array.getElem?_eq_some_iff.1 hk).1).trans hk⟩
theorem KeepsOthers.of_bt {C base : Nat} {u : Value} {X : Array Value} {t : TypeId} {L : List (List Fr)} {W W' : World} (h : Bt C u W W') (hC : Blk W C X t) (hu : OwnGrs base (NS base u) W u L) : KeepsOthers W W' :=
  ⟨h.2.2.2.1, fun k o hk ho => (h.2.2.2.2 k (Array.getElem?_eq_some_iff.1 hk).1 (fun e => by subst e; rw [show W.heap[k]? = _ from hC] at hk; cases hk; cases ho) (fun e => by
    obtain ⟨cur, hB⟩ := hu.blk k e.symm
    rw [show W.heap[k]? = _ from hB] at hk; cases hk; cases ho)).trans hk⟩
theorem Blk.bt {C b : Nat} {u : Value} {X : Array Value} {t : TypeId} {W W' : World} (k : Blk W b X t) (h : Bt C u W W') (h1 : b ≠ C) (h2 : some b ≠ u.ownBlock) : Blk W' b X t := (h.2.2.2.2 b k.lt h1 h2).trans k
theorem Below.of_bt {n C : Nat} {u : Value} {W W' : World} (h : Bt C u W W') (h1 : n ≤ C) (h2 : ∀ k, u.ownBlock = some k → n ≤ k) (hn : n ≤ W.heap.size) : Below n W W' :=
  ⟨h.1, h.2.1, h.2.2.1, h.2.2.2.1, fun k hk => h.2.2.2.2 k (by omega) (by omega) (fun e => by have := h2 k e.symm; omega)⟩
theorem KpD.put {W0 : World} {D : Nat} (hD : D < W0.heap.size) (W : World) (l : Nat) (o o' : Obj) (h : W0.heap.size ≤ l) (_ : W.heap[l]? = some o) (_ : o.isCells = false) (_ : o.isWalk = false) : KpD D W (W.putObj l o') :=
  ⟨(grownBy_putObj' W l o').size, World.putObj_heap_other (by omega)⟩

set_option maxHeartbeats 4000000 in
set_option maxRecDepth 100000 in
theorem diskRead_any (l : List UInt8) (s : Int) (w : World) :
    Calls Try.prog 43 #[.agg #[.string (ba l), .int .i64 s]] w fun e w' => ∃ c, e = .returned (.tuple #[c, .int .i64 (diskE l s)]) ∧ Below w.heap.size w w' ∧
      (¬ diskE l s = 0 → c = rdZ) ∧ (diskE l s = 0 → ∃ ga gc, c = rdV l (.slice ga (dGs l).length gc) ∧ GrsIn (fun g => w.heap.size ≤ g) w' (.slice ga (dGs l).length gc) (dGs l)) := by
  have hmf : ∀ (fn : Fn) (first cap : Array Value) (w : World), (Instr.makeFunc fn first cap).run Try.prog w = .ok (.func fn first cap) w := fun _ _ _ _ => rfl
  obtain ⟨ll, hll⟩ : ∃ x, x = l.length := ⟨_, rfl⟩
  have hsz : (ba l).size = ll := by rw [ba_size, hll]
  refine (callsIn_wide (n := 10)).1 ?_
  refine callsIn_of_wp_marks Try.func43 rfl trivial ?_ rfl
  simp only [Try.ntmps43, List.size_toArray, List.length_cons, List.length_nil, Nat.reduceAdd, Nat.reduceSub, Array.replicate_succ, Array.replicate_zero, List.push_toArray, List.append_toArray, List.nil_append, List.cons_append]
  by_cases hlen : 2000 < l.length
  · have hl2 : (2000 : Int) < (ll : Int) := by omega
    gi_wp2_with fail
    have hE : diskE l s = 2 := by unfold diskE; rw [if_pos hlen]
    rw [hE]
    refine ⟨.tuple #[rdZ, .int .i64 2], ?_, rdZ, rfl, by go_grown, fun _ => rfl, fun h => absurd h (by decide)⟩
    simp [results, Try.f43, go_sem, rdZ]
  · have hl2 : ¬ (2000 : Int) < (ll : Int) := by omega
    gi_wp2_with fail
    refine ⟨trivial, ?_⟩
    refine (records_in _ _ _).mono ?_
    rintro e w' ⟨rfl, rfl⟩
    have HZ : Hid (ll = l.length ∧ ll ≤ 2000) := ⟨hll, by omega⟩
    obtain ⟨W0, hW0⟩ : ∃ W0, W0 = (((((w.alloc (.cells #[.string (ba l), .int .i64 s] 39)).alloc (.cells rdZC 81)).alloc (.cells #[.int .i64 0] 28)).alloc (.cells rdZC 81)).alloc (.cells #[.bool (s == 0)] 4)).alloc (.cells #[.string (ba l)] 9) := ⟨_, rfl⟩
    obtain ⟨KA, K2, K3, KC, KI, KD, hB0, hs0⟩ := rd_start w l s (s == 0) W0 hW0
    gi_wp2_with fail
    rw [show (#[.int .i64 0, .slice none 0 0, .int .i64 0, .bool false] : Array Value) = rdZC from rfl, ← hW0]
    clear hW0
    refine wpIn_rangeFunc_ownG rfl (by omega) (gf := 91) (lb := #[.pointer (some ⟨w.heap.size + 1 + 1 + 1 + 1 + 1, 0, none⟩)]) rfl trivial (enters_of Try.func91 (by kernel_rfl) rfl)
      (records_stops _ (w.heap.size + 1 + 1 + 1 + 1 + 1) l W0 (by have := HZ.out; omega) KD) (fun h k => ⟨Nat.le_trans h.1 k.1, k.2.trans h.2⟩) (KpD.put KD.lt) (Below.refl _ _) (fun _ => rfl)
      (RdI w l s W0.heap.size) (RdX w) (RdI.own (by omega)) (RdX.own (by omega))
      ⟨⟨none, 0, KC, OwnGrs.nil _ _ _⟩, (by rw [show rdI s [] = (s == 0) from by simp [rdI]]; exact KI), KA, K2, K3, rdOk_nil, hB0, Nat.le_refl _⟩
      (fun x => { tmps := #[.agg #[.string (ba l), .int .i64 s], .pointer (some ⟨w.heap.size, 0, none⟩), .pointer (some ⟨w.heap.size + 1, 0, none⟩), .pointer (some ⟨w.heap.size + 1 + 1, 0, none⟩), .pointer (some ⟨w.heap.size + 1 + 1 + 1, 0, none⟩), .pointer (some ⟨w.heap.size + 1 + 1 + 1 + 1, 0, none⟩), .string (ba x.1), .int .i64 (x.2 : Int), undef, undef, undef, .pointer (some ⟨w.heap.size, 0, none⟩), .string (ba l), .int .i64 (l.length : Int), .bool (decide ((2000 : Int) < (l.length : Int))), undef, .pointer (some ⟨w.heap.size, 1, none⟩), .int .i64 s, .bool (s == 0), .pointer (some ⟨w.heap.size, 0, none⟩), .string (ba l), .func (.func 91) #[] #[.pointer (some ⟨w.heap.size + 1 + 1 + 1 + 1 + 1, 0, none⟩)], .string (ba x.1), .int .i64 (x.2 : Int), undef, undef, undef, undef, undef, undef, undef, undef, undef, undef, undef, undef, undef, undef, undef, undef, undef, undef, undef, undef, undef, undef, undef, undef, undef, undef, undef, undef, undef, undef, undef, undef, undef, undef, undef, undef, undef], defers := [] }) ?assign ?body ?done ?stop
    case assign =>
      intro yl x W K hK
      unfold encR
      gi_wp2
      exact hK
    case body =>
      rintro yl pre x W ⟨⟨ga, gc, KC1, HO⟩, KI1, KA1, K21, K31, hok, hB1, hsz1⟩ hlt
      have hm : pre.length ≤ 999 := by have := endK_ge (recs l) _ (Nat.le_refl _); have := recs_le l (Nat.le_refl _); have := HZ.out; omega
      obtain ⟨m, hmE⟩ : ∃ m, m = pre.length := ⟨_, rfl⟩
      have HM : Hid (m = pre.length) := hmE
      rw [← hmE] at KC1 HO hm
      obtain ⟨f, hf⟩ : ∃ f, f = rdF pre := ⟨_, rfl⟩
      obtain ⟨e0, he0⟩ : ∃ f, f = rdE pre := ⟨_, rfl⟩
      obtain ⟨q, hq⟩ : ∃ q, q = rdI s pre := ⟨_, rfl⟩
      obtain ⟨L, hL⟩ : ∃ L, L = rdG pre := ⟨_, rfl⟩
      have HLm : Hid (L.length = m) := by rw [hL, rdG_len, hmE]; trivial
      have hff := rdOk_first hok
      rw [← hf] at hff
      rw [← hf, ← he0] at KC1
      rw [← hL] at HO
      rw [← hq] at KI1
      obtain ⟨base, hbase⟩ : ∃ x, x = W0.heap.size := ⟨_, rfl⟩
      rw [← hbase] at HO hsz1 ⊢
      have HS6 : Hid (base = w.heap.size + 6) := by show _ = _; omega
      clear hs0 hbase
      have HKC : Hid (Blk W (w.heap.size + 1 + 1 + 1) (rdC f e0 (.slice ga m gc) false) 81) := KC1
      have HKI : Hid (Blk W (w.heap.size + 1 + 1 + 1 + 1) #[.bool q] 4) := KI1
      have HKA : Hid (Blk W w.heap.size #[.string (ba l), .int .i64 s] 39) := KA1
      have HK2 : Hid (Blk W (w.heap.size + 1) rdZC 81) := K21
      have HK3 : Hid (Blk W (w.heap.size + 1 + 1) #[.int .i64 0] 28) := K31
      have HKO : Hid (OwnGrs base (NS base (.slice ga m gc)) W (.slice ga m gc) L) := HO
      have HOK : Hid (rdOk pre) := hok
      have HB1 : Hid (Below w.heap.size w W) := hB1
      have HDC : Hid (Calls Try.prog 70 #[.string (ba x.1)] W fun e w' => ∃ n ga gm gc ok, e = .returned (.tuple #[.int .i64 n, .agg #[.slice ga gm gc], .bool ok]) ∧ Below W.heap.size W w' ∧
        ((ok = false ∧ decR x.1 = none) ∨ ∃ fs, ok = true ∧ decR x.1 = some (n, fs) ∧ FrsIn (fun g => W.heap.size ≤ g) w' (.slice ga gm gc) fs)) := diskDecode_any x.1 W
      have HF : Hid (f = rdF pre ∧ e0 = rdE pre ∧ q = rdI s pre ∧ L = rdG pre) := ⟨hf, he0, hq, hL⟩
      clear KC1 KI1 KA1 K21 K31 HO hok hB1 hf he0 hq hL KA K2 K3 KC KI KD hB0 hmE hll
      gi_wp2_with fail
      refine ⟨trivial, ?_⟩
      refine (CallsIn.inRound yl (callsIn_wide.2 HDC.out)).mono ?_
      rintro e w1 ⟨n, xa, xm, xc, ok, rfl, b1, hcase⟩
      have hs1 := b1.size
      obtain ⟨T, hT⟩ : ∃ T, T = w1.heap.size := ⟨_, rfl⟩
      obtain ⟨W2, hW2⟩ : ∃ W2, W2 = w1.alloc (.cells #[.slice xa xm xc] 25) := ⟨_, rfl⟩
      have b2 : Below W.heap.size W W2 := by rw [hW2]; exact b1.alloc hs1 _
      have HT2 : Hid (Blk W2 T #[.slice xa xm xc] 25) := by show Blk _ _ _ _; rw [hT]; exact Blk.newE hW2
      have HTW : Hid (W.heap.size ≤ T ∧ T = w1.heap.size) := ⟨by omega, hT⟩
      have HFC : Hid (∀ g fs, FrsIn g w1 (.slice xa xm xc) fs → FrsIn g W2 (.slice xa xm xc) fs) := fun g fs h => by rw [hW2]; exact h.alloc _
      have HB2 : Hid (Below W.heap.size W W2) := b2
      have HW2 : Hid (W2 = w1.alloc (.cells #[.slice xa xm xc] 25)) := hW2
      -- a way out: what is not right
      have BAD : Hid (∀ V V2 : World, Below W.heap.size W V → ¬ rdOk (pre ++ [x]) → V2 = (((((V.setCell ⟨w.heap.size + 1, 0, none⟩ (.int .i64 0)).setCell ⟨w.heap.size + 1, 1, none⟩ (.slice none 0 0)).setCell ⟨w.heap.size + 1, 2, none⟩ (.int .i64 0)).setCell ⟨w.heap.size + 1, 3, none⟩ (.bool false)).setCell ⟨w.heap.size + 1 + 1, 0, none⟩ (.int .i64 1)) → KeepsFrom base W V2 ∧ RdX w .ret (pre ++ [x]) V2) := fun V V2 hV hno h => by
        subst h
        have k2 : Blk V (w.heap.size + 1) rdZC 81 := HK2.out.below hV HK2.out.lt
        have k3 : Blk V (w.heap.size + 1 + 1) #[.int .i64 0] 28 := HK3.out.below hV HK3.out.lt
        have k2' := (((((k2.set 0 (.int .i64 0)).set 1 (.slice none 0 0)).set 2 (.int .i64 0)).set 3 (.bool false)).other (a := ⟨w.heap.size + 1 + 1, 0, none⟩) (by show w.heap.size + 1 ≠ w.heap.size + 1 + 1; omega) (.int .i64 1))
        have o : ∀ j, w.heap.size + 1 + 1 ≠ (⟨w.heap.size + 1, j, none⟩ : Addr).block := fun j => by show w.heap.size + 1 + 1 ≠ w.heap.size + 1; omega
        have k3' := ((((k3.other (o 0) (.int .i64 0)).other (o 1) (.slice none 0 0)).other (o 2) (.int .i64 0)).other (o 3) (.bool false)).set 0 (.int .i64 1)
        have g : ∀ {V : World} {n j : Nat} {v : Value}, w.heap.size ≤ n → Below w.heap.size w V → Below w.heap.size w (V.setCell ⟨n, j, none⟩ v) := fun hn hb => hb.setCell (p := ⟨_, _, none⟩) hn _
        have bw : Below w.heap.size w V := HB1.out.trans (hV.mono HB1.out.size)
        refine ⟨((((((KeepsOthers.of_below hV).trans (KeepsOthers.setCell _ _ _)).trans (KeepsOthers.setCell _ _ _)).trans (KeepsOthers.setCell _ _ _)).trans (KeepsOthers.setCell _ _ _)).trans (KeepsOthers.setCell _ _ _)).from _, rfl, hno, k2', k3', ?_⟩
        exact g (by omega) (g (by omega) (g (by omega) (g (by omega) (g (by omega) bw))))
      rcases hcase with ⟨rfl, hD⟩ | ⟨fs, rfl, hD, hFr⟩
      · have HNO : Hid (¬ rdOk (pre ++ [x])) := rdOk_bad (.inl hD)
        clear hD hW2 hT b1 b2 HFC HT2 HTW hs1
        have K2c := HK2.out.below HB2.out HK2.out.lt
        have K3c := HK3.out.below HB2.out HK3.out.lt
        have z0 := K2c.cell (j := 0) (u := .int .i64 0) rfl
        have z1 := K2c.cell (j := 1) (u := .slice none 0 0) rfl
        have z2 := K2c.cell (j := 2) (u := .int .i64 0) rfl
        have z3 := K2c.cell (j := 3) (u := .bool false) rfl
        have z4 := K3c.cell (j := 0) (u := .int .i64 0) rfl
        have f2 := fun j => K2c.free j
        have f3 := fun j => K3c.free j
        clear K2c K3c
        gi_wp2_with fail
        refine ⟨trivial, ?_⟩
        rw [← HW2.out]
        clear HW2
        gi_wp2_with fail
        exact BAD.out W2 _ HB2.out HNO.out rfl
      · obtain ⟨G, hG⟩ : ∃ G, G = (decide (m = 0) || decide (n = f + (m : Int))) := ⟨_, rfl⟩
        have HK2C : Hid (Blk W2 (w.heap.size + 1 + 1 + 1) (rdC f e0 (.slice ga m gc) false) 81) := HKC.out.below HB2.out HKC.out.lt
        have HGO : Hid (Calls Try.prog 49 #[.pointer (some ⟨w.heap.size + 1 + 1 + 1, 0, none⟩), .int .i64 n] W2 fun e w' => e = .returned (.bool G) ∧ Below W2.heap.size W2 w') := by
          have := rdGoes_any (w.heap.size + 1 + 1 + 1) m f n e0 ga gc false W2 HK2C.out hff (by omega)
          rw [← hG] at this; exact this
        have HDX : Hid (decR x.1 = some (n, fs)) := hD
        have HFR : Hid (FrsIn (fun g => W.heap.size ≤ g) W2 (.slice xa xm xc) fs) := HFC.out _ _ hFr
        have HGF : Hid (G = false → ¬ rdOk (pre ++ [x])) := fun h => by
          refine rdOk_bad (.inr ⟨n, fs, hD, ?_⟩)
          rw [hG] at h
          simp only [Bool.or_eq_false_iff, decide_eq_false_iff_not] at h
          rw [← HM.out, ← HF.out.1]
          rintro (h1 | h1)
          · exact h.1 h1
          · exact h.2 h1
        have HGT : Hid (G = true → (m = 0 ∨ n = f + m) ∧ rdOk (pre ++ [x])) := fun h => by
          rw [hG] at h
          simp only [Bool.or_eq_true, decide_eq_true_eq] at h
          refine ⟨h, rdOk_snoc HOK.out hD ?_⟩
          rw [← HM.out, ← HF.out.1]; exact h
        clear hD hFr HFC hW2 hT b1 b2 hs1 hG HDC
        gi_wp2_with fail
        rw [← HW2.out]
        refine ⟨trivial, ?_⟩
        refine (CallsIn.inRound yl (callsIn_wide.2 HGO.out)).mono ?_
        rintro e w3 ⟨rfl, b3⟩
        have HB3 : Hid (Below W.heap.size W w3) := HB2.out.trans (b3.mono HB2.out.size)
        have HFR3 : Hid (FrsIn (fun g => W.heap.size ≤ g) w3 (.slice xa xm xc) fs) := HFR.out.below b3
        have HT3 : Hid (Blk w3 T #[.slice xa xm xc] 25) := HT2.out.below b3 HT2.out.lt
        clear b3 HGO HW2 HFR HT2 HK2C
        cases hGb : G with
        | false =>
          have HNO : Hid (¬ rdOk (pre ++ [x])) := HGF.out hGb
          have K2c := HK2.out.below HB3.out HK2.out.lt
          have K3c := HK3.out.below HB3.out HK3.out.lt
          have z0 := K2c.cell (j := 0) (u := .int .i64 0) rfl
          have z1 := K2c.cell (j := 1) (u := .slice none 0 0) rfl
          have z2 := K2c.cell (j := 2) (u := .int .i64 0) rfl
          have z3 := K2c.cell (j := 3) (u := .bool false) rfl
          have z4 := K3c.cell (j := 0) (u := .int .i64 0) rfl
          have f2 := fun j => K2c.free j
          have f3 := fun j => K3c.free j
          clear K2c K3c hGb HGF HGT
          gi_wp2_with fail
          exact BAD.out w3 _ HB3.out HNO.out rfl
        | true =>
          have HOK2 : Hid ((m = 0 ∨ n = f + m) ∧ rdOk (pre ++ [x])) := HGT.out hGb
          clear hGb HGF HGT BAD
          have K3C := HKC.out.below HB3.out HKC.out.lt
          have O3 := HKO.out.below HB3.out
          have I3 := HKI.out.below HB3.out HKI.out.lt
          have A3 := HKA.out.below HB3.out HKA.out.lt
          have P3 := HK2.out.below HB3.out HK2.out.lt
          have E3 := HK3.out.below HB3.out HK3.out.lt
          have hown : ∀ k, k < base → some k ≠ (Value.slice ga m gc).ownBlock := fun k hk h => by have := (HKO.out.lt k h.symm).1; omega
          have F3 : FrsIn (NS base (.slice ga m gc)) w3 (.slice xa xm xc) fs := HFR3.out.mono (fun g _ hg => ⟨by have : W.heap.size ≤ g := hg; omega, fun h => by have : W.heap.size ≤ g := hg; have := (HKO.out.lt g h.symm).2; omega⟩)
          have HAD : Hid (Calls Try.prog 71 #[.pointer (some ⟨w.heap.size + 1 + 1 + 1, 0, none⟩), .int .i64 n, .agg #[.slice xa xm xc]] w3 fun e' w' => e' = .returned (.tuple #[]) ∧ ∃ v', Blk w' (w.heap.size + 1 + 1 + 1) (rdC (if m = 0 then n else f) e0 v' false) 81 ∧ OwnGrs base (NS base v') w' v' (L ++ [fs]) ∧ Bt (w.heap.size + 1 + 1 + 1) (.slice ga m gc) w3 w') :=
            rdAdd_any base _ m f n e0 _ _ false L fs w3 K3C O3 (by have := HS6.out; omega) F3 HLm.out hm (by have := HB3.out.size; omega)
          have t3 := HT3.out.cell (j := 0) (u := .slice xa xm xc) rfl
          have HTT : Hid (T = w1.heap.size) := HTW.out.2
          rw [HTT.out] at t3
          gi_wp2_with fail
          refine ⟨trivial, ?_⟩
          refine (CallsIn.inRound yl (callsIn_wide.2 HAD.out)).mono ?_
          rintro e w4 ⟨rfl, v', K4, O4, bt⟩
          have HKO4 : Hid (KeepsOthers W w4) := (KeepsOthers.of_below HB3.out).trans (KeepsOthers.of_bt bt K3C O3)
          have HS6' := HS6.out
          have I4 := I3.bt bt (by omega) (hown _ (by omega))
          have A4 := A3.bt bt (by omega) (hown _ (by omega))
          have P4 := P3.bt bt (by omega) (hown _ (by omega))
          have E4 := E3.bt bt (by omega) (hown _ (by omega))
          have HW4 : Hid (Below w.heap.size w w4) := (HB1.out.trans (HB3.out.mono HB1.out.size)).trans (Below.of_bt bt (by omega) (fun k hk => by have := (HKO.out.lt k hk).1; omega) (by have := HB1.out.size; have := HB3.out.size; omega))
          have HD4 : Hid (KpD (w.heap.size + 1 + 1 + 1 + 1 + 1) W w4) := ⟨by have := HB3.out.size; have := bt.2.2.2.1; omega, (bt.2.2.2.2 _ (by have := HB3.out.size; omega) (by omega) (hown _ (by omega))).trans (HB3.out.block _ (by omega))⟩
          obtain ⟨F', hF'⟩ : ∃ F', F' = (if m = 0 then n else f) := ⟨_, rfl⟩
          rw [← hF'] at K4
          have HFF : Hid (F' = rdF (pre ++ [x])) := by
            show _ = _
            by_cases h0 : m = 0
            · rw [hF', if_pos h0]
              have : pre = [] := List.eq_nil_of_length_eq_zero (by rw [← HM.out]; exact h0)
              rw [this, rdF_one]
              unfold decN; rw [HDX.out]; rfl
            · rw [hF', if_neg h0, rdF_snoc x (by rw [← HM.out]; omega)]
              exact HF.out.1
          obtain ⟨va, vc, ev, _⟩ : ∃ a c, v' = .slice a (m + 1) c ∧ True := by
            obtain ⟨ps, p1, p2, _⟩ := O4
            obtain ⟨a, c, h, _⟩ := owns_cap p2
            exact ⟨a, c, by rw [h, ← List.length_map (f := Prod.fst), p1, List.length_append, HLm.out]; rfl, trivial⟩
          subst ev
          have HKK : Hid (Blk w4 (w.heap.size + 1 + 1 + 1) (rdC F' e0 (.slice va (m + 1) vc) false) 81) := K4
          have HOO : Hid (OwnGrs base (NS base (.slice va (m + 1) vc)) w4 (.slice va (m + 1) vc) (L ++ [fs])) := O4
          have HII : Hid (Blk w4 (w.heap.size + 1 + 1 + 1 + 1) #[.bool q] 4) := I4
          have HAA : Hid (Blk w4 w.heap.size #[.string (ba l), .int .i64 s] 39) := A4
          have HPP : Hid (Blk w4 (w.heap.size + 1) rdZC 81) := P4
          have HEE : Hid (Blk w4 (w.heap.size + 1 + 1) #[.int .i64 0] 28) := E4
          have hW4s := HW4.out.size
          have FIN : Hid (∀ (q2 : Bool) (V : World), V = (w4.setCell ⟨w.heap.size + 1 + 1 + 1, 2, none⟩ (.int .i64 (x.2 : Int))).setCell ⟨w.heap.size + 1 + 1 + 1 + 1, 0, none⟩ (.bool q2) → q2 = (q || (s == (x.2 : Int))) → KeepsFrom base W V ∧ KpD (w.heap.size + 1 + 1 + 1 + 1 + 1) W V ∧ RdI w l s base (pre ++ [x]) V) := fun q2 V hV hq2 => by
            have ne : ∀ {a b j : Nat}, a ≠ b → a ≠ (⟨b, j, none⟩ : Addr).block := fun h => h
            have sz : V.heap.size = w4.heap.size := by rw [hV]; simp
            have o2 : ∀ {b C t}, Blk w4 b C t → b ≠ w.heap.size + 1 + 1 + 1 → b ≠ w.heap.size + 1 + 1 + 1 + 1 → Blk V b C t := fun hb h1 h2 => by rw [hV]; exact (hb.other (ne h1) _).other (ne h2) _
            have kC : Blk V (w.heap.size + 1 + 1 + 1) (rdC F' (x.2 : Int) (.slice va (m + 1) vc) false) 81 := by
              rw [hV]; exact (HKK.out.set 2 (.int .i64 (x.2 : Int))).other (ne (by omega)) _
            have kI : Blk V (w.heap.size + 1 + 1 + 1 + 1) #[.bool q2] 4 := by
              rw [hV]; exact (HII.out.other (ne (by omega)) _).set 0 _
            have kO : OwnGrs base (NS base (.slice va (m + 1) vc)) V (.slice va (m + 1) vc) (L ++ [fs]) := by
              rw [hV]
              refine HOO.out.to ((SameOn.setCell (a := ⟨w.heap.size + 1 + 1 + 1, 2, none⟩) (fun g hg => by have := hg.1; show g ≠ w.heap.size + 1 + 1 + 1; omega) _).trans (SameOn.setCell (a := ⟨w.heap.size + 1 + 1 + 1 + 1, 0, none⟩) (fun g hg => by have := hg.1; show g ≠ w.heap.size + 1 + 1 + 1 + 1; omega) _)) (fun _ _ h => h) (fun g hg => ?_)
              have hg1 := (HOO.out.lt g hg).1
              exact (Below.heap_setCell _ _ _ _ (by show g ≠ w.heap.size + 1 + 1 + 1 + 1; omega)).trans (Below.heap_setCell _ _ _ _ (by show g ≠ w.heap.size + 1 + 1 + 1; omega))
            refine ⟨?_, ⟨by rw [sz]; exact HD4.out.1, ?_⟩, ⟨va, vc, ?_, ?_⟩, ?_, o2 HAA.out (by omega) (by omega), o2 HPP.out (by omega) (by omega), o2 HEE.out (by omega) (by omega), HOK2.out.2, ?_, ?_⟩
            · rw [hV]; exact ((HKO4.out.trans (KeepsOthers.setCell _ _ _)).trans (KeepsOthers.setCell _ _ _)).from _
            · rw [hV]; exact ((Below.heap_setCell _ _ _ _ (by show w.heap.size + 1 + 1 + 1 + 1 + 1 ≠ w.heap.size + 1 + 1 + 1 + 1; omega)).trans (Below.heap_setCell _ _ _ _ (by show w.heap.size + 1 + 1 + 1 + 1 + 1 ≠ w.heap.size + 1 + 1 + 1; omega))).trans HD4.out.2
            · rw [← HFF.out, rdE_snoc, List.length_append, ← HM.out]; exact kC
            · rw [rdG_snoc, ← HF.out.2.2.2, List.length_append, ← HM.out, show decG x.1 = fs from by unfold decG; rw [HDX.out]; rfl]; exact kO
            · rw [rdI_snoc, ← HF.out.2.2.1, ← hq2]; exact kI
            · rw [hV]; exact (HW4.out.setCell (p := ⟨_, _, none⟩) (by show w.heap.size ≤ w.heap.size + 1 + 1 + 1; omega) _).setCell (p := ⟨_, _, none⟩) (by show w.heap.size ≤ w.heap.size + 1 + 1 + 1 + 1; omega) _
            · rw [sz]; have := HD4.out.1; omega
          have k2 := K4.cell (j := 2) (u := .int .i64 e0) rfl
          have kf := fun j => K4.free j
          have i2 := I4.cell (j := 0) (u := .bool q) rfl
          have jf := fun j => I4.free j
          have a2 := A4.cell (j := 1) (u := .int .i64 s) rfl
          clear bt K4 O4 I4 A4 P4 E4 K3C O3 I3 A3 P3 E3 hown F3 t3 HS6' hF' HKK HOO HII HAA HPP HEE HKO4 HW4 HD4
          cases hqb : q with
          | true =>
            rw [hqb] at FIN i2
            clear hqb
            gi_wp2_with fail
            exact FIN.out _ _ rfl rfl
          | false =>
            rw [hqb] at FIN i2
            clear hqb
            gi_wp2_with fail
            exact FIN.out _ _ rfl rfl
    case done =>
      rintro D zs W hD rfl ⟨⟨ga, gc, KC1, HO⟩, KI1, KA1, K21, K31, hok, hB1, hsz1⟩ hK
      rw [recXs_len, rdF_all, rdE_all] at KC1
      rw [recXs_len, rdG_all] at HO
      rw [rdI_upto] at KI1
      have hnG : (dGs l).length = (recs l).length := dGs_length l
      rw [← hnG] at KC1 HO
      obtain ⟨N, hN⟩ : ∃ N, N = (dGs l).length := ⟨_, rfl⟩
      have hokr : okRs (recs l) = true := by
        have : okRs ((recXs (recs l) (recs l).length).map Prod.fst) = true := hok
        rw [recXs_fst (Nat.le_refl _), List.take_length] at this
        exact this
      obtain ⟨q, hq⟩ : ∃ q, q = decide (∃ j, j ≤ (recs l).length ∧ s = (endK (recs l) j : Int)) := ⟨_, rfl⟩
      rw [← hq] at KI1
      have HE1 : Hid (q = true → diskE l s = 0) := fun h => by
        rw [hq] at h
        unfold diskE; rw [if_neg (by omega), hokr, if_pos rfl, if_pos (of_decide_eq_true h)]
      have HE0 : Hid (q = false → diskE l s = 3) := fun h => by
        rw [hq] at h
        unfold diskE; rw [if_neg (by omega), hokr, if_pos rfl, if_neg (of_decide_eq_false h)]
      have HKV : Hid (∀ V, KeepsOthers W V → V.heap[D]? = some (.deferred (some []))) := fun V h => h.same D _ hK rfl
      obtain ⟨f, hf⟩ : ∃ f, f = dFirst l := ⟨_, rfl⟩
      obtain ⟨E, hE⟩ : ∃ E, E = dEnd l := ⟨_, rfl⟩
      rw [← hf, ← hE] at KC1
      rw [← hN] at KC1 HO
      obtain ⟨base, hbase⟩ : ∃ x, x = W0.heap.size := ⟨_, rfl⟩
      rw [← hbase] at HO hsz1 hD
      have HS6 : Hid (base = w.heap.size + 6 ∧ base ≤ D) := ⟨by omega, hD⟩
      have c0 := KC1.cell (j := 0) (u := .int .i64 f) rfl
      have c1 := KC1.cell (j := 1) (u := .slice ga N gc) rfl
      have c2 := KC1.cell (j := 2) (u := .int .i64 E) rfl
      have c3 := KC1.cell (j := 3) (u := .bool false) rfl
      have cf := fun j => KC1.free j
      have i0 := KI1.cell (j := 0) (u := .bool q) rfl
      have a0 := KA1.cell (j := 0) (u := .string (ba l)) rfl
      have z0 := K21.cell (j := 0) (u := .int .i64 0) rfl
      have z1 := K21.cell (j := 1) (u := .slice none 0 0) rfl
      have z2 := K21.cell (j := 2) (u := .int .i64 0) rfl
      have z3 := K21.cell (j := 3) (u := .bool false) rfl
      have z4 := K31.cell (j := 0) (u := .int .i64 0) rfl
      have f2 := fun j => K21.free j
      have f3 := fun j => K31.free j
      have H2 : Hid (Blk W (w.heap.size + 1) rdZC 81) := K21
      have H3 : Hid (Blk W (w.heap.size + 1 + 1) #[.int .i64 0] 28) := K31
      have HO1 : Hid (OwnGrs base (NS base (.slice ga N gc)) W (.slice ga N gc) (dGs l)) := HO
      have HB1 : Hid (Below w.heap.size w W) := hB1
      have HV : Hid (f = dFirst l ∧ E = dEnd l ∧ N = (dGs l).length) := ⟨hf, hE, hN⟩
      clear KC1 KI1 KA1 K21 K31 HO hok hokr hB1 hf hE hN hbase hq hnG KA K2 K3 KC KI KD hB0 hs0 hK hll hD
      cases hqb : q with
      | false =>
        have HE := HE0.out hqb
        rw [hqb] at i0
        clear hqb HE1 HE0
        have HE : Hid (diskE l s = 3) := HE
        gi_wp2_with fail
        have hs6 := HS6.out.1
        have g : ∀ {V : World} {n j : Nat} {v : Value}, w.heap.size ≤ n → Below w.heap.size w V → Below w.heap.size w (V.setCell ⟨n, j, none⟩ v) := fun hn hb => hb.setCell (p := ⟨_, _, none⟩) hn _
        have ot : ∀ {V : World} {b : Nat} {C : Array Value} {t : TypeId} (n j : Nat) (v : Value), Blk V b C t → b ≠ n → Blk (V.setCell ⟨n, j, none⟩ v) b C t := fun n j v h hn => h.other (a := ⟨n, j, none⟩) hn v
        have ks : ∀ {V : World} {a : Addr} {v : Value}, KeepsOthers W V → KeepsOthers W (V.setCell a v) := fun h => h.trans (KeepsOthers.setCell _ _ _)
        have k2 := ot (w.heap.size + 1 + 1) 0 (.int .i64 3) ((((H2.out.set 0 (.int .i64 0)).set 1 (.slice none 0 0)).set 2 (.int .i64 0)).set 3 (.bool false)) (by omega)
        have k3 := (ot (w.heap.size + 1) 3 (.bool false) (ot (w.heap.size + 1) 2 (.int .i64 0) (ot (w.heap.size + 1) 1 (.slice none 0 0) (ot (w.heap.size + 1) 0 (.int .i64 0) H3.out (by omega)) (by omega)) (by omega)) (by omega)).set 0 (.int .i64 3)
        have hK := HKV.out _ (ks (a := ⟨w.heap.size + 1 + 1, 0, none⟩) (v := .int .i64 3) (ks (a := ⟨w.heap.size + 1, 3, none⟩) (v := .bool false) (ks (a := ⟨w.heap.size + 1, 2, none⟩) (v := .int .i64 0) (ks (a := ⟨w.heap.size + 1, 1, none⟩) (v := .slice none 0 0) (ks (a := ⟨w.heap.size + 1, 0, none⟩) (v := .int .i64 0) (KeepsOthers.refl W))))))
        have hB := g (v := .int .i64 3) (j := 0) (show w.heap.size ≤ w.heap.size + 1 + 1 by omega) (g (v := .bool false) (j := 3) (show w.heap.size ≤ w.heap.size + 1 by omega) (g (v := .int .i64 0) (j := 2) (show w.heap.size ≤ w.heap.size + 1 by omega) (g (v := .slice none 0 0) (j := 1) (show w.heap.size ≤ w.heap.size + 1 by omega) (g (v := .int .i64 0) (j := 0) (show w.heap.size ≤ w.heap.size + 1 by omega) HB1.out))))
        refine ⟨by simp, .inl ⟨_, _, rfl, run_takeDeferred hK, ?_⟩⟩
        have k2' := k2.others (grownBy_putObj' _ D (.deferred none)) (fun r e => by cases e; exact ⟨_, hK, rfl⟩)
        have k3' := k3.others (grownBy_putObj' _ D (.deferred none)) (fun r e => by cases e; exact ⟨_, hK, rfl⟩)
        have y0 := k2'.cell (j := 0) (u := .int .i64 0) rfl
        have y1 := k2'.cell (j := 1) (u := .slice none 0 0) rfl
        have y2 := k2'.cell (j := 2) (u := .int .i64 0) rfl
        have y3 := k2'.cell (j := 3) (u := .bool false) rfl
        have y4 := k3'.cell (j := 0) (u := .int .i64 3) rfl
        rw [HE.out]
        refine ⟨.tuple #[rdZ, .int .i64 3], ?_, rdZ, rfl, hB.trans (belowK_b (w := w) (Nat.le_refl _) _ D _ _ (by have := HS6.out.2; omega) hK rfl rfl), fun _ => rfl, fun h => absurd h (by decide)⟩
        simp [results, Try.f43, go_sem, rdZ, y0, y1, y2, y3, y4]
      | true =>
        have HE := HE1.out hqb
        rw [hqb] at i0
        clear hqb HE1 HE0
        have HE : Hid (diskE l s = 0) := HE
        have HLL : Hid (ll = l.length) := HZ.out.1
        gi_wp2_with fail
        have hs6 := HS6.out.1
        have g : ∀ {V : World} {n j : Nat} {v : Value}, w.heap.size ≤ n → Below w.heap.size w V → Below w.heap.size w (V.setCell ⟨n, j, none⟩ v) := fun hn hb => hb.setCell (p := ⟨_, _, none⟩) hn _
        have ot : ∀ {V : World} {b : Nat} {C : Array Value} {t : TypeId} (n j : Nat) (v : Value), Blk V b C t → b ≠ n → Blk (V.setCell ⟨n, j, none⟩ v) b C t := fun n j v h hn => h.other (a := ⟨n, j, none⟩) hn v
        have ks : ∀ {V : World} {a : Addr} {v : Value}, KeepsOthers W V → KeepsOthers W (V.setCell a v) := fun h => h.trans (KeepsOthers.setCell _ _ _)
        obtain ⟨t, ht⟩ : ∃ t, t = decide (E < ll) := ⟨_, rfl⟩
        rw [← ht]
        have k2 := ot (w.heap.size + 1 + 1) 0 (.int .i64 0) (((((ot (w.heap.size + 1 + 1 + 1) 3 (.bool t) H2.out (by omega)).set 0 (.int .i64 f)).set 1 (.slice ga N gc)).set 2 (.int .i64 E)).set 3 (.bool t)) (by omega)
        have k3 := (ot (w.heap.size + 1) 3 (.bool t) (ot (w.heap.size + 1) 2 (.int .i64 E) (ot (w.heap.size + 1) 1 (.slice ga N gc) (ot (w.heap.size + 1) 0 (.int .i64 f) (ot (w.heap.size + 1 + 1 + 1) 3 (.bool t) H3.out (by omega)) (by omega)) (by omega)) (by omega)) (by omega)).set 0 (.int .i64 0)
        have hK := HKV.out _ (ks (a := ⟨w.heap.size + 1 + 1, 0, none⟩) (v := .int .i64 0) (ks (a := ⟨w.heap.size + 1, 3, none⟩) (v := .bool t) (ks (a := ⟨w.heap.size + 1, 2, none⟩) (v := .int .i64 E) (ks (a := ⟨w.heap.size + 1, 1, none⟩) (v := .slice ga N gc) (ks (a := ⟨w.heap.size + 1, 0, none⟩) (v := .int .i64 f) (ks (a := ⟨w.heap.size + 1 + 1 + 1, 3, none⟩) (v := .bool t) (KeepsOthers.refl W)))))))
        have hB := g (v := .int .i64 0) (j := 0) (show w.heap.size ≤ w.heap.size + 1 + 1 by omega) (g (v := .bool t) (j := 3) (show w.heap.size ≤ w.heap.size + 1 by omega) (g (v := .int .i64 E) (j := 2) (show w.heap.size ≤ w.heap.size + 1 by omega) (g (v := .slice ga N gc) (j := 1) (show w.heap.size ≤ w.heap.size + 1 by omega) (g (v := .int .i64 f) (j := 0) (show w.heap.size ≤ w.heap.size + 1 by omega) (g (v := .bool t) (j := 3) (show w.heap.size ≤ w.heap.size + 1 + 1 + 1 by omega) HB1.out)))))
        have so : ∀ {V : World} {n j : Nat} {v : Value}, n < base → OwnGrs base (NS base (.slice ga N gc)) V (.slice ga N gc) (dGs l) → OwnGrs base (NS base (.slice ga N gc)) (V.setCell ⟨n, j, none⟩ v) (.slice ga N gc) (dGs l) := fun {V n j v} hn h =>
          h.to (SameOn.setCell (S := NS base (.slice ga N gc)) (a := ⟨n, j, none⟩) (fun g hg => by have := hg.1; show g ≠ n; omega) _) (fun _ _ h => h) (fun g hg => Below.heap_setCell _ _ _ _ (by have := (h.lt g hg).1; show g ≠ n; omega))
        have hO := so (v := .int .i64 0) (j := 0) (show w.heap.size + 1 + 1 < base by omega) (so (v := .bool t) (j := 3) (show w.heap.size + 1 < base by omega) (so (v := .int .i64 E) (j := 2) (show w.heap.size + 1 < base by omega) (so (v := .slice ga N gc) (j := 1) (show w.heap.size + 1 < base by omega) (so (v := .int .i64 f) (j := 0) (show w.heap.size + 1 < base by omega) (so (v := .bool t) (j := 3) (show w.heap.size + 1 + 1 + 1 < base by omega) HO1.out)))))
        refine ⟨by simp, .inl ⟨_, _, rfl, run_takeDeferred hK, ?_⟩⟩
        have k2' := k2.others (grownBy_putObj' _ D (.deferred none)) (fun r e => by cases e; exact ⟨_, hK, rfl⟩)
        have k3' := k3.others (grownBy_putObj' _ D (.deferred none)) (fun r e => by cases e; exact ⟨_, hK, rfl⟩)
        have hO' := hO.others (grownBy_putObj' _ D (.deferred none)) (fun r e => by cases e; exact ⟨_, hK, rfl⟩)
        have y0 := k2'.cell (j := 0) (u := .int .i64 f) rfl
        have y1 := k2'.cell (j := 1) (u := .slice ga N gc) rfl
        have y2 := k2'.cell (j := 2) (u := .int .i64 E) rfl
        have y3 := k2'.cell (j := 3) (u := .bool t) rfl
        have y4 := k3'.cell (j := 0) (u := .int .i64 0) rfl
        rw [HE.out]
        refine ⟨.tuple #[.agg #[.int .i64 f, .slice ga N gc, .int .i64 E, .bool t], .int .i64 0], ?_, .agg #[.int .i64 f, .slice ga N gc, .int .i64 E, .bool t], rfl, hB.trans (belowK_b (w := w) (Nat.le_refl _) _ D _ _ (by have := HS6.out.2; omega) hK rfl rfl), fun h => absurd rfl h, fun _ => ⟨ga, gc, ?_, ?_⟩⟩
        · simp [results, Try.f43, go_sem, y0, y1, y2, y3, y4]
        · unfold rdV
          rw [ht, HV.out.1, HV.out.2.1, HV.out.2.2, HLL.out]
        · rw [← HV.out.2.2]
          exact hO'.grsIn (fun g _ hg => by have := hg.1; show w.heap.size ≤ g; omega) (fun g hg => by have := (hO'.lt g hg).1; show w.heap.size ≤ g; omega)
    case stop =>
      rintro D c pre W hD ⟨k, hk, rfl⟩ ⟨rfl, hno, k2, k3, hB⟩ hK
      have hE : diskE l s = 1 := by
        unfold diskE
        rw [if_neg (by omega), if_neg]
        intro h
        refine hno ?_
        unfold rdOk
        rw [recXs_fst hk]
        exact okRs_take h k
      gi_wp2
      refine ⟨by simp, .inl ⟨_, _, rfl, run_takeDeferred hK, ?_⟩⟩
      have k2' := k2.others (grownBy_putObj' W D (.deferred none)) (fun r e => by cases e; exact ⟨_, hK, rfl⟩)
      have k3' := k3.others (grownBy_putObj' W D (.deferred none)) (fun r e => by cases e; exact ⟨_, hK, rfl⟩)
      have z0 := k2'.cell (j := 0) (u := .int .i64 0) rfl
      have z1 := k2'.cell (j := 1) (u := .slice none 0 0) rfl
      have z2 := k2'.cell (j := 2) (u := .int .i64 0) rfl
      have z3 := k2'.cell (j := 3) (u := .bool false) rfl
      have z4 := k3'.cell (j := 0) (u := .int .i64 1) rfl
      rw [hE]
      refine ⟨.tuple #[rdZ, .int .i64 1], ?_, rdZ, rfl, hB.trans (belowK_b (w := w) (Nat.le_refl _) W D _ _ (by omega) hK rfl rfl), fun _ => rfl, fun h => absurd h (by decide)⟩
      simp [results, Try.f43, go_sem, rdZ, z0, z1, z2, z3, z4]

end Go.Proofs.Ytnpaejknoipicad

namespace Go.Proofs.Ytnpaejknoipicad
open Go.RowKit

/-- disk.read, its value written out -/
theorem rd_any (l : List UInt8) (s : Int) (w : World) :
    Calls Try.prog 43 #[.agg #[.string (ba l), .int .i64 s]] w fun e w' => ∃ (f : Int) (ga : Option Addr) (m gc E : Nat) (t : Bool), e = .returned (.tuple #[.agg #[.int .i64 f, .slice ga m gc, .int .i64 E, .bool t], .int .i64 (diskE l s)]) ∧ Below w.heap.size w w' ∧
      (diskE l s = 0 → f = dFirst l ∧ m = (dGs l).length ∧ E = dEnd l ∧ t = decide (dEnd l < l.length) ∧ GrsIn (fun g => w.heap.size ≤ g) w' (.slice ga m gc) (dGs l)) := by
  refine (diskRead_any l s w).mono ?_
  rintro e w' ⟨c, rfl, hB, h1, h2⟩
  by_cases h : diskE l s = 0
  · obtain ⟨ga, gc, rfl, hG⟩ := h2 h
    exact ⟨dFirst l, ga, _, gc, dEnd l, _, rfl, hB, fun _ => ⟨rfl, rfl, rfl, rfl, hG⟩⟩
  · rw [h1 h]
    exact ⟨0, none, 0, 0, 0, false, rfl, hB, fun h' => absurd h' h⟩

set_option maxHeartbeats 2000000 in
theorem diskCheck_any (l : List UInt8) (s : Int) (w : World) :
    Calls Try.prog 13 #[.agg #[.string (ba l), .int .i64 s]] w fun e w' => e = .returned (.int .i64 (diskE l s)) ∧ Below w.heap.size w w' := by
  have HRD := fun W => rd_any l s W
  obtain ⟨e, he⟩ : ∃ e, e = diskE l s := ⟨_, rfl⟩
  rw [← he] at HRD ⊢
  have HRD : Hid (∀ W, Calls Try.prog 43 #[.agg #[.string (ba l), .int .i64 s]] W fun r w' => ∃ (f : Int) (ga : Option Addr) (m gc E : Nat) (t : Bool), r = .returned (.tuple #[.agg #[.int .i64 f, .slice ga m gc, .int .i64 E, .bool t], .int .i64 e]) ∧ Below W.heap.size W w') := fun W => (HRD W).mono (fun _ _ ⟨f, ga, m, gc, E, t, h1, h2, _⟩ => ⟨f, ga, m, gc, E, t, h1, h2⟩)
  clear he
  go_enter Try.func13, Try.ntmps13
  go_wp2_with fail
  refine (HRD.out _).mono ?_
  rintro r w1 ⟨f, ga, m, gc, E, t, rfl, b1⟩
  have HB : Hid (Below w.heap.size w w1) := ((Below.refl _ w).alloc (Nat.le_refl _) _).trans (b1.mono (by simp))
  clear HRD b1
  go_wp2_with fail
  go_ret
  exact ⟨rfl, HB.out.alloc HB.out.size _⟩

set_option maxHeartbeats 2000000 in
theorem diskSynced_any (l : List UInt8) (w : World) (hl : l.length ≤ 100000) :
    Calls Try.prog 45 #[.string (ba l)] w fun e w' => e = .returned (.agg #[.string (ba l), .int .i64 (l.length : Int)]) ∧ Below w.heap.size w w' := by
  obtain ⟨ll, hll⟩ : ∃ x, x = l.length := ⟨_, rfl⟩
  have hsz : (ba l).size = ll := by rw [ba_size, hll]
  have HCL : Hid (∀ W, Calls Try.prog 50 #[.string (ba l)] W fun e w' => e = .returned (.string (ba l)) ∧ Below W.heap.size W w') := fun W => strClone_any l W hl
  have HW : Hid (ll = l.length) := hll
  rw [← hll]
  clear hll hl
  go_enter Try.func45, Try.ntmps45
  go_wp2_with fail
  refine (HCL.out _).mono ?_
  rintro r w1 ⟨rfl, b1⟩
  have K0 := Blk.new w #[.string ⟨#[]⟩, .int .i64 0] 39
  have K1 := K0.below b1 K0.lt
  have HB : Hid (Below w.heap.size w w1) := ((Below.refl _ w).alloc (Nat.le_refl _) _).trans (b1.mono (by simp))
  have z0 := K1.cell (j := 0) (u := .string ⟨#[]⟩) rfl
  have z1 := K1.cell (j := 1) (u := .int .i64 0) rfl
  have zf := fun j => K1.free j
  have K2 := (K1.set 0 (.string (ba l))).set 1 (.int .i64 (ll : Int))
  have y0 := K2.cell (j := 0) (u := .string (ba l)) rfl
  have y1 := K2.cell (j := 1) (u := .int .i64 (ll : Int)) rfl
  clear HCL b1 K0 K1 K2
  go_wp2_with fail
  exact bodyPost_ret (v := .agg #[.string (ba l), .int .i64 (ll : Int)]) (by simp [results, Try.results45, go_sem, y0, y1]) rfl ⟨rfl, (HB.out.setCell (p := ⟨w.heap.size, 0, none⟩) (Nat.le_refl _) _).setCell (p := ⟨w.heap.size, 1, none⟩) (Nat.le_refl _) _⟩

/-- what Sync answers -/
def syE (l : List UInt8) (s : Int) : Int := if diskE l s = 0 then (if dEnd l < l.length then 4 else 0) else diskE l s

set_option maxHeartbeats 4000000 in
theorem diskSync_any (l : List UInt8) (s : Int) (w : World) :
    Calls Try.prog 18 #[.agg #[.string (ba l), .int .i64 s]] w fun e w' => ∃ (X : ByteArray) (N : Int), e = .returned (.tuple #[.agg #[.string X, .int .i64 N], .int .i64 (syE l s)]) ∧ Below w.heap.size w w' ∧ (syE l s = 0 → X = ba l ∧ N = l.length) ∧ (¬ syE l s = 0 → X = ⟨#[]⟩ ∧ N = 0) := by
  obtain ⟨e, he⟩ : ∃ e, e = diskE l s := ⟨_, rfl⟩
  obtain ⟨o, ho⟩ : ∃ e, e = syE l s := ⟨_, rfl⟩
  have H1 : Hid (¬ e = 0 → o = e) := fun h => by rw [ho]; unfold syE; rw [← he, if_neg h]
  have H2 : Hid (e = 0 → dEnd l < l.length → o = 4) := fun h h2 => by rw [ho]; unfold syE; rw [← he, if_pos h, if_pos h2]
  have H3 : Hid (e = 0 → ¬ dEnd l < l.length → o = 0 ∧ l.length ≤ 100000) := fun h h2 => by
    refine ⟨by rw [ho]; unfold syE; rw [← he, if_pos h, if_neg h2], ?_⟩
    rw [he] at h
    have := (diskE_zero.1 h).1
    omega
  have HRD : Hid (∀ W, Calls Try.prog 43 #[.agg #[.string (ba l), .int .i64 s]] W fun r w' => ∃ (f : Int) (ga : Option Addr) (m gc E : Nat) (t : Bool), r = .returned (.tuple #[.agg #[.int .i64 f, .slice ga m gc, .int .i64 E, .bool t], .int .i64 e]) ∧ Below W.heap.size W w' ∧ (e = 0 → t = decide (dEnd l < l.length))) := fun W => by
    rw [he]; exact (rd_any l s W).mono (fun _ _ ⟨f, ga, m, gc, E, t, h1, h2, h3⟩ => ⟨f, ga, m, gc, E, t, h1, h2, fun h => (h3 h).2.2.2.1⟩)
  rw [← ho]
  clear ho he
  go_enter Try.func18, Try.ntmps18
  go_wp2_with fail
  refine (HRD.out _).mono ?_
  rintro r w1 ⟨f, ga, m, gc, E, t, rfl, b1, ht⟩
  have bb : Below w.heap.size w ((w.alloc (.cells #[.string (ba l), .int .i64 s] 39)).alloc (.cells #[.string ⟨#[]⟩, .int .i64 0] 39)) := ((Below.refl _ w).alloc (Nat.le_refl _) _).alloc (by simp) _
  have K0 := Blk.new (w.alloc (.cells #[.string (ba l), .int .i64 s] 39)) #[.string ⟨#[]⟩, .int .i64 0] 39
  rw [World.size_alloc] at K0
  have A0 := (Blk.new w #[.string (ba l), .int .i64 s] 39).alloc (.cells #[.string ⟨#[]⟩, .int .i64 0] 39)
  obtain ⟨W2, hW2⟩ : ∃ W2, W2 = w1.alloc (.cells #[.int .i64 f, .slice ga m gc, .int .i64 E, .bool t] 81) := ⟨_, rfl⟩
  have K2 : Blk W2 (w.heap.size + 1) #[.string ⟨#[]⟩, .int .i64 0] 39 := by rw [hW2]; exact (K0.below b1 K0.lt).alloc _
  have A2 : Blk W2 w.heap.size #[.string (ba l), .int .i64 s] 39 := by rw [hW2]; exact (A0.below b1 A0.lt).alloc _
  have C2 : Blk W2 w1.heap.size #[.int .i64 f, .slice ga m gc, .int .i64 E, .bool t] 81 := Blk.newE hW2
  have HB : Hid (Below w.heap.size w W2) := by
    have h1 : Below w.heap.size w w1 := bb.trans (b1.mono bb.size)
    rw [hW2]; exact h1.alloc h1.size _
  have HW2 : Hid (W2 = w1.alloc (.cells #[.int .i64 f, .slice ga m gc, .int .i64 E, .bool t] 81)) := hW2
  have z0 := K2.cell (j := 0) (u := .string ⟨#[]⟩) rfl
  have z1 := K2.cell (j := 1) (u := .int .i64 0) rfl
  have zf := fun j => K2.free j
  have a0 := A2.cell (j := 0) (u := .string (ba l)) rfl
  have q3 := C2.cell (j := 3) (u := .bool t) rfl
  have HK2 : Hid (Blk W2 (w.heap.size + 1) #[.string ⟨#[]⟩, .int .i64 0] 39) := K2
  have HT : Hid (e = 0 → t = decide (dEnd l < l.length)) := ht
  -- nothing is answered
  have NO : Hid (∀ V : World, V = (W2.setCell ⟨w.heap.size + 1, 0, none⟩ (.string ⟨#[]⟩)).setCell ⟨w.heap.size + 1, 1, none⟩ (.int .i64 0) → Below w.heap.size w V ∧ Blk V (w.heap.size + 1) #[.string ⟨#[]⟩, .int .i64 0] 39) := fun V hV => by
    rw [hV]; exact ⟨(HB.out.setCell (p := ⟨w.heap.size + 1, 0, none⟩) (Nat.le_succ _) _).setCell (p := ⟨w.heap.size + 1, 1, none⟩) (Nat.le_succ _) _, (HK2.out.set 0 _).set 1 _⟩
  clear HRD b1 bb K0 A0 K2 A2 C2 hW2 ht
  by_cases h : e = 0
  · subst h
    have htt := HT.out rfl
    cases htb : t with
    | true =>
      have ho := H2.out rfl (by rw [htb] at htt; exact of_decide_eq_true htt.symm)
      subst ho
      rw [htb] at HW2 q3
      clear htt htb H1 H2 H3 HT
      rw [HW2.out] at z0 z1 zf a0 q3
      go_wp2_with fail
      rw [← HW2.out]
      clear HW2
      obtain ⟨hB, hK⟩ := NO.out _ rfl
      have y0 := hK.cell (j := 0) (u := .string ⟨#[]⟩) rfl
      have y1 := hK.cell (j := 1) (u := .int .i64 0) rfl
      exact bodyPost_ret (v := .tuple #[.agg #[.string ⟨#[]⟩, .int .i64 0], .int .i64 4]) (by simp [results, Try.results18, go_sem, y0, y1]) rfl ⟨⟨#[]⟩, 0, rfl, hB, fun h => absurd h (by decide), fun _ => ⟨rfl, rfl⟩⟩
    | false =>
      obtain ⟨ho, hll⟩ := H3.out rfl (by rw [htb] at htt; exact of_decide_eq_false htt.symm)
      subst ho
      rw [htb] at HW2 q3
      have HSY : Hid (∀ W, Calls Try.prog 45 #[.string (ba l)] W fun e w' => e = .returned (.agg #[.string (ba l), .int .i64 (l.length : Int)]) ∧ Below W.heap.size W w') := fun W => diskSynced_any l W hll
      clear htt htb H1 H2 H3 HT hll
      rw [HW2.out] at z0 z1 zf a0 q3
      go_wp2_with fail
      rw [← HW2.out]
      clear HW2
      refine (HSY.out _).mono ?_
      rintro r w3 ⟨rfl, b3⟩
      have K3 := HK2.out.below b3 HK2.out.lt
      have x0 := K3.cell (j := 0) (u := .string ⟨#[]⟩) rfl
      have x1 := K3.cell (j := 1) (u := .int .i64 0) rfl
      have xf := fun j => K3.free j
      have hB := ((HB.out.trans (b3.mono HB.out.size)).setCell (p := ⟨w.heap.size + 1, 0, none⟩) (Nat.le_succ _) (.string (ba l))).setCell (p := ⟨w.heap.size + 1, 1, none⟩) (Nat.le_succ _) (.int .i64 (l.length : Int))
      have hK := (K3.set 0 (.string (ba l))).set 1 (.int .i64 (l.length : Int))
      have y0 := hK.cell (j := 0) (u := .string (ba l)) rfl
      have y1 := hK.cell (j := 1) (u := .int .i64 (l.length : Int)) rfl
      clear HSY NO
      go_wp2_with fail
      exact bodyPost_ret (v := .tuple #[.agg #[.string (ba l), .int .i64 (l.length : Int)], .int .i64 0]) (by simp [results, Try.results18, go_sem, y0, y1]) rfl ⟨ba l, _, rfl, hB, rfl, rfl⟩
  · have ho := H1.out h
    subst ho
    have heb : (o != 0) = true := by simpa using h
    clear H1 H2 H3 HT
    rw [HW2.out] at z0 z1 zf a0 q3
    go_wp2_with fail
    rw [← HW2.out]
    clear HW2
    obtain ⟨hB, hK⟩ := NO.out _ rfl
    have y0 := hK.cell (j := 0) (u := .string ⟨#[]⟩) rfl
    have y1 := hK.cell (j := 1) (u := .int .i64 0) rfl
    exact bodyPost_ret (v := .tuple #[.agg #[.string ⟨#[]⟩, .int .i64 0], .int .i64 o]) (by simp [results, Try.results18, go_sem, y0, y1]) rfl ⟨⟨#[]⟩, 0, rfl, hB, fun h' => absurd h' h, fun _ => ⟨rfl, rfl⟩⟩

end Go.Proofs.Ytnpaejknoipicad

namespace Go.Proofs.Ytnpaejknoipicad
open Go.RowKit

theorem ba_app (a b : List UInt8) : ba a ++ ba b = ba (a ++ b) := by
  apply ByteArray.ext
  rw [ByteArray.data_append]
  apply Array.toList_inj.1
  rw [Array.toList_append, ba_data, ba_data, ba_data]
theorem recE_len {n : Int} {g : List Fr} (h : recE n g = 0) : (recB n g).length ≤ 253 := by
  have := (encG_len h).2
  rw [recB_len]; omega

set_option maxHeartbeats 8000000 in
set_option maxRecDepth 100000 in
theorem diskAppend_any (S : Nat → Prop) (l : List UInt8) (s n : Int) (g : List Fr) (gv : Value) (w : World) (hg : FrsIn S w gv g) :
    Calls Try.prog 17 #[.agg #[.string (ba l), .int .i64 s], .int .i64 n, .agg #[gv]] w fun e w' => ∃ (X : ByteArray) (N : Int), e = .returned (.tuple #[.agg #[.string X, .int .i64 N], .int .i64 (appE l s n g)]) ∧ Below w.heap.size w w' ∧ (appE l s n g = 0 → X = ba (l ++ recB n g) ∧ N = s) ∧ (¬ appE l s n g = 0 → X = ⟨#[]⟩ ∧ N = 0) := by
  obtain ⟨ga, gc, eg, _, _⟩ := hg.len
  obtain ⟨gm, hgm⟩ : ∃ m, m = g.length := ⟨_, rfl⟩
  rw [← hgm] at eg
  subst eg
  obtain ⟨e, he⟩ : ∃ e, e = diskE l s := ⟨_, rfl⟩
  obtain ⟨o, ho⟩ : ∃ e, e = appE l s n g := ⟨_, rfl⟩
  obtain ⟨r, hr⟩ : ∃ r, r = recE n g := ⟨_, rfl⟩
  obtain ⟨R, hR⟩ : ∃ R, R = recB n g := ⟨_, rfl⟩
  obtain ⟨ll, hll⟩ : ∃ x, x = l.length := ⟨_, rfl⟩
  obtain ⟨rl, hrl⟩ : ∃ x, x = R.length := ⟨_, rfl⟩
  have hsl : (ba l).size = ll := by rw [ba_size, hll]
  have hsr : (ba R).size = rl := by rw [ba_size, hrl]
  have H1 : Hid (¬ e = 0 → o = e) := fun h => by rw [ho]; unfold appE; rw [← he, if_neg h]
  have H2 : Hid (e = 0 → ¬ r = 0 → o = r) := fun h h2 => by rw [ho]; unfold appE; rw [← he, if_pos h, ← hr, if_neg h2]
  have H3 : Hid (e = 0 → r = 0 → (dEnd l < l.length ∨ goesB l n = false) → o = 4) := fun h h2 h3 => by rw [ho]; unfold appE; rw [← he, if_pos h, ← hr, if_pos h2, if_pos h3]
  have H4 : Hid (e = 0 → r = 0 → ¬ (dEnd l < l.length ∨ goesB l n = false) → 2000 < ll + rl → o = 2) := fun h h2 h3 h4 => by rw [ho]; unfold appE; rw [← he, if_pos h, ← hr, if_pos h2, if_neg h3, ← hR, ← hll, ← hrl, if_pos h4]
  have H5 : Hid (e = 0 → r = 0 → ¬ (dEnd l < l.length ∨ goesB l n = false) → ¬ 2000 < ll + rl → o = 0) := fun h h2 h3 h4 => by rw [ho]; unfold appE; rw [← he, if_pos h, ← hr, if_pos h2, if_neg h3, ← hR, ← hll, ← hrl, if_neg h4]
  have H6 : Hid (e = 0 → ll ≤ 2000 ∧ 0 ≤ dFirst l ∧ dFirst l ≤ 100000 ∧ (dGs l).length ≤ 2000 ∧ (dGs l).length = (recs l).length) := fun h => by
    rw [he] at h
    have h1 := (diskE_zero.1 h).1
    have h2 := dGs_right h
    have h3 := endK_ge (recs l) _ (Nat.le_refl _)
    have h4 := recs_le l (Nat.le_refl _)
    have h5 := dGs_length l
    omega
  have H7 : Hid (r = 0 → rl ≤ 253) := fun h => by rw [hr] at h; rw [hrl, hR]; exact recE_len h
  have HRD : Hid (∀ W, Calls Try.prog 43 #[.agg #[.string (ba l), .int .i64 s]] W fun r w' => ∃ (f : Int) (ga : Option Addr) (m gc E : Nat) (t : Bool), r = .returned (.tuple #[.agg #[.int .i64 f, .slice ga m gc, .int .i64 E, .bool t], .int .i64 e]) ∧ Below W.heap.size W w' ∧ (e = 0 → f = dFirst l ∧ m = (dGs l).length ∧ t = decide (dEnd l < l.length))) := fun W => by
    rw [he]; exact (rd_any l s W).mono (fun _ _ ⟨f, ga, m, gc, E, t, h1, h2, h3⟩ => ⟨f, ga, m, gc, E, t, h1, h2, fun h => ⟨(h3 h).1, (h3 h).2.1, (h3 h).2.2.2.1⟩⟩)
  have HEN : Hid (∀ V : World, Below w.heap.size w V → Calls Try.prog 16 #[.int .i64 n, .agg #[.slice ga gm gc]] V fun q w' => q = .returned (.tuple #[.string (if r = 0 then ba R else ⟨#[]⟩), .int .i64 r]) ∧ Below V.heap.size V w') := fun V hV => by
    rw [hr, hR]; exact diskEncode_any S n g _ V (hg.below hV)
  have HAR : Hid (ba l ++ ba R = ba (l ++ recB n g)) := by show _ = _; rw [ba_app, hR]
  rw [← ho]
  clear ho he hr hR hll hrl hg hgm
  go_enter Try.func17, Try.ntmps17
  go_wp2_with fail
  refine (HRD.out _).mono ?_
  rintro q w1 ⟨f, xa, m, xc, E, t, rfl, b1, hc⟩
  obtain ⟨V1, hV1⟩ : ∃ V, V = w.alloc (.cells #[.string (ba l), .int .i64 s] 39) := ⟨_, rfl⟩
  obtain ⟨V2, hV2⟩ : ∃ V, V = V1.alloc (.cells #[.slice ga gm gc] 25) := ⟨_, rfl⟩
  obtain ⟨V3, hV3⟩ : ∃ V, V = V2.alloc (.cells #[.string ⟨#[]⟩, .int .i64 0] 39) := ⟨_, rfl⟩
  rw [← hV1, ← hV2, ← hV3] at b1
  have s1 : V1.heap.size = w.heap.size + 1 := by rw [hV1, World.size_alloc]
  have s2 : V2.heap.size = w.heap.size + 1 + 1 := by rw [hV2, World.size_alloc, s1]
  have s3 : V3.heap.size = w.heap.size + 1 + 1 + 1 := by rw [hV3, World.size_alloc, s2]
  have kA : Blk V3 w.heap.size #[.string (ba l), .int .i64 s] 39 := by rw [hV3, hV2]; exact ((Blk.newE hV1).alloc _).alloc _
  have kG : Blk V3 (w.heap.size + 1) #[.slice ga gm gc] 25 := by rw [hV3]; exact (s1 ▸ Blk.newE hV2 : Blk V2 (w.heap.size + 1) _ _).alloc _
  have kR : Blk V3 (w.heap.size + 1 + 1) #[.string ⟨#[]⟩, .int .i64 0] 39 := s2 ▸ Blk.newE hV3
  have bV : Below w.heap.size w V3 := by rw [hV3, hV2, hV1]; exact (((Below.refl _ w).alloc (Nat.le_refl _) _).alloc (by simp) _).alloc (by simp; omega) _
  obtain ⟨W2, hW2⟩ : ∃ W2, W2 = w1.alloc (.cells #[.int .i64 f, .slice xa m xc, .int .i64 E, .bool t] 81) := ⟨_, rfl⟩
  have HW2 : Hid (W2 = w1.alloc (.cells #[.int .i64 f, .slice xa m xc, .int .i64 E, .bool t] 81)) := hW2
  have hw1 : Below w.heap.size w w1 := bV.trans (b1.mono bV.size)
  have HA : Hid (Blk W2 w.heap.size #[.string (ba l), .int .i64 s] 39) := by show Blk _ _ _ _; rw [hW2]; exact (kA.below b1 kA.lt).alloc _
  have HG : Hid (Blk W2 (w.heap.size + 1) #[.slice ga gm gc] 25) := by show Blk _ _ _ _; rw [hW2]; exact (kG.below b1 kG.lt).alloc _
  have HR : Hid (Blk W2 (w.heap.size + 1 + 1) #[.string ⟨#[]⟩, .int .i64 0] 39) := by show Blk _ _ _ _; rw [hW2]; exact (kR.below b1 kR.lt).alloc _
  have HC : Hid (Blk W2 w1.heap.size (rdC f E (.slice xa m xc) t) 81) := Blk.newE hW2
  have HB : Hid (Below w.heap.size w W2) := by show Below _ _ _; rw [hW2]; exact hw1.alloc hw1.size _
  have HCC : Hid (e = 0 → f = dFirst l ∧ m = (dGs l).length ∧ t = decide (dEnd l < l.length)) := hc
  -- nothing is answered
  have NO : Hid (∀ U V : World, Below W2.heap.size W2 U → V = (U.setCell ⟨w.heap.size + 1 + 1, 0, none⟩ (.string ⟨#[]⟩)).setCell ⟨w.heap.size + 1 + 1, 1, none⟩ (.int .i64 0) → Below w.heap.size w V ∧ Blk V (w.heap.size + 1 + 1) #[.string ⟨#[]⟩, .int .i64 0] 39) := fun U V hU hV => by
    rw [hV]; exact ⟨((HB.out.trans (hU.mono HB.out.size)).setCell (p := ⟨w.heap.size + 1 + 1, 0, none⟩) (by show w.heap.size ≤ w.heap.size + 1 + 1; omega) _).setCell (p := ⟨w.heap.size + 1 + 1, 1, none⟩) (by show w.heap.size ≤ w.heap.size + 1 + 1; omega) _, ((HR.out.below hU HR.out.lt).set 0 _).set 1 _⟩
  have z0 := HR.out.cell (j := 0) (u := .string ⟨#[]⟩) rfl
  have z1 := HR.out.cell (j := 1) (u := .int .i64 0) rfl
  have zf := fun j => HR.out.free j
  have g0 := HG.out.cell (j := 0) (u := .slice ga gm gc) rfl
  rw [HW2.out] at z0 z1 zf g0
  clear HRD b1 hc hV1 hV2 hV3 s1 s2 s3 kA kG kR bV hW2 hw1
  by_cases h : e = 0
  · obtain ⟨c1, c2, c3⟩ := HCC.out h
    obtain ⟨h61, h62, h63, h64, h65⟩ := H6.out h
    have he := h
    subst h
    have HEN2 : Hid (Calls Try.prog 16 #[.int .i64 n, .agg #[.slice ga gm gc]] (w1.alloc (.cells #[.int .i64 f, .slice xa m xc, .int .i64 E, .bool t] 81)) fun q w' => q = .returned (.tuple #[.string (if r = 0 then ba R else ⟨#[]⟩), .int .i64 r]) ∧ Below W2.heap.size W2 w') := by
      have := HEN.out W2 HB.out
      show Calls _ _ _ _ _
      rw [HW2.out] at this ⊢; exact this
    have HC3 : Hid (t = decide (dEnd l < l.length) ∧ f = dFirst l ∧ m = (recs l).length) := ⟨c3, c1, c2.trans h65⟩
    have hfb : 0 ≤ f ∧ f ≤ 100000 := by omega
    have hmb : m ≤ 2000 := by omega
    clear HEN HCC H6 c1 c2 c3 h62 h63 h64 h65
    go_wp2_with fail
    refine HEN2.out.mono ?_
    rintro q w3 ⟨rfl, b3⟩
    have hR3 := HR.out.below b3 HR.out.lt
    have hA3 := HA.out.below b3 HA.out.lt
    have hC3 := HC.out.below b3 HC.out.lt
    have z0' := hR3.cell (j := 0) (u := .string ⟨#[]⟩) rfl
    have z1' := hR3.cell (j := 1) (u := .int .i64 0) rfl
    have zf' := fun j => hR3.free j
    have a0 := hA3.cell (j := 0) (u := .string (ba l)) rfl
    have a1 := hA3.cell (j := 1) (u := .int .i64 s) rfl
    have q3 := hC3.cell (j := 3) (u := .bool t) rfl
    have HB3 : Hid (Below W2.heap.size W2 w3) := b3
    have HCB : Hid (Blk w3 w1.heap.size (rdC f E (.slice xa m xc) t) 81) := hC3
    have HNO3 : Hid (∀ U V : World, Below w3.heap.size w3 U → V = (U.setCell ⟨w.heap.size + 1 + 1, 0, none⟩ (.string ⟨#[]⟩)).setCell ⟨w.heap.size + 1 + 1, 1, none⟩ (.int .i64 0) → Below w.heap.size w V ∧ V.cell? ⟨w.heap.size + 1 + 1, 0, none⟩ = some (.string ⟨#[]⟩) ∧ V.cell? ⟨w.heap.size + 1 + 1, 1, none⟩ = some (.int .i64 0)) := fun U V hU hV => by
      obtain ⟨h1, h2⟩ := NO.out U V (b3.trans (hU.mono b3.size)) hV
      exact ⟨h1, h2.cell (j := 0) rfl, h2.cell (j := 1) rfl⟩
    have HRR : Hid (Blk w3 (w.heap.size + 1 + 1) #[.string ⟨#[]⟩, .int .i64 0] 39) := hR3
    have HAA : Hid (Blk w3 w.heap.size #[.string (ba l), .int .i64 s] 39) := hA3
    clear hR3 hA3 hC3 b3 z0 z1 zf g0 HEN2 NO HW2 HR HA HC HG
    by_cases hr : r = 0
    · subst hr
      rw [if_pos rfl]
      have hrl := H7.out (by first | rfl | trivial)
      cases htb : t with
      | true =>
        have ho := H3.out (by first | rfl | trivial) (by first | rfl | trivial) (.inl (by have := HC3.out.1; rw [htb] at this; exact of_decide_eq_true this.symm))
        subst ho
        rw [htb] at q3
        clear H1 H2 H3 H4 H5 H7 HC3 htb
        go_wp2_with fail
        obtain ⟨hB, y0, y1⟩ := HNO3.out _ _ (Below.refl _ _) rfl
        exact bodyPost_ret (v := .tuple #[.agg #[.string ⟨#[]⟩, .int .i64 0], .int .i64 4]) (by simp [results, Try.results17, go_sem, y0, y1]) rfl ⟨⟨#[]⟩, 0, rfl, hB, fun h => absurd h (by decide), fun _ => ⟨rfl, rfl⟩⟩
      | false =>
        have hnt : ¬ dEnd l < l.length := by have := HC3.out.1; rw [htb] at this; exact of_decide_eq_false this.symm
        have hgo : (decide (m = 0) || decide (n = f + (m : Int))) = goesB l n := by unfold goesB; rw [HC3.out.2.1, HC3.out.2.2]
        have HGO : Hid (Calls Try.prog 49 #[.pointer (some ⟨w1.heap.size, 0, none⟩), .int .i64 n] w3 fun e w' => e = .returned (.bool (goesB l n)) ∧ Below w3.heap.size w3 w') := by
          have := rdGoes_any w1.heap.size m f n E xa xc t w3 HCB.out hfb hmb
          rw [hgo] at this; exact this
        rw [htb] at q3
        obtain ⟨G, hG⟩ : ∃ G, G = goesB l n := ⟨_, rfl⟩
        rw [← hG] at HGO
        have HNT : Hid (¬ dEnd l < l.length ∧ G = goesB l n) := ⟨hnt, hG⟩
        clear hnt hgo hG HC3 htb
        cases hGb : G with
        | false =>
          have ho := H3.out (by first | rfl | trivial) (by first | rfl | trivial) (.inr (by rw [← HNT.out.2, hGb]))
          subst ho
          rw [hGb] at HGO
          clear H1 H2 H3 H4 H5 H7 HNT hGb
          go_wp2_with fail
          refine HGO.out.mono ?_
          rintro q w4 ⟨rfl, b4⟩
          have hR4 := HRR.out.below b4 HRR.out.lt
          have hA4 := HAA.out.below b4 HAA.out.lt
          have x0 := hR4.cell (j := 0) (u := .string ⟨#[]⟩) rfl
          have x1 := hR4.cell (j := 1) (u := .int .i64 0) rfl
          have xf := fun j => hR4.free j
          have p0 := hA4.cell (j := 0) (u := .string (ba l)) rfl
          have p1 := hA4.cell (j := 1) (u := .int .i64 s) rfl
          have HB4 : Hid (Below w3.heap.size w3 w4) := b4
          have HR4 : Hid (Blk w4 (w.heap.size + 1 + 1) #[.string ⟨#[]⟩, .int .i64 0] 39) := hR4
          clear hR4 hA4 b4 HGO z0' z1' zf' a0 a1 q3 HRR HAA HCB
          go_wp2_with fail
          obtain ⟨hB, y0, y1⟩ := HNO3.out _ _ HB4.out rfl
          exact bodyPost_ret (v := .tuple #[.agg #[.string ⟨#[]⟩, .int .i64 0], .int .i64 4]) (by simp [results, Try.results17, go_sem, y0, y1]) rfl ⟨⟨#[]⟩, 0, rfl, hB, fun h => absurd h (by decide), fun _ => ⟨rfl, rfl⟩⟩
        | true =>
          have hno : ¬ (dEnd l < l.length ∨ goesB l n = false) := by
            rintro (h | h)
            · exact HNT.out.1 h
            · rw [← HNT.out.2, hGb] at h; cases h
          rw [hGb] at HGO
          by_cases hbig : 2000 < ll + rl
          · have ho := H4.out (by first | rfl | trivial) (by first | rfl | trivial) hno hbig
            subst ho
            have hbi : (2000 : Int) < (ll : Int) + (rl : Int) := by clear H1 H2 H3 H4 H5 H7 HNT; omega
            have hwr : wrap64 ((ll : Int) + (rl : Int)) = (ll : Int) + (rl : Int) := by unfold wrap64; omega
            clear H1 H2 H3 H4 H5 H7 HNT hGb hno hbig
            go_wp2_with fail
            refine HGO.out.mono ?_
            rintro q w4 ⟨rfl, b4⟩
            have hR4 := HRR.out.below b4 HRR.out.lt
            have hA4 := HAA.out.below b4 HAA.out.lt
            have x0 := hR4.cell (j := 0) (u := .string ⟨#[]⟩) rfl
            have x1 := hR4.cell (j := 1) (u := .int .i64 0) rfl
            have xf := fun j => hR4.free j
            have p0 := hA4.cell (j := 0) (u := .string (ba l)) rfl
            have p1 := hA4.cell (j := 1) (u := .int .i64 s) rfl
            have HB4 : Hid (Below w3.heap.size w3 w4) := b4
            have HR4 : Hid (Blk w4 (w.heap.size + 1 + 1) #[.string ⟨#[]⟩, .int .i64 0] 39) := hR4
            clear hR4 hA4 b4 HGO z0' z1' zf' a0 a1 q3 HRR HAA HCB
            go_wp2_with fail
            obtain ⟨hB, y0, y1⟩ := HNO3.out _ _ HB4.out rfl
            exact bodyPost_ret (v := .tuple #[.agg #[.string ⟨#[]⟩, .int .i64 0], .int .i64 2]) (by simp [results, Try.results17, go_sem, y0, y1]) rfl ⟨⟨#[]⟩, 0, rfl, hB, fun h => absurd h (by decide), fun _ => ⟨rfl, rfl⟩⟩
          · have ho := H5.out (by first | rfl | trivial) (by first | rfl | trivial) hno hbig
            subst ho
            have hbi : ¬ (2000 : Int) < (ll : Int) + (rl : Int) := by clear H1 H2 H3 H4 H5 H7 HNT; omega
            have hwr : wrap64 ((ll : Int) + (rl : Int)) = (ll : Int) + (rl : Int) := by unfold wrap64; omega
            clear H1 H2 H3 H4 H5 H7 HNT hGb hno hbig
            go_wp2_with fail
            refine HGO.out.mono ?_
            rintro q w4 ⟨rfl, b4⟩
            have hR4 := HRR.out.below b4 HRR.out.lt
            have hA4 := HAA.out.below b4 HAA.out.lt
            have x0 := hR4.cell (j := 0) (u := .string ⟨#[]⟩) rfl
            have x1 := hR4.cell (j := 1) (u := .int .i64 0) rfl
            have xf := fun j => hR4.free j
            have p0 := hA4.cell (j := 0) (u := .string (ba l)) rfl
            have p1 := hA4.cell (j := 1) (u := .int .i64 s) rfl
            have HB4 : Hid (Below w3.heap.size w3 w4) := b4
            have HR4 : Hid (Blk w4 (w.heap.size + 1 + 1) #[.string ⟨#[]⟩, .int .i64 0] 39) := hR4
            clear hR4 hA4 b4 HGO z0' z1' zf' a0 a1 q3 HRR HAA HCB
            go_wp2_with fail
            have K := (HR4.out.set 0 (.string (ba l ++ ba R))).set 1 (.int .i64 s)
            have y0 := K.cell (j := 0) (u := .string (ba l ++ ba R)) rfl
            have y1 := K.cell (j := 1) (u := .int .i64 s) rfl
            have hB := (((HB.out.trans (HB3.out.mono HB.out.size)).trans (HB4.out.mono (Nat.le_trans HB.out.size HB3.out.size))).setCell (p := ⟨w.heap.size + 1 + 1, 0, none⟩) (by show w.heap.size ≤ w.heap.size + 1 + 1; omega) (.string (ba l ++ ba R))).setCell (p := ⟨w.heap.size + 1 + 1, 1, none⟩) (by show w.heap.size ≤ w.heap.size + 1 + 1; omega) (.int .i64 s)
            exact bodyPost_ret (v := .tuple #[.agg #[.string (ba l ++ ba R), .int .i64 s], .int .i64 0]) (by simp [results, Try.results17, go_sem, y0, y1]) rfl ⟨_, _, rfl, hB, HAR.out, rfl⟩
    · have ho := H2.out (by first | rfl | trivial) hr
      subst ho
      rw [if_neg hr]
      have heb : (o != 0) = true := by simpa using hr
      clear H1 H2 H3 H4 H5 H7 HC3
      go_wp2_with fail
      obtain ⟨hB, y0, y1⟩ := HNO3.out _ _ (Below.refl _ _) rfl
      exact bodyPost_ret (v := .tuple #[.agg #[.string ⟨#[]⟩, .int .i64 0], .int .i64 o]) (by simp [results, Try.results17, go_sem, y0, y1]) rfl ⟨⟨#[]⟩, 0, rfl, hB, fun h' => absurd h' hr, fun _ => ⟨rfl, rfl⟩⟩
  · have ho := H1.out h
    subst ho
    have heb : (o != 0) = true := by simpa using h
    clear H1 H2 H3 H4 H5 H6 H7 HEN HCC
    go_wp2_with fail
    rw [← HW2.out]
    clear HW2
    obtain ⟨hB, hK⟩ := NO.out _ _ (Below.refl _ _) rfl
    have y0 := hK.cell (j := 0) (u := .string ⟨#[]⟩) rfl
    have y1 := hK.cell (j := 1) (u := .int .i64 0) rfl
    exact bodyPost_ret (v := .tuple #[.agg #[.string ⟨#[]⟩, .int .i64 0], .int .i64 o]) (by simp [results, Try.results17, go_sem, y0, y1]) rfl ⟨⟨#[]⟩, 0, rfl, hB, fun h' => absurd h' h, fun _ => ⟨rfl, rfl⟩⟩

end Go.Proofs.Ytnpaejknoipicad

namespace Go.Proofs.Ytnpaejknoipicad
open Go.RowKit

/-- what Crash answers; how much stays -/
def crE (l : List UInt8) (s keep : Int) : Int := if diskE l s = 0 then (if keep < 0 then 3 else 0) else diskE l s
def crN (l : List UInt8) (s keep : Int) : Nat := (s + min keep (l.length - s)).toNat

set_option maxHeartbeats 8000000 in
set_option maxRecDepth 100000 in
theorem diskCrash_any (l : List UInt8) (s keep : Int) (w : World) :
    Calls Try.prog 19 #[.agg #[.string (ba l), .int .i64 s], .int .i64 keep] w fun e w' => ∃ (X : ByteArray) (N : Int), e = .returned (.tuple #[.agg #[.string X, .int .i64 N], .int .i64 (crE l s keep)]) ∧ Below w.heap.size w w' ∧ (crE l s keep = 0 → X = ba (l.take (crN l s keep)) ∧ N = s) ∧ (¬ crE l s keep = 0 → X = ⟨#[]⟩ ∧ N = 0) := by
  obtain ⟨e, he⟩ : ∃ e, e = diskE l s := ⟨_, rfl⟩
  obtain ⟨o, ho⟩ : ∃ e, e = crE l s keep := ⟨_, rfl⟩
  obtain ⟨ll, hll⟩ : ∃ x, x = l.length := ⟨_, rfl⟩
  obtain ⟨k, hk⟩ : ∃ k, k = crN l s keep := ⟨_, rfl⟩
  obtain ⟨a, ha⟩ : ∃ a, a = l.take k := ⟨_, rfl⟩
  have hsl : (ba l).size = ll := by rw [ba_size, hll]
  have H1 : Hid (¬ e = 0 → o = e) := fun h => by rw [ho]; unfold crE; rw [← he, if_neg h]
  have H2 : Hid (e = 0 → keep < 0 → o = 3) := fun h h2 => by rw [ho]; unfold crE; rw [← he, if_pos h, if_pos h2]
  have H3 : Hid (e = 0 → 0 ≤ keep → o = 0 ∧ ll ≤ 2000 ∧ 0 ≤ s ∧ s ≤ ll ∧ k ≤ ll ∧ (k : Int) = s + min keep (ll - s)) := fun h h2 => by
    have h0 : diskE l s = 0 := by rw [← he]; exact h
    obtain ⟨h3, _, j, h4, h5⟩ := diskE_zero.1 h0
    have h6 := recs_le l h4
    refine ⟨by rw [ho]; unfold crE; rw [← he, if_pos h, if_neg (by omega)], by omega, by omega, by omega, ?_, ?_⟩
    · rw [hk]; unfold crN; rw [← hll]; omega
    · rw [hk]; unfold crN; rw [← hll]; omega
  have HCK : Hid (∀ W, Calls Try.prog 13 #[.agg #[.string (ba l), .int .i64 s]] W fun r w' => r = .returned (.int .i64 e) ∧ Below W.heap.size W w') := fun W => by
    rw [he]; exact diskCheck_any l s W
  have HCL : Hid (ll ≤ 2000 → ∀ W, Calls Try.prog 50 #[.string (ba a)] W fun e w' => e = .returned (.string (ba a)) ∧ Below W.heap.size W w') := fun h W => strClone_any a W (by rw [ha, List.length_take]; omega)
  have HEX : Hid ((ba l).extract 0 k = ba a) := by show _ = _; rw [ha, ba_take]
  have HAE : Hid (ba a = ba (l.take k)) := by rw [ha]; trivial
  rw [← ho, ← hk]
  clear ho he hk ha hll
  go_enter Try.func19, Try.ntmps19
  go_wp2_with fail
  refine (HCK.out _).mono ?_
  rintro q w1 ⟨rfl, b1⟩
  have bb : Below w.heap.size w ((w.alloc (.cells #[.string (ba l), .int .i64 s] 39)).alloc (.cells #[.string ⟨#[]⟩, .int .i64 0] 39)) := ((Below.refl _ w).alloc (Nat.le_refl _) _).alloc (by simp) _
  have K0 := Blk.new (w.alloc (.cells #[.string (ba l), .int .i64 s] 39)) #[.string ⟨#[]⟩, .int .i64 0] 39
  rw [World.size_alloc] at K0
  have A0 := (Blk.new w #[.string (ba l), .int .i64 s] 39).alloc (.cells #[.string ⟨#[]⟩, .int .i64 0] 39)
  have K2 := K0.below b1 K0.lt
  have A2 := A0.below b1 A0.lt
  have HB : Hid (Below w.heap.size w w1) := bb.trans (b1.mono bb.size)
  have z0 := K2.cell (j := 0) (u := .string ⟨#[]⟩) rfl
  have z1 := K2.cell (j := 1) (u := .int .i64 0) rfl
  have zf := fun j => K2.free j
  have a0 := A2.cell (j := 0) (u := .string (ba l)) rfl
  have a1 := A2.cell (j := 1) (u := .int .i64 s) rfl
  have HK2 : Hid (Blk w1 (w.heap.size + 1) #[.string ⟨#[]⟩, .int .i64 0] 39) := K2
  have HA2 : Hid (Blk w1 w.heap.size #[.string (ba l), .int .i64 s] 39) := A2
  have NO : Hid (∀ V : World, V = (w1.setCell ⟨w.heap.size + 1, 0, none⟩ (.string ⟨#[]⟩)).setCell ⟨w.heap.size + 1, 1, none⟩ (.int .i64 0) → Below w.heap.size w V ∧ Blk V (w.heap.size + 1) #[.string ⟨#[]⟩, .int .i64 0] 39) := fun V hV => by
    rw [hV]; exact ⟨(HB.out.setCell (p := ⟨w.heap.size + 1, 0, none⟩) (Nat.le_succ _) _).setCell (p := ⟨w.heap.size + 1, 1, none⟩) (Nat.le_succ _) _, (HK2.out.set 0 _).set 1 _⟩
  clear HCK b1 bb K0 A0 K2 A2
  by_cases h : e = 0
  · by_cases hk0 : keep < 0
    · have ho := H2.out h hk0
      subst h ho
      clear H1 H2 H3 HCL HEX HAE
      go_wp2_with fail
      obtain ⟨hB, hK⟩ := NO.out _ rfl
      have y0 := hK.cell (j := 0) (u := .string ⟨#[]⟩) rfl
      have y1 := hK.cell (j := 1) (u := .int .i64 0) rfl
      exact bodyPost_ret (v := .tuple #[.agg #[.string ⟨#[]⟩, .int .i64 0], .int .i64 3]) (by simp [results, Try.results19, go_sem, y0, y1]) rfl ⟨⟨#[]⟩, 0, rfl, hB, fun h => absurd h (by decide), fun _ => ⟨rfl, rfl⟩⟩
    · obtain ⟨ho, h3, h4, h5, h6, h7⟩ := H3.out h (by omega)
      have HCL2 := HCL.out h3
      have w1' : wrap64 ((ll : Int) - s) = (ll : Int) - s := by unfold wrap64; omega
      have w2' : wrap64 (s + if (ll : Int) - s < keep then (ll : Int) - s else keep) = (k : Int) := by
        rw [show (if (ll : Int) - s < keep then (ll : Int) - s else keep) = min keep ((ll : Int) - s) by split <;> omega, ← h7]
        unfold wrap64; omega
      have HF : Hid (ll ≤ 2000 ∧ 0 ≤ s ∧ s ≤ ll ∧ k ≤ ll) := ⟨h3, h4, h5, h6⟩
      subst h ho
      clear H1 H2 H3 HCL h3 h4 h5 h7 NO
      have HW : Hid (wrap64 (s + if (ll : Int) - s < keep then (ll : Int) - s else keep) = (k : Int)) := w2'
      have HCC : Hid (∀ W, Calls Try.prog 50 #[.string (ba a)] W fun e w' => e = .returned (.string (ba a)) ∧ Below W.heap.size W w') := HCL2
      clear w2' HCL2
      go_upto_region 7 with fail
      rw [HW.out]
      clear HW
      have hex : (ba l).extract 0 k = ba a := HEX.out
      have hki : (k : Int) ≤ (ll : Int) := by omega
      refine region_chainG (by kernel_rfl) (by kernel_rfl) [.quiet (.pointer (some ⟨w.heap.size, 0, none⟩)) 3, .quiet (.string (ba l)) 3, .quiet (.int .i64 (k : Int)) 3, .quiet (.string (ba a)) 3, .step 0, .quiet (.pointer (some ⟨w.heap.size, 1, none⟩)) 3, .quiet (.int .i64 s) 3, .step 1, .step 2, .quiet (.int .i64 0) 3] [4, 7, 8] (by kernel_rfl)
        (fun s' r w' => match s' with
          | 0 => Below w1.heap.size w1 w'
          | 1 => r 0 = .string (ba a) ∧ Below w1.heap.size w1 w'
          | 2 => r 1 = .agg #[.string (ba a), .int .i64 s] ∧ Below w1.heap.size w1 w'
          | _ => ∃ V, Below w1.heap.size w1 V ∧ w' = (V.setCell ⟨w.heap.size + 1, 0, none⟩ (.string (ba a))).setCell ⟨w.heap.size + 1, 1, none⟩ (.int .i64 s)
          ) ((Below.refl _ w1).drew) ?step ?fin
      case step =>
        intro i o ho a' w' s' r hI hfree hvals
        have KAA : Blk w' w.heap.size #[.string (ba l), .int .i64 s] 39 := by
          match s', hI with
          | 0, hI => exact HA2.out.below hI HA2.out.lt
          | 1, hI => exact HA2.out.below hI.2 HA2.out.lt
          | 2, hI => exact HA2.out.below hI.2 HA2.out.lt
          | n + 3, ⟨V, hI, hw⟩ => rw [hw]; exact ((HA2.out.below hI HA2.out.lt).other (a := ⟨w.heap.size + 1, 0, none⟩) (by show w.heap.size ≠ w.heap.size + 1; omega) _).other (a := ⟨w.heap.size + 1, 1, none⟩) (by show w.heap.size ≠ w.heap.size + 1; omega) _
        have y0 := KAA.cell (j := 0) (u := .string (ba l)) rfl
        have y1 := KAA.cell (j := 1) (u := .int .i64 s) rfl
        clear KAA
        match i, ho with
        | 0, ho =>
          simp at ho; subst ho
          have e2 : a'.eval (.tmp 2) = .pointer (some ⟨w.heap.size, 0, none⟩) := (hfree 2 (by kernel_rfl)).trans rfl
          show s' ≤ 3 → _
          intro hs
          refine .inl ⟨rfl, ?_⟩
          generalize a'.eval = ρ at *
          simp [execOp, go_sem, e2]
        | 1, ho =>
          simp at ho; subst ho
          have e28 : a'.eval (.tmp 28) = .pointer (some ⟨w.heap.size, 0, none⟩) := hvals 0 _ _ (by kernel_rfl) rfl rfl
          show s' ≤ 3 → _
          intro hs
          refine .inl ⟨rfl, ?_⟩
          generalize a'.eval = ρ at *
          simp [execOp, go_sem, e28, y0]
        | 2, ho =>
          simp at ho; subst ho
          have e7 : a'.eval (.tmp 7) = .int .i64 (k : Int) := (hfree 7 (by kernel_rfl)).trans rfl
          show s' ≤ 3 → _
          intro hs
          refine .inl ⟨rfl, ?_⟩
          generalize a'.eval = ρ at *
          simp [execOp, go_sem, e7]
        | 3, ho =>
          simp at ho; subst ho
          have e29 : a'.eval (.tmp 29) = .string (ba l) := hvals 1 _ _ (by kernel_rfl) rfl rfl
          have e30 : a'.eval (.tmp 30) = .int .i64 (k : Int) := hvals 2 _ _ (by kernel_rfl) rfl rfl
          show s' ≤ 3 → _
          intro hs
          refine .inl ⟨rfl, ?_⟩
          generalize a'.eval = ρ at *
          simp [execOp, go_sem, e29, e30, hex, hki, hsl]
        | 4, ho =>
          simp at ho; subst ho
          have e31 : a'.eval (.tmp 31) = .string (ba a) := hvals 3 _ _ (by kernel_rfl) rfl rfl
          show s' = 0 → _ ∧ Oper.wp _ _ _ _ _ _
          intro hs
          subst hs
          refine ⟨rfl, ?_⟩
          have hB : Below w1.heap.size w1 w' := hI
          have ef : a'.eval (.func 50) = .func (.func 50) #[] #[] := rfl
          refine oper_wp_call (f := 50) (args := #[.string (ba a)]) ?_ ?_
          · generalize a'.eval = ρ at *
            simp [execOp, go_sem, e31, ef]
          · refine (HCC.out w').mono ?_
            rintro e w'' ⟨rfl, hb1⟩
            exact ⟨_, rfl, _, rfl, updR_at _ _ _, hB.trans (hb1.mono hB.size)⟩
        | 5, ho =>
          simp at ho; subst ho
          have e2 : a'.eval (.tmp 2) = .pointer (some ⟨w.heap.size, 0, none⟩) := (hfree 2 (by kernel_rfl)).trans rfl
          show s' ≤ 3 → _
          intro hs
          refine .inl ⟨rfl, ?_⟩
          generalize a'.eval = ρ at *
          simp [execOp, go_sem, e2]
        | 6, ho =>
          simp at ho; subst ho
          have e33 : a'.eval (.tmp 33) = .pointer (some ⟨w.heap.size, 1, none⟩) := hvals 5 _ _ (by kernel_rfl) rfl rfl
          show s' ≤ 3 → _
          intro hs
          refine .inl ⟨rfl, ?_⟩
          generalize a'.eval = ρ at *
          simp [execOp, go_sem, e33, y1]
        | 7, ho =>
          simp at ho; subst ho
          have e32 : a'.eval (.tmp 32) = r 0 := hvals 4 _ _ (by kernel_rfl) rfl rfl
          have e34 : a'.eval (.tmp 34) = .int .i64 s := hvals 6 _ _ (by kernel_rfl) rfl rfl
          show s' = 1 → _ ∧ Oper.wp _ _ _ _ _ _
          intro hs
          subst hs
          refine ⟨rfl, ?_⟩
          obtain ⟨hr0, hB⟩ := hI
          rw [hr0] at e32
          refine oper_wp_ok (v := .agg #[.string (ba a), .int .i64 s]) (w' := w') ?_ ⟨_, rfl, updR_at _ _ _, hB⟩
          generalize a'.eval = ρ at *
          simp [execOp, go_sem, e32, e34]
        | 8, ho =>
          simp at ho; subst ho
          have e4 : a'.eval (.tmp 4) = .pointer (some ⟨w.heap.size + 1, 0, none⟩) := (hfree 4 (by kernel_rfl)).trans rfl
          have e35 : a'.eval (.tmp 35) = r 1 := hvals 7 _ _ (by kernel_rfl) rfl rfl
          show s' = 2 → _ ∧ Oper.wp _ _ _ _ _ _
          intro hs
          subst hs
          refine ⟨rfl, ?_⟩
          obtain ⟨hr1, hB⟩ := hI
          rw [hr1] at e35
          have hk := HK2.out.below hB HK2.out.lt
          have x0 := hk.cell (j := 0) (u := .string ⟨#[]⟩) rfl
          have x1 := hk.cell (j := 1) (u := .int .i64 0) rfl
          have xf := fun j => hk.free j
          refine oper_wp_skip (w' := (w'.setCell ⟨w.heap.size + 1, 0, none⟩ (.string (ba a))).setCell ⟨w.heap.size + 1, 1, none⟩ (.int .i64 s)) ?_ ⟨undef, rfl, w', hB, rfl⟩
          generalize a'.eval = ρ at *
          simp [execOp, go_sem, e4, e35, x0, x1, xf]
        | 9, ho =>
          simp at ho; subst ho
          have ec0 : a'.eval (.const (.int .i64 0)) = .int .i64 0 := rfl
          show s' ≤ 3 → _
          intro hs
          refine .inl ⟨rfl, ?_⟩
          generalize a'.eval = ρ at *
          simp [execOp, go_sem, ec0]
      case fin =>
        rintro r w7 ⟨V, hB, rfl⟩
        simp only [putC, Ck.out, Act.put, List.setIfInBounds_toArray, List.set_cons_succ, List.set_cons_zero]
        have hk := ((HK2.out.below hB HK2.out.lt).set 0 (.string (ba a))).set 1 (.int .i64 s)
        have q0 := hk.cell (j := 0) (u := .string (ba a)) rfl
        have q1 := hk.cell (j := 1) (u := .int .i64 s) rfl
        have hBB := ((HB.out.trans (hB.mono HB.out.size)).setCell (p := ⟨w.heap.size + 1, 0, none⟩) (Nat.le_succ _) (.string (ba a))).setCell (p := ⟨w.heap.size + 1, 1, none⟩) (Nat.le_succ _) (.int .i64 s)
        go_wp2_with fail
        all_goals exact bodyPost_ret (v := .tuple #[.agg #[.string (ba a), .int .i64 s], .int .i64 0]) (by simp [results, Try.results19, go_sem, q0, q1]) rfl ⟨_, _, rfl, hBB, HAE.out, rfl⟩
  · have ho := H1.out h
    subst ho
    have heb : (o != 0) = true := by simpa using h
    clear H1 H2 H3 HCL HEX HAE
    go_wp2_with fail
    obtain ⟨hB, hK⟩ := NO.out _ rfl
    have y0 := hK.cell (j := 0) (u := .string ⟨#[]⟩) rfl
    have y1 := hK.cell (j := 1) (u := .int .i64 0) rfl
    exact bodyPost_ret (v := .tuple #[.agg #[.string ⟨#[]⟩, .int .i64 0], .int .i64 o]) (by simp [results, Try.results19, go_sem, y0, y1]) rfl ⟨⟨#[]⟩, 0, rfl, hB, fun h' => absurd h' h, fun _ => ⟨rfl, rfl⟩⟩

end Go.Proofs.Ytnpaejknoipicad

namespace Go.Proofs.Ytnpaejknoipicad
open Go.RowKit

/-- what Check says of a store whose numbers and groups are right -/
theorem stchk_right {f : Int} {L : List (List Fr)} (h0 : 0 ≤ f) (h1 : f ≤ 100000) (hL : ∀ g ∈ L, gchk g = 0) : stchk f L [] = if fullB L then 2 else 0 := by
  unfold stchk
  rw [if_neg (by omega), if_neg (by omega)]
  have hg : goN (fun k => gchk (grAt L k)) L.length 0 = 0 := goN_all _ _ fun j _ hj => hL _ (by
    have hj' : j < L.length := by omega
    show grAt L j ∈ L
    unfold grAt
    rw [List.getElem?_eq_getElem hj']
    exact List.getElem_mem hj')
  unfold fullB
  by_cases h5 : 5 < L.length
  · rw [if_pos h5]; simp [h5]
  · rw [if_neg h5, if_pos hg]
    cases tooB L <;> simp [h5]

set_option maxHeartbeats 4000000 in
set_option maxRecDepth 100000 in
theorem withinLimits_any (S : Nat → Prop) (f : Int) (gv : Value) (L : List (List Fr)) (w : World) (hg : GrsIn S w gv L) (hS : ∀ g, S g → g < w.heap.size) (hL : L.length ≤ 1000) (hr : ∀ g ∈ L, gchk g = 0) (h0 : 0 ≤ f) (h1 : f + (L.length - 1 : Nat) ≤ 100000) :
    Calls Try.prog 44 #[.int .i64 f, gv] w fun e w' => ∃ gv', e = .returned (.agg #[.int .i64 (f + trimD L), gv', .slice none 0 0]) ∧ GrsIn S w' gv' (L.drop (trimD L)) ∧ Below w.heap.size w w' := by
  obtain ⟨n, hn⟩ : ∃ n, n = L.length := ⟨_, rfl⟩
  have HN : Hid (n = L.length) := hn
  have hn1 : n ≤ 1000 := by omega
  obtain ⟨M, hM⟩ : ∃ M, M = w.heap.size + 1 := ⟨_, rfl⟩
  have HMw : Hid (M = w.heap.size + 1) := hM
  have HS : Hid (∀ g, S g → g < w.heap.size) := hS
  have HR : Hid (∀ g ∈ L, gchk g = 0) := hr
  have HF0 : Hid (0 ≤ f ∧ f + (n - 1 : Nat) ≤ 100000) := ⟨h0, by rw [hn]; exact h1⟩
  have HG : Hid (GrsIn S w gv L) := hg
  obtain ⟨ga0, gc0, eg0, _, _⟩ := hg.len
  obtain ⟨m0, hm0⟩ : ∃ m, m = L.length := ⟨_, rfl⟩
  rw [← hm0] at eg0
  subst eg0
  clear hn hg hS hr h0 h1 hL hm0
  go_enter Try.func44, Try.ntmps44
  go_wp2_with fail
  obtain ⟨W1, hW1⟩ : ∃ W1, W1 = w.alloc (.cells #[.int .i64 0, .slice none 0 0, .slice none 0 0] 27) := ⟨_, rfl⟩
  obtain ⟨W2, hW2⟩ : ∃ W2, W2 = W1.alloc (.cells #[.int .i64 f, .slice ga0 m0 gc0, .slice none 0 0] 27) := ⟨_, rfl⟩
  have s1 : W1.heap.size = w.heap.size + 1 := by rw [hW1, World.size_alloc]
  have KR0 : Blk W2 w.heap.size #[.int .i64 0, .slice none 0 0, .slice none 0 0] 27 := by rw [hW2]; exact (Blk.newE hW1).alloc _
  have KM0 : Blk W2 M #[.int .i64 f, .slice ga0 m0 gc0, .slice none 0 0] 27 := by rw [hM]; exact s1 ▸ Blk.newE hW2
  have B2 : Below w.heap.size w W2 := by rw [hW2, hW1]; exact ((Below.refl _ w).alloc (Nat.le_refl _) _).alloc (by simp) _
  have HG2 : Hid (GrsIn S W2 (.slice ga0 m0 gc0) L) := HG.out.below B2
  have HKR0 : Hid (Blk W2 w.heap.size #[.int .i64 0, .slice none 0 0, .slice none 0 0] 27) := KR0
  have HKM0 : Hid (Blk W2 M #[.int .i64 f, .slice ga0 m0 gc0, .slice none 0 0] 27) := KM0
  have HB2 : Hid (Below w.heap.size w W2) := B2
  rw [← hW1, ← hW2, ← hM]
  clear hW1 hW2 s1 KR0 KM0 B2 hM HG
  go_loopw [] (fun wr => ∃ (k : Nat) (gk : Value), k ≤ n ∧ Hid (∀ j, j < k → fullB (L.drop j) = true) ∧ Hid (Blk wr M #[.int .i64 (f + k), gk, .slice none 0 0] 27) ∧ Hid (Blk wr w.heap.size #[.int .i64 0, .slice none 0 0, .slice none 0 0] 27) ∧ Hid (GrsIn S wr gk (L.drop k)) ∧ Hid (Below w.heap.size w wr))
    (fun wr => n - (intOf ((wr.cell? ⟨M, 0, none⟩).getD undef) - f).toNat)
  case atStart => exact ⟨0, _, Nat.zero_le _, (show ∀ j, _ → _ from fun j hj => absurd hj (Nat.not_lt_zero _)), by simpa [Hid] using HKM0.out, HKR0.out, by simpa [Hid] using HG2.out, HB2.out⟩
  case round =>
    obtain ⟨k, gk, hk, HF, KB, KR, GK, KP⟩ := hrel
    obtain ⟨N, hN⟩ : ∃ N, N = L.drop k := ⟨_, rfl⟩
    have HNK : Hid (N = L.drop k) := hN
    rw [← hN] at GK
    obtain ⟨q, hq⟩ : ∃ q, q = N.length := ⟨_, rfl⟩
    have HQ : Hid (q = N.length) := hq
    have HQN : Hid (q = n - k) := by show _ = _; rw [hq, hN, List.length_drop, HN.out]
    have hql : q ≤ 1000 := by have := HQN.out; omega
    obtain ⟨ga, gc, eg, hgl, hg63⟩ := GK.out.len
    rw [← hq] at eg hgl hg63
    have hkt : fullB N = true → 1 < q := fun h => by rw [hq]; exact fullB_len h
    have hk0 : 0 < k → k < n := fun h => by
      have := fullB_len (HF.out (k - 1) (by omega))
      rw [List.length_drop, ← HN.out] at this
      omega
    have hst : stchk (f + k) N [] = if fullB N then 2 else 0 := by
      refine stchk_right ?_ ?_ (fun g hg => HR.out g (by rw [hN] at hg; exact List.mem_of_mem_drop hg))
      · have := HF0.out; omega
      · have := HF0.out; by_cases h : 0 < k
        · have := hk0 h; omega
        · omega
    clear hN hq
    subst eg
    obtain ⟨k0, k1, k2⟩ := KB.out.three
    have f0 := KB.out.free 0
    have f1 := KB.out.free 1
    have hms : (intOf ((wr.cell? ⟨M, 0, none⟩).getD undef) - f).toNat = k := by rw [k0]; simp [intOf]; omega
    obtain ⟨E, hE⟩ : ∃ E, E = stchk (f + k) N [] := ⟨_, rfl⟩
    have HCK : Hid (Calls Try.prog 29 #[.agg #[.int .i64 (f + k), .slice ga q gc, .slice none 0 0]] wr fun e w' => e = .returned (.int .i64 E) ∧ Below wr.heap.size wr w') := by
      rw [hE]; exact storeCheck_any S (f + k) _ _ N [] wr GK.out (FrsIn.nil _ _)
    rw [← hE] at hst
    clear hE
    go_wp2_with fail
    refine HCK.out.mono ?_
    rintro e w3 ⟨rfl, b3⟩
    have KB3 := KB.out.below b3 KB.out.lt
    have KR3 := KR.out.below b3 KR.out.lt
    have HKR3 : Hid (Blk w3 w.heap.size #[.int .i64 0, .slice none 0 0, .slice none 0 0] 27) := KR3
    have G3 : Hid (GrsIn S w3 (.slice ga q gc) N) := GK.out.below b3
    have P3 : Hid (Below w.heap.size w w3) := KP.out.trans (b3.mono KP.out.size)
    have HKB3 : Hid (Blk w3 M #[.int .i64 (f + k), .slice ga q gc, .slice none 0 0] 27) := KB3
    obtain ⟨k0', k1', k2'⟩ := KB3.three
    have f0' := KB3.free 0
    have f1' := KB3.free 1
    clear b3 HCK k0 k1 k2 f0 f1 KB3 KB KR KR3 GK KP HKR0 HKM0 HG2 HB2
    cases hfb : fullB N with
    | true =>
      have h1 := fullB_len hfb
      obtain ⟨b, off, e1, -, h3, h7⟩ := G3.out.tail h1
      subst e1
      have hq1 : 1 < q := hkt hfb
      have hE2 : E = 2 := by rw [hst, hfb]; rfl
      subst hE2
      have hd : L.drop (k + 1) = N.tail := by rw [HNK.out, List.tail_drop]
      have hq1i : (1 : Int) ≤ (q : Int) := by omega
      have hqg : (q : Int) ≤ (gc : Int) := by have := HQ.out; omega
      have hw1 : wrap64 (f + (k : Int) + 1) = f + k + 1 := by have := HF0.out; unfold wrap64; omega
      have HLL : Hid (Hid (∀ j, j < k + 1 → fullB (L.drop j) = true) ∧ k + 1 ≤ n ∧ N.tail = L.drop (k + 1) ∧ 1 < N.length) := ⟨fun j hj => by
        by_cases e : j = k
        · subst e; rw [← HNK.out]; exact hfb
        · exact HF.out j (by omega), by have := HQN.out; omega, hd.symm, h1⟩
      have HG7 : Hid (GrsIn S w3 (.slice (some ⟨b, off + 1, none⟩) (q - 1) (gc - 1)) N.tail) := by rw [HQ.out]; exact h7
      clear hfb hst hkt hk0 h3 h7 hd h1
      go_wp2_with fail
      have hSM : ∀ g, S g → g ≠ M := fun g hg => by have := HS.out g hg; have := HMw.out; omega
      have ne : w.heap.size ≠ M := by have := HMw.out; omega
      have K5 : Blk ((w3.setCell ⟨M, 1, none⟩ (.slice (some ⟨b, off + 1, none⟩) (q - 1) (gc - 1))).setCell ⟨M, 0, none⟩ (.int .i64 (f + k + 1))) M #[.int .i64 (f + k + 1), .slice (some ⟨b, off + 1, none⟩) (q - 1) (gc - 1), .slice none 0 0] 27 := (HKB3.out.set 1 _).set 0 _
      refine ⟨⟨k + 1, .slice (some ⟨b, off + 1, none⟩) (q - 1) (gc - 1), HLL.out.2.1, HLL.out.1, ?_, ?_, ?_, ?_⟩, ?_⟩
      · show Blk _ _ _ _
        rw [show f + ((k + 1 : Nat) : Int) = f + k + 1 by omega]; exact K5
      · exact (HKR3.out.other (a := ⟨M, 1, none⟩) ne _).other (a := ⟨M, 0, none⟩) ne _
      · show GrsIn _ _ _ _
        rw [← HLL.out.2.2.1]
        exact HG7.out.to ((SameOn.setCell (fun g hg => hSM g hg) _).trans (SameOn.setCell (fun g hg => hSM g hg) _)) (fun _ _ h => h)
      · exact (P3.out.setCell (p := ⟨M, 1, none⟩) (by have := HMw.out; show w.heap.size ≤ M; omega) _).setCell (p := ⟨M, 0, none⟩) (by have := HMw.out; show w.heap.size ≤ M; omega) _
      · rw [hms, K5.cell (j := 0) (u := .int .i64 (f + k + 1)) rfl]
        simp [intOf]
        have := HLL.out.2.1
        omega
    | false =>
      have hE2 : E = 0 := by rw [hst, hfb]; rfl
      subst hE2
      have ht : trimD L = k := by rw [trimD_drop L k HF.out, ← HNK.out, trimD_no hfb]; omega
      have HT : Hid (trimD L = k) := ht
      have r0 := HKR3.out.cell (j := 0) (u := .int .i64 0) rfl
      have r1 := HKR3.out.cell (j := 1) (u := .slice none 0 0) rfl
      have r2 := HKR3.out.cell (j := 2) (u := .slice none 0 0) rfl
      have rf := fun j => HKR3.out.free j
      clear ht hfb hst hkt hk0
      go_wp2_with fail
      have K6 := ((HKR3.out.set 0 (.int .i64 (f + k))).set 1 (.slice ga q gc)).set 2 (.slice none 0 0)
      have y0 := K6.cell (j := 0) (u := .int .i64 (f + k)) rfl
      have y1 := K6.cell (j := 1) (u := .slice ga q gc) rfl
      have y2 := K6.cell (j := 2) (u := .slice none 0 0) rfl
      rw [HT.out, ← HNK.out]
      exact bodyPost_ret (v := .agg #[.int .i64 (f + k), .slice ga q gc, .slice none 0 0]) (by simp [results, Try.results44, go_sem, y0, y1, y2]) rfl ⟨_, rfl, G3.out.to (((SameOn.setCell (fun g hg => by have := HS.out g hg; show g ≠ w.heap.size; omega) _).trans (SameOn.setCell (fun g hg => by have := HS.out g hg; show g ≠ w.heap.size; omega) _)).trans (SameOn.setCell (fun g hg => by have := HS.out g hg; show g ≠ w.heap.size; omega) _)) (fun _ _ h => h), ((P3.out.setCell (p := ⟨w.heap.size, 0, none⟩) (Nat.le_refl _) _).setCell (p := ⟨w.heap.size, 1, none⟩) (Nat.le_refl _) _).setCell (p := ⟨w.heap.size, 2, none⟩) (Nat.le_refl _) _⟩

end Go.Proofs.Ytnpaejknoipicad
