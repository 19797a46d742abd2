/-
  Contract: the document's GrowOf.
-/
import Derived.Test.YtnpaejknoipicagGreatMgDeskSees4
import Derived.Test.YtnpaejknoipicagGreatMgDeskSees1
import Derived.Deep.Slices
import Derived.Lib.AppendZeros
import Derived.BigQuiet

namespace Go.Proofs.YtnpaejknoipicagGreat
open Go.RowKit

/-- an operation of such a region: one that reads (ahead of a step of the chain), or a step of the chain -/
inductive Ck where
  | quiet (v : Value) (lim : Nat)
  | step (s : Nat)
def ckAt (ks : List Ck) (i : Nat) : Ck := (ks[i]?).getD (.quiet undef 0)
def Ck.out (r : Nat → Value) : Ck → Value
  | .quiet v _ => v
  | .step s => r s
def putC (r : Nat → Value) : List Ck → List Oper → Act → Act
  | d :: ks, o :: l, a => putC r ks l (a.put o.dst (d.out r))
  | _, _, a => a
def updR (r : Nat → Value) (s : Nat) (v : Value) : Nat → Value := fun t => if t = s then v else r t
theorem updR_at (r : Nat → Value) (s : Nat) (v : Value) : updR r s v s = v := by simp [updR]
theorem updR_ne {r : Nat → Value} {s t : Nat} {v : Value} (h : t ≠ s) : updR r s v t = r t := by simp [updR, h]
/-- the steps' places; what waits for what -/
def chainOk (ks : List Ck) (l : List Oper) (st : List Nat) (n : Nat) : Bool :=
  decide (ks.length = l.length) && (l.all fun o => match o.dst with | some k => decide (k < n) | none => true) &&
  ((List.range st.length).all fun s => match st[s]? with
    | some i => decide (i < l.length) && (match ckAt ks i with | .step t => t == s | _ => false) && (s == 0 || (match st[s - 1]? with | some j => waits l i j | none => false))
    | none => false) &&
  ((List.range l.length).all fun i => match ckAt ks i with
    | .quiet _ lim => decide (st.length ≤ lim) || (match st[lim]? with | some j => waits l j i | none => false)
    | .step t => st[t]? == some i)

section
variable {P : Program} {Q : Exit → Act → World → Prop}

theorem oper_wp_skip {o : Oper} {a : Act} {w w' : World} {K : Act → World → Prop} (h : (execOp a.eval o).run P w = .ok .skip w') (hk : K (a.put o.dst undef) w') : o.wp P a w K Q := by
  unfold Oper.wp; rw [h]; exact hk
theorem oper_wp_call {o : Oper} {a : Act} {w : World} {f : FuncId} {args : Array Value} {K : Act → World → Prop} (h : (execOp a.eval o).run P w = .ok (.enter f args) w) (hc : Calls P f args w fun e w'' => ∃ v, e = .returned v ∧ K (a.put o.dst v) w'') : o.wp P a w K Q := by
  unfold Oper.wp; rw [h, Oper.upon_enter]
  refine hc.mono ?_
  rintro e w'' ⟨v, rfl, hk⟩
  exact hk

structure RC (ks : List Ck) (l : List Oper) (n m : Nat) (I : Nat → (Nat → Value) → World → Prop) (ls : Nat → Bool) (vs : Nat → Value) (s : Nat) (r : Nat → Value) (w' : World) : Prop where
  lt : ∀ i, ls i = true → i < n
  steps : ∀ i t, i < n → ckAt ks i = .step t → (ls i = true ↔ t < s)
  vals : ∀ i, ls i = true → vs i = (ckAt ks i).out r
  inv : I s r w'
  le : s ≤ m
  closed : ∀ i j, ls j = true → waits l j i = true → ls i = true

theorem putC_all (L : Array Bool) (vs : Nat → Value) (r : Nat → Value) : ∀ (l : List Oper) (k : Nat) (ks : List Ck) (a : Act), ks.length = l.length → (∀ i, i < l.length → L.getD (k + i) false = true) → (∀ i, i < l.length → vs (k + i) = (ckAt ks i).out r) → putL L vs k l a = putC r ks l a
  | [], _, [], _, _, _, _ => rfl
  | o :: l, k, d :: ks, a, hl, hL, hv => by
    simp only [putL, putC]
    rw [if_pos (by simpa using hL 0 (by simp)), show vs k = d.out r by simpa [ckAt] using hv 0 (by simp)]
    refine putC_all L vs r l (k + 1) ks _ (by simpa using hl) (fun i hi => ?_) (fun i hi => ?_)
    · have := hL (i + 1) (by simpa using hi)
      rw [show k + (i + 1) = k + 1 + i by omega] at this; exact this
    · have := hv (i + 1) (by simpa using hi)
      rw [show k + (i + 1) = k + 1 + i by omega] at this
      simpa [ckAt] using this

theorem region_chain {id : Nat} {a : Act} {w : World} {l : List Oper} (hm : P.follows .mixedOrders = true) (hB : regOk l = true) (ks : List Ck) (st : List Nat) (hK : chainOk ks l st a.tmps.size = true)
    (I : Nat → (Nat → Value) → World → Prop) (h0 : I 0 (fun _ => undef) { w with drawn := w.drawn + 1 })
    (hstep : ∀ i o, l[i]? = some o → ∀ (a' : Act) (w' : World) (s : Nat) (r : Nat → Value), I s r w' → (∀ s, (l.all fun o => o.dst != some s) = true → a'.eval (.tmp s) = a.eval (.tmp s)) → (∀ j oj k, waits l i j = true → l[j]? = some oj → oj.dst = some k → a'.eval (.tmp k) = (ckAt ks j).out r) →
      match ckAt ks i with
      | .quiet v lim => s ≤ lim → (execOp a'.eval o).run P w' = .ok (.value v) w'
      | .step t => s = t → o.wp P a' w' (fun a'' w'' => ∃ v, a'' = a'.put o.dst v ∧ I (t + 1) (updR r t v) w'') Q)
    (hend : ∀ (r : Nat → Value) (w' : World), I st.length r w' → Q .normal (putC r ks l a) w') :
    (Code.region id l.toArray true).wp P Q a w := by
  simp only [chainOk, Bool.and_eq_true, decide_eq_true_eq] at hK
  obtain ⟨⟨⟨hlen, hdst⟩, hst⟩, hall⟩ := hK
  have hap : dstsApart l = true := by simp only [regOk, Bool.and_eq_true] at hB; exact hB.1.1
  have hal : ∀ i, i < l.length → _ := fun i hi => List.all_eq_true.1 hall i (List.mem_range.2 hi)
  have hsl : ∀ s, s < st.length → _ := fun s hs => List.all_eq_true.1 hst s (List.mem_range.2 hs)
  have hstp : ∀ s, s < st.length → ∃ i, st[s]? = some i ∧ i < l.length ∧ ckAt ks i = .step s ∧ (0 < s → ∃ j, st[s - 1]? = some j ∧ waits l i j = true) := fun s hs => by
    have h := hsl s hs
    have e : st[s]? = some st[s] := List.getElem?_eq_getElem hs
    rw [e] at h
    simp only [Bool.and_eq_true, decide_eq_true_eq, Bool.or_eq_true, beq_iff_eq] at h
    refine ⟨st[s], e, h.1.1, ?_, fun h0 => ?_⟩
    · have h2 := h.1.2
      cases hk : ckAt ks st[s] with
      | quiet v lim => rw [hk] at h2; cases h2
      | step t => rw [hk] at h2; simp at h2; rw [h2]
    · have h3 := h.2
      rcases h3 with h3 | h3
      · omega
      · have e2 : st[s - 1]? = some st[s - 1] := List.getElem?_eq_getElem (by omega)
        rw [e2] at h3
        exact ⟨_, e2, h3⟩
  have hst2 : ∀ i t, i < l.length → ckAt ks i = .step t → st[t]? = some i := fun i t hi hk => by
    have h := hal i hi
    rw [hk] at h
    simpa using h
  refine wp_region_inv hm hB (fun L vs w' => ∃ s r, RC ks l l.length st.length I (fun j => L.getD j false) vs s r w') ?_ ?_ ?_
  · have hno : ∀ j, ¬ (Array.replicate l.length false).getD j false = true := fun j => by
      simp [Array.getD_eq_getD_getElem?, Array.getElem?_replicate]; split <;> simp
    exact ⟨0, fun _ => undef, fun i h => absurd h (hno i), fun i t _ _ => ⟨fun h => absurd h (hno i), fun h => absurd h (Nat.not_lt_zero _)⟩, fun i h => absurd h (hno i), h0, Nat.zero_le _, fun _ j h => absurd h (hno j)⟩
  · rintro L vs w' ⟨s, r, F⟩ i o ho hL hr
    have hi : i < l.length := (List.getElem?_eq_some_iff.1 ho).1
    have ni : L.getD i false = false := by simpa using listed_no hL
    have hset := setfun hL
    have hwt : ∀ j, waits l i j = true → L.getD j false = true := fun j hw => waits_spec hw ho hr
    have hfree : ∀ s, (l.all fun o => o.dst != some s) = true → (putL L vs 0 l a).eval (.tmp s) = a.eval (.tmp s) := fun s hs => putL_other l 0 a (fun p hp t ht e => by
      injection e with e
      subst e
      have := List.all_eq_true.1 hs p hp
      rw [ht] at this
      simp at this)
    have hvals : ∀ j oj k, waits l i j = true → l[j]? = some oj → oj.dst = some k → (putL L vs 0 l a).eval (.tmp k) = (ckAt ks j).out r := fun j oj k hw hoj hk => by
      have h1 := hwt j hw
      have hk2 := List.all_eq_true.1 hdst oj (List.mem_of_getElem? hoj)
      rw [hk] at hk2
      rw [putL_at h1 l 0 a oj hap (Nat.zero_le _) (by simpa using hoj) hk (by simpa using hk2)]
      exact F.vals j h1
    have hs := hstep i o ho (putL L vs 0 l a) w' s r F.inv hfree hvals
    rw [hset]
    obtain ⟨ls, hls⟩ : ∃ ls : Nat → Bool, ls = fun j => L.getD j false := ⟨_, rfl⟩
    have hlsj : ∀ j, L.getD j false = ls j := fun j => by rw [hls]
    simp only [hlsj] at F ni hwt ⊢
    have hlt' : ∀ j, (decide (j = i) || ls j) = true → j < l.length := fun j hj => by
      simp only [Bool.or_eq_true, decide_eq_true_eq] at hj
      rcases hj with rfl | hj
      · exact hi
      · exact F.lt j hj
    have hcl : ∀ p j, (decide (j = i) || ls j) = true → waits l j p = true → (decide (p = i) || ls p) = true := fun p j hj hw => by
      simp only [Bool.or_eq_true, decide_eq_true_eq] at hj ⊢
      rcases hj with rfl | hj
      · exact .inr (hwt p hw)
      · exact .inr (F.closed p j hj hw)
    cases hk : ckAt ks i with
    | quiet v lim =>
      rw [hk] at hs
      have hle : s ≤ lim := by
        have h := hal i hi
        rw [hk] at h
        simp only [Bool.or_eq_true, decide_eq_true_eq] at h
        rcases h with h | h
        · exact Nat.le_trans F.le h
        · by_cases hlt : s ≤ lim
          · exact hlt
          · exfalso
            have hll : lim < st.length := by have := F.le; omega
            obtain ⟨j, e1, e2, e3, _⟩ := hstp lim hll
            rw [e1] at h
            have hlj := (F.steps j lim e2 e3).2 (by omega)
            rw [F.closed i j hlj h] at ni
            cases ni
      refine oper_wp_ok (hs hle) ⟨v, rfl, s, r, hlt', ?_, ?_, F.inv, F.le, hcl⟩
      · intro j t hj hjk
        have e : j ≠ i := fun e => by subst e; rw [hk] at hjk; cases hjk
        simpa [e] using F.steps j t hj hjk
      · intro j hj
        by_cases e : j = i
        · subst e; rw [upd_at, hk]; rfl
        · rw [upd_ne e]; exact F.vals j (by simpa [e] using hj)
    | step t =>
      rw [hk] at hs
      have hti := hst2 i t hi hk
      have htl : t < st.length := (List.getElem?_eq_some_iff.1 hti).1
      have hst' : s = t := by
        have h1 : ¬ t < s := fun h => by rw [(F.steps i t hi hk).2 h] at ni; cases ni
        by_cases h0 : t = 0
        · omega
        · obtain ⟨i', e1, e2, e3, e4⟩ := hstp t htl
          rw [hti] at e1
          injection e1 with e1
          subst e1
          obtain ⟨j, q1, q2⟩ := e4 (by omega)
          obtain ⟨j', r1, r2, r3, _⟩ := hstp (t - 1) (by omega)
          rw [q1] at r1
          injection r1 with r1
          subst r1
          have := (F.steps j (t - 1) r2 r3).1 (hwt j q2)
          omega
      subst hst'
      refine Oper.wp_mono ?_ (hs rfl)
      rintro a'' w'' ⟨v, h1, h2⟩
      refine ⟨v, h1, s + 1, updR r s v, hlt', ?_, ?_, h2, htl, hcl⟩
      · intro j t' hj hjk
        by_cases e : j = i
        · subst e
          rw [hk] at hjk
          injection hjk with hjk
          subst hjk
          simp
        · have h3 := F.steps j t' hj hjk
          have hne : t' ≠ s := fun e' => by
            subst e'
            have := hst2 j t' hj hjk
            rw [hti] at this
            injection this with this
            exact e this.symm
          simp only [e, decide_false, Bool.false_or]
          rw [h3]; omega
      · intro j hj
        by_cases e : j = i
        · subst e; rw [upd_at, hk]; exact (updR_at r s v).symm
        · have hlj : ls j = true := by simpa [e] using hj
          rw [upd_ne e, F.vals j hlj]
          cases hkj : ckAt ks j with
          | quiet v' lim' => rfl
          | step t' =>
            have := (F.steps j t' (F.lt j hlj) hkj).1 hlj
            exact (updR_ne (by omega)).symm
  · rintro L vs w' ⟨s, r, F⟩ hlst
    have hs : s = st.length := by
      by_cases h : s < st.length
      · obtain ⟨i, e1, e2, e3, _⟩ := hstp s h
        have := (F.steps i s e2 e3).1 (hlst i e2)
        omega
      · have := F.le; omega
    subst hs
    rw [putC_all L vs r l 0 ks a hlen (fun i hi => by rw [Nat.zero_add]; exact hlst i hi) (fun i hi => by rw [Nat.zero_add]; exact F.vals i (hlst i hi))]
    exact hend r w' F.inv
end
end Go.Proofs.YtnpaejknoipicagGreat

namespace Go.Proofs.YtnpaejknoipicagGreat
open Go.RowKit

/-- blocks of what the maker's rows hold: none of them is its own, nor a row's that grows -/
def GS (base M : Nat) (fv cv : Value) : Nat → Prop := fun g => base ≤ g ∧ g ≠ M ∧ some g ≠ fv.ownBlock ∧ some g ≠ cv.ownBlock
def GMk (base M : Nat) (w : World) (fv cv : Value) (o : List Fr) (cl : List (List Fr)) : Prop := Blk w M #[fv, cv] 245 ∧ OwnFrs base (GS base M fv cv) w fv o ∧ OwnGrs base (GS base M fv cv) w cv cl
def GMake (base M : Nat) (w : World) (o : List Fr) (cl : List (List Fr)) : Prop := ∃ fv cv, GMk base M w fv cv o cl

theorem GMk.below {base M : Nat} {w w' : World} {fv cv : Value} {o : List Fr} {cl : List (List Fr)} (h : GMk base M w fv cv o cl) (hb : Below w.heap.size w w') : GMk base M w' fv cv o cl :=
  ⟨h.1.below hb h.1.lt, h.2.1.below hb, h.2.2.below hb⟩
theorem GMk.fneM {base M : Nat} {w : World} {fv cv : Value} {o : List Fr} {cl : List (List Fr)} (h : GMk base M w fv cv o cl) : fv.ownBlock ≠ some M := fun e => by
  obtain ⟨cur, hc⟩ := h.2.1.blk M e
  exact Apart_type h.1 hc (by decide) rfl
theorem GMk.cneM {base M : Nat} {w : World} {fv cv : Value} {o : List Fr} {cl : List (List Fr)} (h : GMk base M w fv cv o cl) : cv.ownBlock ≠ some M := fun e => by
  obtain ⟨cur, hc⟩ := h.2.2.blk M e
  exact Apart_type h.1 hc (by decide) rfl
theorem GMk.fnec {base M : Nat} {w : World} {fv cv : Value} {o : List Fr} {cl : List (List Fr)} (h : GMk base M w fv cv o cl) : ∀ g, fv.ownBlock = some g → cv.ownBlock ≠ some g := fun g e1 e2 => by
  obtain ⟨cur, hc⟩ := h.2.1.blk g e1
  obtain ⟨cur2, hc2⟩ := h.2.2.blk g e2
  exact Apart_type hc hc2 (by decide) rfl

/-- cells of groups: one each -/
theorem grp_one {S : Nat → Prop} {w : World} {ps : List (List Fr × Value)} (h : ∀ p ∈ ps, FrsIn S w p.2 p.1) : ∀ u ∈ ps.map Prod.snd, u.oneCell' = true := fun u hu => by
  obtain ⟨p, hp, rfl⟩ := List.mem_map.1 hu
  obtain ⟨a, c, e, _⟩ := (h p hp).len
  rw [e]; rfl

set_option maxHeartbeats 4000000 in
set_option maxRecDepth 100000 in
theorem groupClose_any (base M : Nat) (fv cv : Value) (o : List Fr) (cl : List (List Fr)) (w : World) (hM : GMk base M w fv cv o cl) (hbM : base ≤ M) (ho : o.length ≤ 6) (hcl : cl.length ≤ 1000) :
    Calls Tryz.prog 191 #[.pointer (some ⟨M, 0, none⟩)] w fun e w' => e = .returned (.tuple #[]) ∧ (∃ cv', GMk base M w' (.slice none 0 0) cv' [] (if 0 < o.length then cl ++ [o] else cl)) ∧ Below base w w' ∧ ∀ j, j < w.heap.size → j ≠ M → some j ≠ cv.ownBlock → w'.heap[j]? = w.heap[j]? := by
  obtain ⟨i0, hi, hz0, hz1, hz2⟩ := info_parts Tryz.infoGrp
  have HMK : Hid (GMk base M w fv cv o cl) := hM
  obtain ⟨kM, ⟨qs, fq1, fq2, fq3⟩, ⟨ps, cp1, cp2, cp3⟩⟩ := hM
  obtain ⟨fa, fc, efv, hfc, _⟩ := owns_cap fq2
  obtain ⟨ca, cc, ecv, hcc, _⟩ := owns_cap cp2
  have hql : qs.length = o.length := by rw [← fq1, List.length_map]
  have hpl : ps.length = cl.length := by rw [← cp1, List.length_map]
  obtain ⟨n, hn⟩ : ∃ n, n = o.length := ⟨_, rfl⟩
  obtain ⟨m, hm⟩ : ∃ m, m = cl.length := ⟨_, rfl⟩
  have HN : Hid (n = o.length) := hn
  have HM2 : Hid (m = cl.length) := hm
  rw [hql, ← hn] at efv hfc
  rw [hpl, ← hm] at ecv hcc cp2
  have k0 := kM.two
  obtain ⟨k0, k1⟩ := k0
  have kf := kM.free
  have hMw := kM.lt
  have KM : Hid (Blk w M #[fv, cv] 245) := kM
  have CP1 : Hid (ps.map Prod.fst = cl) := cp1
  have CP2 : Hid (w.ownsRow base 30 1 cv m (ps.map Prod.snd)) := cp2
  have CP3 : Hid (∀ p ∈ ps, FrsIn (GS base M fv cv) w p.2 p.1) := cp3
  have HPL : Hid (ps.length = m) := by show _ = _; rw [hpl, hm]
  have FIN0 : Hid (∀ (w' : World) (v' : Value) (L : List (List Fr)), Blk w' M #[fv, v'] 245 → OwnGrs base (GS base M (.slice none 0 0) v') w' v' L → v'.ownBlock ≠ some M → GMk base M (w'.setCell ⟨M, 0, none⟩ (.slice none 0 0)) (.slice none 0 0) v' [] L) := fun w' v' L h1 h2 h3 =>
    ⟨h1.set 0 _, OwnFrs.nil _ _ _, h2.to (SameOn.setCell (fun g hg => hg.2.1) _) (fun _ _ h => h) (fun g hg => Below.heap_setCell _ _ _ _ (fun e => h3 (by rw [hg]; exact congrArg some e)))⟩
  rw [← hn]
  rw [← hn] at ho
  rw [← hm] at hcl
  by_cases hn0 : 0 < n
  · rw [if_pos hn0]
    have hni : (0 : Int) < (n : Int) := by omega
    have hown : (w.drew.alloc (.cells #[fv] 30)).ownsRow base 30 1 cv m (ps.map Prod.snd) := cp2.alloc _
    have HOWN : Hid ((w.drew.alloc (.cells #[fv] 30)).ownsRow base 30 1 cv m (ps.map Prod.snd)) := hown
    have hfvs : ∃ a c, fv = .slice a n c := ⟨fa, fc, efv⟩
    have HFV1 : Hid (∀ u ∈ [fv], u.oneCell' = true) := fun u hu => by simp at hu; subst hu; rw [efv]; rfl
    have hbase : base ≤ w.heap.size := by omega
    clear hn hm hql hpl fq1 fq2 fq3 cp1 cp2 cp3 kM hown
    have HE1 : Hid (fv = .slice fa n fc) := efv
    have HE2 : Hid (cv = .slice ca m cc) := ecv
    rw [efv] at k0
    rw [ecv] at k1
    clear efv ecv
    go_enter Tryz.func191, Tryz.ntmps191
    go_wp2_with fail
    refine region_chain (by kernel_rfl) (by kernel_rfl) [.quiet (.pointer (some ⟨M, 0, none⟩)) 3, .quiet (.pointer (some ⟨M, 0, none⟩)) 3, .quiet (.pointer (some ⟨M, 0, none⟩)) 3, .quiet (.pointer (some ⟨M, 1, none⟩)) 3, .quiet (.slice ca m cc) 1, .quiet (.pointer (some ⟨M, 0, none⟩)) 3, .quiet (.pointer (some ⟨M, 0, none⟩)) 3, .quiet (.pointer (some ⟨M, 0, none⟩)) 3, .quiet (.agg #[.slice fa n fc]) 0, .step 0, .step 1, .quiet (.pointer (some ⟨M, 0, none⟩)) 3, .quiet (.pointer (some ⟨M, 1, none⟩)) 3, .step 2] [9, 10, 13] (by kernel_rfl)
      (fun s r w' => match s with
        | 0 => w' = w.drew
        | 1 => w' = w.drew.alloc (.cells #[fv] 30) ∧ r 0 = .slice (some ⟨w.heap.size, 0, none⟩) 1 1
        | 2 => w'.ownsRow base 30 1 (r 1) (m + 1) (ps.map Prod.snd ++ [fv]) ∧ (w.drew.alloc (.cells #[fv] 30)).grownBy w' cv.ownBlock ∧ ((r 1).ownBlock = cv.ownBlock ∨ ∀ g, (r 1).ownBlock = some g → (w.drew.alloc (.cells #[fv] 30)).heap.size ≤ g)
        | _ => ∃ (w2 : World) (v' : Value), w' = w2.setCell ⟨M, 1, none⟩ v' ∧ w2.ownsRow base 30 1 v' (m + 1) (ps.map Prod.snd ++ [fv]) ∧ (w.drew.alloc (.cells #[fv] 30)).grownBy w2 cv.ownBlock ∧ (v'.ownBlock = cv.ownBlock ∨ ∀ g, v'.ownBlock = some g → (w.drew.alloc (.cells #[fv] 30)).heap.size ≤ g)) rfl ?step ?fin
    case step =>
      intro i o ho a' w' s r hI hfree hvals
      have f0 : a'.eval (.tmp 0) = .pointer (some ⟨M, 0, none⟩) := (hfree 0 (by kernel_rfl)).trans rfl
      have hMd : w.drew.cell? ⟨M, 0, none⟩ = some (.slice fa n fc) := k0
      have hMd1 : w.drew.cell? ⟨M, 1, none⟩ = some (.slice ca m cc) := k1
      have hMs : M < w.drew.heap.size := hMw
      match i, ho with
      | 0, ho | 1, ho | 5, ho =>
        simp at ho; subst ho
        show s ≤ 3 → (execOp a'.eval _).run _ w' = .ok (.value _) w'
        intro _
        generalize a'.eval = ρ at *
        simp [execOp, go_sem, f0]
      | 2, ho =>
        simp at ho; subst ho
        have e1 : a'.eval (.tmp 10) = .pointer (some ⟨M, 0, none⟩) := hvals 1 _ _ (by kernel_rfl) rfl rfl
        show s ≤ 3 → (execOp a'.eval _).run _ w' = .ok (.value _) w'
        intro _
        generalize a'.eval = ρ at *
        simp [execOp, go_sem, e1]
      | 3, ho =>
        simp at ho; subst ho
        have e1 : a'.eval (.tmp 11) = .pointer (some ⟨M, 0, none⟩) := hvals 2 _ _ (by kernel_rfl) rfl rfl
        show s ≤ 3 → (execOp a'.eval _).run _ w' = .ok (.value _) w'
        intro _
        generalize a'.eval = ρ at *
        simp [execOp, go_sem, e1]
      | 4, ho =>
        simp at ho; subst ho
        have e1 : a'.eval (.tmp 12) = .pointer (some ⟨M, 1, none⟩) := hvals 3 _ _ (by kernel_rfl) rfl rfl
        show s ≤ 1 → (execOp a'.eval _).run _ w' = .ok (.value _) w'
        intro hs
        have hc : w'.cell? ⟨M, 1, none⟩ = some (.slice ca m cc) := by
          match s, hs, hI with
          | 0, _, hI => rw [show w' = w.drew from hI]; exact hMd1
          | 1, _, hI => rw [hI.1]; exact (World.cell?_alloc_past _ _ _ hMs).trans hMd1
        generalize a'.eval = ρ at *
        simp [execOp, go_sem, e1, hc]
      | 6, ho =>
        simp at ho; subst ho
        have e1 : a'.eval (.tmp 14) = .pointer (some ⟨M, 0, none⟩) := hvals 5 _ _ (by kernel_rfl) rfl rfl
        show s ≤ 3 → (execOp a'.eval _).run _ w' = .ok (.value _) w'
        intro _
        generalize a'.eval = ρ at *
        simp [execOp, go_sem, e1]
      | 7, ho =>
        simp at ho; subst ho
        have e1 : a'.eval (.tmp 15) = .pointer (some ⟨M, 0, none⟩) := hvals 6 _ _ (by kernel_rfl) rfl rfl
        show s ≤ 3 → (execOp a'.eval _).run _ w' = .ok (.value _) w'
        intro _
        generalize a'.eval = ρ at *
        simp [execOp, go_sem, e1]
      | 8, ho =>
        simp at ho; subst ho
        have e1 : a'.eval (.tmp 16) = .pointer (some ⟨M, 0, none⟩) := hvals 7 _ _ (by kernel_rfl) rfl rfl
        show s ≤ 0 → (execOp a'.eval _).run _ w' = .ok (.value _) w'
        intro hs
        have hc : w'.cell? ⟨M, 0, none⟩ = some (.slice fa n fc) := by
          match s, hs, hI with
          | 0, _, hI => rw [show w' = w.drew from hI]; exact hMd
        generalize a'.eval = ρ at *
        simp [execOp, go_sem, e1, hc]
      | 9, ho =>
        simp at ho; subst ho
        have e1 : a'.eval (.tmp 17) = .agg #[.slice fa n fc] := hvals 8 _ _ (by kernel_rfl) rfl rfl
        show s = 0 → Oper.wp _ _ _ _ _ _
        intro hs
        subst hs
        have hw : w' = w.drew := hI
        subst hw
        refine oper_wp_ok (v := .slice (some ⟨w.heap.size, 0, none⟩) 1 1) (w' := w.drew.alloc (.cells #[fv] 30)) ?_ ⟨_, rfl, rfl, updR_at _ _ _⟩
        generalize a'.eval = ρ at *
        rw [HE1.out]
        simp [execOp, go_sem, e1]
      | 10, ho =>
        simp at ho; subst ho
        have e1 : a'.eval (.tmp 13) = .slice ca m cc := hvals 4 _ _ (by kernel_rfl) rfl rfl
        have e2 : a'.eval (.tmp 18) = r 0 := hvals 9 _ _ (by kernel_rfl) rfl rfl
        show s = 1 → Oper.wp _ _ _ _ _ _
        intro hs
        subst hs
        obtain ⟨hw, hr0⟩ := hI
        rw [hr0] at e2
        subst hw
        obtain ⟨v', w2, hrun, g2, g3, g4⟩ := run_append_own2 (P := Tryz.prog) (w.drew.alloc (.cells #[fv] 30)) base 27 27 30 i0 _ 1 24 Tryz.underlying27 hi hz0 hz1 hz2 rfl (by decide) cv m (ps.map Prod.snd) HOWN.out ⟨w.heap.size, 0, none⟩ 1 1 [fv] rfl (news1 rfl) HFV1.out (by unfold maxLen; omega) (by omega) (by simp; omega)
        rw [HE2.out] at hrun
        refine oper_wp_ok (v := v') (w' := w2) ?_ ⟨_, rfl, ?_⟩
        · generalize a'.eval = ρ at *
          simp [execOp, resolve, invoke, builtin, e1, e2, hrun, Result.andThen]
        · show w2.ownsRow _ _ _ _ _ _ ∧ _ ∧ _
          rw [updR_at]
          exact ⟨g2, g3, g4⟩
      | 11, ho =>
        simp at ho; subst ho
        have e1 : a'.eval (.tmp 9) = .pointer (some ⟨M, 0, none⟩) := hvals 0 _ _ (by kernel_rfl) rfl rfl
        show s ≤ 3 → (execOp a'.eval _).run _ w' = .ok (.value _) w'
        intro _
        generalize a'.eval = ρ at *
        simp [execOp, go_sem, e1]
      | 12, ho =>
        simp at ho; subst ho
        have e1 : a'.eval (.tmp 20) = .pointer (some ⟨M, 0, none⟩) := hvals 11 _ _ (by kernel_rfl) rfl rfl
        show s ≤ 3 → (execOp a'.eval _).run _ w' = .ok (.value _) w'
        intro _
        generalize a'.eval = ρ at *
        simp [execOp, go_sem, e1]
      | 13, ho =>
        simp at ho; subst ho
        have e1 : a'.eval (.tmp 21) = .pointer (some ⟨M, 1, none⟩) := hvals 12 _ _ (by kernel_rfl) rfl rfl
        have e2 : a'.eval (.tmp 19) = r 1 := hvals 10 _ _ (by kernel_rfl) rfl rfl
        show s = 2 → Oper.wp _ _ _ _ _ _
        intro hs
        subst hs
        obtain ⟨g2, g3, g4⟩ := hI
        obtain ⟨va, vc, ev, _⟩ := owns_cap g2
        have kM2 : Blk w' M #[fv, cv] 245 := (g3.block M (by simp; omega) (fun e => HMK.out.cneM e.symm)).trans (KM.out.drew.alloc _)
        have y0 := kM2.two.2
        have y1 := kM2.free 1
        refine oper_wp_skip (w' := w'.setCell ⟨M, 1, none⟩ (r 1)) ?_ ⟨_, rfl, w', r 1, rfl, g2, g3, g4⟩
        rw [ev] at e2 ⊢
        generalize a'.eval = ρ at *
        simp [execOp, go_sem, e1, e2, y0, y1]
      | i + 14, ho => simp at ho
    case fin =>
      rintro r w' ⟨w2, v', hw, g2, g3, g4⟩
      have hk := HMK.out
      have kM2 : Blk w2 M #[fv, cv] 245 := (g3.block M (by simp; omega) (fun e => hk.cneM e.symm)).trans (KM.out.drew.alloc _)
      have hsz2 := g3.size
      simp only [World.size_alloc] at hsz2
      have hwd : w.drew.heap.size = w.heap.size := rfl
      have hvM : v'.ownBlock ≠ some M := fun e => by
        rcases g4 with g4 | g4
        · rw [g4] at e; exact hk.cneM e
        · have := g4 M e; simp at this; omega
      have hnew : ∀ g, g < w.heap.size → some g ≠ cv.ownBlock → some g ≠ v'.ownBlock := fun g hg h1 e => by
        rcases g4 with g4 | g4
        · rw [g4] at e; exact h1 e
        · have := g4 g e.symm; simp at this; omega
      have hsm : SameOn (fun g => g < w.heap.size ∧ some g ≠ cv.ownBlock) w w2 := ⟨by omega, fun g hg h2 => by
        rw [g3.block g (by simp; omega) h2.2]
        exact Below.heap_alloc w.drew _ g hg⟩
      have hfv : FrsIn (GS base M (.slice none 0 0) v') w2 fv o := by
        refine (hk.2.1.frsIn (S' := fun g => base ≤ g ∧ g ≠ M ∧ some g ≠ cv.ownBlock ∧ g < w.heap.size) (fun g h1 h2 => ⟨h2.1, h2.2.1, h2.2.2.2, h1⟩) (fun g hg => ⟨(hk.2.1.lt g hg).1, fun e => hk.fneM (by rw [hg, e]), fun e => hk.fnec g hg e.symm, (hk.2.1.lt g hg).2⟩)).to (hsm.mono (fun g h => ⟨h.2.2.2, h.2.2.1⟩)) (fun g h1 h2 => ⟨h2.1, h2.2.1, fun e => by simp [Value.ownBlock] at e, hnew g h1 h2.2.2.1⟩)
      have hps : ∀ p ∈ ps, FrsIn (GS base M (.slice none 0 0) v') w2 p.2 p.1 := fun p hp =>
        ((CP3.out p hp).mono (S' := fun g => base ≤ g ∧ g ≠ M ∧ some g ≠ cv.ownBlock ∧ g < w.heap.size) (fun g h1 h2 => ⟨h2.1, h2.2.1, h2.2.2.2, h1⟩)).to (hsm.mono (fun g h => ⟨h.2.2.2, h.2.2.1⟩)) (fun g h1 h2 => ⟨h2.1, h2.2.1, fun e => by simp [Value.ownBlock] at e, hnew g h1 h2.2.2.1⟩)
      have hog : OwnGrs base (GS base M (.slice none 0 0) v') w2 v' (cl ++ [o]) := ⟨ps ++ [(o, fv)], by rw [List.map_append, CP1.out]; rfl, by rw [List.length_append, List.map_append, HPL.out]; exact g2, fun p hp => by
        rcases List.mem_append.1 hp with hp | hp
        · exact hps p hp
        · simp at hp; subst hp; exact hfv⟩
      have hog3 : OwnGrs base (GS base M (.slice none 0 0) v') (w2.setCell ⟨M, 1, none⟩ v') v' (cl ++ [o]) := hog.to (SameOn.setCell (fun g hg => hg.2.1) _) (fun _ _ h => h) (fun g hg => Below.heap_setCell _ _ _ _ (fun e => hvM (by rw [hg]; exact congrArg some e)))
      have FIN : Hid (GMk base M ((w2.setCell ⟨M, 1, none⟩ v').setCell ⟨M, 0, none⟩ (.slice none 0 0)) (.slice none 0 0) v' [] (cl ++ [o])) := FIN0.out _ v' (cl ++ [o]) (kM2.set 1 _) hog3 hvM
      have BEL : Hid (Below base w ((w2.setCell ⟨M, 1, none⟩ v').setCell ⟨M, 0, none⟩ (.slice none 0 0))) := ((((Below.refl base w).drew.alloc (by show _ ≤ w.heap.size; omega) _).grown g3 (by simp; omega) (fun j hj => (CP2.out.lt j hj).1)).setCell (by exact hbM) _).setCell (by exact hbM) _
      have OTH : Hid (∀ j, j < w.heap.size → j ≠ M → some j ≠ cv.ownBlock → ((w2.setCell ⟨M, 1, none⟩ v').setCell ⟨M, 0, none⟩ (.slice none 0 0)).heap[j]? = w.heap[j]?) := fun j h1 h2 h3 => by
        rw [Below.heap_setCell _ _ _ _ (by exact h2), Below.heap_setCell _ _ _ _ (by exact h2)]
        exact hsm.2 j h1 ⟨h1, h3⟩
      have y0 := (kM2.set 1 v').two.1
      have y1 := (kM2.set 1 v').free 0
      subst hw
      simp only [putC, Ck.out]
      clear hog hog3 hps hfv hsm hnew g2 g3 g4 kM2 k0 k1 kf
      go_wp2
      go_end0
      exact ⟨rfl, ⟨v', FIN.out⟩, BEL.out, OTH.out⟩
  · rw [if_neg hn0]
    have hn00 : n = 0 := by omega
    have FIN : Hid (GMk base M (w.setCell ⟨M, 0, none⟩ (.slice none 0 0)) (.slice none 0 0) cv [] cl) := FIN0.out w cv cl KM.out (HMK.out.2.2.to (SameOn.refl _ _) (fun g _ h => ⟨h.1, h.2.1, fun e => by simp [Value.ownBlock] at e, h.2.2.2⟩) (fun _ _ => rfl)) HMK.out.cneM
    rw [efv] at k0
    subst hn00
    clear hn hm hql hpl fq1 fq2 fq3 cp1 cp2 cp3 kM efv ecv
    go_enter Tryz.func191, Tryz.ntmps191
    go_wp2
    go_end0
    exact ⟨rfl, ⟨cv, FIN.out⟩, (Below.refl base w).setCell (by exact hbM) _, fun j _ h2 _ => Below.heap_setCell _ _ _ _ h2⟩

end Go.Proofs.YtnpaejknoipicagGreat

namespace Go.Proofs.YtnpaejknoipicagGreat
open Go.RowKit

/-- what a row of frames shows, as cells -/
theorem FrsIn.sl {S : Nat → Prop} {w : World} {v : Value} {l : List Fr} (h : FrsIn S w v l) : ∃ ps : List (Fr × Value), ps.map Prod.fst = l ∧ Sl w v ps.length 3 (frCells ps) ∧ ∀ p ∈ ps, StrsIn S w p.2 p.1.parts := by
  obtain ⟨ao, c, rfl, _, _, hc⟩ := h
  have each : ∀ k, k < l.length → ∃ pv, ∃ b off, ao = some ⟨b, off, none⟩ ∧ b < w.heap.size ∧ w.cell? ⟨b, off + k * 3, none⟩ = some (.int .i64 (l[k]?.getD Fr.zero).time) ∧ w.cell? ⟨b, off + k * 3 + 1, none⟩ = some (.bool (l[k]?.getD Fr.zero).key) ∧ w.cell? ⟨b, off + k * 3 + 2, none⟩ = some pv ∧ StrsIn S w pv (l[k]?.getD Fr.zero).parts := fun k hk => by
    obtain ⟨b, off, e1, e2, _, pv, h1, h2, h3, h4⟩ := hc k hk
    exact ⟨pv, b, off, e1, e2, h1, h2, h3, h4⟩
  obtain ⟨f, hf⟩ := Go.Deep.choose_lt each
  have hlen : ((List.range l.length).map fun k => (l[k]?.getD Fr.zero, f k)).length = l.length := by simp
  have hat : ∀ k, k < l.length → ((List.range l.length).map fun k => (l[k]?.getD Fr.zero, f k))[k]? = some (l[k]?.getD Fr.zero, f k) := fun k hk => by
    rw [List.getElem?_map, List.getElem?_range hk]; rfl
  refine ⟨(List.range l.length).map fun k => (l[k]?.getD Fr.zero, f k), ?_, ?_, fun p hp => ?_⟩
  · refine List.ext_getElem (by simp) fun k h1 h2 => ?_
    simp [List.getElem?_eq_getElem h2]
  · rw [hlen]
    refine ⟨by rw [frCells_len, hlen], ?_⟩
    by_cases h0 : l.length = 0
    · exact .inl ⟨h0, ao, c, by rw [h0]⟩
    · obtain ⟨b, off, e1, e2, _⟩ := hf 0 (by omega)
      subst e1
      refine .inr ⟨b, off, c, rfl, e2, fun j u hj => ?_⟩
      have hjl : j < l.length * 3 := by
        have := (List.getElem?_eq_some_iff.1 hj).1
        rwa [frCells_len, hlen] at this
      have hjk : j = j / 3 * 3 + j % 3 := by omega
      rw [hjk, frCells_at _ (j / 3) (j % 3) _ (by omega) (hat (j / 3) (by omega))] at hj
      obtain ⟨b', off', e1, _, g0, g1, g2, _⟩ := hf (j / 3) (by omega)
      injection e1 with e1
      injection e1 with e1 e3
      subst e1 e3
      have h3 : j % 3 = 0 ∨ j % 3 = 1 ∨ j % 3 = 2 := by omega
      rcases h3 with h3 | h3 | h3
      · rw [h3] at hj hjk
        simp at hj; subst hj
        rw [show off + j = off + j / 3 * 3 by omega]; exact g0
      · rw [h3] at hj hjk
        simp at hj; subst hj
        rw [show off + j = off + j / 3 * 3 + 1 by omega]; exact g1
      · rw [h3] at hj hjk
        simp at hj; subst hj
        rw [show off + j = off + j / 3 * 3 + 2 by omega]; exact g2
  · obtain ⟨k, hk, rfl⟩ := List.mem_map.1 hp
    obtain ⟨b, off, _, _, _, _, _, h4⟩ := hf k (by simpa using hk)
    exact h4
theorem GrsIn.sl {S : Nat → Prop} {w : World} {v : Value} {L : List (List Fr)} (h : GrsIn S w v L) : ∃ ps : List (List Fr × Value), ps.map Prod.fst = L ∧ Sl w v ps.length 1 (ps.map Prod.snd) ∧ ∀ p ∈ ps, FrsIn S w p.2 p.1 := by
  obtain ⟨ao, c, rfl, _, _, hc⟩ := h
  have each : ∀ k, k < L.length → ∃ sv, ∃ b off, ao = some ⟨b, off, none⟩ ∧ b < w.heap.size ∧ w.cell? ⟨b, off + k, none⟩ = some sv ∧ FrsIn S w sv (L[k]?.getD []) := fun k hk => by
    obtain ⟨b, off, e1, e2, _, sv, h1, h2⟩ := hc k hk
    exact ⟨sv, b, off, e1, e2, h1, h2⟩
  obtain ⟨f, hf⟩ := Go.Deep.choose_lt each
  have hlen : ((List.range L.length).map fun k => (L[k]?.getD [], f k)).length = L.length := by simp
  refine ⟨(List.range L.length).map fun k => (L[k]?.getD [], f k), ?_, ?_, fun p hp => ?_⟩
  · refine List.ext_getElem (by simp) fun k h1 h2 => ?_
    simp [List.getElem?_eq_getElem h2]
  · rw [hlen]
    refine ⟨by simp, ?_⟩
    by_cases h0 : L.length = 0
    · exact .inl ⟨h0, ao, c, by rw [h0]⟩
    · obtain ⟨b, off, e1, e2, _⟩ := hf 0 (by omega)
      subst e1
      refine .inr ⟨b, off, c, rfl, e2, fun j u hj => ?_⟩
      have hjl : j < L.length := by
        have := (List.getElem?_eq_some_iff.1 hj).1
        simpa using this
      obtain ⟨b', off', e1, _, g0, _⟩ := hf j hjl
      injection e1 with e1
      injection e1 with e1 e3
      subst e1 e3
      rw [List.getElem?_map, List.getElem?_map, List.getElem?_range hjl] at hj
      simp at hj; subst hj
      exact g0
  · obtain ⟨k, hk, rfl⟩ := List.mem_map.1 hp
    obtain ⟨b, off, _, _, _, h4⟩ := hf k (by simpa using hk)
    exact h4
theorem fr_one2 {S : Nat → Prop} {w : World} {ps : List (Fr × Value)} (h : ∀ p ∈ ps, StrsIn S w p.2 p.1.parts) : ∀ u ∈ frCells ps, u.oneCell' = true := fun u hu => by
  obtain ⟨p, hp, hu⟩ := List.mem_flatMap.1 hu
  simp at hu
  rcases hu with rfl | rfl | rfl
  · rfl
  · rfl
  · obtain ⟨a, c, e⟩ := (h p hp).1.len
    rw [e]; rfl
/-- append of groups to a row of the call's own -/
theorem groups_app {base : Nat} {S : Nat → Prop} {w : World} {v u : Value} {L M : List (List Fr)} {qs : List (List Fr × Value)} (hv : OwnGrs base S w v L) (q1 : qs.map Prod.fst = M) (q2 : Sl w u qs.length 1 (qs.map Prod.snd)) (q3 : ∀ p ∈ qs, FrsIn S w p.2 p.1) (hS : ∀ g, S g → some g ≠ v.ownBlock) (hb : L.length + M.length ≤ 1000) (hbase : base ≤ w.heap.size) :
    ∃ v' w', (Builtin.append_ #[27, 27] 27 #[v, u]).run Tryz.prog w = .ok v' w' ∧ OwnGrs base S w' v' (L ++ M) ∧ w.grownBy w' v.ownBlock ∧ (v'.ownBlock = v.ownBlock ∨ ∀ g, v'.ownBlock = some g → w.heap.size ≤ g) := by
  obtain ⟨i0, hi, hz0, hz1, hz2⟩ := info_parts Tryz.infoGrp
  obtain ⟨ps, p1, p2, p3⟩ := hv
  have hps : ps.length = L.length := by rw [← p1, List.length_map]
  have hqs : qs.length = M.length := by rw [← q1, List.length_map]
  obtain ⟨v', w', r, o, g, dd⟩ := run_append_any (P := Tryz.prog) w base 27 27 30 i0 _ 1 24 Tryz.underlying27 hi hz0 hz1 hz2 rfl (by decide) v ps.length (ps.map Prod.snd) p2 qs.length (qs.map Prod.snd) u q2 (grp_one q3) (by unfold maxLen; omega) (by omega) hbase
  refine ⟨v', w', r, ⟨ps ++ qs, by rw [List.map_append, p1, q1], by rw [List.length_append, List.map_append]; exact o, fun p hp => ?_⟩, g, dd⟩
  have hs : SameOn S w w' := SameOn.grown g hS
  rcases List.mem_append.1 hp with hp | hp
  · exact (p3 p hp).to hs (fun _ _ h => h)
  · exact (q3 p hp).to hs (fun _ _ h => h)
end Go.Proofs.YtnpaejknoipicagGreat

namespace Go.Proofs.YtnpaejknoipicagGreat
open Go.RowKit

/-- new blocks, but a row's own -/
def NS (base : Nat) (u : Value) : Nat → Prop := fun g => base ≤ g ∧ some g ≠ u.ownBlock

/-- one more frame behind a row of the call's own -/
theorem fr_snoc {base : Nat} {w : World} {u pv : Value} {l : List Fr} {f : Fr} (h : OwnFrs base (NS base u) w u l) (hp : StrsIn (NS base u) w pv f.parts) (hl : l.length ≤ 999) (hb : base ≤ w.heap.size) :
    ∃ v' w', (Builtin.append_ #[28, 28] 28 #[u, .slice (some ⟨w.heap.size, 0, none⟩) 1 1]).run Tryz.prog (w.alloc (.cells #[.int .i64 f.time, .bool f.key, pv] 98)) = .ok v' w' ∧ OwnFrs base (NS base v') w' v' (l ++ [f]) ∧ Below base w w' := by
  obtain ⟨i0, hi, hz0, hz1, hz2⟩ := info_parts Tryz.infoFrm
  have h1 : OwnFrs base (fun g => NS base u g ∧ g < w.heap.size) (w.alloc (.cells #[.int .i64 f.time, .bool f.key, pv] 98)) u l := (h.to (SameOn.refl _ _) (fun g hg hs => ⟨hs, hg⟩) (fun _ _ => rfl)).below ((Below.refl _ w).alloc (Nat.le_refl _) _)
  have hp1 : StrsIn (fun g => NS base u g ∧ g < w.heap.size) (w.alloc (.cells #[.int .i64 f.time, .bool f.key, pv] 98)) pv f.parts := (hp.mono fun g hg hs => ⟨hs, hg⟩).alloc _
  obtain ⟨ps, p1, p2, p3⟩ := h1
  have hps : ps.length = l.length := by rw [← p1, List.length_map]
  obtain ⟨pa, pc, ep⟩ := hp.1.len
  obtain ⟨v', w', r, o, g, dd⟩ := run_append_any (P := Tryz.prog) (w.alloc (.cells #[.int .i64 f.time, .bool f.key, pv] 98)) base 28 28 98 i0 _ 3 40 Tryz.underlying28 hi hz0 hz1 hz2 rfl (by decide) u ps.length (frCells ps) p2 1 [.int .i64 f.time, .bool f.key, pv] (.slice (some ⟨w.heap.size, 0, none⟩) 1 1) (Sl.new w #[.int .i64 f.time, .bool f.key, pv] 98 1 3 1 rfl) (fun x hx => by simp at hx; rcases hx with rfl | rfl | rfl; rfl; rfl; rw [ep]; rfl) (by unfold maxLen; omega) (by omega) (by simp; omega)
  have o1 := OwnFrs.snoc p1 p3 hp1 o g (fun g hg => hg.1.2)
  refine ⟨v', w', r, o1.to (SameOn.refl _ _) (fun g _ hg => ⟨hg.1.1, fun e => ?_⟩) (fun _ _ => rfl), ((Below.refl base w).alloc hb _).grown g (by simp; omega) (fun j hj => (p2.lt j hj).1)⟩
  rcases dd with d | d
  · rw [d] at e; exact hg.1.2 e
  · have := d g e.symm; simp at this; omega
/-- one more group behind a row of the call's own -/
theorem gr_snoc {base : Nat} {w : World} {u sv : Value} {L : List (List Fr)} {g : List Fr} (h : OwnGrs base (NS base u) w u L) (hp : FrsIn (NS base u) w sv g) (hl : L.length ≤ 999) (hb : base ≤ w.heap.size) :
    ∃ v' w', (Builtin.append_ #[27, 27] 27 #[u, .slice (some ⟨w.heap.size, 0, none⟩) 1 1]).run Tryz.prog (w.alloc (.cells #[sv] 30)) = .ok v' w' ∧ OwnGrs base (NS base v') w' v' (L ++ [g]) ∧ Below base w w' := by
  have h1 : OwnGrs base (fun g => NS base u g ∧ g < w.heap.size) (w.alloc (.cells #[sv] 30)) u L := (h.to (SameOn.refl _ _) (fun g hg hs => ⟨hs, hg⟩) (fun _ _ => rfl)).below ((Below.refl _ w).alloc (Nat.le_refl _) _)
  obtain ⟨v', w', r, o, gr, dd⟩ := groups_app (qs := [(g, sv)]) h1 rfl (Sl.new w #[sv] 30 1 1 1 rfl) (fun p hp' => by
    simp at hp'; subst hp'
    exact ((hp.mono (S' := fun g => NS base u g ∧ g < w.heap.size) fun g hg hs => ⟨hs, hg⟩).alloc _)) (fun g hg => hg.1.2) (by simp; omega) (by simp; omega)
  refine ⟨v', w', r, o.to (SameOn.refl _ _) (fun g _ hg => ⟨hg.1.1, fun e => ?_⟩) (fun _ _ => rfl), ((Below.refl base w).alloc hb _).grown gr (by simp; omega) (fun j hj => (h.lt j hj).1)⟩
  rcases dd with d | d
  · rw [d] at e; exact hg.1.2 e
  · have := d g e.symm; simp at this; omega

set_option maxHeartbeats 4000000 in
set_option maxRecDepth 100000 in
theorem cloneFrs_any (S : Nat → Prop) (v : Value) (l : List Fr) (w : World) (hv : FrsIn S w v l) (hlen : l.length ≤ 6) (hck : ∀ k, k < l.length → (frAt l k).chk = 0) :
    Calls Tryz.prog 111 #[v, .func (.func 112) #[] #[]] w fun e w' => ∃ u, e = .returned u ∧ OwnFrs w.heap.size (NS w.heap.size u) w' u l ∧ Below w.heap.size w w' := by
  obtain ⟨ao, c, hva, h1, h2, hc⟩ := hv
  obtain ⟨n, hn⟩ : ∃ n, n = l.length := ⟨_, rfl⟩
  have HN : Hid (n = l.length) := hn
  have HC : Hid (∀ k, k < l.length → ∃ b off, ao = some ⟨b, off, none⟩ ∧ b < w.heap.size ∧ S b ∧ At3In S w b (off + k * 3) (l[k]?.getD Fr.zero)) := hc
  have H8 : Hid (∀ k, k < l.length → (frAt l k).chk = 0) := hck
  have eg : Enters Tryz.prog 112 := enters_of Tryz.func112 (by kernel_rfl) rfl
  have eg' : ∀ (args : Array Value) (w : World), (callFunc 112 args).run Tryz.prog w = .ok (.enter 112 args) w := eg
  rw [← hn] at hva hlen h1
  clear hc hn hck eg
  subst hva
  go_enter Tryz.func111, Tryz.ntmps111
  go_wp2_with fail
  go_loopw [5, 10] (fun u i wr => ∃ k : Nat, k ≤ n ∧ i = .int .i64 k ∧ Hid (OwnFrs w.heap.size (NS w.heap.size u) wr u (l.take k)) ∧ Hid (Below w.heap.size w wr))
    (fun _ i _ => n - (intOf i).toNat)
  case atStart => exact ⟨0, Nat.zero_le _, rfl, OwnFrs.nil _ _ _, Below.refl _ _⟩
  case round =>
    obtain ⟨k, hk, rfl, HO, HB⟩ := hrel
    by_cases hlt : k < n
    · obtain ⟨b, off, rfl, hb, _, pv, c0, c1, c2, hps⟩ := HC.out k (by rw [← HN.out]; exact hlt)
      obtain ⟨f, hf⟩ : ∃ f, f = frAt l k := ⟨_, rfl⟩
      rw [show l[k]?.getD Fr.zero = f from hf.symm] at c0 c1 hps
      have d0 := (HB.out.cell (p := ⟨b, off + k * 3, none⟩) hb).trans c0
      have d1 := (HB.out.cell (p := ⟨b, off + k * 3 + 1, none⟩) hb).trans c1
      have d2 := (HB.out.cell (p := ⟨b, off + k * 3 + 2, none⟩) hb).trans c2
      have hfk := H8.out k (by rw [← HN.out]; exact hlt)
      rw [← hf] at hfk
      obtain ⟨pa, pc, ep⟩ := hps.1.len
      obtain ⟨pn, hpn⟩ : ∃ pn, pn = f.parts.length := ⟨_, rfl⟩
      rw [← hpn] at ep
      have HCL : Hid (∀ U, Below w.heap.size w U → Calls Tryz.prog 112 #[.agg #[.int .i64 f.time, .bool f.key, pv]] U fun e w' => ∃ a c, e = .returned (.agg #[.int .i64 f.time, .bool f.key, .slice a pn c]) ∧ Hid (StrsIn (fun g => U.heap.size ≤ g) w' (.slice a pn c) f.parts) ∧ Below U.heap.size U w') := fun U hU => by
        rw [hpn]; exact cloneFrame_any S f pv U (hps.below hU) hfk
      have hlti : (k : Int) < (n : Int) := by omega
      have HTK : Hid (l.take (k + 1) = l.take k ++ [f]) := by show _ = _; rw [take_one (by rw [← HN.out]; exact hlt) Fr.zero, hf]
      clear hps hf hpn c0 c1 c2 hfk
      subst ep
      go_wp2_with fail
      have B1 : Hid (Below w.heap.size w (wr.alloc (.cells #[.int .i64 f.time, .bool f.key, .slice pa pn pc] 98))) := HB.out.alloc HB.out.size _
      refine (HCL.out _ B1.out).mono ?_
      rintro e w2 ⟨a2, c2, rfl, HS2, hb2⟩
      have B2 : Below w.heap.size w w2 := B1.out.trans (hb2.mono B1.out.size)
      have hsz := B1.out.size
      have O2 : OwnFrs w.heap.size (NS w.heap.size u5) w2 u5 (l.take k) := (HO.out.below ((Below.refl _ wr).alloc (Nat.le_refl _) _)).below hb2
      obtain ⟨v', w3, r3, o3, b3⟩ := fr_snoc (f := f) (pv := .slice a2 pn c2) O2 (HS2.out.mono fun g _ hg => ⟨by simp at hg; have := HB.out.size; omega, fun e => by have := (HO.out.lt g e.symm).2; simp at hg; omega⟩) (by simp; omega) B2.size
      have O3 : Hid (OwnFrs w.heap.size (NS w.heap.size v') w3 v' (l.take (k + 1))) := by
        show OwnFrs _ _ _ _ _
        rw [HTK.out]; exact o3
      have B3 : Hid (Below w.heap.size w w3) := B2.trans b3
      clear hb2 d0 d1 d2 O2 o3 b3 HS2 B1 HO HB B2
      go_wp2_with (at_builtin; refine wpList_append_run rfl (.tmp 14) (.tmp 18) 28 28 rfl _ _ rfl rfl r3 ?_)
      go_roundw
      case rel => exact ⟨k + 1, by omega, by go_num, O3, B3⟩
      case measure => simp [intOf]; omega
    · have hkl : k = n := by omega
      subst hkl
      go_wp2
      go_ret
      have ho := HO.out
      rw [HN.out, List.take_length] at ho
      exact ⟨_, rfl, ho, HB.out⟩

set_option maxHeartbeats 4000000 in
set_option maxRecDepth 100000 in
theorem cloneGroup_any (S : Nat → Prop) (v : Value) (l : List Fr) (w : World) (hv : FrsIn S w v l) (hk : gchk l = 0) :
    Calls Tryz.prog 70 #[.agg #[v]] w fun e w' => ∃ a c, e = .returned (.agg #[.slice a l.length c]) ∧ FrsIn (fun g => w.heap.size ≤ g) w' (.slice a l.length c) l ∧ Below w.heap.size w w' := by
  obtain ⟨_, h6, hck⟩ := gchk_zero.1 hk
  obtain ⟨va, vc, ev, _, _⟩ := hv.len
  obtain ⟨n, hn⟩ : ∃ n, n = l.length := ⟨_, rfl⟩
  have HN : Hid (n = l.length) := hn
  have HV : Hid (FrsIn S w v l) := hv
  have HC : Hid (∀ U, Below w.heap.size w U → Calls Tryz.prog 111 #[v, .func (.func 112) #[] #[]] U fun e w' => ∃ a c, e = .returned (.slice a n c) ∧ Hid (FrsIn (fun g => U.heap.size ≤ g) w' (.slice a n c) l) ∧ Below U.heap.size U w') := fun U hU => by
    refine (cloneFrs_any S v l U (HV.out.below hU) h6 (fun k hk => (hck k hk).1)).mono ?_
    rintro e w' ⟨u, rfl, ho, hb⟩
    have hf : FrsIn (fun g => U.heap.size ≤ g) w' u l := ho.frsIn (fun g _ h => h.1) (fun g hg => (ho.lt g hg).1)
    obtain ⟨a, c, e, _, _⟩ := hf.len
    rw [← hn] at e
    subst e
    exact ⟨a, c, rfl, hf, hb⟩
  rw [← hn] at ev ⊢
  clear hv hk hck hn h6
  subst ev
  go_enter Tryz.func70, Tryz.ntmps70
  go_wp2_with fail
  have B1 : Hid (Below w.heap.size w ((w.alloc (.cells #[.slice va n vc] 30)).alloc (.cells #[.slice none 0 0] 30))) := ((Below.refl _ _).alloc (Nat.le_refl _) _).alloc (by simp) _
  have K1 : Hid (Blk ((w.alloc (.cells #[.slice va n vc] 30)).alloc (.cells #[.slice none 0 0] 30)) (w.heap.size + 1) #[.slice none 0 0] 30) := by
    have := Blk.new (w.alloc (.cells #[.slice va n vc] 30)) #[.slice none 0 0] 30
    simpa [Hid] using this
  refine (HC.out _ B1.out).mono ?_
  rintro e w2 ⟨a2, c2, rfl, HF, hb2⟩
  have B2 : Hid (Below w.heap.size w w2) := B1.out.trans (hb2.mono B1.out.size)
  have K2 := K1.out.below hb2 K1.out.lt
  have r0 := K2.one
  have r1 := K2.free 0
  have c9 : (w2.setCell ⟨w.heap.size + 1, 0, none⟩ (.slice a2 n c2)).cell? ⟨w.heap.size + 1, 0, none⟩ = some (.slice a2 n c2) := (K2.set 0 _).cell rfl
  have F9 : Hid (FrsIn (fun g => w.heap.size ≤ g) (w2.setCell ⟨w.heap.size + 1, 0, none⟩ (.slice a2 n c2)) (.slice a2 n c2) l) := HF.out.to (SameOn.setCell (fun g hg => by simp at hg ⊢; omega) _) (fun g _ hg => by simp at hg; omega)
  clear hb2 K1 B1 K2 HF
  go_wp2
  exact bodyPost_ret (v := .agg #[.slice a2 n c2]) (by simp [results, Tryz.results70, go_sem, c9]) rfl ⟨a2, c2, rfl, F9.out, B2.out.setCell (by simp) _⟩

set_option maxHeartbeats 4000000 in
set_option maxRecDepth 100000 in
theorem cloneGroups_any (S : Nat → Prop) (v : Value) (L : List (List Fr)) (w : World) (hv : GrsIn S w v L) (hlen : L.length ≤ 100) (hck : ∀ g ∈ L, gchk g = 0) :
    Calls Tryz.prog 69 #[v] w fun e w' => ∃ u, e = .returned u ∧ OwnGrs w.heap.size (NS w.heap.size u) w' u L ∧ Below w.heap.size w w' := by
  obtain ⟨ao, c, hva, h1, h2, hc⟩ := hv
  obtain ⟨n, hn⟩ : ∃ n, n = L.length := ⟨_, rfl⟩
  have HN : Hid (n = L.length) := hn
  have HC : Hid (∀ k, k < L.length → ∃ b off, ao = some ⟨b, off, none⟩ ∧ b < w.heap.size ∧ S b ∧ ∃ sv, w.cell? ⟨b, off + k, none⟩ = some sv ∧ FrsIn S w sv (L[k]?.getD [])) := hc
  have H8 : Hid (∀ k, k < L.length → gchk (L[k]?.getD []) = 0) := fun k hk => hck _ (by rw [List.getElem?_eq_getElem hk]; exact List.getElem_mem _)
  have eg : Enters Tryz.prog 70 := enters_of Tryz.func70 (by kernel_rfl) rfl
  have eg' : ∀ (args : Array Value) (w : World), (callFunc 70 args).run Tryz.prog w = .ok (.enter 70 args) w := eg
  rw [← hn] at hva hlen h1
  clear hc hn hck eg
  subst hva
  have ALL : Hid (Calls Tryz.prog 110 #[.slice ao n c, .func (.func 70) #[] #[]] w fun e w' => ∃ u, e = .returned u ∧ OwnGrs w.heap.size (NS w.heap.size u) w' u L ∧ Below w.heap.size w w') := by
    show Calls _ _ _ _ _
    go_enter Tryz.func110, Tryz.ntmps110
    go_wp2_with fail
    go_loopw [5, 10] (fun u i wr => ∃ k : Nat, k ≤ n ∧ i = .int .i64 k ∧ Hid (OwnGrs w.heap.size (NS w.heap.size u) wr u (L.take k)) ∧ Hid (Below w.heap.size w wr))
      (fun _ i _ => n - (intOf i).toNat)
    case atStart => exact ⟨0, Nat.zero_le _, rfl, OwnGrs.nil _ _ _, Below.refl _ _⟩
    case round =>
      obtain ⟨k, hk, rfl, HO, HB⟩ := hrel
      by_cases hlt : k < n
      · obtain ⟨b, off, rfl, hb, _, sv, c0, hs⟩ := HC.out k (by rw [← HN.out]; exact hlt)
        have hgk := H8.out k (by rw [← HN.out]; exact hlt)
        obtain ⟨g, hg⟩ : ∃ g, g = L[k]?.getD [] := ⟨_, rfl⟩
        rw [← hg] at hs hgk
        have d0 := (HB.out.cell (p := ⟨b, off + k, none⟩) hb).trans c0
        obtain ⟨sa, sc, es, _, _⟩ := hs.len
        obtain ⟨gn, hgn⟩ : ∃ gn, gn = g.length := ⟨_, rfl⟩
        rw [← hgn] at es
        have HCL : Hid (∀ U, Below w.heap.size w U → Calls Tryz.prog 70 #[.agg #[sv]] U fun e w' => ∃ a c, e = .returned (.agg #[.slice a gn c]) ∧ Hid (FrsIn (fun g => U.heap.size ≤ g) w' (.slice a gn c) g) ∧ Below U.heap.size U w') := fun U hU => by
          rw [hgn]; exact cloneGroup_any S sv g U (hs.below hU) hgk
        have hlti : (k : Int) < (n : Int) := by omega
        have HTK : Hid (L.take (k + 1) = L.take k ++ [g]) := by show _ = _; rw [take_one (by rw [← HN.out]; exact hlt) [], hg]
        clear hs hg hgn c0 hgk
        subst es
        go_wp2_with fail
        have B1 : Hid (Below w.heap.size w (wr.alloc (.cells #[.slice sa gn sc] 30))) := HB.out.alloc HB.out.size _
        refine (HCL.out _ B1.out).mono ?_
        rintro e w2 ⟨a2, c2, rfl, HS2, hb2⟩
        have B2 : Below w.heap.size w w2 := B1.out.trans (hb2.mono B1.out.size)
        have hsz := B1.out.size
        have O2 : OwnGrs w.heap.size (NS w.heap.size u5) w2 u5 (L.take k) := (HO.out.below ((Below.refl _ wr).alloc (Nat.le_refl _) _)).below hb2
        obtain ⟨v', w3, r3, o3, b3⟩ := gr_snoc (g := g) (sv := .slice a2 gn c2) O2 (HS2.out.mono fun g _ hg => ⟨by simp at hg; have := HB.out.size; omega, fun e => by have := (HO.out.lt g e.symm).2; simp at hg; omega⟩) (by simp; omega) B2.size
        have O3 : Hid (OwnGrs w.heap.size (NS w.heap.size v') w3 v' (L.take (k + 1))) := by
          show OwnGrs _ _ _ _ _
          rw [HTK.out]; exact o3
        have B3 : Hid (Below w.heap.size w w3) := B2.trans b3
        clear hb2 d0 O2 o3 b3 HS2 B1 HO HB B2
        go_wp2_with (at_builtin; refine wpList_append_run rfl (.tmp 14) (.tmp 18) 27 27 rfl _ _ rfl rfl r3 ?_)
        go_roundw
        case rel => exact ⟨k + 1, by omega, by go_num, O3, B3⟩
        case measure => simp [intOf]; omega
      · have hkl : k = n := by omega
        subst hkl
        go_wp2
        go_ret
        have ho := HO.out
        rw [HN.out, List.take_length] at ho
        exact ⟨_, rfl, ho, HB.out⟩
  clear eg' HC H8
  go_enter Tryz.func69, Tryz.ntmps69
  go_wp2_with fail
  refine ALL.out.mono ?_
  rintro e w1 ⟨u, rfl, ho, hb⟩
  have HO : Hid (OwnGrs w.heap.size (NS w.heap.size u) w1 u L) := ho
  clear ho ALL
  go_wp2
  go_ret
  exact ⟨u, rfl, HO.out, hb⟩

end Go.Proofs.YtnpaejknoipicagGreat

namespace Go.Proofs.YtnpaejknoipicagGreat
open Go.RowKit

/-- how many of the first groups go -/
def trimD : List (List Fr) → Nat
  | [] => 0
  | g :: r => if fullB (g :: r) then trimD r + 1 else 0
theorem fullB_nil : fullB [] = false := by simp [fullB, tooB]
theorem trimD_no {L : List (List Fr)} (h : fullB L = false) : trimD L = 0 := by
  cases L with
  | nil => rfl
  | cons g r => simp [trimD, h]
theorem trimD_yes {L : List (List Fr)} (h : fullB L = true) : trimD L = trimD L.tail + 1 := by
  cases L with
  | nil => rw [fullB_nil] at h; cases h
  | cons g r => simp [trimD, h]
theorem trimD_drop (L : List (List Fr)) : ∀ k, (∀ j, j < k → fullB (L.drop j) = true) → trimD L = k + trimD (L.drop k)
  | 0, _ => by simp
  | k + 1, h => by
    rw [trimD_drop L k (fun j hj => h j (by omega)), trimD_yes (h k (by omega)), List.tail_drop]
    omega
theorem fullB_len {L : List (List Fr)} (h : fullB L = true) : 1 < L.length := by
  simp only [fullB, tooB, Bool.or_eq_true, Bool.and_eq_true, decide_eq_true_eq] at h
  omega

theorem GrsIn.tail {S : Nat → Prop} {w : World} {ao : Option Addr} {n c : Nat} {L : List (List Fr)} (h : GrsIn S w (.slice ao n c) L) (h1 : 1 < L.length) : ∃ b off, ao = some ⟨b, off, none⟩ ∧ n = L.length ∧ L.length ≤ c ∧ GrsIn S w (.slice (some ⟨b, off + 1, none⟩) (L.length - 1) (c - 1)) L.tail := by
  obtain ⟨ao', c', e, hc1, hc2, hc⟩ := h
  injection e with e1 e2 e3
  subst e1 e2 e3
  obtain ⟨b, off, e, _⟩ := hc 0 (by omega)
  subst e
  refine ⟨b, off, rfl, rfl, hc1, some ⟨b, off + 1, none⟩, c - 1, by rw [List.length_tail], by rw [List.length_tail]; omega, by omega, fun k hk => ?_⟩
  rw [List.length_tail] at hk
  obtain ⟨b', off', e, hb, hS, sv, h1, h2⟩ := hc (k + 1) (by omega)
  injection e with e
  injection e with e1 e2
  subst e1 e2
  refine ⟨b, off + 1, rfl, hb, hS, sv, by rw [show off + 1 + k = off + (k + 1) by omega]; exact h1, ?_⟩
  rw [List.getElem?_tail]; exact h2

set_option maxHeartbeats 4000000 in
set_option maxRecDepth 100000 in
theorem letGo_any (M : Nat) (first : Int) (gv ov : Value) (L : List (List Fr)) (S : Nat → Prop) (w : World) (hM : Blk w M #[.int .i64 first, gv, ov] 221) (hg : GrsIn S w gv L) (hS : ∀ g, S g → g ≠ M) (hL : L.length ≤ 1000) (hf0 : 0 ≤ first) (hf1 : first ≤ 1000000) :
    Calls Tryz.prog 185 #[.pointer (some ⟨M, 0, none⟩)] w fun e w' => e = .returned (.tuple #[]) ∧ ∃ gv', Blk w' M #[.int .i64 (first + trimD L), gv', ov] 221 ∧ GrsIn S w' gv' (L.drop (trimD L)) ∧ Kept [M] w w' := by
  have HL : Hid (L.length ≤ 1000) := hL
  obtain ⟨n, hn⟩ : ∃ n, n = L.length := ⟨_, rfl⟩
  have HN : Hid (n = L.length) := hn
  have hn1 : n ≤ 1000 := by omega
  have HS : Hid (∀ g, S g → g ≠ M) := hS
  have HG : Hid (GrsIn S w gv L) := hg
  have HM : Hid (Blk w M #[.int .i64 first, gv, ov] 221) := hM
  clear hn hL hg hM hS
  go_enter Tryz.func185, Tryz.ntmps185
  go_wp2_with fail
  go_loopw [] (fun wr => ∃ (k : Nat) (gk : Value), k ≤ n ∧ Hid (∀ j, j < k → fullB (L.drop j) = true) ∧ Hid (Blk wr M #[.int .i64 (first + k), gk, ov] 221) ∧ Hid (GrsIn S wr gk (L.drop k)) ∧ Hid (Kept [M] w wr))
    (fun wr => n - (intOf ((wr.cell? ⟨M, 0, none⟩).getD undef) - first).toNat)
  case atStart => exact ⟨0, gv, Nat.zero_le _, (show ∀ j, _ → _ from fun j hj => absurd hj (Nat.not_lt_zero _)), by simpa [Hid] using HM.out, by simpa [Hid] using HG.out, Kept.refl _ _⟩
  case round =>
    obtain ⟨k, gk, hk, HF, KB, GK, KP⟩ := hrel
    obtain ⟨N, hN⟩ : ∃ N, N = L.drop k := ⟨_, rfl⟩
    have HNK : Hid (N = L.drop k) := hN
    rw [← hN] at GK
    obtain ⟨q, hq⟩ : ∃ q, q = N.length := ⟨_, rfl⟩
    have HQ : Hid (q = N.length) := hq
    have hql : q ≤ 1000 := by rw [hq, hN, List.length_drop]; have := HL.out; omega
    have HQN : Hid (q = n - k) := by show _ = _; rw [hq, hN, List.length_drop, HN.out]
    obtain ⟨ga, gc, eg, hgl, hg63⟩ := GK.out.len
    rw [← hq] at eg hgl hg63
    clear hN hq
    subst eg
    obtain ⟨k0, k1, k2⟩ := KB.out.three
    have f0 := KB.out.free 0
    have f1 := KB.out.free 1
    have hms : (intOf ((wr.cell? ⟨M, 0, none⟩).getD undef) - first).toNat = k := by rw [k0]; simp [intOf]; omega
    -- one goes
    have GO : Hid (fullB N = true → ∃ b off, ga = some ⟨b, off, none⟩ ∧ 1 < q ∧ q ≤ gc ∧ ∀ V : World, Blk V M #[.int .i64 (first + k), .slice ga q gc, ov] 221 → GrsIn S V (.slice ga q gc) N → Kept [M] w V → Hid (Blk ((V.setCell ⟨M, 1, none⟩ (.slice (some ⟨b, off + 1, none⟩) (q - 1) (gc - 1))).setCell ⟨M, 0, none⟩ (.int .i64 (first + k + 1))) M #[.int .i64 (first + (k + 1 : Nat)), .slice (some ⟨b, off + 1, none⟩) (q - 1) (gc - 1), ov] 221) ∧ Hid (GrsIn S ((V.setCell ⟨M, 1, none⟩ (.slice (some ⟨b, off + 1, none⟩) (q - 1) (gc - 1))).setCell ⟨M, 0, none⟩ (.int .i64 (first + k + 1))) (.slice (some ⟨b, off + 1, none⟩) (q - 1) (gc - 1)) (L.drop (k + 1))) ∧ Hid (Kept [M] w ((V.setCell ⟨M, 1, none⟩ (.slice (some ⟨b, off + 1, none⟩) (q - 1) (gc - 1))).setCell ⟨M, 0, none⟩ (.int .i64 (first + k + 1)))) ∧ Hid (∀ j, j < k + 1 → fullB (L.drop j) = true)) := fun hf => by
      have h1 := fullB_len hf
      obtain ⟨b, off, e1, _, h3, _⟩ := GK.out.tail h1
      refine ⟨b, off, e1, by rw [HQ.out]; exact h1, by rw [HQ.out]; exact h3, fun V h4 h5 h6 => ?_⟩
      obtain ⟨b', off', e2, _, _, h7⟩ := h5.tail h1
      rw [e1] at e2
      injection e2 with e2
      injection e2 with e2 e3
      subst e2 e3
      have hd : L.drop (k + 1) = N.tail := by rw [HNK.out, List.tail_drop]
      refine ⟨?_, ?_, (h6.setCell (by simp) _).setCell (by simp) _, fun j hj => ?_⟩
      · have := (h4.set 1 (.slice (some ⟨b, off + 1, none⟩) (q - 1) (gc - 1))).set 0 (.int .i64 (first + k + 1))
        rw [show first + ((k + 1 : Nat) : Int) = first + k + 1 by omega]
        simpa [Hid] using this
      · show GrsIn _ _ _ _
        rw [hd, HQ.out]
        exact h7.to ((SameOn.setCell (fun g hg => HS.out g hg) _).trans (SameOn.setCell (fun g hg => HS.out g hg) _)) (fun _ _ h => h)
      · by_cases e : j = k
        · subst e; rw [← HNK.out]; exact hf
        · exact HF.out j (by omega)
    -- nothing goes
    have END : Hid (fullB N = false → ∀ V : World, Blk V M #[.int .i64 (first + k), .slice ga q gc, ov] 221 → GrsIn S V (.slice ga q gc) N → Kept [M] w V → ∃ gv', Blk V M #[.int .i64 (first + trimD L), gv', ov] 221 ∧ GrsIn S V gv' (L.drop (trimD L)) ∧ Kept [M] w V) := fun hf V h1 h2 h3 => by
      have ht : trimD L = k := by rw [trimD_drop L k HF.out, ← HNK.out, trimD_no hf]; omega
      rw [ht]
      exact ⟨_, h1, by rw [← HNK.out]; exact h2, h3⟩
    by_cases h5 : 5 < q
    · have h5i : (5 : Int) < (q : Int) := by omega
      have hfull : fullB N = true := by unfold fullB; rw [← HQ.out]; simp [h5]
      obtain ⟨b, off, e1, h1q, hqc, hgo⟩ := GO.out hfull
      obtain ⟨r1, r2, r3, r4⟩ := hgo wr KB.out GK.out KP.out
      subst e1
      have h1i : (1 : Int) ≤ (q : Int) := by omega
      have hqci : (q : Int) ≤ (gc : Int) := by omega
      have c1 : (wr.setCell ⟨M, 1, none⟩ (.slice (some ⟨b, off + 1, none⟩) (q - 1) (gc - 1))).cell? ⟨M, 0, none⟩ = some (.int .i64 (first + k)) := (KB.out.set 1 _).cell rfl
      clear hfull hgo GO END HF
      go_wp2_with fail
      go_roundw
      case rel => exact ⟨k + 1, _, by have := HQN.out; omega, r4, r1, r2, r3⟩
      case measure =>
        have c2 := r1.out.cell (j := 0) rfl
        rw [hms, c2]
        simp [intOf]
        have := HQN.out
        omega
    · have h5i : ¬ (5 : Int) < (q : Int) := by omega
      obtain ⟨T, hT⟩ : ∃ T, T = tooB N := ⟨_, rfl⟩
      have HTG : Hid (Calls Tryz.prog 135 #[.slice ga q gc] wr fun e' w'' => e' = .returned (.bool T) ∧ Below wr.heap.size wr w'') := by
        show Calls _ _ _ _ _
        rw [hT]; exact areTooGreat_any S _ N wr GK.out (by rw [← HQ.out]; omega)
      have HFB : Hid (fullB N = T) := by show _ = _; unfold fullB; rw [← HQ.out, ← hT]; simp; omega
      clear hT
      go_wp2_with fail
      refine HTG.out.mono ?_
      rintro e' w2 ⟨rfl, hb2⟩
      have KB2 : Hid (Blk w2 M #[.int .i64 (first + k), .slice ga q gc, ov] 221) := KB.out.below hb2 KB.out.lt
      have GK2 : Hid (GrsIn S w2 (.slice ga q gc) N) := GK.out.below hb2
      have KP2 : Hid (Kept [M] w w2) := KP.out.below hb2
      clear hb2 HTG k0 k1 k2 f0 f1
      obtain ⟨k0, k1, k2⟩ := KB2.out.three
      have f0 := KB2.out.free 0
      have f1 := KB2.out.free 1
      cases T
      case true =>
        obtain ⟨b, off, e1, h1q, hqc, hgo⟩ := GO.out HFB.out
        obtain ⟨r1, r2, r3, r4⟩ := hgo w2 KB2.out GK2.out KP2.out
        subst e1
        have h1i : (1 : Int) ≤ (q : Int) := by omega
        have hqci : (q : Int) ≤ (gc : Int) := by omega
        have c1 : (w2.setCell ⟨M, 1, none⟩ (.slice (some ⟨b, off + 1, none⟩) (q - 1) (gc - 1))).cell? ⟨M, 0, none⟩ = some (.int .i64 (first + k)) := (KB2.out.set 1 _).cell rfl
        clear hgo GO END HF
        go_wp2_with fail
        go_roundw
        case rel => exact ⟨k + 1, _, by have := HQN.out; omega, r4, r1, r2, r3⟩
        case measure =>
          have c2 := r1.out.cell (j := 0) rfl
          rw [hms, c2]
          simp [intOf]
          have := HQN.out
          omega
      case false =>
        have HEND : Hid (∃ gv', Blk w2 M #[.int .i64 (first + trimD L), gv', ov] 221 ∧ GrsIn S w2 gv' (L.drop (trimD L)) ∧ Kept [M] w w2) := END.out HFB.out w2 KB2.out GK2.out KP2.out
        clear GO END HF
        go_wp2
        go_end0
        exact ⟨rfl, HEND.out⟩

end Go.Proofs.YtnpaejknoipicagGreat

namespace Go.Proofs.YtnpaejknoipicagGreat
open Go.RowKit

theorem zeroCells_len (z : Array Value) (n : Nat) : (Builtin.zeroCells z n).size = n * z.size := by simp [Builtin.zeroCells]

section
variable {P : Program}
theorem grow_run (w : World) (T tn ty E : TypeId) (i : TypeInfo) (z : Value) (size bytes : Nat) (ht : P.underlying T = some (.slice E)) (htn : P.underlying tn = some (.int .i64)) (hi : P.info? E = some i) (hz : i.zero = some z) (hsize : i.size = size) (hby : i.bytes = bytes) (hzs : z.cells.size = size) (hsz : 0 < size)
    (n : Nat) (h0 : 0 < n) (hn : n ≤ 1000) (hb : bytes ≤ 1000) :
    ∃ cap w', (Builtin.append_ #[T, tn] ty #[.slice none 0 0, .int .i64 n]).run P w = .ok (.slice (some ⟨w.heap.size, 0, none⟩) n cap) w' ∧ n ≤ cap ∧ w'.ownsRow w.heap.size E size (.slice (some ⟨w.heap.size, 0, none⟩) 0 cap) 0 [] ∧ Below w.heap.size w w' := by
  have hnb : n * i.bytes ≤ 1000 * 1000 := by rw [hby]; exact Nat.mul_le_mul hn hb
  have r := Lib.run_append_nil_zeros (P := P) w T tn ty E i z .i64 .i64 ht htn hi hz n h0 (by omega) (by omega) (by omega)
  have hg := grownCap_ge w n 0 E
  refine ⟨_, _, r, hg, ⟨by simp, .inr ⟨w.heap.size, _, _, rfl, Nat.le_refl _, heap_alloc_new w.drew _, Nat.zero_le _, grownCap_le_maxLen w n 0 E (by unfold maxLen; omega), ?_, by simp⟩⟩, (Below.refl _ w).drew.alloc (Nat.le_refl _) _⟩
  rw [Array.size_append, zeroCells_len, zeroCells_len, hzs, ← Nat.add_mul]
  congr 1; omega
end

/-- append of a row of frames to a row of the call's own -/
theorem appFrs {base : Nat} {S : Nat → Prop} {w : World} {v u : Value} {l m : List Fr} (hv : OwnFrs base S w v l) (hu : FrsIn S w u m) (hS : ∀ g, S g → g < base) (hb : l.length + m.length ≤ 1000) (hbase : base ≤ w.heap.size) :
    ∃ v' w', (Builtin.append_ #[28, 28] 28 #[v, u]).run Tryz.prog w = .ok v' w' ∧ OwnFrs base S w' v' (l ++ m) ∧ Below base w w' := by
  obtain ⟨i0, hi, hz0, hz1, hz2⟩ := info_parts Tryz.infoFrm
  obtain ⟨ps, p1, p2, p3⟩ := hv
  obtain ⟨qs, q1, q2, q3⟩ := hu.sl
  have hps : ps.length = l.length := by rw [← p1, List.length_map]
  have hqs : qs.length = m.length := by rw [← q1, List.length_map]
  obtain ⟨v', w', r, o, g, _⟩ := run_append_any (P := Tryz.prog) w base 28 28 98 i0 _ 3 40 Tryz.underlying28 hi hz0 hz1 hz2 rfl (by decide) v ps.length (frCells ps) p2 qs.length (frCells qs) u q2 (fr_one2 q3) (by unfold maxLen; omega) (by omega) hbase
  have hs : SameOn S w w' := SameOn.grown g (fun g hg e => by have := (p2.lt g e.symm).1; have := hS g hg; omega)
  refine ⟨v', w', r, ⟨ps ++ qs, by rw [List.map_append, p1, q1], by rw [List.length_append, frCells_append]; exact o, fun p hp => ?_⟩, (Below.refl base w).grown g hbase (fun j hj => (p2.lt j hj).1)⟩
  rcases List.mem_append.1 hp with hp | hp
  · exact (p3 p hp).to hs (fun _ _ h => h)
  · exact (q3 p hp).to hs (fun _ _ h => h)
theorem appGrs {base : Nat} {S : Nat → Prop} {w : World} {v u : Value} {l m : List (List Fr)} (hv : OwnGrs base S w v l) (hu : GrsIn S w u m) (hS : ∀ g, S g → g < base) (hb : l.length + m.length ≤ 1000) (hbase : base ≤ w.heap.size) :
    ∃ v' w', (Builtin.append_ #[27, 27] 27 #[v, u]).run Tryz.prog w = .ok v' w' ∧ OwnGrs base S w' v' (l ++ m) ∧ Below base w w' := by
  obtain ⟨qs, q1, q2, q3⟩ := hu.sl
  obtain ⟨v', w', r, o, g, _⟩ := groups_app hv q1 q2 q3 (fun g hg e => by have := (hv.lt g e.symm).1; have := hS g hg; omega) hb hbase
  exact ⟨v', w', r, o, (Below.refl base w).grown g hbase (fun j hj => (hv.lt j hj).1)⟩

set_option maxHeartbeats 2000000 in
set_option maxRecDepth 100000 in
theorem growFrs_any (n : Nat) (w : World) (hn : n ≤ 1000) :
    Calls Tryz.prog 189 #[.slice none 0 0, .int .i64 n] w fun e w' => ∃ u, e = .returned u ∧ w'.ownsRow w.heap.size 98 3 u 0 [] ∧ Below w.heap.size w w' := by
  by_cases h0 : n = 0
  · subst h0
    go_enter Tryz.func189, Tryz.ntmps189
    go_wp2
    go_ret
    exact ⟨_, rfl, World.ownsRow_nil _ _ _ _, Below.refl _ _⟩
  · obtain ⟨i0, hi, hz0, hz1, hz2⟩ := info_parts Tryz.infoFrm
    obtain ⟨cap, w', r, hc, ho, hb⟩ := grow_run (P := Tryz.prog) w 28 3 28 98 i0 _ 3 40 Tryz.underlying28 Tryz.underlying3 hi hz0 hz1 hz2 rfl (by decide) n (by omega) hn (by decide)
    have HO : Hid (w'.ownsRow w.heap.size 98 3 (.slice (some ⟨w.heap.size, 0, none⟩) 0 cap) 0 []) := ho
    have HB : Hid (Below w.heap.size w w') := hb
    have h0i : (0 : Int) < (n : Int) := by omega
    have hw : IntKind.i64.wrap (n : Int) = (n : Int) := by rw [IntKind.wrap_i64]; omega
    clear ho hb hi hz0 hz1 hz2
    go_enter Tryz.func189, Tryz.ntmps189
    go_wp2_with (at_builtin; refine wpList_append_run rfl (.tmp 20) (.tmp 21) 28 3 rfl _ _ rfl rfl r ?_)
    go_ret
    exact ⟨_, rfl, HO.out, HB.out⟩

set_option maxHeartbeats 4000000 in
set_option maxRecDepth 100000 in
theorem concatFrs_any (S : Nat → Prop) (q : Nat) (av bv : Value) (l m : List Fr) (w : World) (hq0 : w.cell? ⟨q, 0, none⟩ = some av) (hq1 : w.cell? ⟨q, 1, none⟩ = some bv) (ha : FrsIn S w av l) (hb : FrsIn S w bv m) (hlen : l.length + m.length ≤ 1000) :
    Calls Tryz.prog 184 #[.slice (some ⟨q, 0, none⟩) 2 2] w fun e w' => ∃ u, e = .returned u ∧ OwnFrs w.heap.size (fun g => S g ∧ g < w.heap.size) w' u (l ++ m) ∧ Below w.heap.size w w' := by
  have hqw : q < w.heap.size := block_lt_of_cell hq0
  have HA : Hid (FrsIn (fun g => S g ∧ g < w.heap.size) w av l) := ha.mono fun g hg hs => ⟨hs, hg⟩
  have HB' : Hid (FrsIn (fun g => S g ∧ g < w.heap.size) w bv m) := hb.mono fun g hg hs => ⟨hs, hg⟩
  obtain ⟨aa, ac, ea, _, _⟩ := ha.len
  obtain ⟨ba, bc, eb, _, _⟩ := hb.len
  obtain ⟨la, hla⟩ : ∃ n, n = l.length := ⟨_, rfl⟩
  obtain ⟨lb, hlb⟩ : ∃ n, n = m.length := ⟨_, rfl⟩
  have HLA : Hid (la = l.length) := hla
  have HLB : Hid (lb = m.length) := hlb
  rw [← hla] at ea hlen
  rw [← hlb] at eb hlen
  clear ha hb hla hlb
  subst ea eb
  go_enter Tryz.func184, Tryz.ntmps184
  go_wp2_with fail
  go_loopw [3, 11] (fun s i wr => ∃ k y : Nat, ((k = 0 ∧ y = 0) ∨ (k = 1 ∧ y = la) ∨ (k = 2 ∧ y = la + lb)) ∧ i = .int .i64 k ∧ s = .int .i64 y ∧ w = wr)
    (fun _ i _ => 2 - (intOf i).toNat)
  case atStart => exact ⟨0, 0, .inl ⟨rfl, rfl⟩, rfl, rfl, rfl⟩
  case round =>
    obtain ⟨k, y, hk, rfl, rfl, rfl⟩ := hrel
    rcases hk with ⟨rfl, rfl⟩ | ⟨rfl, rfl⟩ | ⟨rfl, rfl⟩
    · go_wp2_with fail
      go_roundw
      case rel => exact ⟨1, la, .inr (.inl ⟨rfl, rfl⟩), by go_num, by go_num, by first | rfl | trivial⟩
      case measure => simp [intOf]
    · go_wp2_with fail
      go_roundw
      case rel => exact ⟨2, y + lb, .inr (.inr ⟨rfl, rfl⟩), by go_num, by go_num, by first | rfl | trivial⟩
      case measure => simp [intOf]
    · have HG : Hid (∀ U : World, Calls Tryz.prog 189 #[.slice none 0 0, .int .i64 ((la : Int) + (lb : Int))] U fun e w' => ∃ u, e = .returned u ∧ Hid (w'.ownsRow U.heap.size 98 3 u 0 []) ∧ Below U.heap.size U w') := fun U => by
        have := growFrs_any (la + lb) U hlen
        rw [show ((la + lb : Nat) : Int) = (la : Int) + (lb : Int) by omega] at this
        exact this
      go_wp2_with fail
      refine (HG.out _).mono ?_
      rintro e w1 ⟨u1, rfl, HO1, hb1⟩
      have B1 : Hid (Below w.heap.size w w1) := hb1
      have O1 : Hid (OwnFrs w.heap.size (fun g => S g ∧ g < w.heap.size) w1 u1 []) := ⟨[], rfl, HO1.out, fun _ hp => absurd hp List.not_mem_nil⟩
      have CQ : Hid (∀ U, Below w.heap.size w U → U.cell? ⟨q, 0, none⟩ = some (.slice aa la ac) ∧ U.cell? ⟨q, 1, none⟩ = some (.slice ba lb bc)) := fun U hU => ⟨(hU.cell (p := ⟨q, 0, none⟩) hqw).trans hq0, (hU.cell (p := ⟨q, 1, none⟩) hqw).trans hq1⟩
      clear hb1 HO1 HG hq0 hq1
      go_wp2_with fail
      go_loopw [6, 27] (fun u i w2 => ∃ k : Nat, k ≤ 2 ∧ i = .int .i64 k ∧ Hid (OwnFrs w.heap.size (fun g => S g ∧ g < w.heap.size) w2 u (if k = 0 then [] else if k = 1 then l else l ++ m)) ∧ Hid (Below w.heap.size w w2))
        (fun _ i _ => 2 - (intOf i).toNat)
      case atStart => exact ⟨0, by omega, rfl, O1, B1⟩
      case round =>
        obtain ⟨k, hk, rfl, HO, HB⟩ := hrel
        have hk3 : k = 0 ∨ k = 1 ∨ k = 2 := by omega
        obtain ⟨c0, c1⟩ := CQ.out _ HB.out
        rcases hk3 with rfl | rfl | rfl
        · have ho : OwnFrs w.heap.size (fun g => S g ∧ g < w.heap.size) wr u6 [] := HO.out
          obtain ⟨v', w3, r3, o3, b3⟩ := appFrs ho (HA.out.below HB.out) (fun g hg => hg.2) (by rw [← HLA.out]; simp; omega) HB.out.size
          have O3 : Hid (OwnFrs w.heap.size (fun g => S g ∧ g < w.heap.size) w3 v' l) := by simpa [Hid] using o3
          have B3 : Hid (Below w.heap.size w w3) := HB.out.trans b3
          clear o3 b3 ho HO HB
          go_wp2_with (at_builtin; refine wpList_append_run rfl (.tmp 31) (.tmp 32) 28 28 rfl _ _ rfl rfl r3 ?_)
          go_roundw
          case rel => exact ⟨1, by omega, by go_num, O3, B3⟩
          case measure => simp [intOf]
        · have ho : OwnFrs w.heap.size (fun g => S g ∧ g < w.heap.size) wr u6 l := HO.out
          obtain ⟨v', w3, r3, o3, b3⟩ := appFrs ho (HB'.out.below HB.out) (fun g hg => hg.2) (by rw [← HLA.out, ← HLB.out]; omega) HB.out.size
          have O3 : Hid (OwnFrs w.heap.size (fun g => S g ∧ g < w.heap.size) w3 v' (l ++ m)) := o3
          have B3 : Hid (Below w.heap.size w w3) := HB.out.trans b3
          clear o3 b3 ho HO HB
          go_wp2_with (at_builtin; refine wpList_append_run rfl (.tmp 31) (.tmp 32) 28 28 rfl _ _ rfl rfl r3 ?_)
          go_roundw
          case rel => exact ⟨2, by omega, by go_num, O3, B3⟩
          case measure => simp [intOf]
        · have ho : OwnFrs w.heap.size (fun g => S g ∧ g < w.heap.size) wr u6 (l ++ m) := HO.out
          go_wp2
          go_ret
          exact ⟨_, rfl, ho, HB.out⟩

set_option maxHeartbeats 2000000 in
set_option maxRecDepth 100000 in
theorem growGrs_any (n : Nat) (w : World) (hn : n ≤ 1000) :
    Calls Tryz.prog 182 #[.slice none 0 0, .int .i64 n] w fun e w' => ∃ u, e = .returned u ∧ w'.ownsRow w.heap.size 30 1 u 0 [] ∧ Below w.heap.size w w' := by
  by_cases h0 : n = 0
  · subst h0
    go_enter Tryz.func182, Tryz.ntmps182
    go_wp2
    go_ret
    exact ⟨_, rfl, World.ownsRow_nil _ _ _ _, Below.refl _ _⟩
  · obtain ⟨i0, hi, hz0, hz1, hz2⟩ := info_parts Tryz.infoGrp
    obtain ⟨cap, w', r, hc, ho, hb⟩ := grow_run (P := Tryz.prog) w 27 3 27 30 i0 _ 1 24 Tryz.underlying27 Tryz.underlying3 hi hz0 hz1 hz2 rfl (by decide) n (by omega) hn (by decide)
    have HO : Hid (w'.ownsRow w.heap.size 30 1 (.slice (some ⟨w.heap.size, 0, none⟩) 0 cap) 0 []) := ho
    have HB : Hid (Below w.heap.size w w') := hb
    have h0i : (0 : Int) < (n : Int) := by omega
    have hw : IntKind.i64.wrap (n : Int) = (n : Int) := by rw [IntKind.wrap_i64]; omega
    clear ho hb hi hz0 hz1 hz2
    go_enter Tryz.func182, Tryz.ntmps182
    go_wp2_with (at_builtin; refine wpList_append_run rfl (.tmp 20) (.tmp 21) 27 3 rfl _ _ rfl rfl r ?_)
    go_ret
    exact ⟨_, rfl, HO.out, HB.out⟩

set_option maxHeartbeats 4000000 in
set_option maxRecDepth 100000 in
theorem concatGrs_any (S : Nat → Prop) (q : Nat) (av bv : Value) (l m : List (List Fr)) (w : World) (hq0 : w.cell? ⟨q, 0, none⟩ = some av) (hq1 : w.cell? ⟨q, 1, none⟩ = some bv) (ha : GrsIn S w av l) (hb : GrsIn S w bv m) (hlen : l.length + m.length ≤ 1000) :
    Calls Tryz.prog 178 #[.slice (some ⟨q, 0, none⟩) 2 2] w fun e w' => ∃ u, e = .returned u ∧ OwnGrs w.heap.size (fun g => S g ∧ g < w.heap.size) w' u (l ++ m) ∧ Below w.heap.size w w' := by
  have hqw : q < w.heap.size := block_lt_of_cell hq0
  have HA : Hid (GrsIn (fun g => S g ∧ g < w.heap.size) w av l) := ha.mono fun g hg hs => ⟨hs, hg⟩
  have HB' : Hid (GrsIn (fun g => S g ∧ g < w.heap.size) w bv m) := hb.mono fun g hg hs => ⟨hs, hg⟩
  obtain ⟨aa, ac, ea, _, _⟩ := ha.len
  obtain ⟨ba, bc, eb, _, _⟩ := hb.len
  obtain ⟨la, hla⟩ : ∃ n, n = l.length := ⟨_, rfl⟩
  obtain ⟨lb, hlb⟩ : ∃ n, n = m.length := ⟨_, rfl⟩
  have HLA : Hid (la = l.length) := hla
  have HLB : Hid (lb = m.length) := hlb
  rw [← hla] at ea hlen
  rw [← hlb] at eb hlen
  clear ha hb hla hlb
  subst ea eb
  go_enter Tryz.func178, Tryz.ntmps178
  go_wp2_with fail
  go_loopw [3, 11] (fun s i wr => ∃ k y : Nat, ((k = 0 ∧ y = 0) ∨ (k = 1 ∧ y = la) ∨ (k = 2 ∧ y = la + lb)) ∧ i = .int .i64 k ∧ s = .int .i64 y ∧ w = wr)
    (fun _ i _ => 2 - (intOf i).toNat)
  case atStart => exact ⟨0, 0, .inl ⟨rfl, rfl⟩, rfl, rfl, rfl⟩
  case round =>
    obtain ⟨k, y, hk, rfl, rfl, rfl⟩ := hrel
    rcases hk with ⟨rfl, rfl⟩ | ⟨rfl, rfl⟩ | ⟨rfl, rfl⟩
    · go_wp2_with fail
      go_roundw
      case rel => exact ⟨1, la, .inr (.inl ⟨rfl, rfl⟩), by go_num, by go_num, by first | rfl | trivial⟩
      case measure => simp [intOf]
    · go_wp2_with fail
      go_roundw
      case rel => exact ⟨2, y + lb, .inr (.inr ⟨rfl, rfl⟩), by go_num, by go_num, by first | rfl | trivial⟩
      case measure => simp [intOf]
    · have HG : Hid (∀ U : World, Calls Tryz.prog 182 #[.slice none 0 0, .int .i64 ((la : Int) + (lb : Int))] U fun e w' => ∃ u, e = .returned u ∧ Hid (w'.ownsRow U.heap.size 30 1 u 0 []) ∧ Below U.heap.size U w') := fun U => by
        have := growGrs_any (la + lb) U hlen
        rw [show ((la + lb : Nat) : Int) = (la : Int) + (lb : Int) by omega] at this
        exact this
      go_wp2_with fail
      refine (HG.out _).mono ?_
      rintro e w1 ⟨u1, rfl, HO1, hb1⟩
      have B1 : Hid (Below w.heap.size w w1) := hb1
      have O1 : Hid (OwnGrs w.heap.size (fun g => S g ∧ g < w.heap.size) w1 u1 []) := ⟨[], rfl, HO1.out, fun _ hp => absurd hp List.not_mem_nil⟩
      have CQ : Hid (∀ U, Below w.heap.size w U → U.cell? ⟨q, 0, none⟩ = some (.slice aa la ac) ∧ U.cell? ⟨q, 1, none⟩ = some (.slice ba lb bc)) := fun U hU => ⟨(hU.cell (p := ⟨q, 0, none⟩) hqw).trans hq0, (hU.cell (p := ⟨q, 1, none⟩) hqw).trans hq1⟩
      clear hb1 HO1 HG hq0 hq1
      go_wp2_with fail
      go_loopw [6, 27] (fun u i w2 => ∃ k : Nat, k ≤ 2 ∧ i = .int .i64 k ∧ Hid (OwnGrs w.heap.size (fun g => S g ∧ g < w.heap.size) w2 u (if k = 0 then [] else if k = 1 then l else l ++ m)) ∧ Hid (Below w.heap.size w w2))
        (fun _ i _ => 2 - (intOf i).toNat)
      case atStart => exact ⟨0, by omega, rfl, O1, B1⟩
      case round =>
        obtain ⟨k, hk, rfl, HO, HB⟩ := hrel
        have hk3 : k = 0 ∨ k = 1 ∨ k = 2 := by omega
        obtain ⟨c0, c1⟩ := CQ.out _ HB.out
        rcases hk3 with rfl | rfl | rfl
        · have ho : OwnGrs w.heap.size (fun g => S g ∧ g < w.heap.size) wr u6 [] := HO.out
          obtain ⟨v', w3, r3, o3, b3⟩ := appGrs ho (HA.out.below HB.out) (fun g hg => hg.2) (by rw [← HLA.out]; simp; omega) HB.out.size
          have O3 : Hid (OwnGrs w.heap.size (fun g => S g ∧ g < w.heap.size) w3 v' l) := by simpa [Hid] using o3
          have B3 : Hid (Below w.heap.size w w3) := HB.out.trans b3
          clear o3 b3 ho HO HB
          go_wp2_with (at_builtin; refine wpList_append_run rfl (.tmp 31) (.tmp 32) 27 27 rfl _ _ rfl rfl r3 ?_)
          go_roundw
          case rel => exact ⟨1, by omega, by go_num, O3, B3⟩
          case measure => simp [intOf]
        · have ho : OwnGrs w.heap.size (fun g => S g ∧ g < w.heap.size) wr u6 l := HO.out
          obtain ⟨v', w3, r3, o3, b3⟩ := appGrs ho (HB'.out.below HB.out) (fun g hg => hg.2) (by rw [← HLA.out, ← HLB.out]; omega) HB.out.size
          have O3 : Hid (OwnGrs w.heap.size (fun g => S g ∧ g < w.heap.size) w3 v' (l ++ m)) := o3
          have B3 : Hid (Below w.heap.size w w3) := HB.out.trans b3
          clear o3 b3 ho HO HB
          go_wp2_with (at_builtin; refine wpList_append_run rfl (.tmp 31) (.tmp 32) 27 27 rfl _ _ rfl rfl r3 ?_)
          go_roundw
          case rel => exact ⟨2, by omega, by go_num, O3, B3⟩
          case measure => simp [intOf]
        · have ho : OwnGrs w.heap.size (fun g => S g ∧ g < w.heap.size) wr u6 (l ++ m) := HO.out
          go_wp2
          go_ret
          exact ⟨_, rfl, ho, HB.out⟩

end Go.Proofs.YtnpaejknoipicagGreat

namespace Go.Proofs.YtnpaejknoipicagGreat
open Go.RowKit

/-- groups of a store, the open one, too -/
def allG (L : List (List Fr)) (O : List Fr) : List (List Fr) := if 0 < O.length then L ++ [O] else L

theorem GrsIn.one {S : Nat → Prop} {w : World} {b : Nat} {O : List Fr} {ov : Value} (hb : Blk w b #[ov] 30) (hS : S b) (ho : FrsIn S w ov O) : GrsIn S w (.slice (some ⟨b, 0, none⟩) 1 1) [O] := by
  refine ⟨some ⟨b, 0, none⟩, 1, rfl, Nat.le_refl _, by omega, fun k hk => ⟨b, 0, rfl, hb.lt, hS, ov, ?_⟩⟩
  have : k = 0 := by simpa using hk
  subst this
  exact ⟨hb.one, ho⟩

set_option maxHeartbeats 4000000 in
set_option maxRecDepth 100000 in
theorem keeperAll_any (M : Nat) (first : Int) (gv ov : Value) (L : List (List Fr)) (O : List Fr) (w : World) (hM : Blk w M #[.int .i64 first, gv, ov] 221) (hg : GrsIn (fun _ => True) w gv L) (ho : FrsIn (fun _ => True) w ov O) (hL : L.length ≤ 100) :
    Calls Tryz.prog 165 #[.pointer (some ⟨M, 0, none⟩)] w fun e w' => ∃ u, e = .returned u ∧ GrsIn (fun _ => True) w' u (allG L O) ∧ Below w.heap.size w w' := by
  obtain ⟨ga, gc, eg, _, _⟩ := hg.len
  obtain ⟨oa, oc, eo, _, hol⟩ := ho.len
  obtain ⟨n, hn⟩ : ∃ n, n = L.length := ⟨_, rfl⟩
  obtain ⟨m, hm⟩ : ∃ m, m = O.length := ⟨_, rfl⟩
  rw [← hn] at eg hL
  rw [← hm] at eo hol
  have HG : Hid (GrsIn (fun _ => True) w gv L) := hg
  have HO : Hid (FrsIn (fun _ => True) w ov O) := ho
  have HN : Hid (n = L.length) := hn
  have HK : Hid (Blk w M #[.int .i64 first, gv, ov] 221) := hM
  obtain ⟨k0, k1, k2⟩ := hM.three
  obtain ⟨A, hA⟩ : ∃ A, A = allG L O := ⟨_, rfl⟩
  have HA : Hid (A = if 0 < m then L ++ [O] else L) := by show _ = _; rw [hA, hm]; rfl
  rw [← hA]
  clear hg ho hn hm hM hA
  subst eg eo
  by_cases h0 : m = 0
  · have HAA : Hid (A = L) := by show _ = _; rw [HA.out, if_neg (by omega)]
    subst h0
    go_enter Tryz.func165, Tryz.ntmps165
    go_wp2
    go_ret
    exact ⟨_, rfl, by rw [HAA.out]; exact HG.out, Below.refl _ _⟩
  have HAA : Hid (A = L ++ [O]) := by show _ = _; rw [HA.out, if_pos (by omega)]
  have h0i : ((m : Int) == 0) = false := by simp; omega
  have hMw : M < w.heap.size := HK.out.lt
  clear h0
  go_enter Tryz.func165, Tryz.ntmps165
  go_wp2_with fail
  refine region_chain (by kernel_rfl) (by kernel_rfl) [.quiet (.pointer (some ⟨M, 0, none⟩)) 4, .quiet (.pointer (some ⟨M, 0, none⟩)) 4, .quiet (.pointer (some ⟨M, 0, none⟩)) 4, .quiet (.pointer (some ⟨M, 1, none⟩)) 4, .quiet (.slice ga n gc) 4, .quiet (.pointer (some ⟨M, 0, none⟩)) 4, .quiet (.pointer (some ⟨M, 0, none⟩)) 4, .quiet (.pointer (some ⟨M, 0, none⟩)) 4, .quiet (.pointer (some ⟨M, 2, none⟩)) 4, .quiet (.agg #[.slice oa m oc]) 4, .step 0, .step 1, .step 2, .step 3] [10, 11, 12, 13] (by kernel_rfl)
    (fun s r w' => match s with
      | 0 => Below w.heap.size w w'
      | 1 => ∃ V, Below w.heap.size w V ∧ w' = V.alloc (.cells #[.slice oa m oc] 30) ∧ r 0 = .slice (some ⟨V.heap.size, 0, none⟩) 1 1
      | 2 => ∃ V, Below w.heap.size w V ∧ w' = (V.alloc (.cells #[.slice oa m oc] 30)).alloc (.cells #[.slice ga n gc, .slice (some ⟨V.heap.size, 0, none⟩) 1 1] 27) ∧ r 1 = .slice (some ⟨V.heap.size + 1, 0, none⟩) 2 2
      | 3 => GrsIn (fun _ => True) w' (r 2) (L ++ [O]) ∧ Below w.heap.size w w'
      | _ => GrsIn (fun _ => True) w' (r 3) (L ++ [O]) ∧ Below w.heap.size w w') ?i0 ?step ?fin
  case i0 => exact ⟨rfl, rfl, rfl, Nat.le_refl _, fun _ _ => rfl⟩
  case step =>
    intro i o ho a' w' s r hI hfree hvals
    have f0 : a'.eval (.tmp 0) = .pointer (some ⟨M, 0, none⟩) := (hfree 0 (by kernel_rfl)).trans rfl
    have hBw : Below w.heap.size w w' := by
      match s, hI with
      | 0, h => exact h
      | 1, ⟨V, h1, h2, _⟩ => rw [h2]; exact h1.alloc h1.size _
      | 2, ⟨V, h1, h2, _⟩ => rw [h2]; exact (h1.alloc h1.size _).alloc (by have := h1.size; simp; omega) _
      | 3, h => exact h.2
      | _ + 4, h => exact h.2
    have y1 := (hBw.cell (p := ⟨M, 1, none⟩) hMw).trans k1
    have y2 := (hBw.cell (p := ⟨M, 2, none⟩) hMw).trans k2
    match i, ho with
    | 0, ho | 5, ho =>
      simp at ho; subst ho
      show s ≤ 4 → (execOp a'.eval _).run _ w' = .ok (.value _) w'
      intro _
      generalize a'.eval = ρ at *
      simp [execOp, go_sem, f0]
    | 1, ho =>
      simp at ho; subst ho
      have e1 : a'.eval (.tmp 16) = .pointer (some ⟨M, 0, none⟩) := hvals 0 _ _ (by kernel_rfl) rfl rfl
      show s ≤ 4 → (execOp a'.eval _).run _ w' = .ok (.value _) w'
      intro _
      generalize a'.eval = ρ at *
      simp [execOp, go_sem, e1]
    | 2, ho =>
      simp at ho; subst ho
      have e1 : a'.eval (.tmp 17) = .pointer (some ⟨M, 0, none⟩) := hvals 1 _ _ (by kernel_rfl) rfl rfl
      show s ≤ 4 → (execOp a'.eval _).run _ w' = .ok (.value _) w'
      intro _
      generalize a'.eval = ρ at *
      simp [execOp, go_sem, e1]
    | 3, ho =>
      simp at ho; subst ho
      have e1 : a'.eval (.tmp 18) = .pointer (some ⟨M, 0, none⟩) := hvals 2 _ _ (by kernel_rfl) rfl rfl
      show s ≤ 4 → (execOp a'.eval _).run _ w' = .ok (.value _) w'
      intro _
      generalize a'.eval = ρ at *
      simp [execOp, go_sem, e1]
    | 4, ho =>
      simp at ho; subst ho
      have e1 : a'.eval (.tmp 19) = .pointer (some ⟨M, 1, none⟩) := hvals 3 _ _ (by kernel_rfl) rfl rfl
      show s ≤ 4 → (execOp a'.eval _).run _ w' = .ok (.value _) w'
      intro _
      generalize a'.eval = ρ at *
      simp [execOp, go_sem, e1, y1]
    | 6, ho =>
      simp at ho; subst ho
      have e1 : a'.eval (.tmp 21) = .pointer (some ⟨M, 0, none⟩) := hvals 5 _ _ (by kernel_rfl) rfl rfl
      show s ≤ 4 → (execOp a'.eval _).run _ w' = .ok (.value _) w'
      intro _
      generalize a'.eval = ρ at *
      simp [execOp, go_sem, e1]
    | 7, ho =>
      simp at ho; subst ho
      have e1 : a'.eval (.tmp 22) = .pointer (some ⟨M, 0, none⟩) := hvals 6 _ _ (by kernel_rfl) rfl rfl
      show s ≤ 4 → (execOp a'.eval _).run _ w' = .ok (.value _) w'
      intro _
      generalize a'.eval = ρ at *
      simp [execOp, go_sem, e1]
    | 8, ho =>
      simp at ho; subst ho
      have e1 : a'.eval (.tmp 23) = .pointer (some ⟨M, 0, none⟩) := hvals 7 _ _ (by kernel_rfl) rfl rfl
      show s ≤ 4 → (execOp a'.eval _).run _ w' = .ok (.value _) w'
      intro _
      generalize a'.eval = ρ at *
      simp [execOp, go_sem, e1]
    | 9, ho =>
      simp at ho; subst ho
      have e1 : a'.eval (.tmp 24) = .pointer (some ⟨M, 2, none⟩) := hvals 8 _ _ (by kernel_rfl) rfl rfl
      show s ≤ 4 → (execOp a'.eval _).run _ w' = .ok (.value _) w'
      intro _
      generalize a'.eval = ρ at *
      simp [execOp, go_sem, e1, y2]
    | 10, ho =>
      simp at ho; subst ho
      have e1 : a'.eval (.tmp 25) = .agg #[.slice oa m oc] := hvals 9 _ _ (by kernel_rfl) rfl rfl
      show s = 0 → _
      intro hs
      subst hs
      refine oper_wp_ok (v := .slice (some ⟨w'.heap.size, 0, none⟩) 1 1) (w' := w'.alloc (.cells #[.slice oa m oc] 30)) ?_ ⟨_, rfl, ?_⟩
      · generalize a'.eval = ρ at *
        simp [execOp, go_sem, e1]
      · exact ⟨w', hBw, rfl, updR_at _ _ _⟩
    | 11, ho =>
      simp at ho; subst ho
      show s = 1 → _
      intro hs
      subst hs
      obtain ⟨V, h1, h2, h3⟩ := hI
      have e1 : a'.eval (.tmp 20) = .slice ga n gc := hvals 4 _ _ (by kernel_rfl) rfl rfl
      have e2 : a'.eval (.tmp 26) = .slice (some ⟨V.heap.size, 0, none⟩) 1 1 := (hvals 10 _ _ (by kernel_rfl) rfl rfl).trans h3
      refine oper_wp_ok (v := .slice (some ⟨V.heap.size + 1, 0, none⟩) 2 2) (w' := w'.alloc (.cells #[.slice ga n gc, .slice (some ⟨V.heap.size, 0, none⟩) 1 1] 27)) ?_ ⟨_, rfl, ?_⟩
      · generalize a'.eval = ρ at *
        rw [h2]
        simp [execOp, go_sem, e1, e2]
      · exact ⟨V, h1, by rw [h2], updR_at _ _ _⟩
    | 12, ho =>
      simp at ho; subst ho
      show s = 2 → _
      intro hs
      subst hs
      obtain ⟨V, h1, h2, h3⟩ := hI
      have e1 : a'.eval (.tmp 27) = .slice (some ⟨V.heap.size + 1, 0, none⟩) 2 2 := (hvals 11 _ _ (by kernel_rfl) rfl rfl).trans h3
      have ef : a'.eval (.func 178) = .func (.func 178) #[] #[] := rfl
      have KV : Blk w' (V.heap.size + 1) #[.slice ga n gc, .slice (some ⟨V.heap.size, 0, none⟩) 1 1] 27 := by
        have := Blk.new (V.alloc (.cells #[.slice oa m oc] 30)) #[.slice ga n gc, .slice (some ⟨V.heap.size, 0, none⟩) 1 1] 27
        rw [h2]; simpa using this
      have KO : Blk w' V.heap.size #[.slice oa m oc] 30 := by rw [h2]; exact (Blk.new V _ _).alloc _
      obtain ⟨z0, z1⟩ := KV.two
      have hc := concatGrs_any (fun _ => True) (V.heap.size + 1) (.slice ga n gc) (.slice (some ⟨V.heap.size, 0, none⟩) 1 1) L [O] w' z0 z1 (HG.out.below hBw) (GrsIn.one KO trivial (HO.out.below hBw)) (by rw [← HN.out]; simp; omega)
      refine oper_wp_call (f := 178) (args := #[.slice (some ⟨V.heap.size + 1, 0, none⟩) 2 2]) ?_ (hc.mono ?_)
      · generalize a'.eval = ρ at *
        simp [execOp, go_sem, e1, ef]
      · rintro e w'' ⟨u, rfl, o1, b1⟩
        exact ⟨u, rfl, u, rfl, by rw [updR_at]; exact o1.grsIn (fun _ _ _ => trivial) (fun _ _ => trivial), hBw.trans (b1.mono hBw.size)⟩
    | 13, ho =>
      simp at ho; subst ho
      show s = 3 → _
      intro hs
      subst hs
      have e1 : a'.eval (.tmp 28) = r 2 := hvals 12 _ _ (by kernel_rfl) rfl rfl
      refine oper_wp_ok (v := r 2) (w' := w') ?_ ⟨_, rfl, ?_⟩
      · generalize a'.eval = ρ at *
        simp [execOp, go_sem, e1]
      · exact ⟨by rw [updR_at]; exact hI.1, hI.2⟩
    | i + 14, ho => simp at ho
  case fin =>
    rintro r W ⟨h1, h2⟩
    have H1 : Hid (GrsIn (fun _ => True) W (r 3) A ∧ Below w.heap.size w W) := ⟨by rw [HAA.out]; exact h1, h2⟩
    clear h1 h2 k0 k1 k2 h0i hMw HG HO HN HK HA HAA
    simp only [putC, Ck.out]
    go_wp2_with fail
    exact bodyPost_ret (v := r 3) (by simp [results, Tryz.results165, go_sem]) rfl ⟨_, rfl, H1.out⟩

end Go.Proofs.YtnpaejknoipicagGreat

namespace Go.Proofs.YtnpaejknoipicagGreat
open Go.RowKit

section
variable {P : Program} {Q : Exit → Act → World → Prop}

/-- operations in the text's order -/
def tl (P : Program) (Q : Exit → Act → World → Prop) : List Oper → Act → World → Prop
  | [], a, w => Q .normal a w
  | o :: r, a, w => o.wp P a w (fun a' w' => tl P Q r a' w') Q

end
end Go.Proofs.YtnpaejknoipicagGreat

namespace Go.Proofs.YtnpaejknoipicagGreat
open Go.RowKit

section
variable {P : Program} {Q : Exit → Act → World → Prop}

end
end Go.Proofs.YtnpaejknoipicagGreat

namespace Go.Proofs.YtnpaejknoipicagGreat
open Go.RowKit

/-- none of these is wanted -/
def skipB (ops : Array Oper) : List Oper → Act → Bool
  | [], _ => true
  | o :: r, a => !(Region.wanted o (yielded ops a.tmps)) && skipB ops r (a.put o.dst undef)
/-- the frame behind them -/
def putU : List Oper → Act → Act
  | [], a => a
  | o :: r, a => putU r (a.put o.dst undef)

theorem wpQuiet_jump {P : Program} {ops : Array Oper} {C : World → Prop} {Q : Act → Prop} (n : Nat) : ∀ {l : List Oper} {a : Act}, skipB ops (l.take n) a = true → (∀ b, b = putU (l.take n) a → wpQuiet P ops C Q (l.drop n) b) → wpQuiet P ops C Q l a := by
  induction n with
  | zero => intro l a _ h; simpa using h a rfl
  | succ n ih =>
    intro l a hs h
    cases l with
    | nil => simpa using h a rfl
    | cons o r =>
      simp only [List.take_succ_cons, skipB, Bool.and_eq_true, Bool.not_eq_true'] at hs
      refine BigFrame.wpQuiet_skip hs.1 (ih hs.2 (fun b hb => ?_))
      have := h b (by rw [List.take_succ_cons]; exact hb)
      simpa using this

end Go.Proofs.YtnpaejknoipicagGreat

namespace Go.Proofs.YtnpaejknoipicagGreat
open Go.RowKit

theorem Blk.drewN {w : World} {b : Nat} {C : Array Value} {t : TypeId} (h : Blk w b C t) (k : Nat) : Blk (w.drewN k) b C t := h

theorem FrsIn.one {S : Nat → Prop} {w : World} {b : Nat} {f : Fr} {pv : Value} (hb : Blk w b #[.int .i64 f.time, .bool f.key, pv] 98) (hS : S b) (hp : StrsIn S w pv f.parts) : FrsIn S w (.slice (some ⟨b, 0, none⟩) 1 1) [f] := by
  refine ⟨some ⟨b, 0, none⟩, 1, rfl, Nat.le_refl _, by omega, fun k hk => ⟨b, 0, rfl, hb.lt, hS, pv, ?_⟩⟩
  have : k = 0 := by simpa using hk
  subst this
  obtain ⟨c0, c1, c2⟩ := hb.three
  exact ⟨c0, c1, c2, hp⟩

end Go.Proofs.YtnpaejknoipicagGreat
