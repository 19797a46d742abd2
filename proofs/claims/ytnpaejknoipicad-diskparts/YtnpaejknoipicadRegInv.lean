/-
  A region that draws its order, by one invariant: each operation is looked at once, whatever came ahead of it.
-/
import Derived.WalkKit
import Derived.WalkSpells
import Derived.Orders
namespace Go.Proofs.Ytnpaejknoipicad
open Go.RowKit

section
variable {P : Program} {Q : Exit → Act → World → Prop}

/-- how many are not listed yet -/
def left (L : Array Bool) : Nat := L.toList.countP (· == false)

theorem left_set {L : Array Bool} {i : Nat} (h : L[i]? = some false) : left (L.setIfInBounds i true) + 1 = left L := by
  obtain ⟨l⟩ := L
  simp only [left, List.setIfInBounds_toArray] at *
  have h' : l[i]? = some false := by simpa using h
  clear h
  induction l generalizing i with
  | nil => simp at h'
  | cons b r ih =>
    cases i with
    | zero => simp at h'; subst h'; simp
    | succ i =>
      simp only [List.getElem?_cons_succ] at h'
      have := ih h'
      simp only [List.set_cons_succ, List.countP_cons] at this ⊢
      omega

theorem getD_false {L : Array Bool} {i : Nat} (h : L.getD i true = false) : L[i]? = some false := by
  cases hi : L[i]? with
  | none => simp [Array.getD_eq_getD_getElem?, hi] at h
  | some b => simp [Array.getD_eq_getD_getElem?, hi] at h; rw [h]

theorem wpAny_inv {md : Region.Mode} {ops : Array Oper} (I : Array Bool → Act → World → Prop) (hguard : ∀ o ∈ ops, o.guard = none)
    (hstep : ∀ L a w, L.size = ops.size → I L a w → ∀ (i : Nat) (o : Oper), ops[i]? = some o → L[i]? = some false → (∀ e ∈ o.after, Region.binds md e = true → L.getD e.on false = true) → o.wp P a w (fun a' w' => I (L.setIfInBounds i true) a' w') Q)
    (hend : ∀ L a w, L.size = ops.size → I L a w → Region.ready md ops L = [] → Q .normal a w) :
    ∀ (fuel : Nat) (L : Array Bool) (a : Act) (w : World), L.size = ops.size → left L ≤ fuel → I L a w → wpAny P md ops Q fuel L a w
  | 0, L, a, w, hs, hf, hI => by
    have hr : Region.ready md ops L = [] := by
      rw [List.eq_nil_iff_forall_not_mem]
      intro j hj
      have h := getD_false (mem_ready.1 hj).1
      have := left_set h
      omega
    exact ⟨hr, hend L a w hs hI hr⟩
  | fuel + 1, L, a, w, hs, hf, hI => by
    refine ⟨hend L a w hs hI, fun i hi => ?_⟩
    obtain ⟨h1, o, h2, h3⟩ := mem_ready.1 hi
    have h4 := getD_false h1
    have hw : Region.wanted o (yielded ops a.tmps) = true := by
      have : o.guard = none := hguard o (Array.mem_of_getElem? h2)
      simp [Region.wanted, this]
    unfold wpOp
    simp only [h2, hw, if_true]
    exact .inl (Oper.wp_mono (fun a' w' h => wpAny_inv I hguard hstep hend fuel _ a' w' (by simpa using hs) (by have := left_set h4; omega) h) (hstep L a w hs hI i o h2 h4 h3))

/-- where each waits for earlier ones alone: nothing is ready, so all are listed -/
theorem ready_nil {md : Region.Mode} {ops : Array Oper} {L : Array Bool} (hs : L.size = ops.size) (hB : ∀ (i : Nat) (o : Oper), ops[i]? = some o → ∀ e ∈ o.after, Region.binds md e = true → e.on < i) (hr : Region.ready md ops L = []) : ∀ i, i < ops.size → L[i]? = some true := by
  intro i
  induction i using Nat.strongRecOn with
  | _ i ih =>
    intro hi
    have ho : ops[i]? = some ops[i] := Array.getElem?_eq_getElem hi
    cases hL : L[i]? with
    | none => rw [Array.getElem?_eq_none_iff] at hL; omega
    | some b =>
      cases b with
      | true => rfl
      | false =>
        have : i ∈ Region.ready md ops L := mem_ready.2 ⟨by simp [Array.getD_eq_getD_getElem?, hL], ops[i], ho, fun e he hb => by
          have h1 := hB i _ ho e he hb
          simp [Array.getD_eq_getD_getElem?, ih e.on h1 (by omega)]⟩
        rw [hr] at this; cases this

/-- the frame behind those that are listed, in the text's order -/
def putL (L : Array Bool) (vs : Nat → Value) : Nat → List Oper → Act → Act
  | _, [], a => a
  | k, o :: r, a => putL L vs (k + 1) r (if L.getD k false = true then a.put o.dst (vs k) else a)
def upd (vs : Nat → Value) (i : Nat) (v : Value) : Nat → Value := fun j => if j = i then v else vs j
theorem upd_at (vs : Nat → Value) (i : Nat) (v : Value) : upd vs i v i = v := by simp [upd]
theorem upd_ne {vs : Nat → Value} {i j : Nat} {v : Value} (h : j ≠ i) : upd vs i v j = vs j := by simp [upd, h]
/-- no two write one slot -/
def dstsApart : List Oper → Bool
  | [] => true
  | o :: r => (match o.dst with | none => true | some d => r.all fun p => p.dst != some d) && dstsApart r
theorem putL_comm {L : Array Bool} {vs : Nat → Value} {d : Option Tmp} {v : Value} : ∀ (l : List Oper) (k : Nat) (a : Act), (∀ t, d = some t → ∀ p ∈ l, p.dst ≠ some t) → putL L vs k l (a.put d v) = (putL L vs k l a).put d v
  | [], _, _, _ => rfl
  | o :: r, k, a, h => by
    simp only [putL]
    by_cases hk : L.getD k false = true
    · rw [if_pos hk, if_pos hk, Act.put_comm a v (vs k) (fun t ht => h t ht o List.mem_cons_self)]
      exact putL_comm r (k + 1) _ (fun t ht p hp => h t ht p (List.mem_cons_of_mem _ hp))
    · rw [if_neg hk, if_neg hk]
      exact putL_comm r (k + 1) _ (fun t ht p hp => h t ht p (List.mem_cons_of_mem _ hp))
theorem putL_same {L L' : Array Bool} {vs vs' : Nat → Value} : ∀ (l : List Oper) (k : Nat) (a : Act), (∀ j, k ≤ j → L'.getD j false = L.getD j false ∧ vs' j = vs j) → putL L' vs' k l a = putL L vs k l a
  | [], _, _, _ => rfl
  | o :: r, k, a, h => by
    simp only [putL]
    rw [(h k (Nat.le_refl _)).1, (h k (Nat.le_refl _)).2]
    exact putL_same r (k + 1) _ (fun j hj => h j (by omega))
theorem getD_set_other {L : Array Bool} {i j : Nat} (h : j ≠ i) (d : Bool) : (L.setIfInBounds i true).getD j d = L.getD j d := by
  simp [Array.getD_eq_getD_getElem?, Array.getElem?_setIfInBounds_ne (Ne.symm h)]
theorem getD_set_at {L : Array Bool} {i : Nat} (h : L[i]? = some false) (d : Bool) : (L.setIfInBounds i true).getD i d = true := by
  have hi : i < L.size := (Array.getElem?_eq_some_iff.1 h).1
  simp [Array.getD_eq_getD_getElem?, hi]
theorem putL_set {L : Array Bool} {vs : Nat → Value} {i : Nat} {v : Value} (hL : L[i]? = some false) : ∀ (l : List Oper) (k : Nat) (a : Act) (o : Oper), dstsApart l = true → k ≤ i → l[i - k]? = some o →
    putL (L.setIfInBounds i true) (upd vs i v) k l a = (putL L vs k l a).put o.dst v
  | [], _, _, _, _, _, h => by simp at h
  | p :: r, k, a, o, hd, hk, ho => by
    simp only [dstsApart, Bool.and_eq_true] at hd
    by_cases e : k = i
    · subst e
      simp at ho
      subst ho
      have h0 : L.getD k false = false := by simp [Array.getD_eq_getD_getElem?, hL]
      simp only [putL]
      rw [if_pos (getD_set_at hL _), upd_at, if_neg (by rw [h0]; simp)]
      rw [putL_same r (k + 1) _ (fun j hj => ⟨getD_set_other (by omega) _, upd_ne (by omega)⟩)]
      refine putL_comm r (k + 1) a (fun t ht q hq => ?_)
      have h1 := hd.1
      rw [ht] at h1
      simp only [List.all_eq_true, bne_iff_ne] at h1
      exact h1 q hq
    · simp only [putL]
      rw [getD_set_other e, upd_ne e]
      have h1 : i - k = (i - (k + 1)) + 1 := by omega
      rw [h1, List.getElem?_cons_succ] at ho
      exact putL_set hL r (k + 1) _ o hd.2 (by omega) ho
/-- a slot that none of them writes -/
theorem putL_other {L : Array Bool} {vs : Nat → Value} {x : Operand} : ∀ (l : List Oper) (k : Nat) (a : Act), (∀ p ∈ l, ∀ t, p.dst = some t → x ≠ .tmp t) → (putL L vs k l a).eval x = a.eval x
  | [], _, _, _ => rfl
  | o :: r, k, a, h => by
    simp only [putL]
    rw [putL_other r (k + 1) _ (fun p hp => h p (List.mem_cons_of_mem _ hp))]
    split
    · exact Act.eval_put (fun t ht => h o List.mem_cons_self t ht)
    · rfl
/-- a slot that a listed one has written -/
theorem putL_at {L : Array Bool} {vs : Nat → Value} {i t : Nat} (hL : L.getD i false = true) : ∀ (l : List Oper) (k : Nat) (a : Act) (o : Oper), dstsApart l = true → k ≤ i → l[i - k]? = some o → o.dst = some t → t < a.tmps.size → (putL L vs k l a).eval (.tmp t) = vs i
  | [], _, _, _, _, _, h, _, _ => by simp at h
  | p :: r, k, a, o, hd, hk, ho, ht, hs => by
    simp only [dstsApart, Bool.and_eq_true] at hd
    by_cases e : k = i
    · subst e
      simp at ho
      subst ho
      simp only [putL]
      rw [if_pos hL, putL_other]
      · rw [ht]; simp [Act.put, Act.eval, Array.getD_eq_getD_getElem?, hs]
      · intro q hq u hu e
        injection e with e
        have h1 := hd.1
        rw [ht] at h1
        simp only [List.all_eq_true, bne_iff_ne] at h1
        exact h1 q hq (e ▸ hu)
    · have h1 : i - k = (i - (k + 1)) + 1 := by omega
      rw [h1, List.getElem?_cons_succ] at ho
      simp only [putL]
      refine putL_at hL r (k + 1) _ o hd.2 (by omega) ho ht ?_
      split
      · cases hp : p.dst <;> simp [Act.put, hs]
      · exact hs

/-- what a region must be like -/
def regOk (l : List Oper) : Bool := dstsApart l && l.all (fun o => o.guard.isNone) && (l.zipIdx.all fun p => p.1.after.all fun e => decide (e.on < p.2) || !(Region.binds .any e))

theorem wp_region_inv {id : Nat} {a : Act} {w : World} {l : List Oper} (hm : P.follows .mixedOrders = true) (hB : regOk l = true) (F : Array Bool → (Nat → Value) → World → Prop)
    (h0 : F (Array.replicate l.length false) (fun _ => undef) { w with drawn := w.drawn + 1 })
    (hstep : ∀ L vs w', F L vs w' → ∀ (i : Nat) (o : Oper), l[i]? = some o → L[i]? = some false → (∀ e ∈ o.after, Region.binds .any e = true → L.getD e.on false = true) →
      o.wp P (putL L vs 0 l a) w' (fun a' w'' => ∃ v, a' = (putL L vs 0 l a).put o.dst v ∧ F (L.setIfInBounds i true) (upd vs i v) w'') Q)
    (hend : ∀ L vs w', F L vs w' → (∀ i, i < l.length → L.getD i false = true) → Q .normal (putL L vs 0 l a) w') : (Code.region id l.toArray true).wp P Q a w := by
  simp only [regOk, Bool.and_eq_true] at hB
  obtain ⟨⟨hd, hg⟩, hA⟩ := hB
  refine wp_region_any hm ?_
  refine wpAny_inv (md := .any) (fun L a' w' => ∃ vs, a' = putL L vs 0 l a ∧ F L vs w') ?_ ?_ ?_ _ _ _ _ (by simp) ?_ ?_
  · intro o ho
    have := List.all_eq_true.1 hg o (by simpa using ho)
    simpa using this
  · rintro L a' w' hs ⟨vs, rfl, hF⟩ i o ho hL hrdy
    refine Oper.wp_mono (fun a'' w'' ⟨v, h1, h2⟩ => ?_) (hstep L vs w' hF i o (by simpa using ho) hL hrdy)
    exact ⟨upd vs i v, by rw [h1, putL_set hL l 0 a o hd (Nat.zero_le _) (by simpa using ho)], h2⟩
  · rintro L a' w' hs ⟨vs, rfl, hF⟩ hr
    refine hend L vs w' hF (fun i hi => ?_)
    have := ready_nil hs (fun i o ho e he hb => ?_) hr i (by simpa using hi)
    · simp [Array.getD_eq_getD_getElem?, this]
    · have h1 : (o, i) ∈ l.zipIdx := by
        rw [List.mem_zipIdx_iff_getElem?]; simpa using ho
      have h2 := List.all_eq_true.1 hA _ h1
      rw [Array.all_eq_true_iff_forall_mem] at h2
      simpa [hb] using h2 e he
  · simp only [left]; exact Nat.le_trans List.countP_le_length (by simp)
  · refine ⟨fun _ => undef, ?_, by simpa using h0⟩
    have : ∀ (m : List Oper) (k : Nat) (a : Act), a = putL (Array.replicate l.toArray.size false) (fun _ => undef) k m a := by
      intro m
      induction m with
      | nil => intro k a; rfl
      | cons o r ih =>
        intro k a
        simp only [putL]
        rw [if_neg (by simp [Array.getD_eq_getD_getElem?, Array.getElem?_replicate]; split <;> simp)]
        exact ih (k + 1) a
    exact this l 0 a

end
end Go.Proofs.Ytnpaejknoipicad
