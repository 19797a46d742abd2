/-
  A region that draws its order, with one call that matters, reads and quiet calls beside it, and what the call answers put into new boxes: whatever order it draws.
-/
import Derived.Test.YtnpaejknoipicadRegApp
namespace Go.Proofs.Ytnpaejknoipicad
open Go.RowKit

/-- what an operation of such a region does -/
inductive Kd where
  | quiet (v : Value)
  | qcall (v : Value)
  | main
  | fin (f : Value → Value)
  | box (t : TypeId) (z : Array Value)
  | put (b : Nat) (f : Value → Array Value)

namespace Kd
def val (r : Value) : Kd → Option Value
  | quiet v => some v
  | qcall v => some v
  | main => some r
  | fin f => some (f r)
  | _ => none
def out (r : Value) (g : Nat) : Kd → Value
  | quiet v => v
  | qcall v => v
  | main => r
  | fin f => f r
  | box _ _ => .pointer (some ⟨g, 0, none⟩)
  | put _ _ => undef
def isRes : Kd → Bool
  | main => true
  | fin _ => true
  | _ => false
def isMain : Kd → Bool
  | main => true
  | _ => false
def isBox : Kd → Bool
  | box _ _ => true
  | _ => false
def to : Kd → Option Nat
  | put b _ => some b
  | _ => none
end Kd
def kdAt (ks : List Kd) (i : Nat) : Kd := (ks[i]?).getD (.quiet undef)
def dstOf (l : List Oper) (j : Nat) : Nat := match l[j]? with
  | some o => o.dst.getD 0
  | none => 0
/-- the frame behind all of them -/
def putK (r : Value) (gs : Nat → Nat) : Nat → List Kd → List Oper → Act → Act
  | k, d :: ks, o :: l, a => putK r gs (k + 1) ks l (a.put o.dst (d.out r (gs k)))
  | _, _, _, a => a
/-- what the operations wait for -/
def mainOk (ks : List Kd) (l : List Oper) (c n : Nat) : Bool :=
  decide (ks.length = l.length) && decide (c < l.length) && (kdAt ks c).isMain && (l.all fun o => match o.dst with | some k => decide (k < n) | none => true) &&
  ((List.range l.length).all fun i => (i == c || !(kdAt ks i).isMain) && (match kdAt ks i with
    | .fin _ => (List.range l.length).any fun j => waits l i j && (kdAt ks j).isRes
    | .put b _ => waits l i b && (kdAt ks b).isBox && decide (b < l.length) && ((List.range l.length).any fun j => waits l i j && (kdAt ks j).isRes) && ((List.range l.length).all fun j => i == j || (kdAt ks j).to != some b)
    | _ => true) && (match kdAt ks i with | .put _ _ => (l[i]?.map fun o => o.dst) == some none | _ => (l[i]?.map fun o => o.dst.isSome) == some true))

section
variable {P : Program} {Q : Exit → Act → World → Prop}

structure RM (w : World) (ks : List Kd) (n c : Nat) (Pm : (Nat → Prop) → Value → World → Prop) (ls : Nat → Bool) (vs : Nat → Value) (w' : World) : Prop where
  below : Below w.heap.size w w'
  lt : ∀ i, ls i = true → i < n
  val : ∀ i v, ls i = true → (kdAt ks i).val (vs c) = some v → vs i = v
  res : ∀ i, ls i = true → (kdAt ks i).isRes = true → ls c = true
  put : ∀ i b f, ls i = true → kdAt ks i = .put b f → ls c = true ∧ ls b = true ∧ vs i = undef
  main : ls c = true → ∃ S, Pm S (vs c) w' ∧ (∀ g, S g → g < w'.heap.size) ∧ ∀ i t z g, ls i = true → kdAt ks i = .box t z → vs i = .pointer (some ⟨g, 0, none⟩) → ¬ S g
  box : ∀ i t z, ls i = true → kdAt ks i = .box t z → ∃ g C, vs i = .pointer (some ⟨g, 0, none⟩) ∧ w.heap.size ≤ g ∧ Blk w' g C t ∧ C.size = z.size ∧ ∀ j f, kdAt ks j = .put i f → ls j = true → C = f (vs c)
  apart : ∀ i j t z t' z', ls i = true → ls j = true → i ≠ j → kdAt ks i = .box t z → kdAt ks j = .box t' z' → vs i ≠ vs j

theorem putL_all (L : Array Bool) (vs : Nat → Value) (r : Value) (gs : Nat → Nat) : ∀ (l : List Oper) (k : Nat) (ks : List Kd) (a : Act), ks.length = l.length → (∀ i, i < l.length → L.getD (k + i) false = true) → (∀ i, i < l.length → vs (k + i) = (kdAt ks i).out r (gs (k + i))) → putL L vs k l a = putK r gs k ks l a
  | [], _, [], _, _, _, _ => rfl
  | o :: l, k, d :: ks, a, hl, hL, hv => by
    simp only [putL, putK]
    rw [if_pos (by simpa using hL 0 (by simp)), show vs k = d.out r (gs k) by simpa [kdAt] using hv 0 (by simp)]
    refine putL_all L vs r gs l (k + 1) ks _ (by simpa using hl) (fun i hi => ?_) (fun i hi => ?_)
    · have := hL (i + 1) (by simpa using hi)
      rw [show k + (i + 1) = k + 1 + i by omega] at this; exact this
    · have := hv (i + 1) (by simpa using hi)
      rw [show k + (i + 1) = k + 1 + i by omega] at this
      simpa [kdAt] using this

theorem region_main {id : Nat} {a : Act} {w : World} {l : List Oper} (hm : P.follows .mixedOrders = true) (hB : regOk l = true) (ks : List Kd) (c : Nat) (hK : mainOk ks l c a.tmps.size = true)
    (Pm : (Nat → Prop) → Value → World → Prop)
    (hloc : ∀ S r w1 w2, Pm S r w1 → w1.heap.size ≤ w2.heap.size → (∀ g, S g → g < w1.heap.size → w2.heap[g]? = w1.heap[g]?) → Pm S r w2)
    (hstep : ∀ i o, l[i]? = some o → ∀ (a' : Act) (w' : World) (r : Value), Below w.heap.size w w' → (∀ s, (l.all fun o => o.dst != some s) = true → a'.eval (.tmp s) = a.eval (.tmp s)) → (∀ j v, waits l i j = true → (kdAt ks j).val r = some v → a'.eval (.tmp (dstOf l j)) = v) →
      match kdAt ks i with
      | .quiet v => (execOp a'.eval o).run P w' = .ok (.value v) w'
      | .qcall v => ∃ f args, (execOp a'.eval o).run P w' = .ok (.enter f args) w' ∧ Calls P f args w' fun e w'' => e = .returned v ∧ Below w'.heap.size w' w''
      | .main => ∃ f args, (execOp a'.eval o).run P w' = .ok (.enter f args) w' ∧ Calls P f args w' fun e w'' => ∃ r, e = .returned r ∧ Pm (fun g => g < w''.heap.size ∧ (g < w.heap.size ∨ w'.heap.size ≤ g)) r w'' ∧ Below w'.heap.size w' w''
      | .fin f => ∀ S, Pm S r w' → (execOp a'.eval o).run P w' = .ok (.value (f r)) w'
      | .box t z => (execOp a'.eval o).run P w' = .ok (.value (.pointer (some ⟨w'.heap.size, 0, none⟩))) (w'.alloc (.cells z t))
      | .put b f => ∀ S, Pm S r w' → ∀ t z g C, kdAt ks b = .box t z → Blk w' g C t → C.size = z.size → a'.eval (.tmp (dstOf l b)) = .pointer (some ⟨g, 0, none⟩) → ∃ w'', (execOp a'.eval o).run P w' = .ok .skip w'' ∧ w''.heap.size = w'.heap.size ∧ Blk w'' g (f r) t ∧ (f r).size = z.size ∧ (∀ j, j ≠ g → w''.heap[j]? = w'.heap[j]?) ∧ w''.os = w'.os ∧ w''.tape = w'.tape ∧ w''.output = w'.output)
    (hend : ∀ (r : Value) (gs : Nat → Nat) (S : Nat → Prop) (w' : World), Below w.heap.size w w' → Pm S r w' → (∀ g, S g → g < w'.heap.size) →
      (∀ b t z, b < l.length → kdAt ks b = .box t z → w.heap.size ≤ gs b ∧ ¬ S (gs b) ∧ ∃ C, Blk w' (gs b) C t ∧ ∀ j f, j < l.length → kdAt ks j = .put b f → C = f r) →
      (∀ b b' t z t' z', b < l.length → b' < l.length → b ≠ b' → kdAt ks b = .box t z → kdAt ks b' = .box t' z' → gs b ≠ gs b') → Q .normal (putK r gs 0 ks l a) w') :
    (Code.region id l.toArray true).wp P Q a w := by
  simp only [mainOk, Bool.and_eq_true, decide_eq_true_eq] at hK
  obtain ⟨⟨⟨⟨hlen, hcl⟩, hcm⟩, hdst⟩, hall⟩ := hK
  have hkc : kdAt ks c = .main := by cases h : kdAt ks c <;> rw [h] at hcm <;> first | rfl | cases hcm
  have hap : dstsApart l = true := by simp only [regOk, Bool.and_eq_true] at hB; exact hB.1.1
  have hal : ∀ i, i < l.length → _ := fun i hi => List.all_eq_true.1 hall i (List.mem_range.2 hi)
  have hmu : ∀ i, i < l.length → kdAt ks i = .main → i = c := fun i hi hk => by
    have h := hal i hi
    simp only [Bool.and_eq_true] at h
    have h1 := h.1.1
    rw [hk] at h1
    simpa [Kd.isMain] using h1
  have hval : ∀ (L : Array Bool) (vs : Nat → Value) (i j : Nat) (o : Oper), l[i]? = some o → (∀ e ∈ o.after, Region.binds .any e = true → L.getD e.on false = true) → waits l i j = true → L.getD j false = true ∧ ∀ oj k, l[j]? = some oj → oj.dst = some k → (putL L vs 0 l a).eval (.tmp k) = vs j := fun L vs i j o ho hr hw => by
    have h1 := waits_spec hw ho hr
    refine ⟨h1, fun oj k hoj hk => putL_at h1 l 0 a oj hap (Nat.zero_le _) (by simpa using hoj) hk ?_⟩
    have := List.all_eq_true.1 hdst oj (List.mem_of_getElem? hoj)
    rw [hk] at this
    simpa using this
  refine wp_region_inv hm hB (fun L vs w' => RM w ks l.length c Pm (fun j => L.getD j false) vs w') ?_ ?_ ?_
  · have hno : ∀ j, ¬ (Array.replicate l.length false).getD j false = true := fun j => by
      simp [Array.getD_eq_getD_getElem?, Array.getElem?_replicate]; split <;> simp
    exact ⟨⟨rfl, rfl, rfl, Nat.le_refl _, fun _ _ => rfl⟩, fun i h => absurd h (hno i), fun i _ h => absurd h (hno i), fun i h => absurd h (hno i), fun i _ _ h => absurd h (hno i), fun h => absurd h (hno c), fun i _ _ h => absurd h (hno i), fun i _ _ _ _ _ h => absurd h (hno i)⟩
  · intro L vs w' F i o ho hL hr
    have hi : i < l.length := (List.getElem?_eq_some_iff.1 ho).1
    have ni : L.getD i false = false := by simpa using listed_no hL
    have hset := setfun hL
    have hwt := fun j => hval L vs i j o ho hr
    have hfree : ∀ s, (l.all fun o => o.dst != some s) = true → (putL L vs 0 l a).eval (.tmp s) = a.eval (.tmp s) := fun s hs => putL_other l 0 a (fun p hp t ht e => by
      injection e with e
      subst e
      have := List.all_eq_true.1 hs p hp
      rw [ht] at this
      simp at this)
    have hvals : ∀ j v, waits l i j = true → (kdAt ks j).val (vs c) = some v → (putL L vs 0 l a).eval (.tmp (dstOf l j)) = v := fun j v hw hv => by
      obtain ⟨h1, h2⟩ := hwt j hw
      have hjl : j < l.length := F.lt j h1
      have hoj : l[j]? = some l[j] := List.getElem?_eq_getElem hjl
      have h3 := hal j hjl
      simp only [Bool.and_eq_true] at h3
      have h4 := h3.2
      cases hd : l[j].dst with
      | none =>
        have : (l[j]?.map fun o => o.dst.isSome) = some false := by rw [hoj]; simp [hd]
        cases hk : kdAt ks j <;> rw [hk] at hv h4 <;> simp [Kd.val, this] at hv h4
      | some k =>
        rw [show dstOf l j = k by simp [dstOf, hoj, hd], h2 _ k hoj hd]
        exact F.val j v h1 hv
    have hs := hstep i o ho (putL L vs 0 l a) w' (vs c) F.below hfree hvals
    have hdeps := hal i hi
    simp only [Bool.and_eq_true] at hdeps
    rw [hset]
    obtain ⟨ls, hls⟩ : ∃ ls : Nat → Bool, ls = fun j => L.getD j false := ⟨_, rfl⟩
    have hlsj : ∀ j, L.getD j false = ls j := fun j => by rw [hls]
    simp only [hlsj] at F ni hwt ⊢
    have hcne : ∀ k, kdAt ks i = k → k.isMain = false → c ≠ i := fun k h1 h2 e => by subst e; rw [hkc] at h1; subst h1; cases h2
    have hupc : ∀ k v, kdAt ks i = k → k.isMain = false → upd vs i v c = vs c := fun k v h1 h2 => upd_ne (hcne k h1 h2)
    have hlt' : ∀ j, (decide (j = i) || ls j) = true → j < l.length := fun j hj => by
      simp only [Bool.or_eq_true, decide_eq_true_eq] at hj
      rcases hj with rfl | hj
      · exact hi
      · exact F.lt j hj
    have hres : ∀ j, waits l i j = true → (kdAt ks j).isRes = true → ls c = true := fun j hw hk => F.res j (hwt j hw).1 hk
    -- an op that changes no memory and is no main, no box, no put
    have plain : ∀ (k : Kd) (v : Value) (w'' : World), kdAt ks i = k → k.isMain = false → k.isBox = false → k.to = none → Below w'.heap.size w' w'' → (k.val (vs c) = some v) → (k.isRes = true → ls c = true) → RM w ks l.length c Pm (fun j => decide (j = i) || ls j) (upd vs i v) w'' := fun k v w'' hk h1 h2 h3 hb hv hrs => by
      have hsame : ∀ g, g < w'.heap.size → w''.heap[g]? = w'.heap[g]? := hb.block
      refine ⟨F.below.trans (hb.mono F.below.size), hlt', ?_, ?_, ?_, ?_, ?_, ?_⟩
      · intro j u hj hu
        rw [hupc k v hk h1] at hu
        by_cases e : j = i
        · subst e; rw [upd_at]; rw [hk, hv] at hu; injection hu
        · rw [upd_ne e]; exact F.val j u (by simpa [e] using hj) hu
      · intro j hj hjr
        by_cases e : j = i
        · subst e; rw [hk] at hjr; simp [hrs hjr]
        · simp [F.res j (by simpa [e] using hj) hjr]
      · intro j b f hj hjk
        by_cases e : j = i
        · subst e; rw [hk] at hjk; subst hjk; cases h3
        · obtain ⟨e1, e2, e3⟩ := F.put j b f (by simpa [e] using hj) hjk
          rw [upd_ne e]; exact ⟨by simp [e1], by simp [e2], e3⟩
      · intro hc
        have hc' : ls c = true := by simpa [hcne k hk h1] using hc
        obtain ⟨S, e1, e2, e3⟩ := F.main hc'
        rw [hupc k v hk h1]
        refine ⟨S, hloc S _ w' w'' e1 hb.size (fun g _ h => hsame g h), fun g hg => Nat.lt_of_lt_of_le (e2 g hg) hb.size, fun j t z g hj hjk hjv => ?_⟩
        by_cases e : j = i
        · subst e; rw [hk] at hjk; subst hjk; cases h2
        · rw [upd_ne e] at hjv; exact e3 j t z g (by simpa [e] using hj) hjk hjv
      · intro j t z hj hjk
        by_cases e : j = i
        · subst e; rw [hk] at hjk; subst hjk; cases h2
        · obtain ⟨g, C, e1, e2, e3, e4, e5⟩ := F.box j t z (by simpa [e] using hj) hjk
          refine ⟨g, C, by rw [upd_ne e]; exact e1, e2, (hsame g e3.lt).trans e3, e4, fun q f hq hlq => ?_⟩
          rw [hupc k v hk h1]
          by_cases e' : q = i
          · subst e'; rw [hk] at hq; subst hq; cases h3
          · exact e5 q f hq (by simpa [e'] using hlq)
      · intro p q t z t' z' hp hq hpq hpk hqk
        have e1 : p ≠ i := fun e => by subst e; rw [hk] at hpk; subst hpk; cases h2
        have e2 : q ≠ i := fun e => by subst e; rw [hk] at hqk; subst hqk; cases h2
        rw [upd_ne e1, upd_ne e2]
        exact F.apart p q t z t' z' (by simpa [e1] using hp) (by simpa [e2] using hq) hpq hpk hqk
    cases hk : kdAt ks i with
    | quiet v =>
      rw [hk] at hs
      exact oper_wp_ok hs ⟨v, rfl, plain _ v w' hk rfl rfl rfl (Below.refl _ _) rfl (fun h => by cases h)⟩
    | fin f =>
      rw [hk] at hs
      have h := hdeps.1.2
      rw [hk] at h
      obtain ⟨j, _, hj⟩ := List.any_eq_true.1 h
      simp only [Bool.and_eq_true] at hj
      have hlc := hres j hj.1 hj.2
      obtain ⟨S, p1, _⟩ := F.main hlc
      exact oper_wp_ok (hs S p1) ⟨_, rfl, plain _ _ w' hk rfl rfl rfl (Below.refl _ _) rfl (fun _ => hlc)⟩
    | qcall v =>
      rw [hk] at hs
      obtain ⟨f, args, h1, h2⟩ := hs
      unfold Oper.wp
      rw [h1, Oper.upon_enter]
      refine h2.mono ?_
      rintro e w'' ⟨rfl, hb⟩
      exact ⟨v, rfl, plain _ v w'' hk rfl rfl rfl hb rfl (fun h => by cases h)⟩
    | main =>
      rw [hk] at hs
      obtain ⟨f, args, h1, h2⟩ := hs
      have hic : i = c := hmu i hi hk
      subst hic
      unfold Oper.wp
      rw [h1, Oper.upon_enter]
      refine h2.mono ?_
      rintro e w'' ⟨r, rfl, hP, hb⟩
      refine ⟨r, rfl, F.below.trans (hb.mono F.below.size), hlt', ?_, fun _ _ _ => by simp, ?_, ?_, ?_, ?_⟩
      · intro j u hj hu
        rw [upd_at] at hu
        by_cases e : j = i
        · subst e; rw [upd_at]; rw [hk] at hu; simpa [Kd.val] using hu
        · rw [upd_ne e]
          have hlj : ls j = true := by simpa [e] using hj
          have hnr : ¬ (kdAt ks j).isRes = true := fun h => by rw [F.res j hlj h] at ni; cases ni
          refine F.val j u hlj ?_
          cases hkj : kdAt ks j <;> rw [hkj] at hu hnr <;> simp [Kd.val, Kd.isRes] at hu hnr ⊢ <;> exact hu
      · intro j b f hj hjk
        by_cases e : j = i
        · subst e; rw [hk] at hjk; cases hjk
        · have := (F.put j b f (by simpa [e] using hj) hjk).1
          rw [this] at ni; cases ni
      · intro _
        rw [upd_at]
        refine ⟨_, hP, fun g hg => hg.1, fun j t z g hj hjk hjv hg => ?_⟩
        by_cases e : j = i
        · subst e; rw [hk] at hjk; cases hjk
        · rw [upd_ne e] at hjv
          obtain ⟨g', C, e1, e2, e3, _⟩ := F.box j t z (by simpa [e] using hj) hjk
          rw [hjv] at e1
          injection e1 with e1; injection e1 with e1; injection e1 with e1
          have := e3.lt
          rcases hg.2 with h | h <;> omega
      · intro j t z hj hjk
        by_cases e : j = i
        · subst e; rw [hk] at hjk; cases hjk
        · obtain ⟨g, C, e1, e2, e3, e4, e5⟩ := F.box j t z (by simpa [e] using hj) hjk
          refine ⟨g, C, by rw [upd_ne e]; exact e1, e2, (hb.block g e3.lt).trans e3, e4, fun q f hq hlq => ?_⟩
          by_cases e' : q = i
          · subst e'; rw [hk] at hq; cases hq
          · have := (F.put q j f (by simpa [e'] using hlq) hq).1
            rw [this] at ni; cases ni
      · intro p q t z t' z' hp hq hpq hpk hqk
        have e1 : p ≠ i := fun e => by subst e; rw [hk] at hpk; cases hpk
        have e2 : q ≠ i := fun e => by subst e; rw [hk] at hqk; cases hqk
        rw [upd_ne e1, upd_ne e2]
        exact F.apart p q t z t' z' (by simpa [e1] using hp) (by simpa [e2] using hq) hpq hpk hqk
    | box t z =>
      rw [hk] at hs
      refine oper_wp_ok hs ⟨_, rfl, ?_⟩
      have hb : Below w'.heap.size w' (w'.alloc (.cells z t)) := (Below.refl _ _).alloc (Nat.le_refl _) _
      have hnew : ∀ j t' z', ls j = true → kdAt ks j = .box t' z' → vs j ≠ .pointer (some ⟨w'.heap.size, 0, none⟩) := fun j t' z' hj hjk e => by
        obtain ⟨g, C, e1, _, e3, _⟩ := F.box j t' z' hj hjk
        rw [e] at e1
        injection e1 with e1; injection e1 with e1; injection e1 with e1
        have := e3.lt; omega
      refine ⟨F.below.trans (hb.mono F.below.size), hlt', ?_, ?_, ?_, ?_, ?_, ?_⟩
      · intro j u hj hu
        rw [hupc _ _ hk rfl] at hu
        by_cases e : j = i
        · subst e; rw [hk] at hu; cases hu
        · rw [upd_ne e]; exact F.val j u (by simpa [e] using hj) hu
      · intro j hj hjr
        by_cases e : j = i
        · subst e; rw [hk] at hjr; cases hjr
        · simp [F.res j (by simpa [e] using hj) hjr]
      · intro j b f hj hjk
        by_cases e : j = i
        · subst e; rw [hk] at hjk; cases hjk
        · obtain ⟨e1, e2, e3⟩ := F.put j b f (by simpa [e] using hj) hjk
          rw [upd_ne e]; exact ⟨by simp [e1], by simp [e2], e3⟩
      · intro hc
        have hc' : ls c = true := by simpa [hcne _ hk rfl] using hc
        obtain ⟨S, e1, e2, e3⟩ := F.main hc'
        rw [hupc _ _ hk rfl]
        refine ⟨S, hloc S _ w' _ e1 hb.size (fun g _ h => hb.block g h), fun g hg => Nat.lt_of_lt_of_le (e2 g hg) hb.size, fun j t z g hj hjk hjv => ?_⟩
        by_cases e : j = i
        · subst e
          rw [upd_at] at hjv
          injection hjv with hjv; injection hjv with hjv; injection hjv with hjv
          intro hg
          have := e2 g hg; omega
        · rw [upd_ne e] at hjv; exact e3 j t z g (by simpa [e] using hj) hjk hjv
      · intro j t' z' hj hjk
        by_cases e : j = i
        · subst e
          rw [hk] at hjk
          injection hjk with h1 h2
          subst h1; subst h2
          refine ⟨w'.heap.size, z, by rw [upd_at], F.below.size, Blk.new _ _ _, rfl, fun q f hq hlq => ?_⟩
          have e' : q ≠ j := fun e' => by subst e'; rw [hk] at hq; cases hq
          have := (F.put q j f (by simpa [e'] using hlq) hq).2.1
          rw [this] at ni; cases ni
        · obtain ⟨g, C, e1, e2, e3, e4, e5⟩ := F.box j t' z' (by simpa [e] using hj) hjk
          refine ⟨g, C, by rw [upd_ne e]; exact e1, e2, (hb.block g e3.lt).trans e3, e4, fun q f hq hlq => ?_⟩
          rw [hupc _ _ hk rfl]
          have e' : q ≠ i := fun e' => by subst e'; rw [hk] at hq; cases hq
          exact e5 q f hq (by simpa [e'] using hlq)
      · intro p q t1 z1 t2 z2 hp hq hpq hpk hqk
        by_cases e1 : p = i
        · have e2 : q ≠ i := fun e => hpq (e1.trans e.symm)
          subst e1
          rw [upd_at, upd_ne e2]
          exact fun e => hnew q _ _ (by simpa [e2] using hq) hqk e.symm
        · by_cases e2 : q = i
          · subst e2
            rw [upd_at, upd_ne e1]
            exact hnew p _ _ (by simpa [e1] using hp) hpk
          · rw [upd_ne e1, upd_ne e2]
            exact F.apart p q _ _ _ _ (by simpa [e1] using hp) (by simpa [e2] using hq) hpq hpk hqk
    | put b f =>
      rw [hk] at hs
      have h := hdeps.1.2
      rw [hk] at h
      simp only [Bool.and_eq_true, decide_eq_true_eq] at h
      obtain ⟨⟨⟨⟨hwb, hbb⟩, hbl⟩, hany⟩, huniq⟩ := h
      obtain ⟨t, z, hkb⟩ : ∃ t z, kdAt ks b = .box t z := by
        cases h : kdAt ks b <;> rw [h] at hbb <;> first | exact ⟨_, _, rfl⟩ | cases hbb
      obtain ⟨hlb, hev⟩ := hwt b hwb
      obtain ⟨g, C, e1, e2, e3, e4, e5⟩ := F.box b t z hlb hkb
      have hob : l[b]? = some l[b] := List.getElem?_eq_getElem hbl
      have hdb : ∃ k, l[b].dst = some k := by
        have h3 := hal b hbl
        simp only [Bool.and_eq_true] at h3
        have h4 := h3.2
        rw [hkb, hob] at h4
        simp at h4
        exact Option.isSome_iff_exists.1 h4
      obtain ⟨k, hdb⟩ := hdb
      have hevb : (putL L vs 0 l a).eval (.tmp (dstOf l b)) = .pointer (some ⟨g, 0, none⟩) := by
        rw [show dstOf l b = k by simp [dstOf, hob, hdb], hev _ k hob hdb, e1]
      have hlc : ls c = true := by
        obtain ⟨j, _, hj⟩ := List.any_eq_true.1 hany
        simp only [Bool.and_eq_true] at hj
        exact hres j hj.1 hj.2
      obtain ⟨S, p1, p2, p3⟩ := F.main hlc
      obtain ⟨w'', hrun, hsz, hblk, hfs, hoth, h1, h2, h3⟩ := hs S p1 t z g C hkb e3 e4 hevb
      have hdn : o.dst = none := by
        have h4 := hdeps.2
        rw [hk, ho] at h4
        simpa using h4
      unfold Oper.wp
      rw [hrun, Oper.upon_skip]
      have hbel : Below w.heap.size w w'' := ⟨h1.trans F.below.os, h2.trans F.below.tape, h3.trans F.below.output, by rw [hsz]; exact F.below.size, fun j hj => by rw [hoth j (by omega)]; exact F.below.block j hj⟩
      refine ⟨undef, rfl, hbel, hlt', ?_, ?_, ?_, ?_, ?_, ?_⟩
      · intro j u hj hu
        rw [hupc _ _ hk rfl] at hu
        by_cases e : j = i
        · subst e; rw [hk] at hu; cases hu
        · rw [upd_ne e]; exact F.val j u (by simpa [e] using hj) hu
      · intro j hj hjr
        simp [hlc]
      · intro j b' f' hj hjk
        by_cases e : j = i
        · subst e
          rw [hk] at hjk
          injection hjk with q1 q2
          subst q1
          exact ⟨by simp [hlc], by simp [hlb], by rw [upd_at]⟩
        · obtain ⟨e1, e2, e3⟩ := F.put j b' f' (by simpa [e] using hj) hjk
          rw [upd_ne e]; exact ⟨by simp [e1], by simp [e2], e3⟩
      · intro _
        rw [hupc _ _ hk rfl]
        refine ⟨S, hloc S _ w' w'' p1 (by omega) (fun g' hg' _ => hoth g' (fun e => p3 b t z g hlb hkb e1 (e ▸ hg'))), fun g' hg' => by have := p2 g' hg'; omega, fun j t' z' g' hj hjk hjv => ?_⟩
        have e : j ≠ i := fun e => by subst e; rw [hk] at hjk; cases hjk
        rw [upd_ne e] at hjv
        exact p3 j t' z' g' (by simpa [e] using hj) hjk hjv
      · intro j t' z' hj hjk
        have e : j ≠ i := fun e => by subst e; rw [hk] at hjk; cases hjk
        have hlj : ls j = true := by simpa [e] using hj
        by_cases ejb : j = b
        · subst ejb
          rw [hkb] at hjk
          injection hjk with q1 q2
          subst q1; subst q2
          refine ⟨g, f (vs c), by rw [upd_ne e]; exact e1, e2, hblk, hfs, fun q f' hq hlq => ?_⟩
          rw [hupc _ _ hk rfl]
          by_cases eq : q = i
          · subst eq
            rw [hk] at hq
            injection hq with _ q2
            rw [q2]
          · have hql : q < l.length := hlt' q hlq
            have h5 := List.all_eq_true.1 huniq q (List.mem_range.2 hql)
            simp [hq, Kd.to, Ne.symm eq] at h5
        · obtain ⟨g', C', p1, p2, p3, p4, p5⟩ := F.box j t' z' hlj hjk
          have hne : g' ≠ g := fun e => F.apart j b t' z' t z hlj hlb ejb hjk hkb (by rw [p1, e1, e])
          refine ⟨g', C', by rw [upd_ne e]; exact p1, p2, (hoth g' hne).trans p3, p4, fun q f' hq hlq => ?_⟩
          rw [hupc _ _ hk rfl]
          by_cases eq : q = i
          · subst eq
            rw [hk] at hq
            injection hq with q1 _
            exact absurd q1.symm ejb
          · exact p5 q f' hq (by simpa [eq] using hlq)
      · intro p q t1 z1 t2 z2 hp hq hpq hpk hqk
        have e1 : p ≠ i := fun e => by subst e; rw [hk] at hpk; cases hpk
        have e2 : q ≠ i := fun e => by subst e; rw [hk] at hqk; cases hqk
        rw [upd_ne e1, upd_ne e2]
        exact F.apart p q _ _ _ _ (by simpa [e1] using hp) (by simpa [e2] using hq) hpq hpk hqk
  · intro L vs w' F hlst
    have hc := hlst c hcl
    obtain ⟨S, p1, p2, p3⟩ := F.main hc
    have hgs : ∃ gs : Nat → Nat, ∀ i t z, i < l.length → kdAt ks i = .box t z → vs i = .pointer (some ⟨gs i, 0, none⟩) := by
      refine ⟨fun i => match vs i with | .pointer (some ad) => ad.block | _ => 0, fun i t z hi hk => ?_⟩
      obtain ⟨g, C, e1, _⟩ := F.box i t z (hlst i hi) hk
      simp [e1]
    obtain ⟨gs, hgs⟩ := hgs
    rw [putL_all L vs (vs c) gs l 0 ks a hlen (fun i hi => by rw [Nat.zero_add]; exact hlst i hi) (fun i hi => ?_)]
    · refine hend (vs c) gs S w' F.below p1 p2 (fun b t z hb hk => ?_) (fun b b' t z t' z' hb hb' hne hk hk' e => ?_)
      · obtain ⟨g, C, e1, e2, e3, e4, e5⟩ := F.box b t z (hlst b hb) hk
        have e6 := hgs b t z hb hk
        rw [e6] at e1
        injection e1 with e1; injection e1 with e1; injection e1 with e1
        rw [e1]
        refine ⟨e2, ?_, C, e3, fun j f hj hjk => e5 j f hjk (hlst j hj)⟩
        rw [← e1]
        exact p3 b t z (gs b) (hlst b hb) hk e6
      · exact F.apart b b' t z t' z' (hlst b hb) (hlst b' hb') hne hk hk' (by rw [hgs b t z hb hk, hgs b' t' z' hb' hk', e])
    · rw [Nat.zero_add]
      cases hk : kdAt ks i with
      | box t z => exact hgs i t z hi hk
      | put b f => exact (F.put i b f (hlst i hi) hk).2.2
      | quiet v => exact F.val i _ (hlst i hi) (by rw [hk]; rfl)
      | qcall v => exact F.val i _ (hlst i hi) (by rw [hk]; rfl)
      | main => exact F.val i _ (hlst i hi) (by rw [hk]; rfl)
      | fin f => exact F.val i _ (hlst i hi) (by rw [hk]; rfl)
end

/-- a part of a tuple -/
def exT (i : Nat) (r : Value) : Value := match r with
  | .tuple vs => vs[i]?.getD undef
  | _ => undef
theorem exT_tuple (i : Nat) (vs : Array Value) : exT i (.tuple vs) = vs[i]?.getD undef := rfl
/-- a struct's cells -/
def aggC (r : Value) : Array Value := match r with
  | .agg vs => vs
  | _ => #[]

theorem set1 {w : World} {g : Nat} {C : Array Value} {t : TypeId} (h : Blk w g C t) (hs : C.size = 1) (v0 : Value) :
    (w.setCell ⟨g, 0, none⟩ v0).heap.size = w.heap.size ∧ Blk (w.setCell ⟨g, 0, none⟩ v0) g #[v0] t ∧ ∀ j, j ≠ g → (w.setCell ⟨g, 0, none⟩ v0).heap[j]? = w.heap[j]? := by
  obtain ⟨l⟩ := C
  obtain ⟨c0, rfl⟩ := List.length_eq_one_iff.1 hs
  exact ⟨by simp, h.set 0 v0, fun j hj => Below.heap_setCell _ _ _ _ hj⟩
theorem set2 {w : World} {g : Nat} {C : Array Value} {t : TypeId} (h : Blk w g C t) (hs : C.size = 2) (v0 v1 : Value) :
    ((w.setCell ⟨g, 0, none⟩ v0).setCell ⟨g, 1, none⟩ v1).heap.size = w.heap.size ∧ Blk ((w.setCell ⟨g, 0, none⟩ v0).setCell ⟨g, 1, none⟩ v1) g #[v0, v1] t ∧ ∀ j, j ≠ g → ((w.setCell ⟨g, 0, none⟩ v0).setCell ⟨g, 1, none⟩ v1).heap[j]? = w.heap[j]? := by
  obtain ⟨l⟩ := C
  match l, hs with
  | [c0, c1], _ => exact ⟨by simp, (h.set 0 v0).set 1 v1, fun j hj => by rw [Below.heap_setCell _ _ _ _ (by exact hj), Below.heap_setCell _ _ _ _ (by exact hj)]⟩
theorem set3 {w : World} {g : Nat} {C : Array Value} {t : TypeId} (h : Blk w g C t) (hs : C.size = 3) (v0 v1 v2 : Value) :
    (((w.setCell ⟨g, 0, none⟩ v0).setCell ⟨g, 1, none⟩ v1).setCell ⟨g, 2, none⟩ v2).heap.size = w.heap.size ∧ Blk (((w.setCell ⟨g, 0, none⟩ v0).setCell ⟨g, 1, none⟩ v1).setCell ⟨g, 2, none⟩ v2) g #[v0, v1, v2] t ∧ ∀ j, j ≠ g → (((w.setCell ⟨g, 0, none⟩ v0).setCell ⟨g, 1, none⟩ v1).setCell ⟨g, 2, none⟩ v2).heap[j]? = w.heap[j]? := by
  obtain ⟨l⟩ := C
  match l, hs with
  | [c0, c1, c2], _ => exact ⟨by simp, ((h.set 0 v0).set 1 v1).set 2 v2, fun j hj => by rw [Below.heap_setCell _ _ _ _ (by exact hj), Below.heap_setCell _ _ _ _ (by exact hj), Below.heap_setCell _ _ _ _ (by exact hj)]⟩
theorem cells1 {w : World} {g : Nat} {C : Array Value} {t : TypeId} (h : Blk w g C t) (hs : C.size = 1) : ∃ c0, w.cell? ⟨g, 0, none⟩ = some c0 := by
  obtain ⟨l⟩ := C
  match l, hs with
  | [c0], _ => exact ⟨c0, h.cell rfl⟩
theorem cells2 {w : World} {g : Nat} {C : Array Value} {t : TypeId} (h : Blk w g C t) (hs : C.size = 2) : ∃ c0 c1, w.cell? ⟨g, 0, none⟩ = some c0 ∧ w.cell? ⟨g, 1, none⟩ = some c1 := by
  obtain ⟨l⟩ := C
  match l, hs with
  | [c0, c1], _ => exact ⟨c0, c1, h.cell rfl, h.cell rfl⟩
theorem cells3 {w : World} {g : Nat} {C : Array Value} {t : TypeId} (h : Blk w g C t) (hs : C.size = 3) : ∃ c0 c1 c2, w.cell? ⟨g, 0, none⟩ = some c0 ∧ w.cell? ⟨g, 1, none⟩ = some c1 ∧ w.cell? ⟨g, 2, none⟩ = some c2 := by
  obtain ⟨l⟩ := C
  match l, hs with
  | [c0, c1, c2], _ => exact ⟨c0, c1, c2, h.cell rfl, h.cell rfl, h.cell rfl⟩

end Go.Proofs.Ytnpaejknoipicad
