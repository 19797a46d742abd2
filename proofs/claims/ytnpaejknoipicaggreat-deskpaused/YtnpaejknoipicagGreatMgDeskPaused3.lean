/-
 Contracts: the keeper's hold.
-/
import Derived.WalkKit
import Derived.WalkSpells
import Derived.Orders
import Derived.Test.YtnpaejknoipicagGreatMgDeskPaused1
import Derived.Test.YtnpaejknoipicagGreatMgDeskPaused2
import Derived.Lib.AppendStr
import Derived.Recover
import Derived.Defers
import Derived.Lib.BufferWrite
import Derived.Lib.UnsafeStr
import Derived.Laws.MakeOwn
import Derived.Deep.QuietTactic
import Derived.BigQuiet
import Derived.Lib.Overlaps
import Derived.Lib.AppendZerosOnto
import Derived.Laws.NewBlocks
namespace Go.Proofs.YtnpaejknoipicagGreat
open Go.RowKit
section
variable {P : Program} {Q : Exit → Act → World → Prop}
def left (L : Array Bool) : Nat := L.toList.countP (· == false)
theorem left_set {L : Array Bool} {i : Nat} (h : L[i]? = some false) : left (L.setIfInBounds i true) + 1 = left L := by
 obtain ⟨l⟩ := L
 simp only [left, List.setIfInBounds_toArray] at *
 have h' : l[i]? = some false := by simpa using h
 clear h
 induction l generalizing i with
 | nil => simp at h'
 | cons b r ih =>
  cases i with
  | zero => simp at h'; subst h'; simp
  | succ i =>
   simp only [List.getElem?_cons_succ] at h'
   have := ih h'
   simp only [List.set_cons_succ, List.countP_cons] at this ⊢
   omega
theorem getD_false {L : Array Bool} {i : Nat} (h : L.getD i true = false) : L[i]? = some false := by
 cases hi : L[i]? with
 | none => simp [Array.getD_eq_getD_getElem?, hi] at h
 | some b => simp [Array.getD_eq_getD_getElem?, hi] at h; rw [h]
theorem wpAny_inv {md : Region.Mode} {ops : Array Oper} (I : Array Bool → Act → World → Prop) (hguard : ∀ o ∈ ops, o.guard = none)
  (hstep : ∀ L a w, L.size = ops.size → I L a w → ∀ (i : Nat) (o : Oper), ops[i]? = some o → L[i]? = some false → (∀ e ∈ o.after, Region.binds md e = true → L.getD e.on false = true) → o.wp P a w (fun a' w' => I (L.setIfInBounds i true) a' w') Q)
  (hend : ∀ L a w, L.size = ops.size → I L a w → Region.ready md ops L = [] → Q .normal a w) :
  ∀ (fuel : Nat) (L : Array Bool) (a : Act) (w : World), L.size = ops.size → left L ≤ fuel → I L a w → wpAny P md ops Q fuel L a w
 | 0, L, a, w, hs, hf, hI => by
  have hr : Region.ready md ops L = [] := by
   rw [List.eq_nil_iff_forall_not_mem]
   intro j hj
   have h := getD_false (mem_ready.1 hj).1
   have := left_set h
   omega
  exact ⟨hr, hend L a w hs hI hr⟩
 | fuel + 1, L, a, w, hs, hf, hI => by
  refine ⟨hend L a w hs hI, fun i hi => ?_⟩
  obtain ⟨h1, o, h2, h3⟩ := mem_ready.1 hi
  have h4 := getD_false h1
  have hw : Region.wanted o (yielded ops a.tmps) = true := by
   have : o.guard = none := hguard o (Array.mem_of_getElem? h2)
   simp [Region.wanted, this]
  unfold wpOp
  simp only [h2, hw, if_true]
  exact .inl (Oper.wp_mono (fun a' w' h => wpAny_inv I hguard hstep hend fuel _ a' w' (by simpa using hs) (by have := left_set h4; omega) h) (hstep L a w hs hI i o h2 h4 h3))
theorem ready_nil {md : Region.Mode} {ops : Array Oper} {L : Array Bool} (hs : L.size = ops.size) (hB : ∀ (i : Nat) (o : Oper), ops[i]? = some o → ∀ e ∈ o.after, Region.binds md e = true → e.on < i) (hr : Region.ready md ops L = []) : ∀ i, i < ops.size → L[i]? = some true := by
 intro i
 induction i using Nat.strongRecOn with
 | _ i ih =>
  intro hi
  have ho : ops[i]? = some ops[i] := Array.getElem?_eq_getElem hi
  cases hL : L[i]? with
  | none => rw [Array.getElem?_eq_none_iff] at hL; omega
  | some b =>
   cases b with
   | true => rfl
   | false =>
    have : i ∈ Region.ready md ops L := mem_ready.2 ⟨by simp [Array.getD_eq_getD_getElem?, hL], ops[i], ho, fun e he hb => by
     have h1 := hB i _ ho e he hb
     simp [Array.getD_eq_getD_getElem?, ih e.on h1 (by omega)]⟩
    rw [hr] at this; cases this
def putL (L : Array Bool) (vs : Nat → Value) : Nat → List Oper → Act → Act
 | _, [], a => a
 | k, o :: r, a => putL L vs (k + 1) r (if L.getD k false = true then a.put o.dst (vs k) else a)
def upd (vs : Nat → Value) (i : Nat) (v : Value) : Nat → Value := fun j => if j = i then v else vs j
theorem upd_at (vs : Nat → Value) (i : Nat) (v : Value) : upd vs i v i = v := by simp [upd]
theorem upd_ne {vs : Nat → Value} {i j : Nat} {v : Value} (h : j ≠ i) : upd vs i v j = vs j := by simp [upd, h]
def dstsApart : List Oper → Bool
 | [] => true
 | o :: r => (match o.dst with | none => true | some d => r.all fun p => p.dst != some d) && dstsApart r
theorem putL_comm {L : Array Bool} {vs : Nat → Value} {d : Option Tmp} {v : Value} : ∀ (l : List Oper) (k : Nat) (a : Act), (∀ t, d = some t → ∀ p ∈ l, p.dst ≠ some t) → putL L vs k l (a.put d v) = (putL L vs k l a).put d v
 | [], _, _, _ => rfl
 | o :: r, k, a, h => by
  simp only [putL]
  by_cases hk : L.getD k false = true
  ·rw [if_pos hk, if_pos hk, Act.put_comm a v (vs k) (fun t ht => h t ht o List.mem_cons_self)]
   exact putL_comm r (k + 1) _ (fun t ht p hp => h t ht p (List.mem_cons_of_mem _ hp))
  ·rw [if_neg hk, if_neg hk]
   exact putL_comm r (k + 1) _ (fun t ht p hp => h t ht p (List.mem_cons_of_mem _ hp))
theorem putL_same {L L' : Array Bool} {vs vs' : Nat → Value} : ∀ (l : List Oper) (k : Nat) (a : Act), (∀ j, k ≤ j → L'.getD j false = L.getD j false ∧ vs' j = vs j) → putL L' vs' k l a = putL L vs k l a
 | [], _, _, _ => rfl
 | o :: r, k, a, h => by
  simp only [putL]
  rw [(h k (Nat.le_refl _)).1, (h k (Nat.le_refl _)).2]
  exact putL_same r (k + 1) _ (fun j hj => h j (by omega))
theorem getD_set_other {L : Array Bool} {i j : Nat} (h : j ≠ i) (d : Bool) : (L.setIfInBounds i true).getD j d = L.getD j d := by
 simp [Array.getD_eq_getD_getElem?, Array.getElem?_setIfInBounds_ne (Ne.symm h)]
theorem getD_set_at {L : Array Bool} {i : Nat} (h : L[i]? = some false) (d : Bool) : (L.setIfInBounds i true).getD i d = true := by
 have hi : i < L.size := (Array.getElem?_eq_some_iff.1 h).1
 simp [Array.getD_eq_getD_getElem?, hi]
theorem putL_set {L : Array Bool} {vs : Nat → Value} {i : Nat} {v : Value} (hL : L[i]? = some false) : ∀ (l : List Oper) (k : Nat) (a : Act) (o : Oper), dstsApart l = true → k ≤ i → l[i - k]? = some o →
  putL (L.setIfInBounds i true) (upd vs i v) k l a = (putL L vs k l a).put o.dst v
 | [], _, _, _, _, _, h => by simp at h
 | p :: r, k, a, o, hd, hk, ho => by
  simp only [dstsApart, Bool.and_eq_true] at hd
  by_cases e : k = i
  ·subst e
   simp at ho
   subst ho
   have h0 : L.getD k false = false := by simp [Array.getD_eq_getD_getElem?, hL]
   simp only [putL]
   rw [if_pos (getD_set_at hL _), upd_at, if_neg (by rw [h0]; simp)]
   rw [putL_same r (k + 1) _ (fun j hj => ⟨getD_set_other (by omega) _, upd_ne (by omega)⟩)]
   refine putL_comm r (k + 1) a (fun t ht q hq => ?_)
   have h1 := hd.1
   rw [ht] at h1
   simp only [List.all_eq_true, bne_iff_ne] at h1
   exact h1 q hq
  ·simp only [putL]
   rw [getD_set_other e, upd_ne e]
   have h1 : i - k = (i - (k + 1)) + 1 := by omega
   rw [h1, List.getElem?_cons_succ] at ho
   exact putL_set hL r (k + 1) _ o hd.2 (by omega) ho
theorem putL_other {L : Array Bool} {vs : Nat → Value} {x : Operand} : ∀ (l : List Oper) (k : Nat) (a : Act), (∀ p ∈ l, ∀ t, p.dst = some t → x ≠ .tmp t) → (putL L vs k l a).eval x = a.eval x
 | [], _, _, _ => rfl
 | o :: r, k, a, h => by
  simp only [putL]
  rw [putL_other r (k + 1) _ (fun p hp => h p (List.mem_cons_of_mem _ hp))]
  split
  ·exact Act.eval_put (fun t ht => h o List.mem_cons_self t ht)
  ·rfl
theorem putL_at {L : Array Bool} {vs : Nat → Value} {i t : Nat} (hL : L.getD i false = true) : ∀ (l : List Oper) (k : Nat) (a : Act) (o : Oper), dstsApart l = true → k ≤ i → l[i - k]? = some o → o.dst = some t → t < a.tmps.size → (putL L vs k l a).eval (.tmp t) = vs i
 | [], _, _, _, _, _, h, _, _ => by simp at h
 | p :: r, k, a, o, hd, hk, ho, ht, hs => by
  simp only [dstsApart, Bool.and_eq_true] at hd
  by_cases e : k = i
  ·subst e
   simp at ho
   subst ho
   simp only [putL]
   rw [if_pos hL, putL_other]
   ·rw [ht]; simp [Act.put, Act.eval, Array.getD_eq_getD_getElem?, hs]
   ·intro q hq u hu e
    injection e with e
    have h1 := hd.1
    rw [ht] at h1
    simp only [List.all_eq_true, bne_iff_ne] at h1
    exact h1 q hq (e ▸ hu)
  ·have h1 : i - k = (i - (k + 1)) + 1 := by omega
   rw [h1, List.getElem?_cons_succ] at ho
   simp only [putL]
   refine putL_at hL r (k + 1) _ o hd.2 (by omega) ho ht ?_
   split
   ·cases hp : p.dst <;> simp [Act.put, hs]
   ·exact hs
def regOk (l : List Oper) : Bool := dstsApart l && l.all (fun o => o.guard.isNone) && (l.zipIdx.all fun p => p.1.after.all fun e => decide (e.on < p.2) || !(Region.binds .any e))
theorem wp_region_inv {id : Nat} {a : Act} {w : World} {l : List Oper} (hm : P.follows .mixedOrders = true) (hB : regOk l = true) (F : Array Bool → (Nat → Value) → World → Prop)
  (h0 : F (Array.replicate l.length false) (fun _ => undef) { w with drawn := w.drawn + 1 })
  (hstep : ∀ L vs w', F L vs w' → ∀ (i : Nat) (o : Oper), l[i]? = some o → L[i]? = some false → (∀ e ∈ o.after, Region.binds .any e = true → L.getD e.on false = true) →
   o.wp P (putL L vs 0 l a) w' (fun a' w'' => ∃ v, a' = (putL L vs 0 l a).put o.dst v ∧ F (L.setIfInBounds i true) (upd vs i v) w'') Q)
  (hend : ∀ L vs w', F L vs w' → (∀ i, i < l.length → L.getD i false = true) → Q .normal (putL L vs 0 l a) w') : (Code.region id l.toArray true).wp P Q a w := by
 simp only [regOk, Bool.and_eq_true] at hB
 obtain ⟨⟨hd, hg⟩, hA⟩ := hB
 refine wp_region_any hm ?_
 refine wpAny_inv (md := .any) (fun L a' w' => ∃ vs, a' = putL L vs 0 l a ∧ F L vs w') ?_ ?_ ?_ _ _ _ _ (by simp) ?_ ?_
 ·intro o ho
  have := List.all_eq_true.1 hg o (by simpa using ho)
  simpa using this
 ·rintro L a' w' hs ⟨vs, rfl, hF⟩ i o ho hL hrdy
  refine Oper.wp_mono (fun a'' w'' ⟨v, h1, h2⟩ => ?_) (hstep L vs w' hF i o (by simpa using ho) hL hrdy)
  exact ⟨upd vs i v, by rw [h1, putL_set hL l 0 a o hd (Nat.zero_le _) (by simpa using ho)], h2⟩
 ·rintro L a' w' hs ⟨vs, rfl, hF⟩ hr
  refine hend L vs w' hF (fun i hi => ?_)
  have := ready_nil hs (fun i o ho e he hb => ?_) hr i (by simpa using hi)
  ·simp [Array.getD_eq_getD_getElem?, this]
  ·have h1 : (o, i) ∈ l.zipIdx := by
    rw [List.mem_zipIdx_iff_getElem?]; simpa using ho
   have h2 := List.all_eq_true.1 hA _ h1
   rw [Array.all_eq_true_iff_forall_mem] at h2
   simpa [hb] using h2 e he
 ·simp only [left]; exact Nat.le_trans List.countP_le_length (by simp)
 ·refine ⟨fun _ => undef, ?_, by simpa using h0⟩
  have : ∀ (m : List Oper) (k : Nat) (a : Act), a = putL (Array.replicate l.toArray.size false) (fun _ => undef) k m a := by
   intro m
   induction m with
   | nil => intro k a; rfl
   | cons o r ih =>
    intro k a
    simp only [putL]
    rw [if_neg (by simp [Array.getD_eq_getD_getElem?, Array.getElem?_replicate]; split <;> simp)]
    exact ih (k + 1) a
  exact this l 0 a
end
end Go.Proofs.YtnpaejknoipicagGreat
namespace Go.Proofs.YtnpaejknoipicagGreat
open Go.RowKit
def waits (l : List Oper) (i j : Nat) : Bool := match l[i]? with
 | none => false
 | some o => o.after.toList.any fun e => e.on == j && Region.binds .any e
theorem waits_spec {l : List Oper} {i j : Nat} {o : Oper} {L : Array Bool} (h : waits l i j = true) (ho : l[i]? = some o) (hr : ∀ e ∈ o.after, Region.binds .any e = true → L.getD e.on false = true) : L.getD j false = true := by
 unfold waits at h
 rw [ho] at h
 obtain ⟨e, he, h1⟩ := List.any_eq_true.1 h
 simp only [Bool.and_eq_true, beq_iff_eq] at h1
 rw [← h1.1]; exact hr e (by simpa using he) h1.2
section
variable {P : Program} {Q : Exit → Act → World → Prop}
theorem oper_wp_ok {o : Oper} {a : Act} {w w' : World} {v : Value} {K : Act → World → Prop} (h : (execOp a.eval o).run P w = .ok (.value v) w') (hk : K (a.put o.dst v) w') : o.wp P a w K Q := by
 unfold Oper.wp; rw [h]; exact hk
theorem getD_some {L : Array Bool} {j i : Nat} (h : L.getD j false = true) : (L.setIfInBounds i true).getD j false = true := by
 by_cases e : j = i
 ·subst e
  have : j < L.size := by
   by_cases hh : j < L.size
   ·exact hh
   ·simp [Array.getD_eq_getD_getElem?, Array.getElem?_eq_none (Nat.le_of_not_lt hh)] at h
  simp [Array.getD_eq_getD_getElem?, this]
 ·rw [getD_set_other e]; exact h
theorem listed_no {L : Array Bool} {i : Nat} (h : L[i]? = some false) : ¬ L.getD i false = true := by simp [Array.getD_eq_getD_getElem?, h]
theorem setfun {L : Array Bool} {i : Nat} (h : L[i]? = some false) : (fun j => (L.setIfInBounds i true).getD j false) = fun j => decide (j = i) || L.getD j false := by
 funext j
 by_cases e : j = i
 ·subst e; rw [getD_set_at h]; simp
 ·rw [getD_set_other e]; simp [e]
theorem run_append_nil (w : World) (T ty E : TypeId) (i : TypeInfo) (ht : P.underlying T = some (.slice E)) (hi : P.info? E = some i) (g n c c' : Nat) (hn : n ≤ c) :
  (Builtin.append_ #[T, T] ty #[.slice (some ⟨g, 0, none⟩) n c, .slice none 0 c']).run P w = .ok (.slice (some ⟨g, 0, none⟩) n c) w := by
 simp [Builtin.append_, run_underlying ht, sizeOf, typeInfo, hi, Builtin.lenOf, hn, run_firstCells_none, storeCells]
end
end Go.Proofs.YtnpaejknoipicagGreat
namespace Go.Proofs.YtnpaejknoipicagGreat
open Go.RowKit
section
variable {P : Program}
theorem run_append_nil2 (w : World) (T ty E : TypeId) (i : TypeInfo) (ht : P.underlying T = some (.slice E)) (hi : P.info? E = some i) (c' : Nat) :
  (Builtin.append_ #[T, T] ty #[.slice none 0 0, .slice none 0 c']).run P w = .ok (.slice none 0 0) w := by
 simp [Builtin.append_, run_underlying ht, sizeOf, typeInfo, hi, Builtin.lenOf, run_firstCells_none]
theorem run_append_any (w : World) (base : Nat) (T ty E : TypeId) (i : TypeInfo) (z : Value) (size bytes : Nat) (ht : P.underlying T = some (.slice E)) (hi : P.info? E = some i) (hz : i.zero = some z) (hsize : i.size = size) (hby : i.bytes = bytes) (hzs : z.cells.size = size) (hsz : 0 < size)
  (v : Value) (n : Nat) (xs : List Value) (hown : w.ownsRow base E size v n xs) (m : Nat) (cells : List Value) (u : Value) (hu : Sl w u m size cells) (hc1 : ∀ y ∈ cells, y.oneCell' = true) (h63 : n + m ≤ maxLen) (hbytes : (n + m) * bytes ≤ 140737488355328) (hbase : base ≤ w.heap.size) :
  ∃ v' w', (Builtin.append_ #[T, T] ty #[v, u]).run P w = .ok v' w' ∧ w'.ownsRow base E size v' (n + m) (xs ++ cells) ∧ w.grownBy w' v.ownBlock ∧ (v'.ownBlock = v.ownBlock ∨ ∀ g, v'.ownBlock = some g → w.heap.size ≤ g) := by
 have main : ∀ (ad : Addr) (c : Nat), u = .slice (some ad) m c → (∀ j y, cells[j]? = some y → w.cell? (ad.add j) = some y) → ∃ v' w', (Builtin.append_ #[T, T] ty #[v, u]).run P w = .ok v' w' ∧ w'.ownsRow base E size v' (n + m) (xs ++ cells) ∧ w.grownBy w' v.ownBlock ∧ (v'.ownBlock = v.ownBlock ∨ ∀ g, v'.ownBlock = some g → w.heap.size ≤ g) := fun ad c e hcn => by
  subst e
  exact run_append_own2 (P := P) w base T ty E i z size bytes ht hi hz hsize hby hzs hsz v n xs hown ad m c cells hu.1 hcn hc1 h63 hbytes hbase
 obtain ⟨hl, ⟨h0, a, c, rfl⟩ | ⟨b, off, c, rfl, hlt, hc⟩⟩ := hu
 ·subst h0
  have hce : cells = [] := List.eq_nil_of_length_eq_zero (by simpa using hl)
  subst hce
  cases a with
  | some ad => exact main ad c rfl (fun j y h => by simp at h)
  | none =>
   rw [Nat.add_zero, List.append_nil]
   refine ⟨v, w, ?_, hown, ⟨rfl, rfl, rfl, Nat.le_refl _, fun _ _ _ => rfl⟩, .inl rfl⟩
   obtain ⟨_, ⟨h1, h2⟩ | ⟨g, cap, cur, h1, _, _, h3, _⟩⟩ := hown
   ·rw [h1]; exact run_append_nil2 w T ty E i ht hi c
   ·rw [h1]; exact run_append_nil w T ty E i ht hi g n cap c h3
 ·exact main ⟨b, off, none⟩ c rfl (fun j y hj => by rw [Addr.add_lit]; exact hc j y hj)
theorem wpList_append_run {w : World} {ops : Array Oper} {rest : List Oper} {o : Oper} {a : Act} {Q : Exit → Act → World → Prop} (hgd : o.guard = none) (d s : Operand) (t t' : TypeId)
  (ho : o.op = .call { callee := .builtin .append, args := #[d, s], argTypes := #[t, t'] }) (v u : Value) (hd : a.eval d = v) (hs : a.eval s = u) {v' : Value} {w' : World}
  (hr : (Builtin.append_ #[t, t'] o.type #[v, u]).run P w = .ok v' w') (h : wpList P ops Q rest (a.put o.dst v') w') : wpList P ops Q (o :: rest) a w := by
 refine wpList_plain hgd fun K hK => ?_
 unfold Oper.wp execOp
 simp only [ho, resolve, invoke, builtin, Sem.run_bind, Sem.run_pure, Result.andThen_ok, List.map_toArray, List.map_cons, List.map_nil, hd, hs, hr]
 exact hK _ _ h
end
end Go.Proofs.YtnpaejknoipicagGreat
namespace Go.Proofs.YtnpaejknoipicagGreat
open Go.RowKit
structure But (B base : Nat) (w w' : World) : Prop where
 os : w'.os = w.os
 tape : w'.tape = w.tape
 output : w'.output = w.output
 size : w.heap.size ≤ w'.heap.size
 block : ∀ k, k < base → k ≠ B → w'.heap[k]? = w.heap[k]?
theorem But.refl (B base : Nat) (w : World) : But B base w w := ⟨rfl, rfl, rfl, Nat.le_refl _, fun _ _ _ => rfl⟩
theorem But.trans {B base : Nat} {a b c : World} (h : But B base a b) (k : But B base b c) : But B base a c :=
 ⟨k.os.trans h.os, k.tape.trans h.tape, k.output.trans h.output, Nat.le_trans h.size k.size, fun j hj hn => (k.block j hj hn).trans (h.block j hj hn)⟩
theorem But.of_below {B base : Nat} {a b : World} (h : Below base a b) : But B base a b := ⟨h.os, h.tape, h.output, h.size, fun j hj _ => h.block j hj⟩
theorem But.set {B base : Nat} {a b : World} (h : But B base a b) (i : Nat) (v : Value) : But B base a (b.setCell ⟨B, i, none⟩ v) :=
 ⟨h.os, h.tape, h.output, by simpa using h.size, fun j hj hn => (Below.heap_setCell b ⟨B, i, none⟩ v j hn).trans (h.block j hj hn)⟩
theorem But.toBelow {B base c : Nat} {a b : World} (h : But B base a b) (h1 : c ≤ base) (h2 : c ≤ B) : Below c a b := ⟨h.os, h.tape, h.output, h.size, fun j hj => h.block j (by omega) (by omega)⟩
theorem Blk.but {B base : Nat} {w w' : World} {b : Nat} {C : Array Value} {t : TypeId} (h : Blk w b C t) (hk : But B base w w') (h1 : b < base) (h2 : b ≠ B) : Blk w' b C t := (hk.block b h1 h2).trans h
theorem But.alloc {B base : Nat} {a b : World} (h : But B base a b) (hb : base ≤ b.heap.size) (o : Obj) : But B base a (b.alloc o) := h.trans (But.of_below ((Below.refl base b).alloc hb o))
theorem But.below {B base : Nat} {a b c : World} (h : But B base a b) (hb : base ≤ b.heap.size) (k : Below b.heap.size b c) : But B base a c := h.trans (But.of_below (k.mono hb))
def Pk.enc (p : Pk) : List UInt8 := be (128 + Pk.flags p.f p.e p.k) 1 ++ be p.seq 2 ++ be p.time 4 ++ be p.t.size 1 ++ p.t.data.toList
theorem Pk.chk_ok {p : Pk} (h : p.chk = 0) : 0 ≤ p.seq ∧ p.seq ≤ 65535 ∧ 0 ≤ p.time ∧ p.time ≤ 1000000 ∧ (p.t.size : Int) ≤ 8 ∧ (p.k && !p.f) = false := by
 unfold Pk.chk at h
 by_cases h1 : p.seq < 0
 ·rw [if_pos h1] at h; exact absurd h (by decide)
 rw [if_neg h1] at h
 by_cases h2 : 65535 < p.seq
 ·rw [if_pos h2] at h; exact absurd h (by decide)
 rw [if_neg h2] at h
 by_cases h3 : p.time < 0
 ·rw [if_pos h3] at h; exact absurd h (by decide)
 rw [if_neg h3] at h
 by_cases h4 : 1000000 < p.time
 ·rw [if_pos h4] at h; exact absurd h (by decide)
 rw [if_neg h4] at h
 by_cases h5 : 8 < (p.t.size : Int)
 ·rw [if_pos h5] at h; exact absurd h (by decide)
 rw [if_neg h5] at h
 cases h6 : (p.k && !p.f)
 ·exact ⟨by omega, by omega, by omega, by omega, by omega, rfl⟩
 ·rw [h6] at h; exact absurd h (by decide)
theorem Pk.flags_le (f e k : Bool) : 0 ≤ Pk.flags f e k ∧ Pk.flags f e k ≤ 7 := by cases f <;> cases e <;> cases k <;> decide
set_option maxHeartbeats 1000000 in
theorem take_few (B : Nat) (s : ByteArray) (n : Int) (w : World) (hc : w.cell? ⟨B, 0, none⟩ = some (.string s)) (hn : (s.size : Int) < n) :
  Calls Tryz.prog 160 #[.pointer (some ⟨B, 0, none⟩), .int .i64 n] w fun e w' =>
   e = .panicked [{ v := .iface 214 (.agg #[]), recovered := false }] ∧ w = w' := by
 go_enter Tryz.func160, Tryz.ntmps160
 go_wp2
 exact ⟨rfl, rfl, rfl⟩
set_option maxHeartbeats 1000000 in
theorem take_some (B n : Nat) (s : ByteArray) (w : World) (hc : w.cell? ⟨B, 0, none⟩ = some (.string s)) (hf : w.frozen? ⟨B, 0, none⟩ = false) (hn : n ≤ s.size) :
  Calls Tryz.prog 160 #[.pointer (some ⟨B, 0, none⟩), .int .i64 n] w fun e w' =>
   e = .returned (.string (s.extract 0 n)) ∧ w' = w.setCell ⟨B, 0, none⟩ (.string (s.extract n s.size)) := by
 have hn' : ¬ (s.size : Int) < (n : Int) := by omega
 go_enter Tryz.func160, Tryz.ntmps160
 go_wp2
 go_ret
 exact ⟨rfl, rfl⟩
def num (l : List UInt8) : Int := l.foldl (fun a b => a * 256 + b.toNat) 0
theorem num_snoc (l : List UInt8) (b : UInt8) : num (l ++ [b]) = num l * 256 + b.toNat := by simp [num]
theorem num_bd (l : List UInt8) : 0 ≤ num l ∧ num l < 256 ^ l.length := by
 have : ∀ (l : List UInt8) (a : Int) (k : Nat), 0 ≤ a → a < 256 ^ k → 0 ≤ l.foldl (fun a b => a * 256 + (b.toNat : Int)) a ∧ l.foldl (fun a b => a * 256 + (b.toNat : Int)) a < 256 ^ (k + l.length) := by
  intro l
  induction l with
  | nil => intro a k h1 h2; exact ⟨h1, h2⟩
  | cons x r ih =>
   intro a k h1 h2
   have hx : x.toNat < 256 := x.toNat_lt
   have := ih (a * 256 + x.toNat) (k + 1) (by omega) (by rw [Int.pow_succ]; omega)
   rw [List.length_cons, show k + (r.length + 1) = k + 1 + r.length by omega]
   exact this
 have h := this l 0 0 (by decide) (by decide)
 rw [Nat.zero_add] at h
 exact h
theorem wrap_small (n : Int) (h0 : 0 ≤ n) (h1 : n < 2 ^ 40) : IntKind.i64.wrap n = n := by
 rw [IntKind.wrap_i64]; omega
theorem or_byte (a c : Int) (h0 : 0 ≤ a) (h1 : a < 256 ^ 3) (h2 : 0 ≤ c) (h3 : c < 256) : bits .or .i64 (wrap64 (a * 256)) c = a * 256 + c := by
 have e : wrap64 (a * 256) = a * 256 := by unfold wrap64; omega
 rw [e]
 exact bits_join .i64 40 (by decide) wrap_small 8 (a * 256) c (by omega) (by omega) (by omega) h2 (by omega) (by omega)
theorem pow_le3 (k : Nat) (h : k < 4) : (256 : Int) ^ k ≤ 256 ^ 3 := by
 match k, h with
 | 0, _ => decide
 | 1, _ => decide
 | 2, _ => decide
 | 3, _ => decide
theorem u8_snoc (l : List UInt8) (k : Nat) (h : k < l.length) : l.take (k + 1) = l.take k ++ [l[k]?.getD 0] := by
 rw [List.take_add_one, List.getElem?_eq_getElem h]; rfl
set_option maxHeartbeats 1000000 in
theorem number_few (B : Nat) (s : ByteArray) (n : Int) (w : World) (hc : w.cell? ⟨B, 0, none⟩ = some (.string s)) (hn : (s.size : Int) < n) :
  Calls Tryz.prog 138 #[.pointer (some ⟨B, 0, none⟩), .int .i64 n] w fun e w' =>
   e = .panicked [{ v := .iface 214 (.agg #[]), recovered := false }] ∧ w = w' := by
 go_enter Tryz.func138, Tryz.ntmps138
 go_wp2_with (go_at_call 160; refine (take_few B s n _ hc hn).mono ?_; rintro e w' ⟨rfl, rfl⟩)
 exact ⟨rfl, rfl, rfl⟩
theorem bytesRow_at (s : ByteArray) (cap j : Nat) (h : j < s.size) : (bytesRow s cap)[j]? = some (.int .u8 (s.data.toList[j]?.getD 0).toNat) := by
 have h' : j < s.data.size := h
 unfold bytesRow
 rw [Array.getElem?_append_left (by simpa using h'), Array.getElem?_map, Array.getElem?_eq_getElem h', Array.getElem?_toList, Array.getElem?_eq_getElem h']
 rfl
theorem new_marked {w : World} {a : Addr} {v : Value} {s : ByteArray} {cap : Nat} {t : TypeId} {mk : Nat × Nat} (j : Nat) (h : j < s.size) :
  ((w.setCell a v).alloc (.cells (bytesRow s cap) t mk)).drew.cell? ⟨w.heap.size, j, none⟩ = some (.int .u8 (s.data.toList[j]?.getD 0).toNat) := by
 have h1 := World.cell?_alloc_mark (w.setCell a v) (bytesRow s cap) t mk j
 rw [World.size_setCell] at h1
 exact h1.trans (bytesRow_at s cap j h)
theorem extract_len (s : ByteArray) (n : Nat) (h : n ≤ s.size) : (s.extract 0 n).size = n := by
 rw [ByteArray.size_extract]; omega
set_option maxHeartbeats 1000000 in
theorem number_some (B n : Nat) (s : ByteArray) (w : World) (hc : w.cell? ⟨B, 0, none⟩ = some (.string s)) (hf : w.frozen? ⟨B, 0, none⟩ = false) (hn : n ≤ s.size) (h4 : n ≤ 4) :
  Calls Tryz.prog 138 #[.pointer (some ⟨B, 0, none⟩), .int .i64 n] w fun e w' =>
   e = .returned (.int .i64 (num (s.data.toList.take n))) ∧ Below w.heap.size (w.setCell ⟨B, 0, none⟩ (.string (s.extract n s.size))) w' := by
 have hbs := fun (wx : World) (s : ByteArray) => run_bytes_of_string (P := Tryz.prog) wx 9 210 5 s Tryz.underlying9 Tryz.underlying210 Tryz.underlying5
 go_enter Tryz.func138, Tryz.ntmps138
 go_wp2_with (go_at_call 160; refine (take_some B n s _ hc hf hn).mono ?_; rintro e w' ⟨rfl, rfl⟩)
 have hxl := extract_len s n hn
 obtain ⟨l, hl⟩ : ∃ l, l = (s.extract 0 n).data.toList := ⟨_, rfl⟩
 have hll : l.length = n := by rw [hl]; exact hxl
 have HL : Hid (l = (s.extract 0 n).data.toList) := hl
 have HLL : Hid (l.length = n) := hll
 clear hbs
 go_loopw [5, 13] (fun v i wr => ∃ (k : Nat), k ≤ n ∧ i = .int .i64 k ∧ v = .int .i64 (num (l.take k)) ∧ (∀ j, j < n → wr.cell? ⟨w.heap.size, j, none⟩ = some (.int .u8 (l[j]?.getD 0).toNat)) ∧ Below w.heap.size (w.setCell ⟨B, 0, none⟩ (.string (s.extract n s.size))) wr) (fun _ i _ => n - (intOf i).toNat)
 case atStart =>
  refine ⟨0, Nat.zero_le _, rfl, rfl, fun j hj => ?_, ?_⟩
  ·rw [HL.out]; exact new_marked j (by rw [hxl]; exact hj)
  ·exact (((Below.refl _ _).alloc (by simp) _)).drew
 case round =>
  obtain ⟨k, hk, rfl, rfl, hcl, hnx⟩ := hrel
  by_cases hlt : k < n
  ·have hck := hcl k hlt
   have hlt' : (k : Int) < (n : Int) := by omega
   obtain ⟨x, hx⟩ : ∃ x, x = l[k]?.getD 0 := ⟨_, rfl⟩
   rw [← hx] at hck
   have HX : Hid (x = l[k]?.getD 0) := hx
   have hxb : (x.toNat : Int) < 256 := by have := x.toNat_lt; omega
   have hnb := num_bd (l.take k)
   have hnb1 := hnb.1
   have hor : bits .or .i64 (wrap64 (num (l.take k) * 256)) (x.toNat : Int) = num (l.take (k + 1)) := by
    rw [u8_snoc l k (by omega), num_snoc, ← hx]
    refine or_byte _ _ hnb.1 ?_ (by omega) hxb
    have h3 := hnb.2
    rw [List.length_take, Nat.min_eq_left (by omega)] at h3
    have := pow_le3 k (by omega)
    omega
   have HOR : Hid (bits .or .i64 (wrap64 (num (l.take k) * 256)) (x.toNat : Int) = num (l.take (k + 1))) := hor
   have HCL : Hid (∀ j, j < n → wr.cell? ⟨w.heap.size, j, none⟩ = some (.int .u8 (l[j]?.getD 0).toNat)) := hcl
   clear hx hcl hl hll hnb hor
   go_wp2
   exact ⟨⟨k + 1, by omega, by go_num, by rw [HOR.out], HCL.out, hnx⟩, by simp [intOf]; omega⟩
  ·have hkn : k = n := by omega
   have hfin : num (l.take k) = num (s.data.toList.take n) := by rw [List.take_of_length_le (by omega), hl]; simp
   have HF : Hid (num (l.take k) = num (s.data.toList.take n)) := hfin
   have hge : ¬ (k : Int) < (n : Int) := by omega
   clear hcl hl hll hfin hkn
   go_wp2
   go_ret
   refine ⟨?_, hnx⟩
   show Ending.returned (.int .i64 (num (l.take k))) = _
   rw [HF.out]
theorem room_for (n : Nat) (hn : n ≤ 100000) : ∃ M : Array Value, M.size = n ∧ ∀ W : World,
  (Instr.makeSlice 210 (.int .i64 (n : Int)) (.int .i64 (n : Int))).run Tryz.prog W = .ok (.slice (some ⟨W.heap.size, 0, none⟩) n n) (W.alloc (.cells M 5)) := by
 obtain ⟨i, hi, h0, h1, h2⟩ := info_parts Tryz.infoU8
 refine ⟨madeCells (Value.int .u8 0).cells (n * i.size), by rw [size_madeCells, h1]; simp, fun W => ?_⟩
 have h := run_make (P := Tryz.prog) W 210 5 i (.int .u8 0) Tryz.underlying210 hi h0 .i64 .i64 n n (by omega) (Int.le_refl _) (by rw [h2]; omega) (by omega)
 rw [Int.toNat_natCast] at h
 exact h
theorem laid_over (l : List UInt8) (W : World) (b : Nat) (M : Array Value) (hM : M.size = l.length) (hb : Blk W b M 5) :
  (Builtin.copy_ #[210, 9] 3 #[.slice (some ⟨b, 0, none⟩) l.length l.length, .string (ba l)]).run Tryz.prog W = .ok (goInt l.length) (W.setRow b (bcells l).toArray) := by
 obtain ⟨i, hi, _, h1, _⟩ := info_parts Tryz.infoU8
 have h := Lib.run_copy_row_string (P := Tryz.prog) W 210 9 3 5 b 0 l.length l.length (ba l) M 5 Tryz.underlying210 (by rw [hi]; simp [h1]) hb (by rw [ba_size]; exact Nat.le_refl _) (by rw [ba_size]; omega)
 rw [ba_size, ba_data, List.take_zero, List.nil_append, List.drop_eq_nil_of_le (by rw [Array.length_toList]; omega), List.append_nil] at h
 exact h
theorem read_back (l : List UInt8) (hl : l ≠ []) (hn : l.length ≤ 100000) (W : World) (b : Nat) (hb : Blk W b (bcells l).toArray 5) :
  (Builtin.unsafeString_ #[228, 3] 9 #[.pointer (some ⟨b, 0, none⟩), .int .i64 l.length]).run Tryz.prog W = .ok (.string (ba l)) (W.freeze ⟨b, 0, none⟩ l.length) := by
 refine Lib.run_unsafeString_row (P := Tryz.prog) W 228 3 9 5 Tryz.underlying228 (by kernel_rfl) b (bcells l).toArray.size ?_ l hl (by simp [bcells]) (by omega) (fun j x hj => ?_)
 ·have hb' : W.heap[b]? = some (.cells (bcells l).toArray 5 (0, 0)) := hb
  unfold World.shape?
  rw [hb']
 ·rw [Addr.add_lit, Nat.zero_add]
  exact hb.cell (by simp [bcells, hj])
theorem setRow_blk {W : World} {b : Nat} {M : Array Value} {t : TypeId} (h : Blk W b M t) (Y : Array Value) : Blk (W.setRow b Y) b Y t := setRow_heap W b M Y t (0, 0) h
set_option maxHeartbeats 2000000 in
set_option maxRecDepth 100000 in
theorem copied (l : List UInt8) (w : World) (hlim : l.length ≤ 100000) :
  Calls Tryz.prog 151 #[.string (ba l)] w fun e w' => e = .returned (.string (ba l)) ∧ Below w.heap.size w w' := by
 by_cases h0 : l = []
 ·subst h0
  have hz : (ba []).size = 0 := rfl
  go_enter Tryz.func151, Tryz.ntmps151
  go_wp2
  go_ret
  exact ⟨rfl, Below.refl _ _⟩
 ·have hp : 0 < l.length := List.length_pos_iff.2 h0
  have hz := ba_size l
  have hne : ((l.length : Int) == 0) = false := by simp [h0]
  have hlt : (0 : Int) < (l.length : Int) := by omega
  obtain ⟨M, hM, hmk⟩ := room_for l.length hlim
  have bM := Blk.new w M 5
  have hcp := laid_over l _ _ M hM bM
  have bY := setRow_blk bM (bcells l).toArray
  have hus := read_back l h0 hlim _ _ bY
  have hb1 : Below w.heap.size w (w.alloc (.cells M 5)) := (Below.refl _ w).alloc (Nat.le_refl _) _
  have hb2 : Below w.heap.size w ((w.alloc (.cells M 5)).setRow w.heap.size (bcells l).toArray) := hb1.trans ⟨rfl, rfl, rfl, by simp, fun k hk => setRow_other _ _ _ _ (by omega)⟩
  have hb3 := Lib.below_freeze hb2 (p := ⟨w.heap.size, 0, none⟩) (Nat.le_refl _) l.length
  clear hb1 hb2 bM bY h0
  go_enter Tryz.func151, Tryz.ntmps151
  go_wp2
  go_ret
  exact ⟨rfl, hb3⟩
def few : List PanicEntry := [{ v := .iface 214 (.agg #[]), recovered := false }]
theorem numberL_few (B : Nat) (l : List UInt8) (n : Int) (w : World) (hb : Blk w B #[.string (ba l)] 217) (hn : (l.length : Int) < n) :
  Calls Tryz.prog 138 #[.pointer (some ⟨B, 0, none⟩), .int .i64 n] w fun e w' => e = .panicked few ∧ w = w' :=
 number_few B (ba l) n w (hb.cell rfl) (by rw [ba_size]; exact hn)
theorem numberL_some (B : Nat) (n : Nat) (ni m : Int) (l r : List UInt8) (w : World) (hm : m = num (l.take n)) (hr : r = l.drop n) (hni : ni = (n : Int)) (hb : Blk w B #[.string (ba l)] 217) (hn : n ≤ l.length) (h4 : n ≤ 4) :
  Calls Tryz.prog 138 #[.pointer (some ⟨B, 0, none⟩), .int .i64 ni] w fun e w' =>
   e = .returned (.int .i64 m) ∧ Blk w' B #[.string (ba r)] 217 ∧ Kept [B] w w' := by
 subst hni hm hr
 refine (number_some B n (ba l) w (hb.cell rfl) (hb.free 0) (by rw [ba_size]; exact hn) h4).mono ?_
 rintro e w' ⟨rfl, hbel⟩
 rw [ba_data, ba_drop] at *
 have h1 : Blk (w.setCell ⟨B, 0, none⟩ (.string (ba (l.drop n)))) B #[.string (ba (l.drop n))] 217 := hb.set 0 _
 exact ⟨rfl, h1.below hbel hb.lt, ((Kept.refl [B] w).setCell (p := ⟨B, 0, none⟩) (by simp) _).below (by rw [World.size_setCell]; exact hbel)⟩
set_option maxHeartbeats 1000000 in
theorem strClone_any (l : List UInt8) (w : World) (hlim : l.length ≤ 100000) :
  Calls Tryz.prog 120 #[.string (ba l)] w fun e w' => e = .returned (.string (ba l)) ∧ Below w.heap.size w w' := by
 go_enter Tryz.func120, Tryz.ntmps120
 go_wp2_with (go_at_call 151; refine (copied l _ hlim).mono ?_; rintro e w' ⟨rfl, hb⟩)
 go_ret
 exact ⟨rfl, hb⟩
set_option maxHeartbeats 1000000 in
theorem textL_few (B : Nat) (l : List UInt8) (n : Int) (w : World) (hb : Blk w B #[.string (ba l)] 217) (hn : (l.length : Int) < n) :
  Calls Tryz.prog 139 #[.pointer (some ⟨B, 0, none⟩), .int .i64 n] w fun e w' => e = .panicked few ∧ w = w' := by
 have hc := hb.cell (j := 0) (u := .string (ba l)) rfl
 have hn' : ((ba l).size : Int) < n := by rw [ba_size]; exact hn
 go_enter Tryz.func139, Tryz.ntmps139
 go_wp2_with (go_at_call 160; refine (take_few B (ba l) n _ hc hn').mono ?_; rintro e w' ⟨rfl, rfl⟩)
 exact ⟨rfl, rfl, rfl⟩
set_option maxHeartbeats 1000000 in
theorem textL_some (B : Nat) (n : Nat) (x : ByteArray) (l r : List UInt8) (w : World) (hx : x = ba (l.take n)) (hr : r = l.drop n) (hb : Blk w B #[.string (ba l)] 217) (hn : n ≤ l.length) (h4 : n ≤ 255) :
  Calls Tryz.prog 139 #[.pointer (some ⟨B, 0, none⟩), .int .i64 n] w fun e w' =>
   e = .returned (.string x) ∧ Blk w' B #[.string (ba r)] 217 ∧ Kept [B] w w' := by
 subst hx hr
 have hc := hb.cell (j := 0) (u := .string (ba l)) rfl
 have hf := hb.free 0
 have ht : ∀ w : World, w.cell? ⟨B, 0, none⟩ = some (.string (ba l)) → w.frozen? ⟨B, 0, none⟩ = false → Calls Tryz.prog 160 #[.pointer (some ⟨B, 0, none⟩), .int .i64 n] w fun e w' =>
   e = .returned (.string (ba (l.take n))) ∧ w' = w.setCell ⟨B, 0, none⟩ (.string (ba (l.drop n))) := by
  intro w h1 h2
  have := take_some B n (ba l) w h1 h2 (by rw [ba_size]; exact hn)
  rw [ba_take, ba_drop] at this
  exact this
 have HT := @id (Hid _) ht
 clear ht
 have hsz : (l.take n).length ≤ 100000 := by rw [List.length_take]; omega
 have h1 : Blk (w.setCell ⟨B, 0, none⟩ (.string (ba (l.drop n)))) B #[.string (ba (l.drop n))] 217 := hb.set 0 _
 have hk : Kept [B] w (w.setCell ⟨B, 0, none⟩ (.string (ba (l.drop n)))) := (Kept.refl [B] w).setCell (p := ⟨B, 0, none⟩) (by simp) _
 go_enter Tryz.func139, Tryz.ntmps139
 go_wp2_with (first
  | (go_at_call 160; refine (HT.out _ hc hf).mono ?_; rintro e w' ⟨rfl, rfl⟩)
  | (go_at_call 120; refine (strClone_any _ _ hsz).mono ?_; rintro e w2 ⟨rfl, hb2⟩))
 go_ret
 exact ⟨rfl, h1.below hb2 h1.lt, hk.below hb2⟩
end Go.Proofs.YtnpaejknoipicagGreat
namespace Go.Proofs.YtnpaejknoipicagGreat
open Go.ChangeShapes Go.WideShapes Go.ChangeAt Go.RowKit
open Go.ChangeMaps (open_string shut_string)
section
variable {H : Type} {enc : TypeId × Value → H} {W : World} {r : Reach} {b0 base : Nat} {spare : Nat → Bool} {held : Bool} {v : Value} {d : DataW H} {p : List MemPlace}
theorem op_str {P : Program} {t : TypeId} (ht : P.underlying t = some .string) (hval : Value.okWide P W r b0 t v) (h : DataW.Trod enc P W 0 (fun _ => true) true t v d p) :
  ∃ l : List UInt8, v = .string (ba l) ∧ l.length ≤ maxLen := by
 obtain ⟨s, rfl, _, _, hs⟩ := open_string ht hval h
 exact ⟨s.data.toList, by rw [ba_of], hs⟩
theorem Tryz.cellsInt : Tryz.prog.cellsOf 3 = 1 := by kernel_rfl
def Pk.fits (p : Pk) : Prop := (Lit.int .i64 p.seq).wf = true ∧ (Lit.int .i64 p.time).wf = true ∧ p.t.size ≤ maxLen
end
end Go.Proofs.YtnpaejknoipicagGreat
namespace Go.Proofs.YtnpaejknoipicagGreat
open Go.RowKit
def chkFit (q : Nat → Bool) : Nat → List Sk → Int
 | _, [] => 0
 | i, x :: r => if x.chk = 0 then (if q i then chkFit q (i + 1) r else 4) else x.chk
theorem chkFit_append (q : Nat → Bool) (m : List Sk) : ∀ (l : List Sk) (i : Nat), chkFit q i l = 0 → chkFit q i (l ++ m) = chkFit q (i + l.length) m
 | [], i, _ => rfl
 | x :: r, i, h => by
  simp only [List.cons_append, chkFit] at h ⊢
  by_cases hx : x.chk = 0
  ·rw [if_pos hx] at h ⊢
   cases hq : q i
   ·rw [hq] at h; simp at h
   ·rw [hq, if_pos rfl] at h
    rw [if_pos rfl, chkFit_append q m r (i + 1) h]
    congr 1
    simp only [List.length_cons]; omega
  ·rw [if_neg hx] at h; exact absurd h hx
theorem split_at {l : List Sk} {k : Nat} (hk : k < l.length) : l = l.take k ++ (l[k]?.getD Sk.zero) :: l.drop (k + 1) := by
 rw [List.getElem?_eq_getElem hk, Option.getD_some, ← List.drop_eq_getElem_cons hk, List.take_append_drop]
theorem chkFit_no1 {q : Nat → Bool} {l : List Sk} {k : Nat} (hk : k < l.length) (h : chkFit q 0 (l.take k) = 0) (hx : ¬ (l[k]?.getD Sk.zero).chk = 0) : chkFit q 0 l = (l[k]?.getD Sk.zero).chk := by
 rw [split_at hk, chkFit_append q _ _ _ h, ← split_at hk]
 simp only [chkFit, if_neg hx]
theorem chkFit_no2 {q : Nat → Bool} {l : List Sk} {k : Nat} (hk : k < l.length) (h : chkFit q 0 (l.take k) = 0) (hx : (l[k]?.getD Sk.zero).chk = 0) (hq : q k = false) : chkFit q 0 l = 4 := by
 have hl : 0 + (l.take k).length = k := by simp; omega
 rw [split_at hk, chkFit_append q _ _ _ h, hl]
 simp only [chkFit, if_pos hx, hq]; simp
theorem chkFit_ok {q : Nat → Bool} {l : List Sk} {k : Nat} (hk : k < l.length) (h : chkFit q 0 (l.take k) = 0) (hx : (l[k]?.getD Sk.zero).chk = 0) (hq : q k = true) : chkFit q 0 (l.take (k + 1)) = 0 := by
 have hl : 0 + (l.take k).length = k := by simp; omega
 rw [take_one hk Sk.zero, chkFit_append q _ _ _ h, hl]
 simp only [chkFit, if_pos hx, hq]; simp
def Fits (g : Nat) (lb : Array Value) (q : Nat → Bool) (n : Nat) (w : World) : Prop :=
 ∀ (W : World) (k : Nat), k < n → Below w.heap.size w W → Calls Tryz.prog g (#[.int .i64 k] ++ lb) W fun e w' => e = .returned (.bool (q k)) ∧ Below W.heap.size W w'
set_option maxHeartbeats 1600000 in
theorem checkAll_any (g : Nat) (lb : Array Value) (q : Nat → Bool) (eg : Enters Tryz.prog g) (v : Value) (l : List Sk) (w : World) (hv : Sls w v l) (hlen : l.length ≤ 9223372036854775807) (hq : Fits g lb q l.length w) :
  Calls Tryz.prog 130 #[v, .func (.func g) #[] lb] w fun e w' => e = .returned (.int .i64 (chkFit q 0 l)) ∧ Below w.heap.size w w' := by
 obtain ⟨ao, c, rfl, hc⟩ := hv.parts
 have HC : Hid (∀ k, k < l.length → ∃ b off, ao = some ⟨b, off, none⟩ ∧ b < w.heap.size ∧ At7 w b (off + k * 7) (l[k]?.getD Sk.zero)) := hc
 have HQ : Hid (Fits g lb q l.length w) := hq
 obtain ⟨n, hn⟩ : ∃ n, n = l.length := ⟨_, rfl⟩
 have HN : Hid (n = l.length) := hn
 have eg' : ∀ (args : Array Value) (w : World), (callFunc g args).run Tryz.prog w = .ok (.enter g args) w := eg
 rw [← hn] at hlen ⊢
 clear hc hv hn hq eg
 go_enter Tryz.func130, Tryz.ntmps130
 go_wp2
 go_loopw [10] (fun i wr => ∃ k : Nat, k ≤ n ∧ i = .int .i64 k ∧ Hid (chkFit q 0 (l.take k) = 0) ∧ Below w.heap.size w wr)
  (fun i _ => n - (intOf i).toNat)
 case atStart => exact ⟨0, Nat.zero_le _, rfl, (show chkFit q 0 (l.take 0) = 0 from rfl), Below.refl _ _⟩
 case round =>
  obtain ⟨k, hk, rfl, HK, hbel⟩ := hrel
  by_cases hlt : k < n
  ·obtain ⟨b, off, rfl, hb, hat⟩ := HC.out k (by rw [← HN.out]; exact hlt)
   obtain ⟨c0, c1, c2, c3, c4, c5, c6⟩ := hat.below hbel hb
   obtain ⟨x, hx⟩ : ∃ x, x = l[k]?.getD Sk.zero := ⟨_, rfl⟩
   rw [← hx] at c0 c1 c2 c3 c4 c5 c6
   have HX : Hid (x = l[k]?.getD Sk.zero) := hx
   clear hx hat
   obtain ⟨ch, hch⟩ : ∃ ch, ch = x.chk := ⟨_, rfl⟩
   have HCH : Hid (ch = x.chk) := hch
   have hck : ∀ w : World, Calls Tryz.prog 83 #[x.val] w fun e w' => e = .returned (.int .i64 ch) ∧ Below w.heap.size w w' := fun w => by rw [hch]; exact slotCheck_any x w
   clear hch
   obtain ⟨qk, hqk⟩ : ∃ qk, qk = q k := ⟨_, rfl⟩
   have HQK : Hid (qk = q k) := hqk
   have hfit : ∀ W : World, Below w.heap.size w W → Calls Tryz.prog g (#[.int .i64 k] ++ lb) W fun e w' => e = .returned (.bool qk) ∧ Below W.heap.size W w' := fun W hW => by rw [hqk]; exact HQ.out W k (by rw [← HN.out]; exact hlt) hW
   have HF : Hid (∀ W : World, Below w.heap.size w W → Calls Tryz.prog g (#[.int .i64 k] ++ lb) W fun e w' => e = .returned (.bool qk) ∧ Below W.heap.size W w') := hfit
   clear hqk hfit
   obtain ⟨xn, seq, time, xf, xe, xk, xt⟩ := x
   simp only [Sk.val] at hck c0 c1 c2 c3 c4 c5 c6
   have HB : Hid (Below w.heap.size w wr) := hbel
   clear hbel
   by_cases h0 : ch = 0
   ·subst h0
    cases qk
    ·go_wp2_with (first
      | (go_at_call 83; refine (hck _).mono ?_; rintro e w1 ⟨rfl, hbw⟩; have HB1 : Hid (Below w.heap.size w w1) := HB.out.trans (((Below.refl _ _).alloc HB.out.size _).trans (hbw.mono (by have := HB.out.size; simp; omega))))
      | (go_at_fn g; refine (HF.out _ HB1.out).mono ?_; rintro e w2 ⟨rfl, hbw2⟩))
     go_ret
     exact ⟨by rw [chkFit_no2 (by rw [← HN.out]; exact hlt) HK.out (by rw [← HX.out]; exact HCH.out.symm) HQK.out.symm]; rfl, HB1.out.trans (hbw2.mono HB1.out.size)⟩
    ·go_wp2_with (first
      | (go_at_call 83; refine (hck _).mono ?_; rintro e w1 ⟨rfl, hbw⟩; have HB1 : Hid (Below w.heap.size w w1) := HB.out.trans (((Below.refl _ _).alloc HB.out.size _).trans (hbw.mono (by have := HB.out.size; simp; omega))))
      | (go_at_fn g; refine (HF.out _ HB1.out).mono ?_; rintro e w2 ⟨rfl, hbw2⟩))
     go_roundw
     case rel => exact ⟨k + 1, by omega, by go_num, (show chkFit q 0 (l.take (k + 1)) = 0 from chkFit_ok (by rw [← HN.out]; exact hlt) HK.out (by rw [← HX.out]; exact HCH.out.symm) HQK.out.symm), HB1.out.trans (hbw2.mono HB1.out.size)⟩
     case measure => simp [intOf]; omega
   ·go_wp2_with (go_at_call 83; refine (hck _).mono ?_; rintro e w' ⟨rfl, hbw⟩)
    go_ret
    exact ⟨by rw [chkFit_no1 (by rw [← HN.out]; exact hlt) HK.out (by rw [← HX.out, ← HCH.out]; exact h0), ← HX.out, ← HCH.out]; rfl, HB.out.trans (((Below.refl _ _).alloc HB.out.size _).trans (hbw.mono (by have := HB.out.size; simp; omega)))⟩
  ·have hkl : k = n := by omega
   subst hkl
   go_wp2
   go_ret
   have hk0 := HK.out
   rw [HN.out, List.take_length] at hk0
   rw [hk0]
   exact ⟨rfl, hbel⟩
def Pk.eqB (a b : Pk) : Bool := (a.seq == b.seq) && ((a.time == b.time) && ((a.f == b.f) && ((a.e == b.e) && ((a.k == b.k) && (a.t.toList == b.t.toList)))))
theorem Pk.eqB_iff (a b : Pk) : Pk.eqB a b = true ↔ a = b := by
 obtain ⟨a0, a1, a2, a3, a4, a5⟩ := a
 obtain ⟨b0, b1, b2, b3, b4, b5⟩ := b
 simp only [Pk.eqB, Bool.and_eq_true, beq_iff_eq, Pk.mk.injEq]
 constructor
 ·rintro ⟨h0, h1, h2, h3, h4, h5⟩
  exact ⟨h0, h1, h2, h3, h4, by rw [ByteArray.toList_eq, ByteArray.toList_eq] at h5; exact ByteArray.ext (Array.ext' h5)⟩
 ·rintro ⟨h0, h1, h2, h3, h4, h5⟩
  exact ⟨h0, h1, h2, h3, h4, by rw [h5]⟩
def Sk.eqB (a b : Sk) : Bool := (a.n == b.n) && Pk.eqB a.p b.p
theorem Sk.eqB_iff (a b : Sk) : Sk.eqB a b = true ↔ a = b := by
 obtain ⟨an, ap⟩ := a
 obtain ⟨bn, bp⟩ := b
 simp [Sk.eqB, Pk.eqB_iff]
set_option maxHeartbeats 1000000 in
theorem equalIn_slot (a b : Sk) (w : World) : (Op.equalIn 10000 106 a.val b.val).run Tryz.prog w = .ok (Sk.eqB a b) w := by
 obtain ⟨an, a0, a1, a2, a3, a4, a5⟩ := a
 obtain ⟨bn, b0, b1, b2, b3, b4, b5⟩ := b
 simp only [Sk.val, Sk.eqB, Pk.eqB]
 rw [run_equalIn_agg w 9999 106 _ _ (by kernel_rfl) (by kernel_rfl)]
 rw [show (Tryz.prog.fieldsOf 106) = _ by unfold Program.fieldsOf; rw [Tryz.underlying106]]
 cases hn : (an == bn)
 ·simp [go_sem, hn]
 simp [go_sem, hn]
 by_cases h0 : a0 = b0
 ·by_cases h1 : a1 = b1
  ·by_cases h2 : a2 = b2
   ·by_cases h3 : a3 = b3
    ·by_cases h4 : a4 = b4
     ·by_cases h5 : a5.toList = b5.toList <;> simp [h0, h1, h2, h3, h4, h5]
     ·simp [h0, h1, h2, h3, h4]
    ·simp [h0, h1, h2, h3]
   ·simp [h0, h1, h2]
  ·simp [h0, h1]
 ·simp [h0]
theorem neq_slot (a b : Sk) (w : World) : (binOp .neq 106 a.val b.val).run Tryz.prog w = .ok (.bool (!(Sk.eqB a b))) w := by
 have h := equalIn_slot a b w
 simp only [Sk.val] at h ⊢
 rw [run_neq_struct, h]
 rfl
def sameB : List Sk → List Sk → Bool
 | [], [] => true
 | x :: r, y :: s => Sk.eqB x y && sameB r s
 | _, _ => false
theorem sameB_iff : ∀ (l m : List Sk), sameB l m = true ↔ l = m
 | [], [] => by simp [sameB]
 | x :: r, y :: s => by simp [sameB, Sk.eqB_iff, sameB_iff r s]
 | [], _ :: _ => by simp [sameB]
 | _ :: _, [] => by simp [sameB]
theorem sameB_len {l m : List Sk} (h : ¬ l.length = m.length) : sameB l m = false := by
 cases hb : sameB l m
 ·rfl
 ·rw [sameB_iff] at hb; exact absurd (by rw [hb]) h
theorem sameB_at {l m : List Sk} {k : Nat} (hx : ¬ (l[k]?.getD Sk.zero) = (m[k]?.getD Sk.zero)) : sameB l m = false := by
 cases hb : sameB l m
 ·rfl
 ·rw [sameB_iff] at hb
  subst hb
  exact absurd rfl hx
theorem same_ext {l m : List Sk} (hl : l.length = m.length) (h : ∀ k, k < l.length → (l[k]?.getD Sk.zero) = (m[k]?.getD Sk.zero)) : sameB l m = true := by
 rw [sameB_iff]
 refine List.ext_getElem hl fun k h1 h2 => ?_
 have := h k h1
 rw [List.getElem?_eq_getElem h1, List.getElem?_eq_getElem h2] at this
 exact this
set_option maxHeartbeats 1600000 in
theorem sameSlots_any (u v : Value) (l m : List Sk) (w : World) (hu : Sls w u l) (hv : Sls w v m) (hlen : l.length ≤ 9223372036854775807) :
  Calls Tryz.prog 33 #[u, v] w fun e w' => e = .returned (.bool (sameB l m)) ∧ Below w.heap.size w w' := by
 obtain ⟨ao, c, rfl, hc⟩ := hu.parts
 obtain ⟨bo, d, rfl, hd⟩ := hv.parts
 by_cases hlm : l.length = m.length
 ·have HC : Hid (∀ k, k < l.length → ∃ b off, ao = some ⟨b, off, none⟩ ∧ b < w.heap.size ∧ At7 w b (off + k * 7) (l[k]?.getD Sk.zero)) := hc
  have HD : Hid (∀ k, k < m.length → ∃ b off, bo = some ⟨b, off, none⟩ ∧ b < w.heap.size ∧ At7 w b (off + k * 7) (m[k]?.getD Sk.zero)) := hd
  obtain ⟨n, hn⟩ : ∃ n, n = l.length := ⟨_, rfl⟩
  have HN : Hid (n = l.length) := hn
  have HM : Hid (n = m.length) := hn.trans hlm
  rw [← hlm, ← hn]
  rw [← hn] at hlen
  clear hc hd hu hv hn hlm
  go_enter Tryz.func33, Tryz.ntmps33
  go_wp2
  go_loopw [5] (fun i wr => ∃ k : Nat, k ≤ n ∧ i = .int .i64 k ∧ Hid (∀ j, j < k → (l[j]?.getD Sk.zero) = (m[j]?.getD Sk.zero)) ∧ Hid (Below w.heap.size w wr) ∧ (∀ x, wr.cell? x = w.cell? x))
   (fun i _ => n - (intOf i).toNat)
  case atStart => exact ⟨0, Nat.zero_le _, rfl, (show ∀ j, j < 0 → _ from fun j hj => absurd hj (Nat.not_lt_zero _)), Below.refl _ _, fun _ => rfl⟩
  case round =>
   obtain ⟨k, hk, rfl, HK, HB, hcell⟩ := hrel
   have HCE : Hid (∀ x, wr.cell? x = w.cell? x) := hcell
   clear hcell
   by_cases hlt : k < n
   ·obtain ⟨b, off, rfl, hb, hat⟩ := HC.out k (by rw [← HN.out]; exact hlt)
    obtain ⟨b2, off2, rfl, hb2, hat2⟩ := HD.out k (by rw [← HM.out]; exact hlt)
    obtain ⟨c0, c1, c2, c3, c4, c5, c6⟩ := hat
    obtain ⟨d0, d1, d2, d3, d4, d5, d6⟩ := hat2
    rw [← HCE.out] at c0 c1 c2 c3 c4 c5 c6 d0 d1 d2 d3 d4 d5 d6
    obtain ⟨x, hx⟩ : ∃ x, x = l[k]?.getD Sk.zero := ⟨_, rfl⟩
    obtain ⟨y, hy⟩ : ∃ y, y = m[k]?.getD Sk.zero := ⟨_, rfl⟩
    rw [← hx] at c0 c1 c2 c3 c4 c5 c6
    rw [← hy] at d0 d1 d2 d3 d4 d5 d6
    have HX : Hid (x = l[k]?.getD Sk.zero) := hx
    have HY : Hid (y = m[k]?.getD Sk.zero) := hy
    obtain ⟨t, ht⟩ : ∃ t, t = Sk.eqB x y := ⟨_, rfl⟩
    have HT : Hid (t = Sk.eqB x y) := ht
    have hne := neq_slot x y
    rw [← ht] at hne
    clear hx hy ht
    obtain ⟨xn, seq, time, xf, xe, xk, xt⟩ := x
    obtain ⟨yn, seq2, time2, yf, ye, yk, yt⟩ := y
    simp only [Sk.val] at hne
    have hlti : (k : Int) < (n : Int) := by omega
    cases t
    ·go_wp2
     go_quiet (fail)
     go_wp2
     go_ret
     exact ⟨by rw [sameB_at (k := k) (fun e => by rw [← HX.out, ← HY.out, ← Sk.eqB_iff, ← HT.out] at e; cases e)]; rfl, HB.out.trans (⟨rfl, rfl, rfl, Nat.le_refl _, fun _ _ => rfl⟩)⟩
    ·go_wp2
     go_quiet (fail)
     go_wp2
     go_roundw
     case rel =>
      refine ⟨k + 1, by omega, by go_num, (show ∀ j, j < k + 1 → _ from fun j hj => ?_), HB.out.trans (⟨rfl, rfl, rfl, Nat.le_refl _, fun _ _ => rfl⟩), fun x => HCE.out x⟩
      by_cases e : j = k
      ·subst e
       rw [← HX.out, ← HY.out, ← Sk.eqB_iff]; exact HT.out.symm
      ·exact HK.out j (by omega)
     case measure => simp [intOf]; omega
   ·have hkl : k = n := by omega
    subst hkl
    go_wp2
    go_ret
    exact ⟨by rw [same_ext (HN.out.symm.trans HM.out) (fun j hj => HK.out j (by rw [HN.out]; exact hj))]; rfl, HB.out⟩
 ·rw [sameB_len hlm]
  have hne : ¬ ((l.length : Nat) : Int) = ((m.length : Nat) : Int) := by omega
  obtain ⟨n, hn⟩ : ∃ n, n = l.length := ⟨_, rfl⟩
  obtain ⟨k, hk⟩ : ∃ n, n = m.length := ⟨_, rfl⟩
  rw [← hn, ← hk] at hne ⊢
  clear hc hd hu hv hn hk hlm
  go_enter Tryz.func33, Tryz.ntmps33
  go_wp2
  go_ret
  exact ⟨rfl, Below.refl _ _⟩
set_option maxHeartbeats 1000000 in
theorem sameBuffer_any (n1 n2 : Int) (u v : Value) (l m : List Sk) (w : World) (hu : Sls w u l) (hv : Sls w v m) (hlen : l.length ≤ 9223372036854775807) :
  Calls Tryz.prog 32 #[.agg #[.int .i64 n1, u], .agg #[.int .i64 n2, v]] w fun e w' => e = .returned (.bool (n1 == n2 && sameB l m)) ∧ Below w.heap.size w w' := by
 obtain ⟨a, c, hua⟩ := hu.len
 obtain ⟨b, d, hva⟩ := hv.len
 have HS : Hid (∀ w', Below w.heap.size w w' → Calls Tryz.prog 33 #[u, v] w' fun e w'' => e = .returned (.bool (sameB l m)) ∧ Below w'.heap.size w' w'') := fun w' hb => sameSlots_any u v l m w' (hu.below hb) (hv.below hb) hlen
 obtain ⟨t, ht⟩ : ∃ t, t = sameB l m := ⟨_, rfl⟩
 rw [← ht] at HS ⊢
 obtain ⟨k, hk⟩ : ∃ n, n = l.length := ⟨_, rfl⟩
 obtain ⟨j, hj⟩ : ∃ n, n = m.length := ⟨_, rfl⟩
 rw [← hk] at hua
 rw [← hj] at hva
 clear ht hu hv hk hj
 subst hua hva
 by_cases hn : n1 = n2
 ·subst hn
  have e : (n1 == n1 && t) = t := by simp
  rw [e]
  go_enter Tryz.func32, Tryz.ntmps32
  go_wp2_with (go_at_call 33; refine (HS.out _ (by go_grown)).mono ?_; rintro e w1 ⟨rfl, hb1⟩)
  go_ret
  exact ⟨rfl, (((Below.refl _ w).alloc (Nat.le_refl _) _).alloc (by simp) _).trans (hb1.mono (by simp; omega))⟩
 ·have e : (n1 == n2 && t) = false := by simp [hn]
  have e2 : (n1 == n2) = false := by simpa using hn
  rw [e]
  go_enter Tryz.func32, Tryz.ntmps32
  go_wp2
  go_ret
  exact ⟨rfl, by go_grown⟩
theorem Tryz.sizeSlot : (Tryz.prog.info? 106).map (·.size) = some 7 := by kernel_rfl
set_option maxHeartbeats 1000000 in
set_option maxRecDepth 100000 in
theorem insert_end (base n : Nat) (v : Value) (l : List Sk) (x : Sk) (vb : Nat) (w : World) (hn : n = l.length) (hown : w.ownsRow base 106 7 v n (skCells l)) (hsm : n ≤ 1000) (hbase : base ≤ w.heap.size)
  (hvb : Blk w vb x.cells 106) :
  Calls Tryz.prog 177 #[v, .int .i64 n, .slice (some ⟨vb, 0, none⟩) 1 1] w fun e w' =>
   ∃ u, e = .returned u ∧ w'.ownsRow base 106 7 u (n + 1) (skCells (l ++ [x])) ∧ w.grownBy w' v.ownBlock := by
 obtain ⟨i0, hi, hz0, hz1, hz2⟩ := info_parts Tryz.infoSlot
 obtain ⟨a, c, hv⟩ : ∃ a c, v = .slice a n c := by
  obtain ⟨_, ⟨rfl, rfl⟩ | ⟨g, cap, cur, rfl, _⟩⟩ := hown
  ·exact ⟨_, _, rfl⟩
  ·exact ⟨_, _, rfl⟩
 have hnc : n ≤ c := by
  obtain ⟨_, ⟨h, h0⟩ | ⟨g, cap, cur, h, _, _, h1, _⟩⟩ := hown
  ·omega
  ·rw [hv] at h; cases h; exact h1
 have HO : Hid (w.ownsRow base 106 7 v n (skCells l)) := hown
 have HV : Hid (Blk w vb x.cells 106) := hvb
 obtain ⟨ob, hob⟩ : ∃ ob, ob = v.ownBlock := ⟨_, rfl⟩
 rw [← hob]
 clear hown hvb hn
 subst hv
 have HB : Hid (ob = (Value.slice a n c).ownBlock) := hob
 clear hob
 go_enter Tryz.func177, Tryz.ntmps177
 go_wp2_with (at_builtin; refine wpList_append_own2 _ rfl _ _ 22 rfl base 106 i0 _ 7 48 Tryz.underlying22 hi hz0 hz1 hz2 rfl (by decide) _ n (skCells l) rfl HO.out ⟨vb, 0, none⟩ 1 1 x.cells.toList rfl rfl (fun j u hj => by rw [Addr.add_lit, Nat.zero_add]; exact HV.out.cell (by simpa using hj)) (oneSlot x) (by unfold maxLen; omega) (by omega) hbase ?_; intro v' w2 hown' hgrow _; have HG : Hid (w.grownBy w2 ob) := (by show w.grownBy w2 ob; rw [HB.out]; exact hgrow); clear hgrow)
 all_goals
  go_ret
  rw [skCells_append, skCells_one]
  exact ⟨_, rfl, hown', HG.out⟩
theorem insert_row (cur : List Value) (l : List Sk) (x : Sk) (i cap : Nat) (hi : i < l.length) (hcap : l.length + 1 ≤ cap) (hs : cur.length = cap * 7) (ht : cur.take (l.length * 7) = skCells l)
  (r1 r2 : List Value) (h1 : r1 = cur.take ((i + 1) * 7) ++ skCells (l.drop i) ++ cur.drop ((i + 1) * 7 + (skCells (l.drop i)).length)) (h2 : r2 = r1.take (i * 7) ++ x.cells.toList ++ r1.drop (i * 7 + x.cells.toList.length)) :
  r2.length = cap * 7 ∧ r2.take ((l.length + 1) * 7) = skCells (l.take i ++ x :: l.drop i) := by
 have hx : x.cells.toList.length = 7 := rfl
 have hd : (skCells (l.drop i)).length = (l.length - i) * 7 := by rw [skCells_len, List.length_drop]
 have e0 : skCells l = skCells (l.take i) ++ skCells (l.drop i) := by rw [← skCells_append, List.take_append_drop]
 have hti : (skCells (l.take i)).length = i * 7 := by rw [skCells_len, List.length_take]; congr 1; omega
 have e1 : cur.take (i * 7) = skCells (l.take i) := by
  have : cur.take (i * 7) = (cur.take (l.length * 7)).take (i * 7) := by rw [List.take_take]; congr 1; omega
  rw [this, ht, e0, List.take_left' hti]
 have l1 : r1.length = cap * 7 := by
  rw [h1]; simp only [List.length_append, List.length_take, List.length_drop, hd, hs]; omega
 have e2 : r1.take (i * 7) = skCells (l.take i) := by
  rw [h1, List.append_assoc, List.take_append_of_le_length (by rw [List.length_take, hs]; omega), List.take_take, ← e1]; congr 1; omega
 have e3 : r1.drop (i * 7 + 7) = skCells (l.drop i) ++ cur.drop ((i + 1) * 7 + (skCells (l.drop i)).length) := by
  rw [h1, List.append_assoc]
  exact List.drop_left' (by rw [List.length_take, hs]; omega)
 rw [hx, e2, e3] at h2
 constructor
 ·rw [h2]; simp only [List.length_append, List.length_drop, hti, hx, hd, hs]; omega
 ·rw [h2, skCells_append, show skCells (x :: l.drop i) = x.cells.toList ++ skCells (l.drop i) from rfl, ← List.append_assoc, ← List.append_assoc]
  exact List.take_left' (by simp only [List.length_append, hti, hx, hd]; omega)
set_option maxHeartbeats 4000000 in
set_option maxRecDepth 100000 in
theorem insert_room (base g cap i : Nat) (cur : Array Value) (l : List Sk) (x : Sk) (vb n : Nat) (w : World) (hn : n = l.length) (hbg : base ≤ g) (hg : Blk w g cur 106) (hcm : cap ≤ maxLen) (hcs : cur.size = cap * 7) (htk : cur.toList.take (n * 7) = skCells l)
  (hi : i < n) (hroom : n + 1 ≤ cap) (hsm : n ≤ 1000) (hvb : Blk w vb x.cells 106) (hne : vb ≠ g) :
  Calls Tryz.prog 177 #[.slice (some ⟨g, 0, none⟩) n cap, .int .i64 i, .slice (some ⟨vb, 0, none⟩) 1 1] w fun e w' =>
   ∃ u, e = .returned u ∧ w'.ownsRow base 106 7 u (n + 1) (skCells (l.take i ++ x :: l.drop i)) ∧ w.grownBy w' (some g) := by
 have hov : ∀ lb cb, (callFunc 180 #[.slice (some ⟨vb, 0, none⟩) 1 1, .slice (some ⟨g, (i + 1) * 7, none⟩) lb cb]).run Tryz.prog w = .ok (.value (.bool false)) w := fun lb cb => by
  have hsa : w.shape? vb = some (106, 7) := by
   have h : w.heap[vb]? = some (.cells x.cells 106 (0, 0)) := hvb
   unfold World.shape?; rw [h]; rfl
  have hsb : w.shape? g = some (106, cap * 7) := by
   have h : w.heap[g]? = some (.cells cur 106 (0, 0)) := hg
   unfold World.shape?; rw [h, ← hcs]
  rw [run_callFunc_extern Tryz.func180 (by kernel_rfl) (by kernel_rfl) (by kernel_rfl) (e := Extern.SlicesOverlaps.overlaps #[22, 22] #[4]) (by kernel_rfl),
   Lib.run_overlaps_apart w 22 4 106 Tryz.underlying22 7 (fun w => Tryz.sizeOf106 w) ⟨vb, 0, none⟩ ⟨g, (i + 1) * 7, none⟩ 1 1 lb cb hne 106 106 7 (cap * 7) hsa hsb (by omega) (hvb.free 0) (hvb.free 7)]
  rfl
 obtain ⟨Y, hY⟩ : ∃ Y, Y = skCells (l.drop i) := ⟨_, rfl⟩
 have hYl : Y.length = (n - i) * 7 := by rw [hY, skCells_len, List.length_drop, ← hn]
 obtain ⟨R1, hR1⟩ : ∃ R1, R1 = cur.toList.take ((i + 1) * 7) ++ Y ++ cur.toList.drop ((i + 1) * 7 + Y.length) := ⟨_, rfl⟩
 obtain ⟨R2, hR2⟩ : ∃ R2, R2 = R1.take (i * 7) ++ x.cells.toList ++ R1.drop (i * 7 + x.cells.toList.length) := ⟨_, rfl⟩
 obtain ⟨hL2, hT2⟩ := insert_row cur.toList l x i cap (by omega) (by omega) (by simpa using hcs) (by rw [← hn]; exact htk) R1 R2 (by rw [hR1, hY]) hR2
 have hYat : ∀ j v, Y[j]? = some v → w.cell? ((⟨g, i * 7, none⟩ : Addr).add j) = some v := fun j v hj => by
  have hj2 : j < Y.length := (List.getElem?_eq_some_iff.1 hj).1
  rw [Addr.add_lit]
  refine hg.cell ?_
  have : (skCells l)[i * 7 + j]? = some v := by
   rw [show skCells l = skCells (l.take i) ++ Y by rw [hY, ← skCells_append, List.take_append_drop], List.getElem?_append_right (by rw [skCells_len, List.length_take]; omega)]
   rw [skCells_len, List.length_take, show i * 7 + j - min i l.length * 7 = j by rw [Nat.min_eq_left (by omega)]; omega]
   exact hj
  rw [← htk, List.getElem?_take, if_pos (by omega)] at this
  simpa using this
 have hY1 : ∀ v ∈ Y, v.oneCell' = true := fun v hv => by
  rw [hY] at hv
  obtain ⟨y, _, hy⟩ := List.mem_flatMap.1 hv
  exact oneSlot y v hy
 have hcp1 : ∀ ty, (Builtin.copy_ #[22, 22] ty #[.slice (some ⟨g, (i + 1) * 7, none⟩) (n + 1 - (i + 1)) (cap - (i + 1)), .slice (some ⟨g, i * 7, none⟩) (n + 1 - i) (cap - i)]).run Tryz.prog w.drew = .ok (goInt ((n - i : Nat) : Int)) (w.drew.setRow g R1.toArray) := fun ty => by
  have hmin : Nat.min (n + 1 - i) (n + 1 - (i + 1)) = n - i := by simp only [Nat.min_def]; split <;> omega
  have h := run_copy_many (P := Tryz.prog) w.drew 22 22 ty 106 7 g ((i + 1) * 7) (n + 1 - (i + 1)) (cap - (i + 1)) ⟨g, i * 7, none⟩ (n + 1 - i) (cap - i) cur 106 Y Tryz.underlying22 Tryz.sizeSlot hg (by rw [hmin, hYl]) hYat (by omega) hY1
  rw [hmin, ← hR1] at h
  exact h
 have hl1 : R1.length = cap * 7 := by
  rw [hR1]; simp only [List.length_append, List.length_take, List.length_drop, hYl, Array.length_toList]; omega
 have hg1 : Blk (w.drew.setRow g R1.toArray) g R1.toArray 106 := setRow_heap _ _ cur _ _ _ hg
 have hcp2 : ∀ ty, (Builtin.copy_ #[22, 22] ty #[.slice (some ⟨g, i * 7, none⟩) (n + 1 - i) (cap - i), .slice (some ⟨vb, 0, none⟩) 1 1]).run Tryz.prog (w.drew.setRow g R1.toArray) = .ok (goInt 1) (w.drew.setRow g R2.toArray) := fun ty => by
  have hmin : Nat.min 1 (n + 1 - i) = 1 := by simp only [Nat.min_def]; split <;> omega
  have h := run_copy_many (P := Tryz.prog) (w.drew.setRow g R1.toArray) 22 22 ty 106 7 g (i * 7) (n + 1 - i) (cap - i) ⟨vb, 0, none⟩ 1 1 R1.toArray 106 x.cells.toList Tryz.underlying22 Tryz.sizeSlot hg1 (by rw [hmin]; rfl) (fun j v hj => by rw [Addr.add_lit, Nat.zero_add, cell_setRow_other _ _ _ _ hne]; exact hvb.cell (by simpa using hj)) (by have : x.cells.toList.length = 7 := rfl; simp only [List.size_toArray]; omega) (oneSlot x)
  rw [hmin, ← hR2, setRow_setRow] at h
  exact h
 have hfin : ∀ r, Hid (r = w.drew.setRow g R2.toArray) → r.ownsRow base 106 7 (.slice (some ⟨g, 0, none⟩) (n + 1) cap) (n + 1) (skCells (l.take i ++ x :: l.drop i)) ∧ w.grownBy r (some g) := fun r hr => by
  rw [hr.out]
  refine ⟨⟨?_, .inr ⟨g, cap, R2.toArray, rfl, hbg, setRow_heap _ _ cur _ _ _ hg, hroom, hcm, by simpa using hL2, by rw [hn]; exact hT2⟩⟩, ⟨rfl, rfl, rfl, by simp, fun k _ hk => setRow_other _ _ _ _ (fun e => hk (by rw [e]))⟩⟩
  rw [skCells_len, hn]; congr 1; simp; omega
 have HF : Hid _ := hfin
 clear hfin hL2 hT2 hg1 hl1 hYat hY1 hYl hR1 hR2 hY htk hcs hg hvb hn
 have hz2 : ¬ ((i : Int) = (n : Int)) := by omega
 have hw1 : IntKind.i64.wrap ((i : Int) + 1) = (i : Int) + 1 := by rw [IntKind.wrap_i64]; unfold maxLen at hcm; omega
 have hb1 : (0 : Int) ≤ (i : Int) + 1 := by omega
 have hin : i ≤ n := by omega
 have htn : ((i : Int) + 1).toNat = i + 1 := by omega
 have hb2 : ¬ (cap = i + 1) := by omega
 have hb3 : (i : Int) ≤ (n : Int) + 1 := by omega
 have hb4 : ¬ (cap = i) := by omega
 go_enter Tryz.func177, Tryz.ntmps177
 go_wp2_with (simp only [hov])
 go_region_law (refine step_run rfl (.tmp 73) (.tmp 76) 22 22 rfl (.slice (some ⟨g, (i + 1) * 7, none⟩) (n + 1 - (i + 1)) (cap - (i + 1))) (.slice (some ⟨g, i * 7, none⟩) (n + 1 - i) (cap - i)) (by simp [Act.eval, Act.put]) (by simp [Act.eval, Act.put]) (hcp1 _) ?_)
 go_wp2_with (at_builtin; refine wpList_run rfl _ _ 22 22 rfl _ _ rfl rfl (hcp2 _) ?_)
 go_ret
 exact ⟨_, rfl, HF.out _ rfl⟩
theorem insert_new (old Z : List Value) (l : List Sk) (x : Sk) (i G : Nat) (hi : i < l.length) (hG : l.length + 1 ≤ G) (ho : old = skCells (l.take i)) (hZ : Z.length = (G - i) * 7)
  (r0 r1 r2 : List Value) (h0 : r0 = old ++ Z) (h1 : r1 = r0.take (i * 7) ++ x.cells.toList ++ r0.drop (i * 7 + x.cells.toList.length)) (h2 : r2 = r1.take ((i + 1) * 7) ++ skCells (l.drop i) ++ r1.drop ((i + 1) * 7 + (skCells (l.drop i)).length)) :
  r0.length = G * 7 ∧ r1.length = G * 7 ∧ r2.length = G * 7 ∧ r2.take ((l.length + 1) * 7) = skCells (l.take i ++ x :: l.drop i) := by
 have hx : x.cells.toList.length = 7 := rfl
 have hd : (skCells (l.drop i)).length = (l.length - i) * 7 := by rw [skCells_len, List.length_drop]
 have hti : (skCells (l.take i)).length = i * 7 := by rw [skCells_len, List.length_take]; congr 1; omega
 have l0 : r0.length = G * 7 := by rw [h0, ho]; simp only [List.length_append, hti, hZ]; omega
 have e0 : r0.take (i * 7) = skCells (l.take i) := by rw [h0, ho]; exact List.take_left' hti
 have l1 : r1.length = G * 7 := by rw [h1]; simp only [List.length_append, List.length_take, List.length_drop, hx, l0]; omega
 rw [hx, e0] at h1
 have e1 : r1.take ((i + 1) * 7) = skCells (l.take i) ++ x.cells.toList := by
  rw [h1]; exact List.take_left' (by simp only [List.length_append, hti, hx]; omega)
 have l2 : r2.length = G * 7 := by rw [h2]; simp only [List.length_append, List.length_take, List.length_drop, hd, l1]; omega
 refine ⟨l0, l1, l2, ?_⟩
 rw [h2, e1, skCells_append, show skCells (x :: l.drop i) = x.cells.toList ++ skCells (l.drop i) from rfl, ← List.append_assoc]
 exact List.take_left' (by simp only [List.length_append, hti, hx, hd]; omega)
set_option maxHeartbeats 1000000 in
set_option maxRecDepth 100000 in
theorem insert_grow (base g cap i : Nat) (cur : Array Value) (l : List Sk) (x : Sk) (vb n : Nat) (w : World) (hn : n = l.length) (hbase : base ≤ w.heap.size) (hg : Blk w g cur 106) (hnc : n ≤ cap) (htk : cur.toList.take (n * 7) = skCells l)
  (hi : i < n) (hroom : cap < n + 1) (hsm : n ≤ 1000) (hvb : Blk w vb x.cells 106) :
  Calls Tryz.prog 177 #[.slice (some ⟨g, 0, none⟩) n cap, .int .i64 i, .slice (some ⟨vb, 0, none⟩) 1 1] w fun e w' =>
   ∃ u, e = .returned u ∧ w'.ownsRow base 106 7 u (n + 1) (skCells (l.take i ++ x :: l.drop i)) ∧ w.grownBy w' (some g) := by
 obtain ⟨i0, hinf, hz0, hz1, hz2⟩ := info_parts Tryz.infoSlot
 have hti : (skCells (l.take i)).length = i * 7 := by rw [skCells_len, List.length_take]; congr 1; omega
 have hall : ∀ j v, (skCells l)[j]? = some v → w.cell? ⟨g, j, none⟩ = some v := fun j v hj => by
  have hlt : j < (skCells l).length := (List.getElem?_eq_some_iff.1 hj).1
  rw [skCells_len] at hlt
  refine hg.cell ?_
  rw [← htk, List.getElem?_take, if_pos (by omega)] at hj
  simpa using hj
 have hsp : skCells l = skCells (l.take i) ++ skCells (l.drop i) := by rw [← skCells_append, List.take_append_drop]
 have hold : (Builtin.firstCells i0.size i (.slice (some ⟨g, 0, none⟩) i cap)).run Tryz.prog w.drew = .ok (skCells (l.take i)).toArray w.drew := by
  rw [hz1]
  exact run_firstCells_some w.drew 7 i ⟨g, 0, none⟩ i cap (skCells (l.take i)) hti (fun j v hj => by
   rw [Addr.add_lit, Nat.zero_add]
   exact hall j v (by rw [hsp, List.getElem?_append_left (List.getElem?_eq_some_iff.1 hj).1]; exact hj))
 have hik : i + (n + 1 - i) = n + 1 := by omega
 have hkk : (n : Int) + 1 - (i : Int) = ((n + 1 - i : Nat) : Int) := by omega
 obtain ⟨G, hG⟩ : ∃ G, G = grownCap w (n + 1) cap 106 := ⟨_, rfl⟩
 have hGn : n + 1 ≤ G := by rw [hG]; exact grownCap_ge w _ _ _
 have hGm : G ≤ maxLen := by rw [hG]; exact grownCap_le_maxLen w _ _ _ (by unfold maxLen; omega)
 obtain ⟨z, hz⟩ : ∃ z : Value, z = .agg #[.int .i64 0, .int .i64 0, .int .i64 0, .bool false, .bool false, .bool false, .string ByteArray.empty] := ⟨_, rfl⟩
 have hzc : z.cells.size = 7 := by rw [hz]; rfl
 rw [← hz] at hz0
 obtain ⟨Z, hZ⟩ : ∃ Z : Array Value, Z = Builtin.zeroCells z.cells (n + 1 - i) ++ Builtin.zeroCells z.cells (G - (n + 1)) := ⟨_, rfl⟩
 have hZl : Z.toList.length = (G - i) * 7 := by
  rw [hZ]; simp only [Array.toList_append, List.length_append, Array.length_toList, Builtin.zeroCells, Array.size_map, Array.size_range, hzc]; omega
 obtain ⟨R0, hR0⟩ : ∃ R0, R0 = skCells (l.take i) ++ Z.toList := ⟨_, rfl⟩
 obtain ⟨Y, hY⟩ : ∃ Y, Y = skCells (l.drop i) := ⟨_, rfl⟩
 have hYl : Y.length = (n - i) * 7 := by rw [hY, skCells_len, List.length_drop, ← hn]
 obtain ⟨R1, hR1⟩ : ∃ R1, R1 = R0.take (i * 7) ++ x.cells.toList ++ R0.drop (i * 7 + x.cells.toList.length) := ⟨_, rfl⟩
 obtain ⟨R2, hR2⟩ : ∃ R2, R2 = R1.take ((i + 1) * 7) ++ Y ++ R1.drop ((i + 1) * 7 + Y.length) := ⟨_, rfl⟩
 obtain ⟨l0, l1, l2, hT⟩ := insert_new _ Z.toList l x i G (by omega) (by omega) rfl hZl R0 R1 R2 hR0 hR1 (by rw [hR2, hY])
 have hrz : ∀ ty, (Builtin.append_ #[22, 3] ty #[.slice (some ⟨g, 0, none⟩) i cap, .int .i64 ((n + 1 - i : Nat) : Int)]).run Tryz.prog w =
   .ok (.slice (some ⟨w.heap.size, 0, none⟩) (n + 1) G) (w.drew.alloc (.cells R0.toArray 106)) := fun ty => by
  have h := Lib.run_append_grow_zeros w 22 3 ty 106 i0 z .i64 .i64 Tryz.underlying22 Tryz.underlying3 hinf hz0 (some ⟨g, 0, none⟩) i cap (skCells (l.take i)) hold (n + 1 - i) (by omega) (by omega) (by omega) (by omega) (by rw [hz2]; omega) (by rw [hz2, hik]; exact growslice_fits hroom (by omega))
  rw [hik, ← hG] at h
  rw [h, hR0, hZ]
  congr 3
  simp
 obtain ⟨W1, hW1⟩ : ∃ W1, W1 = w.drew.alloc (.cells R0.toArray 106) := ⟨_, rfl⟩
 have hs1 : W1.heap.size = w.heap.size + 1 := by rw [hW1]; simp
 have k0 : Blk W1 w.heap.size R0.toArray 106 := by rw [hW1]; exact Blk.new w.drew _ _
 have kv : Blk W1 vb x.cells 106 := by rw [hW1]; exact hvb.drew.alloc _
 have hvn : vb ≠ w.heap.size := by have := hvb.lt; omega
 have hgn : g ≠ w.heap.size := by have := hg.lt; omega
 have hcpA : ∀ ty dc, (Builtin.copy_ #[22, 22] ty #[.slice (some ⟨w.heap.size, i * 7, none⟩) (n + 1 - i) dc, .slice (some ⟨vb, 0, none⟩) 1 1]).run Tryz.prog W1 = .ok (goInt 1) (W1.setRow w.heap.size R1.toArray) := fun ty dc => by
  have hmin : Nat.min 1 (n + 1 - i) = 1 := by simp only [Nat.min_def]; split <;> omega
  have h := run_copy_many (P := Tryz.prog) W1 22 22 ty 106 7 w.heap.size (i * 7) (n + 1 - i) dc ⟨vb, 0, none⟩ 1 1 R0.toArray 106 x.cells.toList Tryz.underlying22 Tryz.sizeSlot k0 (by rw [hmin]; rfl) (fun j v hj => by rw [Addr.add_lit, Nat.zero_add]; exact kv.cell (by simpa using hj)) (by have : x.cells.toList.length = 7 := rfl; simp only [List.size_toArray]; omega) (oneSlot x)
  rw [hmin, ← hR1] at h
  exact h
 obtain ⟨W2, hW2⟩ : ∃ W2, W2 = W1.setRow w.heap.size R1.toArray := ⟨_, rfl⟩
 have k2 : Blk W2.drew w.heap.size R1.toArray 106 := by rw [hW2]; exact setRow_heap _ _ _ _ _ _ k0
 have kg : W2.heap[g]? = w.heap[g]? := by rw [hW2, setRow_other _ _ _ _ hgn, hW1, Below.heap_alloc _ _ _ (by exact hg.lt)]; rfl
 have hcpB : ∀ ty dc sc, (Builtin.copy_ #[22, 22] ty #[.slice (some ⟨w.heap.size, (i + 1) * 7, none⟩) (n + 1 - (i + 1)) dc, .slice (some ⟨g, i * 7, none⟩) (n - i) sc]).run Tryz.prog W2.drew = .ok (goInt ((n - i : Nat) : Int)) (W2.drew.setRow w.heap.size R2.toArray) := fun ty dc sc => by
  have hmin : Nat.min (n - i) (n + 1 - (i + 1)) = n - i := by simp only [Nat.min_def]; split <;> omega
  have h := run_copy_many (P := Tryz.prog) W2.drew 22 22 ty 106 7 w.heap.size ((i + 1) * 7) (n + 1 - (i + 1)) dc ⟨g, i * 7, none⟩ (n - i) sc R1.toArray 106 Y Tryz.underlying22 Tryz.sizeSlot k2 (by rw [hmin, hYl]) (fun j v hj => by
    rw [Addr.add_lit]
    have hc := hall (i * 7 + j) v (by
     rw [hsp, List.getElem?_append_right (by omega), hti, show i * 7 + j - i * 7 = j by omega, ← hY]; exact hj)
    exact (World.cell?_of_block (w := w) (a := ⟨g, i * 7 + j, none⟩) kg).trans hc) (by simp only [List.size_toArray]; omega) (fun v hv => by
    rw [hY] at hv
    obtain ⟨y, _, hy⟩ := List.mem_flatMap.1 hv
    exact oneSlot y v hy)
  rw [hmin, ← hR2] at h
  exact h
 have hfin : ∀ r, Hid (r = W2.drew.setRow w.heap.size R2.toArray) → r.ownsRow base 106 7 (.slice (some ⟨w.heap.size, 0, none⟩) (n + 1) G) (n + 1) (skCells (l.take i ++ x :: l.drop i)) ∧ w.grownBy r (some g) := fun r hr => by
  rw [hr.out]
  refine ⟨⟨?_, .inr ⟨w.heap.size, G, R2.toArray, rfl, hbase, setRow_heap _ _ _ _ _ _ k2, hGn, hGm, by simpa using l2, by rw [hn]; exact hT⟩⟩, ⟨?_, ?_, ?_, ?_, fun k hk _ => ?_⟩⟩
  ·rw [skCells_len, hn]; congr 1; simp; omega
  ·rw [hW2, hW1]; rfl
  ·rw [hW2, hW1]; rfl
  ·rw [hW2, hW1]; rfl
  ·rw [hW2, hW1]; simp
  ·rw [setRow_other _ _ _ _ (by omega)]
   show W2.heap[k]? = w.heap[k]?
   rw [hW2, setRow_other _ _ _ _ (by omega), hW1, Below.heap_alloc _ _ _ (by exact hk)]; rfl
 have HF : Hid _ := hfin
 have HW1 : Hid (W1 = w.drew.alloc (.cells R0.toArray 106)) := hW1
 have HW2 : Hid (W2 = W1.setRow w.heap.size R1.toArray) := hW2
 rw [← hW1] at hrz
 rw [← hW2] at hcpA
 have hG63 : G ≤ 9223372036854775807 := by unfold maxLen at hGm; omega
 clear hfin hT l0 l1 l2 hYl hR0 hR1 hR2 hY htk hg hvb hn k0 kv k2 kg hW1 hW2 hZl hZ hz hz0 hzc hall hsp hold hti hG hGm
 have hz2 : ¬ ((i : Int) = (n : Int)) := by omega
 have hz3 : (cap : Int) < (n : Int) + 1 := by omega
 have hw1 : IntKind.i64.wrap ((i : Int) + 1) = (i : Int) + 1 := by rw [IntKind.wrap_i64]; omega
 have hb1 : (0 : Int) ≤ (i : Int) + 1 := by omega
 have hin : i ≤ n := by omega
 have htn : ((i : Int) + 1).toNat = i + 1 := by omega
 have hb2 : ¬ (G = i + 1) := by omega
 have hb3 : (i : Int) ≤ (n : Int) + 1 := by omega
 have hb4 : ¬ (G = i) := by omega
 have hb5 : ¬ (cap = i) := by omega
 go_enter Tryz.func177, Tryz.ntmps177
 go_wp2_with (first | (at_builtin; refine Lib.wpList_append_run _ rfl _ _ _ _ rfl _ _ rfl rfl _ _ (hrz _) ?_) | (at_builtin; refine wpList_run rfl _ _ 22 22 rfl _ _ rfl rfl (hcpA _ _) ?_))
 go_region_law (refine step_run rfl (.tmp 50) (.tmp 53) 22 22 rfl (.slice (some ⟨w.heap.size, (i + 1) * 7, none⟩) (n + 1 - (i + 1)) (G - (i + 1))) (.slice (some ⟨g, i * 7, none⟩) (n - i) (cap - i)) (by simp [Act.eval, Act.put]) (by simp [Act.eval, Act.put]) (hcpB _ _ _) ?_)
 go_wp2
 go_ret
 exact ⟨_, rfl, HF.out _ rfl⟩
def putAt (l : List Sk) (i : Nat) (x : Sk) : List Sk := l.take i ++ x :: l.drop i
theorem insert_any (base n i : Nat) (v : Value) (l : List Sk) (x : Sk) (vb : Nat) (w : World) (hn : n = l.length) (hown : w.ownsRow base 106 7 v n (skCells l)) (hi : i ≤ n) (hsm : n ≤ 1000) (hbase : base ≤ w.heap.size)
  (hvb : Blk w vb x.cells 106) (hne : v.ownBlock ≠ some vb) :
  Calls Tryz.prog 177 #[v, .int .i64 i, .slice (some ⟨vb, 0, none⟩) 1 1] w fun e w' =>
   ∃ u, e = .returned u ∧ w'.ownsRow base 106 7 u (n + 1) (skCells (putAt l i x)) ∧ w.grownBy w' v.ownBlock := by
 by_cases h : i = n
 ·subst h
  have e : putAt l i x = l ++ [x] := by unfold putAt; rw [hn, List.take_length, List.drop_length]
  rw [e]
  exact insert_end base i v l x vb w hn hown hsm hbase hvb
 ·obtain ⟨hl, ⟨_, h0⟩ | ⟨g, cap, cur, rfl, hbg, hg, h1, h2, h3, h4⟩⟩ := hown
  ·omega
  ·by_cases hr : n + 1 ≤ cap
   ·exact insert_room base g cap i cur l x vb n w hn hbg hg h2 h3 h4 (by omega) hr hsm hvb (fun e => hne (by rw [e]; rfl))
   ·exact insert_grow base g cap i cur l x vb n w hn hbase hg h1 h4 (by omega) (by omega) hsm hvb
set_option maxHeartbeats 400000 in
theorem holdsLit_tells (n : Int) (B : Nat) (w : World) (hB : B < w.heap.size) (hc : w.cell? ⟨B, 0, none⟩ = some (.int .i64 n)) :
  Tells 174 #[.pointer (some ⟨B, 0, none⟩)] (fun x => x.n == n) w := fun W x hb => by
 have hcW : W.cell? ⟨B, 0, none⟩ = some (.int .i64 n) := (hb.cell (p := ⟨B, 0, none⟩) hB).trans hc
 have hBW : B < W.heap.size := by have := hb.size; omega
 have hne : B ≠ W.heap.size := by omega
 obtain ⟨xn, seq, time, xf, xe, xk, xt⟩ := x
 show Calls Tryz.prog 174 #[.agg #[.int .i64 xn, .int .i64 seq, .int .i64 time, .bool xf, .bool xe, .bool xk, .string xt], .pointer (some ⟨B, 0, none⟩)] W _
 go_enter Tryz.func174, Tryz.ntmps174
 go_wp2
 go_ret
 exact ⟨rfl, by go_grown⟩
set_option maxHeartbeats 400000 in
theorem holdLit_tells (y : Sk) (B : Nat) (w : World) (hB : B < w.heap.size) (hc : w.cell? ⟨B, 0, none⟩ = some (.int .i64 y.n)) :
  Tells 176 #[.pointer (some ⟨B, 0, none⟩)] (fun x => decide (y.n < x.n)) w := fun W x hb => by
 have hcW : W.cell? ⟨B, 0, none⟩ = some (.int .i64 y.n) := (hb.cell (p := ⟨B, 0, none⟩) hB).trans hc
 have hBW : B < W.heap.size := by have := hb.size; omega
 have hne : B ≠ W.heap.size := by omega
 obtain ⟨xn, seq, time, xf, xe, xk, xt⟩ := x
 obtain ⟨yn, _⟩ := y
 show Calls Tryz.prog 176 #[.agg #[.int .i64 xn, .int .i64 seq, .int .i64 time, .bool xf, .bool xe, .bool xk, .string xt], .pointer (some ⟨B, 0, none⟩)] W _
 go_enter Tryz.func176, Tryz.ntmps176
 go_wp2
 go_ret
 exact ⟨rfl, by go_grown⟩
set_option maxHeartbeats 400000 in
theorem holds_any (K : Nat) (next : Int) (hv ov : Value) (h : List Sk) (n : Int) (w : World) (hK : Blk w K #[.int .i64 next, hv, ov] 194) (hh : Sls w hv h) (hlen : h.length ≤ 1000) :
  Calls Tryz.prog 162 #[.pointer (some ⟨K, 0, none⟩), .int .i64 n] w fun e w' => e = .returned (.bool (h.any fun x => x.n == n)) ∧ Below w.heap.size w w' := by
 have eg : Enters Tryz.prog 174 := enters_of Tryz.func174 (by kernel_rfl) rfl
 have hcon := containsFunc_any 174 #[.pointer (some ⟨w.heap.size, 0, none⟩)] (fun x => x.n == n) eg hv h (w.alloc (.cells #[.int .i64 n] 3)) (hh.alloc _) (by omega) (holdsLit_tells n w.heap.size _ (by simp) (by simp))
 obtain ⟨c0, c1, c2⟩ := hK.three
 have hKw := hK.lt
 obtain ⟨r, hr⟩ : ∃ r, r = h.any fun x => x.n == n := ⟨_, rfl⟩
 rw [← hr] at hcon ⊢
 clear hr eg
 go_enter Tryz.func162, Tryz.ntmps162
 go_wp2_with (go_at_call 173; refine hcon.mono ?_; rintro e w1 ⟨rfl, hbw⟩)
 go_ret
 exact ⟨rfl, ((Below.refl _ _).alloc (Nat.le_refl _) _).trans (hbw.mono (by simp))⟩
def place (h : List Sk) (x : Sk) : Nat := (h.findIdx? fun y => decide (x.n < y.n)).getD h.length
def insF (h : List Sk) (x : Sk) : List Sk := putAt h (place h x) x
theorem place_le (h : List Sk) (x : Sk) : place h x ≤ h.length := by
 unfold place
 cases e : h.findIdx? fun y => decide (x.n < y.n) with
 | none => simp
 | some i =>
  rw [List.findIdx?_eq_some_iff_getElem] at e
  obtain ⟨h1, _⟩ := e
  simp; omega
theorem idx_place (h : List Sk) (x : Sk) : (idxOf (fun y => decide (x.n < y.n)) h = -1 ∧ place h x = h.length) ∨ idxOf (fun y => decide (x.n < y.n)) h = (place h x : Int) := by
 unfold place idxOf
 cases e : h.findIdx? fun y => decide (x.n < y.n) with
 | none => left; simp
 | some i => right; simp
theorem insF_len (h : List Sk) (x : Sk) : (insF h x).length = h.length + 1 := by
 have := place_le h x
 simp [insF, putAt]; omega
def pchk (next : Int) (l : List Sk) : Int := bchk next l
theorem pchk_right (next : Int) (l : List Sk) : pchk next l = 0 ↔ Right next l := bchk_right next l
def aheadN (next : Int) (l : List Sk) (k : Nat) : Int := if k = 0 then next else (l[k - 1]?.getD Sk.zero).n
def qB (next : Int) (l : List Sk) (k : Nat) : Bool := decide (aheadN next l k < (l[k]?.getD Sk.zero).n)
theorem fit_bgo (next : Int) (l : List Sk) : ∀ (m : List Sk) (k : Nat) (last : Int), l.drop k = m → next ≤ last → aheadN next l k = last → chkFit (qB next l) k m = bgo next last m
 | [], _, _, _, _, _ => rfl
 | x :: r, k, last, hd, hle, hl => by
  have hk : k < l.length := by
   by_cases h : k < l.length
   ·exact h
   ·rw [List.drop_eq_nil_of_le (by omega)] at hd; cases hd
  have hx : l[k]?.getD Sk.zero = x := by
   rw [List.drop_eq_getElem_cons hk] at hd
   injection hd with h1 h2
   rw [List.getElem?_eq_getElem hk, Option.getD_some, h1]
  have hr : l.drop (k + 1) = r := by
   rw [List.drop_eq_getElem_cons hk] at hd
   injection hd
  simp only [chkFit, bgo]
  by_cases hc : x.chk = 0
  ·rw [if_pos hc, if_pos hc]
   by_cases h2 : x.n ≤ next ∨ x.n ≤ last
   ·have hq : qB next l k = false := by unfold qB; rw [hl, hx]; exact decide_eq_false (by omega)
    rw [hq, if_pos h2]; simp
   ·have hq : qB next l k = true := by unfold qB; rw [hl, hx]; exact decide_eq_true (by omega)
    rw [hq, if_neg h2, if_pos rfl]
    exact fit_bgo next l r (k + 1) x.n hr (by omega) (by unfold aheadN; rw [if_neg (by omega), show k + 1 - 1 = k by omega, hx])
  ·rw [if_neg hc, if_neg hc]
theorem fit_all (next : Int) (l : List Sk) : chkFit (qB next l) 0 l = bgo next next l := fit_bgo next l l 0 next rfl (Int.le_refl _) rfl
set_option maxHeartbeats 1600000 in
theorem rises_any (next : Int) (v : Value) (l : List Sk) (k : Nat) (w : World) (hv : Sls w v l) (hk : k < l.length) (hlen : l.length ≤ 9223372036854775807) :
  Calls Tryz.prog 132 #[.agg #[.int .i64 next, v], .int .i64 k] w fun e w' => e = .returned (.bool (qB next l k)) ∧ Below w.heap.size w w' := by
 obtain ⟨ao, c, rfl, hc⟩ := (hv.alloc (.cells #[.int .i64 next, v] 24)).parts
 obtain ⟨n, hn⟩ : ∃ n, n = l.length := ⟨_, rfl⟩
 have hkn : k < n := by omega
 have hki : (k : Int) < (n : Int) := by omega
 have hln : n ≤ 9223372036854775807 := by omega
 rw [← hn] at hc ⊢
 obtain ⟨b, off, rfl, hb, hat⟩ := hc k hkn
 have hb' : b < w.heap.size := by
  obtain ⟨_, ⟨h0, _⟩ | ⟨b1, off1, c1, h1, h2, _⟩⟩ := hv
  ·omega
  ·simp only [Value.slice.injEq, Option.some.injEq, Addr.mk.injEq] at h1
   omega
 have c0 := hat.1
 obtain ⟨xn, hxn⟩ : ∃ xn, xn = (l[k]?.getD Sk.zero).n := ⟨_, rfl⟩
 rw [← hxn] at c0
 obtain ⟨q, hq⟩ : ∃ q, q = qB next l k := ⟨_, rfl⟩
 rw [← hq]
 cases k with
 | zero =>
  have hq' : q = decide (next < xn) := by rw [hq, hxn]; rfl
  have hn0 : (0 : Int) < (n : Int) := by omega
  have c0' : (w.alloc (.cells #[.int .i64 next, .slice (some ⟨b, off, none⟩) n c] 24)).cell? ⟨b, off, none⟩ = some (.int .i64 xn) := by simpa using c0
  rw [hq']
  clear hq hq' hxn hat hc c0 hn hv hk hki
  go_enter Tryz.func132, Tryz.ntmps132
  go_wp2
  go_quiet (fail)
  go_wp2
  go_ret
  exact ⟨rfl, below_drewN ((Below.refl _ _).alloc (Nat.le_refl _) _) _⟩
 | succ j =>
  obtain ⟨b2, off2, e2, hb2, hat2⟩ := hc j (by omega)
  simp only [Option.some.injEq, Addr.mk.injEq, and_true] at e2
  obtain ⟨rfl, rfl⟩ := e2
  have d0 := hat2.1
  obtain ⟨yn, hyn⟩ : ∃ yn, yn = (l[j]?.getD Sk.zero).n := ⟨_, rfl⟩
  rw [← hyn] at d0
  have hq' : q = decide (yn < xn) := by rw [hq, hxn, hyn]; unfold qB aheadN; rw [if_neg (by omega)]; simp
  have hji : (j : Int) < (n : Int) := by omega
  have hj1 : ((j + 1 : Nat) : Int) - 1 = (j : Int) := by omega
  rw [hq']
  clear hq hq' hxn hyn hat hat2 hc hn hv hk
  go_enter Tryz.func132, Tryz.ntmps132
  go_wp2
  go_quiet (fail)
  go_wp2
  go_ret
  exact ⟨rfl, below_drewN ((Below.refl _ _).alloc (Nat.le_refl _) _) _⟩
theorem hold_own {w : World} {base K n : Nat} {v u : Value} {xs : List Value} {C : Array Value} {i : Nat} (h : w.ownsRow base 106 7 v n xs) (hK : Blk w K C 194) (_hu : u = u) : (w.setCell ⟨K, i, none⟩ u).ownsRow base 106 7 v n xs :=
 owns_same h fun g hg => Below.heap_setCell w ⟨K, i, none⟩ u g (fun e => by
  obtain ⟨_, cur, h3⟩ := owns_blk h hg
  exact Apart_type hK h3 (by decide) e.symm)
set_option maxHeartbeats 2000000 in
set_option maxRecDepth 100000 in
theorem hold_rest (base K i n : Nat) (r next : Int) (hv ov : Value) (h : List Sk) (x : Sk) (w : World) (hn : n = h.length) (hK : Blk w K #[.int .i64 next, hv, ov] 194) (hown : w.ownsRow base 106 7 hv n (skCells h)) (hlen : n ≤ 100) (hbase : base ≤ w.heap.size) (hbK : base ≤ K)
  (hi : i ≤ n) (hr : (r = -1 ∧ i = n) ∨ r = (i : Int))
  (hcon : Calls Tryz.prog 175 #[hv, .func (.func 176) #[] #[.pointer (some ⟨w.heap.size, 0, none⟩)]] (w.alloc (.cells x.cells 106)) (fun e w' => e = .returned (.int .i64 r) ∧ Below (w.alloc (.cells x.cells 106)).heap.size (w.alloc (.cells x.cells 106)) w')) :
  Calls Tryz.prog 163 #[.pointer (some ⟨K, 0, none⟩), x.val] w fun e w' => e = .returned (.tuple #[]) ∧
   ∃ hv', Blk w' K #[.int .i64 next, hv', ov] 194 ∧ w'.ownsRow base 106 7 hv' (n + 1) (skCells (putAt h i x)) ∧ Below base w w' := by
 obtain ⟨c0, c1, c2⟩ := hK.three
 have hKw := hK.lt
 have HO : Hid (w.ownsRow base 106 7 hv n (skCells h)) := hown
 have HK : Hid (Blk w K #[.int .i64 next, hv, ov] 194) := hK
 have HN : Hid (n = h.length) := hn
 obtain ⟨a, c, hsl⟩ : ∃ a c, hv = .slice a n c := by rw [hn]; exact (Sls.of_owns (l := h) (by rw [← hn]; exact hown)).len
 have HX : Hid (Blk (w.alloc (.cells x.cells 106)) w.heap.size x.cells 106) := Blk.new w _ _
 obtain ⟨y, hy⟩ : ∃ y, y = x := ⟨_, rfl⟩
 have hyc : y.cells = x.cells := by rw [hy]
 have HY : Hid (y = x) := hy
 rw [← hyc] at HX
 obtain ⟨xn, seq, time, xf, xe, xk, xt⟩ := x
 simp only [Sk.cells, Sk.val] at hcon HX hyc ⊢
 clear hown hK hn hy
 subst hsl
 have hcy : Hid (Sk.cells y = #[.int .i64 xn, .int .i64 seq, .int .i64 time, .bool xf, .bool xe, .bool xk, .string xt]) := by show Sk.cells y = _; rw [HY.out]; rfl
 have hKne : ∀ (W : World), W.ownsRow base 106 7 (.slice a n c) n (skCells h) → Blk W K #[.int .i64 next, .slice a n c, ov] 194 → some K ≠ (Value.slice a n c).ownBlock := fun W h1 h2 e => by
  obtain ⟨_, cur, h3⟩ := owns_blk h1 e.symm
  exact Apart_type h2 h3 (by decide) rfl
 have KNE := @id (Hid _) hKne
 clear hKne hyc HX
 rcases hr with ⟨rfl, rfl⟩ | rfl
 ·go_enter Tryz.func163, Tryz.ntmps163
  go_wp2_with fail
  refine hcon.mono ?_
  rintro e w1 ⟨rfl, hbw⟩
  have hsz1 := hbw.size
  simp only [World.size_alloc] at hsz1
  have kw1 : Blk w1 K #[.int .i64 next, .slice a i c, ov] 194 := (HK.out.alloc _).below hbw (by simp; omega)
  have xw1 : Blk w1 w.heap.size #[.int .i64 xn, .int .i64 seq, .int .i64 time, .bool xf, .bool xe, .bool xk, .string xt] 106 := (Blk.new w _ _).below hbw (by simp)
  have ow1 : w1.ownsRow base 106 7 (.slice a i c) i (skCells h) := owns_below (HO.out.alloc _) hbw (Nat.le_refl _)
  have bw1 : Below w.heap.size w w1 := ((Below.refl _ w).alloc (Nat.le_refl _) _).trans (hbw.mono (by simp))
  obtain ⟨d0, d1, d2⟩ := kw1.three
  obtain ⟨e0, e1, e2, e3, e4, e5, e6⟩ := xw1.seven
  have hKw1 := kw1.lt
  have kne := KNE.out w1 ow1 kw1
  have ins : Hid (Calls Tryz.prog 177 #[.slice a i c, .int .i64 i, .slice (some ⟨w1.heap.size, 0, none⟩) 1 1] (w1.alloc (.cells #[.int .i64 xn, .int .i64 seq, .int .i64 time, .bool xf, .bool xe, .bool xk, .string xt] 106)).drew fun e w2 =>
    ∃ a' c', e = .returned (.slice a' (i + 1) c') ∧ w2.cell? ⟨K, 1, none⟩ = some (.slice a i c) ∧ w2.frozen? ⟨K, 1, none⟩ = false ∧ Hid (Blk w2 K #[.int .i64 next, .slice a i c, ov] 194 ∧ w2.ownsRow base 106 7 (.slice a' (i + 1) c') (i + 1) (skCells (putAt h i y)) ∧ Below base w w2)) := by
   show Calls _ _ _ _ _
   refine (insert_any base i i (.slice a i c) h y w1.heap.size (w1.alloc (.cells #[.int .i64 xn, .int .i64 seq, .int .i64 time, .bool xf, .bool xe, .bool xk, .string xt] 106)).drew HN.out (ow1.alloc _) (by omega) (by omega) (by simp; omega) (by rw [hcy.out]; exact Blk.new w1 _ _) (fun e => by have := (ow1.lt _ e).2; omega)).mono ?_
   rintro e w2 ⟨u, rfl, ho2, hg2⟩
   have k2 : Blk w2 K #[.int .i64 next, .slice a i c, ov] 194 := (hg2.block K (by simp; omega) kne).trans (kw1.alloc _)
   obtain ⟨a', c', rfl⟩ := Sl.len (Sl.of_owns ho2)
   exact ⟨a', c', rfl, k2.three.2.1, k2.free 1, k2, ho2, ((bw1.mono hbase).alloc (by have := bw1.size; omega) _).drew.grown hg2 (by simp; omega) (fun j hj => (ow1.lt j hj).1)⟩
  clear hbw kw1 xw1 c0 c1 c2 hcon ow1 bw1 HO HK kne
  go_wp2_with fail
  go_region_with (go_at_call 177; refine ins.out.mono ?_; rintro e w2 ⟨a', c', rfl, g1, g2, G⟩)
  all_goals
   go_end0
   refine ⟨rfl, .slice a' (i + 1) c', ?_, ?_, ?_⟩
   ·exact G.out.1.set 1 _
   ·rw [← HY.out]; exact hold_own G.out.2.1 G.out.1 rfl
   ·exact G.out.2.2.setCell (by exact hbK) _
 ·have hii : ¬ ((i : Int) < 0) := by omega
  go_enter Tryz.func163, Tryz.ntmps163
  go_wp2_with fail
  refine hcon.mono ?_
  rintro e w1 ⟨rfl, hbw⟩
  have hsz1 := hbw.size
  simp only [World.size_alloc] at hsz1
  have kw1 : Blk w1 K #[.int .i64 next, .slice a n c, ov] 194 := (HK.out.alloc _).below hbw (by simp; omega)
  have xw1 : Blk w1 w.heap.size #[.int .i64 xn, .int .i64 seq, .int .i64 time, .bool xf, .bool xe, .bool xk, .string xt] 106 := (Blk.new w _ _).below hbw (by simp)
  have ow1 : w1.ownsRow base 106 7 (.slice a n c) n (skCells h) := owns_below (HO.out.alloc _) hbw (Nat.le_refl _)
  have bw1 : Below w.heap.size w w1 := ((Below.refl _ w).alloc (Nat.le_refl _) _).trans (hbw.mono (by simp))
  obtain ⟨d0, d1, d2⟩ := kw1.three
  obtain ⟨e0, e1, e2, e3, e4, e5, e6⟩ := xw1.seven
  have hKw1 := kw1.lt
  have kne := KNE.out w1 ow1 kw1
  have ins : Hid (Calls Tryz.prog 177 #[.slice a n c, .int .i64 i, .slice (some ⟨w1.heap.size, 0, none⟩) 1 1] (w1.alloc (.cells #[.int .i64 xn, .int .i64 seq, .int .i64 time, .bool xf, .bool xe, .bool xk, .string xt] 106)).drew fun e w2 =>
    ∃ a' c', e = .returned (.slice a' (n + 1) c') ∧ w2.cell? ⟨K, 1, none⟩ = some (.slice a n c) ∧ w2.frozen? ⟨K, 1, none⟩ = false ∧ Hid (Blk w2 K #[.int .i64 next, .slice a n c, ov] 194 ∧ w2.ownsRow base 106 7 (.slice a' (n + 1) c') (n + 1) (skCells (putAt h i y)) ∧ Below base w w2)) := by
   show Calls _ _ _ _ _
   refine (insert_any base n i (.slice a n c) h y w1.heap.size (w1.alloc (.cells #[.int .i64 xn, .int .i64 seq, .int .i64 time, .bool xf, .bool xe, .bool xk, .string xt] 106)).drew HN.out (ow1.alloc _) (by omega) (by omega) (by simp; omega) (by rw [hcy.out]; exact Blk.new w1 _ _) (fun e => by have := (ow1.lt _ e).2; omega)).mono ?_
   rintro e w2 ⟨u, rfl, ho2, hg2⟩
   have k2 : Blk w2 K #[.int .i64 next, .slice a n c, ov] 194 := (hg2.block K (by simp; omega) kne).trans (kw1.alloc _)
   obtain ⟨a', c', rfl⟩ := Sl.len (Sl.of_owns ho2)
   exact ⟨a', c', rfl, k2.three.2.1, k2.free 1, k2, ho2, ((bw1.mono hbase).alloc (by have := bw1.size; omega) _).drew.grown hg2 (by simp; omega) (fun j hj => (ow1.lt j hj).1)⟩
  clear hbw kw1 xw1 c0 c1 c2 hcon ow1 bw1 HO HK kne
  go_wp2_with fail
  go_region_with (go_at_call 177; refine ins.out.mono ?_; rintro e w2 ⟨a', c', rfl, g1, g2, G⟩)
  all_goals
   go_end0
   refine ⟨rfl, .slice a' (n + 1) c', ?_, ?_, ?_⟩
   ·exact G.out.1.set 1 _
   ·rw [← HY.out]; exact hold_own G.out.2.1 G.out.1 rfl
   ·exact G.out.2.2.setCell (by exact hbK) _
set_option maxHeartbeats 2000000 in
set_option maxRecDepth 100000 in
theorem hold_any (base K : Nat) (next : Int) (hv ov : Value) (h : List Sk) (x : Sk) (w : World) (hK : Blk w K #[.int .i64 next, hv, ov] 194) (hown : w.ownsRow base 106 7 hv h.length (skCells h)) (hlen : h.length ≤ 100) (hbase : base ≤ w.heap.size) (hbK : base ≤ K) :
  Calls Tryz.prog 163 #[.pointer (some ⟨K, 0, none⟩), x.val] w fun e w' => e = .returned (.tuple #[]) ∧
   ∃ hv', Blk w' K #[.int .i64 next, hv', ov] 194 ∧ w'.ownsRow base 106 7 hv' (h.length + 1) (skCells (insF h x)) ∧ Below base w w' := by
 have eg : Enters Tryz.prog 176 := enters_of Tryz.func176 (by kernel_rfl) rfl
 have hcon := indexFunc_any 176 #[.pointer (some ⟨w.heap.size, 0, none⟩)] (fun y => decide (x.n < y.n)) eg hv h (w.alloc (.cells x.cells 106)) ((Sls.of_owns hown).alloc _) (by omega) (holdLit_tells x w.heap.size _ (by simp) (by simp [Sk.cells]))
 rcases idx_place h x with ⟨hix, hpx⟩ | hix
 ·rw [hix] at hcon
  exact hold_rest base K (place h x) h.length (-1) next hv ov h x w rfl hK hown hlen hbase hbK (place_le h x) (.inl ⟨rfl, hpx⟩) hcon
 ·rw [hix] at hcon
  exact hold_rest base K (place h x) h.length _ next hv ov h x w rfl hK hown hlen hbase hbK (place_le h x) (.inr rfl) hcon
end Go.Proofs.YtnpaejknoipicagGreat
