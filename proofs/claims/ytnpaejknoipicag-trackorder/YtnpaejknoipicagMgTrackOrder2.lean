/-
  A region that draws its order: steps that come in one order only, what is made of a step's answer, reads, and boxes, each of which may be made at any time.
-/
import Derived.Test.YtnpaejknoipicagMgTrackOrder1
import Derived.Lib.AppendZeros
import Derived.Test.YtnpaejknoipicagRegInv
import Derived.Test.YtnpaejknoipicagRegApp
import Derived.BigQuiet
import Derived.Deep.Cut
import Derived.Deep.DeepCutAuto
import Derived.Test.YtnpaejknoipicagFrameCheck
import Derived.Test.YtnpaejknoipicagWireMath
import Derived.Test.YtnpaejknoipicagBlocks
import Derived.Test.YtnpaejknoipicagSlotFits
import Derived.Test.YtnpaejknoipicagFrameChk
import Derived.Test.YtnpaejknoipicagFrameAdd
import Derived.Test.YtnpaejknoipicagRowAux

namespace Go.Proofs.Ytnpaejknoipicag
open Go.RowKit

theorem zeroCells_len (z : Array Value) (n : Nat) : (Builtin.zeroCells z n).size = n * z.size := by simp [Builtin.zeroCells]

section
variable {P : Program}
theorem grow_run (w : World) (T tn ty E : TypeId) (i : TypeInfo) (z : Value) (size bytes : Nat) (ht : P.underlying T = some (.slice E)) (htn : P.underlying tn = some (.int .i64)) (hi : P.info? E = some i) (hz : i.zero = some z) (hsize : i.size = size) (hby : i.bytes = bytes) (hzs : z.cells.size = size) (hsz : 0 < size)
    (n : Nat) (h0 : 0 < n) (hn : n ≤ 1000) (hb : bytes ≤ 1000) :
    ∃ cap w', (Builtin.append_ #[T, tn] ty #[.slice none 0 0, .int .i64 n]).run P w = .ok (.slice (some ⟨w.heap.size, 0, none⟩) n cap) w' ∧ n ≤ cap ∧ w'.ownsRow w.heap.size E size (.slice (some ⟨w.heap.size, 0, none⟩) 0 cap) 0 [] ∧ Below w.heap.size w w' := by
  have hnb : n * i.bytes ≤ 1000 * 1000 := by rw [hby]; exact Nat.mul_le_mul hn hb
  have r := Lib.run_append_nil_zeros (P := P) w T tn ty E i z .i64 .i64 ht htn hi hz n h0 (by omega) (by omega) (by omega)
  have hg := grownCap_ge w n 0 E
  refine ⟨_, _, r, hg, ⟨by simp, .inr ⟨w.heap.size, _, _, rfl, Nat.le_refl _, heap_alloc_new w.drew _, Nat.zero_le _, grownCap_le_maxLen w n 0 E (by unfold maxLen; omega), ?_, by simp⟩⟩, (Below.refl _ w).drew.alloc (Nat.le_refl _) _⟩
  rw [Array.size_append, zeroCells_len, zeroCells_len, hzs, ← Nat.add_mul]
  congr 1; omega
end

/-- append of a row of frames to a row of the call's own -/
theorem appFrs {base : Nat} {S : Nat → Prop} {w : World} {v u : Value} {l m : List Fr} (hv : OwnFrs base S w v l) (hu : FrsIn S w u m) (hS : ∀ g, S g → g < base) (hb : l.length + m.length ≤ 1000) (hbase : base ≤ w.heap.size) :
    ∃ v' w', (Builtin.append_ #[28, 28] 28 #[v, u]).run Try.prog w = .ok v' w' ∧ OwnFrs base S w' v' (l ++ m) ∧ Below base w w' := by
  obtain ⟨i0, hi, hz0, hz1, hz2⟩ := info_parts Try.infoFrm
  obtain ⟨ps, p1, p2, p3⟩ := hv
  obtain ⟨qs, q1, q2, q3⟩ := hu.sl
  have hps : ps.length = l.length := by rw [← p1, List.length_map]
  have hqs : qs.length = m.length := by rw [← q1, List.length_map]
  obtain ⟨v', w', r, o, g, _⟩ := run_append_any (P := Try.prog) w base 28 28 67 i0 _ 3 40 Try.underlying28 hi hz0 hz1 hz2 rfl (by decide) v ps.length (frCells ps) p2 qs.length (frCells qs) u q2 (fr_one2 q3) (by unfold maxLen; omega) (by omega) hbase
  have hs : SameOn S w w' := SameOn.grown g (fun g hg e => by have := (p2.lt g e.symm).1; have := hS g hg; omega)
  refine ⟨v', w', r, ⟨ps ++ qs, by rw [List.map_append, p1, q1], by rw [List.length_append, frCells_append]; exact o, fun p hp => ?_⟩, (Below.refl base w).grown g hbase (fun j hj => (p2.lt j hj).1)⟩
  rcases List.mem_append.1 hp with hp | hp
  · exact (p3 p hp).to hs (fun _ _ h => h)
  · exact (q3 p hp).to hs (fun _ _ h => h)
theorem appGrs {base : Nat} {S : Nat → Prop} {w : World} {v u : Value} {l m : List (List Fr)} (hv : OwnGrs base S w v l) (hu : GrsIn S w u m) (hS : ∀ g, S g → g < base) (hb : l.length + m.length ≤ 1000) (hbase : base ≤ w.heap.size) :
    ∃ v' w', (Builtin.append_ #[27, 27] 27 #[v, u]).run Try.prog w = .ok v' w' ∧ OwnGrs base S w' v' (l ++ m) ∧ Below base w w' := by
  obtain ⟨qs, q1, q2, q3⟩ := hu.sl
  obtain ⟨v', w', r, o, g, _⟩ := groups_app hv q1 q2 q3 (fun g hg e => by have := (hv.lt g e.symm).1; have := hS g hg; omega) hb hbase
  exact ⟨v', w', r, o, (Below.refl base w).grown g hbase (fun j hj => (hv.lt j hj).1)⟩

set_option maxHeartbeats 2000000 in
set_option maxRecDepth 100000 in
theorem growFrs_any (n : Nat) (w : World) (hn : n ≤ 1000) :
    Calls Try.prog 99 #[.slice none 0 0, .int .i64 n] w fun e w' => ∃ u, e = .returned u ∧ w'.ownsRow w.heap.size 67 3 u 0 [] ∧ Below w.heap.size w w' := by
  by_cases h0 : n = 0
  · subst h0
    go_enter Try.func99, Try.ntmps99
    go_wp2
    go_ret
    exact ⟨_, rfl, World.ownsRow_nil _ _ _ _, Below.refl _ _⟩
  · obtain ⟨i0, hi, hz0, hz1, hz2⟩ := info_parts Try.infoFrm
    obtain ⟨cap, w', r, hc, ho, hb⟩ := grow_run (P := Try.prog) w 28 3 28 67 i0 _ 3 40 Try.underlying28 Try.underlying3 hi hz0 hz1 hz2 rfl (by decide) n (by omega) hn (by decide)
    have HO : Hid (w'.ownsRow w.heap.size 67 3 (.slice (some ⟨w.heap.size, 0, none⟩) 0 cap) 0 []) := ho
    have HB : Hid (Below w.heap.size w w') := hb
    have h0i : (0 : Int) < (n : Int) := by omega
    have hw : IntKind.i64.wrap (n : Int) = (n : Int) := by rw [IntKind.wrap_i64]; omega
    clear ho hb hi hz0 hz1 hz2
    go_enter Try.func99, Try.ntmps99
    go_wp2_with (at_builtin; refine wpList_append_run rfl (.tmp 20) (.tmp 21) 28 3 rfl _ _ rfl rfl r ?_)
    go_ret
    exact ⟨_, rfl, HO.out, HB.out⟩

set_option maxHeartbeats 4000000 in
set_option maxRecDepth 100000 in
theorem concatFrs_any (S : Nat → Prop) (q : Nat) (av bv : Value) (l m : List Fr) (w : World) (hq0 : w.cell? ⟨q, 0, none⟩ = some av) (hq1 : w.cell? ⟨q, 1, none⟩ = some bv) (ha : FrsIn S w av l) (hb : FrsIn S w bv m) (hlen : l.length + m.length ≤ 1000) :
    Calls Try.prog 94 #[.slice (some ⟨q, 0, none⟩) 2 2] w fun e w' => ∃ u, e = .returned u ∧ OwnFrs w.heap.size (fun g => S g ∧ g < w.heap.size) w' u (l ++ m) ∧ Below w.heap.size w w' := by
  have hqw : q < w.heap.size := block_lt_of_cell hq0
  have HA : Hid (FrsIn (fun g => S g ∧ g < w.heap.size) w av l) := ha.mono fun g hg hs => ⟨hs, hg⟩
  have HB' : Hid (FrsIn (fun g => S g ∧ g < w.heap.size) w bv m) := hb.mono fun g hg hs => ⟨hs, hg⟩
  obtain ⟨aa, ac, ea, _, _⟩ := ha.len
  obtain ⟨ba, bc, eb, _, _⟩ := hb.len
  obtain ⟨la, hla⟩ : ∃ n, n = l.length := ⟨_, rfl⟩
  obtain ⟨lb, hlb⟩ : ∃ n, n = m.length := ⟨_, rfl⟩
  have HLA : Hid (la = l.length) := hla
  have HLB : Hid (lb = m.length) := hlb
  rw [← hla] at ea hlen
  rw [← hlb] at eb hlen
  clear ha hb hla hlb
  subst ea eb
  go_enter Try.func94, Try.ntmps94
  go_wp2_with fail
  go_loopw [3, 11] (fun s i wr => ∃ k y : Nat, ((k = 0 ∧ y = 0) ∨ (k = 1 ∧ y = la) ∨ (k = 2 ∧ y = la + lb)) ∧ i = .int .i64 k ∧ s = .int .i64 y ∧ w = wr)
    (fun _ i _ => 2 - (intOf i).toNat)
  case atStart => exact ⟨0, 0, .inl ⟨rfl, rfl⟩, rfl, rfl, rfl⟩
  case round =>
    obtain ⟨k, y, hk, rfl, rfl, rfl⟩ := hrel
    rcases hk with ⟨rfl, rfl⟩ | ⟨rfl, rfl⟩ | ⟨rfl, rfl⟩
    · go_wp2_with fail
      go_roundw
      case rel => exact ⟨1, la, .inr (.inl ⟨rfl, rfl⟩), by go_num, by go_num, by first | rfl | trivial⟩
      case measure => simp [intOf]
    · go_wp2_with fail
      go_roundw
      case rel => exact ⟨2, y + lb, .inr (.inr ⟨rfl, rfl⟩), by go_num, by go_num, by first | rfl | trivial⟩
      case measure => simp [intOf]
    · have HG : Hid (∀ U : World, Calls Try.prog 99 #[.slice none 0 0, .int .i64 ((la : Int) + (lb : Int))] U fun e w' => ∃ u, e = .returned u ∧ Hid (w'.ownsRow U.heap.size 67 3 u 0 []) ∧ Below U.heap.size U w') := fun U => by
        have := growFrs_any (la + lb) U hlen
        rw [show ((la + lb : Nat) : Int) = (la : Int) + (lb : Int) by omega] at this
        exact this
      go_wp2_with fail
      refine (HG.out _).mono ?_
      rintro e w1 ⟨u1, rfl, HO1, hb1⟩
      have B1 : Hid (Below w.heap.size w w1) := hb1
      have O1 : Hid (OwnFrs w.heap.size (fun g => S g ∧ g < w.heap.size) w1 u1 []) := ⟨[], rfl, HO1.out, fun _ hp => absurd hp List.not_mem_nil⟩
      have CQ : Hid (∀ U, Below w.heap.size w U → U.cell? ⟨q, 0, none⟩ = some (.slice aa la ac) ∧ U.cell? ⟨q, 1, none⟩ = some (.slice ba lb bc)) := fun U hU => ⟨(hU.cell (p := ⟨q, 0, none⟩) hqw).trans hq0, (hU.cell (p := ⟨q, 1, none⟩) hqw).trans hq1⟩
      clear hb1 HO1 HG hq0 hq1
      go_wp2_with fail
      go_loopw [6, 27] (fun u i w2 => ∃ k : Nat, k ≤ 2 ∧ i = .int .i64 k ∧ Hid (OwnFrs w.heap.size (fun g => S g ∧ g < w.heap.size) w2 u (if k = 0 then [] else if k = 1 then l else l ++ m)) ∧ Hid (Below w.heap.size w w2))
        (fun _ i _ => 2 - (intOf i).toNat)
      case atStart => exact ⟨0, by omega, rfl, O1, B1⟩
      case round =>
        obtain ⟨k, hk, rfl, HO, HB⟩ := hrel
        have hk3 : k = 0 ∨ k = 1 ∨ k = 2 := by omega
        obtain ⟨c0, c1⟩ := CQ.out _ HB.out
        rcases hk3 with rfl | rfl | rfl
        · have ho : OwnFrs w.heap.size (fun g => S g ∧ g < w.heap.size) wr u6 [] := HO.out
          obtain ⟨v', w3, r3, o3, b3⟩ := appFrs ho (HA.out.below HB.out) (fun g hg => hg.2) (by rw [← HLA.out]; simp; omega) HB.out.size
          have O3 : Hid (OwnFrs w.heap.size (fun g => S g ∧ g < w.heap.size) w3 v' l) := by simpa [Hid] using o3
          have B3 : Hid (Below w.heap.size w w3) := HB.out.trans b3
          clear o3 b3 ho HO HB
          go_wp2_with (at_builtin; refine wpList_append_run rfl (.tmp 31) (.tmp 32) 28 28 rfl _ _ rfl rfl r3 ?_)
          go_roundw
          case rel => exact ⟨1, by omega, by go_num, O3, B3⟩
          case measure => simp [intOf]
        · have ho : OwnFrs w.heap.size (fun g => S g ∧ g < w.heap.size) wr u6 l := HO.out
          obtain ⟨v', w3, r3, o3, b3⟩ := appFrs ho (HB'.out.below HB.out) (fun g hg => hg.2) (by rw [← HLA.out, ← HLB.out]; omega) HB.out.size
          have O3 : Hid (OwnFrs w.heap.size (fun g => S g ∧ g < w.heap.size) w3 v' (l ++ m)) := o3
          have B3 : Hid (Below w.heap.size w w3) := HB.out.trans b3
          clear o3 b3 ho HO HB
          go_wp2_with (at_builtin; refine wpList_append_run rfl (.tmp 31) (.tmp 32) 28 28 rfl _ _ rfl rfl r3 ?_)
          go_roundw
          case rel => exact ⟨2, by omega, by go_num, O3, B3⟩
          case measure => simp [intOf]
        · have ho : OwnFrs w.heap.size (fun g => S g ∧ g < w.heap.size) wr u6 (l ++ m) := HO.out
          go_wp2
          go_ret
          exact ⟨_, rfl, ho, HB.out⟩

end Go.Proofs.Ytnpaejknoipicag

namespace Go.Proofs.Ytnpaejknoipicag
open Go.RowKit

/-- groups of a store, the open one, too -/
def allG (L : List (List Fr)) (O : List Fr) : List (List Fr) := if 0 < O.length then L ++ [O] else L

theorem GrsIn.one {S : Nat → Prop} {w : World} {b : Nat} {O : List Fr} {ov : Value} (hb : Blk w b #[ov] 30) (hS : S b) (ho : FrsIn S w ov O) : GrsIn S w (.slice (some ⟨b, 0, none⟩) 1 1) [O] := by
  refine ⟨some ⟨b, 0, none⟩, 1, rfl, Nat.le_refl _, by omega, fun k hk => ⟨b, 0, rfl, hb.lt, hS, ov, ?_⟩⟩
  have : k = 0 := by simpa using hk
  subst this
  exact ⟨hb.one, ho⟩

end Go.Proofs.Ytnpaejknoipicag

namespace Go.Proofs.Ytnpaejknoipicag
open Go.RowKit

section
variable {P : Program} {Q : Exit → Act → World → Prop}

/-- operations in the text's order -/
def tl (P : Program) (Q : Exit → Act → World → Prop) : List Oper → Act → World → Prop
  | [], a, w => Q .normal a w
  | o :: r, a, w => o.wp P a w (fun a' w' => tl P Q r a' w') Q

/-- (a structure of its own: nothing looks into it unasked) -/
structure TL (P : Program) (Q : Exit → Act → World → Prop) (l : List Oper) (a : Act) (w : World) : Prop where
  out : tl P Q l a w

/-- each of the last ones waits for all ahead of it -/
def tailB (n : Nat) (l : List Oper) : Bool := (List.range l.length).all fun i => decide (i < n) || (match l[i]? with | none => false | some o => (List.range i).all fun j => o.after.toList.any fun e => e.on == j && Region.binds .any e)
def regOkT (l : List Oper) : Bool := l.all (fun o => o.guard.isNone) && (l.zipIdx.all fun p => p.1.after.all fun e => decide (e.on < p.2) || !(Region.binds .any e))

theorem tailB_spec {n : Nat} {l : List Oper} (h : tailB n l = true) {i : Nat} {o : Oper} (ho : l[i]? = some o) (hn : n ≤ i) {L : Array Bool} (hr : ∀ e ∈ o.after, Region.binds .any e = true → L.getD e.on false = true) : ∀ j, j < i → L.getD j false = true := by
  intro j hj
  have hi : i < l.length := (List.getElem?_eq_some_iff.1 ho).1
  have h1 := List.all_eq_true.1 h i (List.mem_range.2 hi)
  simp only [Bool.or_eq_true, decide_eq_true_eq] at h1
  rcases h1 with h1 | h1
  · omega
  · rw [ho] at h1
    have h2 := List.all_eq_true.1 h1 j (List.mem_range.2 hj)
    obtain ⟨e, he, h3⟩ := List.any_eq_true.1 h2
    simp only [Bool.and_eq_true, beq_iff_eq] at h3
    rw [← h3.1]; exact hr e (by simpa using he) h3.2

theorem rep_no (n j : Nat) : (Array.replicate n false).getD j false = false := by
  simp [Array.getD_eq_getD_getElem?, Array.getElem?_replicate]; split <;> rfl

theorem wp_region_tail {id : Nat} {a : Act} {w : World} {l t : List Oper} (hm : P.follows .mixedOrders = true) (hd : dstsApart l = true) (hB : regOkT (l ++ t) = true) (hT : tailB l.length (l ++ t) = true) (F : Array Bool → (Nat → Value) → World → Prop)
    (h0 : F (Array.replicate l.length false) (fun _ => undef) { w with drawn := w.drawn + 1 })
    (hstep : ∀ L vs w', F L vs w' → ∀ (i : Nat) (o : Oper), l[i]? = some o → L[i]? = some false → (∀ e ∈ o.after, Region.binds .any e = true → L.getD e.on false = true) →
      o.wp P (putL L vs 0 l a) w' (fun a' w'' => ∃ v, a' = (putL L vs 0 l a).put o.dst v ∧ F (L.setIfInBounds i true) (upd vs i v) w'') Q)
    (hend : ∀ L vs w', F L vs w' → (∀ i, i < l.length → L.getD i false = true) → tl P Q t (putL L vs 0 l a) w') : (Code.region id (l ++ t).toArray true).wp P Q a w := by
  simp only [regOkT, Bool.and_eq_true] at hB
  obtain ⟨hg, hA⟩ := hB
  have hAft : ∀ (i : Nat) (o : Oper), (l ++ t).toArray[i]? = some o → ∀ e ∈ o.after, Region.binds .any e = true → e.on < i := fun i o ho e he hb => by
    have h1 : (o, i) ∈ (l ++ t).zipIdx := by
      rw [List.mem_zipIdx_iff_getElem?]; simpa using ho
    have h2 := List.all_eq_true.1 hA _ h1
    rw [Array.all_eq_true_iff_forall_mem] at h2
    simpa [hb] using h2 e he
  refine wp_region_any hm ?_
  refine wpAny_inv (md := .any) (fun L a' w' => (∃ L1 vs, L1.size = l.length ∧ (∀ j, j < l.length → L.getD j false = L1.getD j false) ∧ (∀ j, l.length ≤ j → L.getD j false = false) ∧ a' = putL L1 vs 0 l a ∧ F L1 vs w') ∨ (∃ k, k ≤ t.length ∧ 0 < k ∧ (∀ j, j < l.length + k → L.getD j false = true) ∧ (∀ j, l.length + k ≤ j → L.getD j false = false) ∧ tl P Q (t.drop k) a' w')) ?_ ?_ ?_ _ _ _ _ (by simp) ?_ ?_
  · intro o ho
    have := List.all_eq_true.1 hg o (by simpa using ho)
    simpa using this
  · rintro L a' w' hs hI i o ho hL hrdy
    have ho' : (l ++ t)[i]? = some o := by simpa using ho
    have hLi : L.getD i false = false := by simp [Array.getD_eq_getD_getElem?, hL]
    have hit : i < l.length + t.length := by have := (List.getElem?_eq_some_iff.1 ho').1; simpa using this
    have next : ∀ k, k < t.length → i = l.length + k → (∀ j, j < i → L.getD j false = true) → (∀ j, i < j → L.getD j false = false) → tl P Q (t.drop k) a' w' → o.wp P a' w' (fun a'' w'' => (∃ L1 vs, L1.size = l.length ∧ (∀ j, j < l.length → (L.setIfInBounds i true).getD j false = L1.getD j false) ∧ (∀ j, l.length ≤ j → (L.setIfInBounds i true).getD j false = false) ∧ a'' = putL L1 vs 0 l a ∧ F L1 vs w'') ∨ (∃ k, k ≤ t.length ∧ 0 < k ∧ (∀ j, j < l.length + k → (L.setIfInBounds i true).getD j false = true) ∧ (∀ j, l.length + k ≤ j → (L.setIfInBounds i true).getD j false = false) ∧ tl P Q (t.drop k) a'' w'')) Q := fun k hk hik h1 h2 h3 => by
      have hok : t.drop k = o :: t.drop (k + 1) := by
        have e : t[k]? = some o := by
          rw [List.getElem?_append_right (by omega)] at ho'
          rw [← ho']; congr 1; omega
        rw [List.drop_eq_getElem_cons hk]
        congr 1
        rw [List.getElem?_eq_getElem hk] at e
        injection e
      rw [hok] at h3
      refine Oper.wp_mono (fun a'' w'' h => ?_) h3
      refine .inr ⟨k + 1, hk, by omega, fun j hj => ?_, fun j hj => ?_, h⟩
      · by_cases e : j = i
        · subst e; exact getD_set_at hL _
        · rw [getD_set_other e]; exact h1 j (by omega)
      · rw [getD_set_other (by omega)]; exact h2 j (by omega)
    rcases hI with ⟨L1, vs, hs1, hj1, hj2, rfl, hF⟩ | ⟨k, hk, hk0, hj1, hj2, ht⟩
    · by_cases hi : i < l.length
      · have hl : l[i]? = some o := by rw [List.getElem?_append_left hi] at ho'; exact ho'
        have hL1 : L1[i]? = some false := by
          have h1 := hj1 i hi
          rw [hLi] at h1
          have h2 : i < L1.size := by omega
          rw [Array.getElem?_eq_getElem h2]
          simp [Array.getD_eq_getD_getElem?, h2] at h1
          rw [h1]
        have hsub : ∀ e ∈ o.after, Region.binds .any e = true → L1.getD e.on false = true := fun e he hb => by
          have := hAft i o ho e he hb
          rw [← hj1 e.on (by omega)]; exact hrdy e he hb
        refine Oper.wp_mono (fun a'' w'' ⟨v, h1, h2⟩ => ?_) (hstep L1 vs w' hF i o hl hL1 hsub)
        · refine .inl ⟨L1.setIfInBounds i true, upd vs i v, by simpa using hs1, fun j hj => ?_, fun j hj => ?_, by rw [h1, putL_set hL1 l 0 a o hd (Nat.zero_le _) (by simpa using hl)], h2⟩
          · by_cases e : j = i
            · subst e; rw [getD_set_at hL, getD_set_at hL1]
            · rw [getD_set_other e, getD_set_other e]; exact hj1 j hj
          · rw [getD_set_other (by omega)]; exact hj2 j hj
      · have hall := tailB_spec hT ho' (by omega) hrdy
        have hin : i = l.length := by
          by_cases h : i = l.length
          · exact h
          · have h1 := hall l.length (by omega)
            rw [hj2 _ (Nat.le_refl _)] at h1; cases h1
        refine next 0 (by omega) (by omega) hall (fun j hj => hj2 j (by omega)) ?_
        exact hend L1 vs w' hF (fun j hj => by rw [← hj1 j hj]; exact hall j (by omega))
    · have hik : l.length + k ≤ i := by
        by_cases h : i < l.length + k
        · rw [hj1 i h] at hLi; cases hLi
        · omega
      have hall := tailB_spec hT ho' (by omega) hrdy
      have hin : i = l.length + k := by
        by_cases h : i = l.length + k
        · exact h
        · have h1 := hall (l.length + k) (by omega)
          rw [hj2 _ (Nat.le_refl _)] at h1; cases h1
      exact next k (by omega) hin hall (fun j hj => hj2 j (by omega)) ht
  · rintro L a' w' hs hI hr
    have hall : ∀ i, i < l.length + t.length → L.getD i false = true := fun i hi => by
      have := ready_nil hs hAft hr i (by simpa using hi)
      simp [Array.getD_eq_getD_getElem?, this]
    rcases hI with ⟨L1, vs, hs1, hj1, hj2, rfl, hF⟩ | ⟨k, hk, hk0, hj1, hj2, ht⟩
    · have ht0 : t = [] := by
        cases t with
        | nil => rfl
        | cons o r =>
          have h1 := hall l.length (by simp)
          rw [hj2 _ (Nat.le_refl _)] at h1; cases h1
      subst ht0
      exact hend L1 vs w' hF (fun j hj => by rw [← hj1 j hj]; exact hall j (by simpa using hj))
    · have hkt : k = t.length := by
        by_cases h : k = t.length
        · exact h
        · have h1 := hall (l.length + k) (by omega)
          rw [hj2 _ (Nat.le_refl _)] at h1; cases h1
      subst hkt
      simpa [tl] using ht
  · simp only [left]; exact Nat.le_trans List.countP_le_length (by simp)
  · refine .inl ⟨Array.replicate l.length false, fun _ => undef, by simp, fun j hj => ?_, fun j hj => ?_, ?_, h0⟩
    · rw [rep_no, rep_no]
    · exact rep_no _ _
    · have : ∀ (m : List Oper) (k : Nat) (a : Act), a = putL (Array.replicate l.length false) (fun _ => undef) k m a := by
        intro m
        induction m with
        | nil => intro k a; rfl
        | cons o r ih =>
          intro k a
          simp only [putL]
          rw [if_neg (by simp [Array.getD_eq_getD_getElem?, Array.getElem?_replicate]; split <;> simp)]
          exact ih (k + 1) a
      exact this l 0 a
end
end Go.Proofs.Ytnpaejknoipicag

namespace Go.Proofs.Ytnpaejknoipicag
open Go.RowKit

section
variable {P : Program} {Q : Exit → Act → World → Prop}

theorem tl_ok {o : Oper} {r : List Oper} {a : Act} {w w' : World} (v : Value) (h : (execOp a.eval o).run P w = .ok (.value v) w') (k : TL P Q r (a.put o.dst v) w') : TL P Q (o :: r) a w := ⟨oper_wp_ok h k.out⟩
theorem tl_skip {o : Oper} {r : List Oper} {a : Act} {w : World} (w' : World) (h : (execOp a.eval o).run P w = .ok .skip w') (k : TL P Q r (a.put o.dst undef) w') : TL P Q (o :: r) a w := ⟨by
  show o.wp P a w _ Q
  unfold Oper.wp; rw [h]; exact k.out⟩
theorem tl_skip2 {o : Oper} {r : List Oper} {a : Act} {w : World} (w' : World) (s1 s2 : Operand) (x1 x2 : Value) (e1 : a.eval s1 = x1) (e2 : a.eval s2 = x2) (h : ∀ ρ : Operand → Value, ρ s1 = x1 → ρ s2 = x2 → (execOp ρ o).run P w = .ok .skip w') (k : TL P Q r (a.put o.dst undef) w') : TL P Q (o :: r) a w := tl_skip w' (h _ e1 e2) k
theorem tl_ok0 {o : Oper} {r : List Oper} {a : Act} {w w' : World} (v : Value) (h : ∀ ρ : Operand → Value, (execOp ρ o).run P w = .ok (.value v) w') (k : TL P Q r (a.put o.dst v) w') : TL P Q (o :: r) a w := tl_ok v (h _) k
theorem tl_ok1 {o : Oper} {r : List Oper} {a : Act} {w w' : World} (v : Value) (s1 : Operand) (x1 : Value) (e1 : a.eval s1 = x1) (h : ∀ ρ : Operand → Value, ρ s1 = x1 → (execOp ρ o).run P w = .ok (.value v) w') (k : TL P Q r (a.put o.dst v) w') : TL P Q (o :: r) a w := tl_ok v (h _ e1) k
theorem tl_end {a : Act} {w : World} (h : Q .normal a w) : TL P Q [] a w := ⟨h⟩

/-- what is known of those that came -/
structure App3 (h7 : Value → Value) (W : World) (E : TypeId) (size n : Nat) (cells xc : List Value) (v1 v2 v4 : Value) (ls : Nat → Bool) (vs : Nat → Value) (w : World) : Prop where
  below : Below W.heap.size W w
  f0 : ls 0 = true → ls 3 = false → ∃ g, vs 0 = .slice (some ⟨g, 0, none⟩) 0 0 ∧ W.heap.size ≤ g ∧ Blk w g #[] E
  f1 : ls 1 = true → vs 1 = v1
  f2 : ls 2 = true → vs 2 = v2
  f3 : ls 3 = true → ls 6 = false → w.ownsRow W.heap.size E size (vs 3) n cells
  f4 : ls 4 = true → vs 4 = v4
  f5 : ls 5 = true → ls 6 = false → ∃ g, vs 5 = .slice (some ⟨g, 0, none⟩) 1 1 ∧ W.heap.size ≤ g ∧ Blk w g xc.toArray E ∧ (ls 3 = true → (vs 3).ownBlock ≠ some g)
  f6 : ls 6 = true → w.ownsRow W.heap.size E size (vs 6) (n + 1) (cells ++ xc) ∧ ls 3 = true ∧ ls 5 = true
  f7 : ls 7 = true → vs 7 = h7 (vs 6) ∧ ls 6 = true

theorem region_app3 {id : Nat} {a : Act} {w : World} {o0 o1 o2 o3 o4 o5 o6 o7 : Oper} {t : List Oper} (h7 : Value → Value) (hm : P.follows .mixedOrders = true)
    (hap : dstsApart [o0, o1, o2, o3, o4, o5, o6, o7] = true) (hB : regOkT ([o0, o1, o2, o3, o4, o5, o6, o7] ++ t) = true) (hT : tailB 8 ([o0, o1, o2, o3, o4, o5, o6, o7] ++ t) = true)
    (hw : (waits [o0, o1, o2, o3, o4, o5, o6, o7] 2 1 && waits [o0, o1, o2, o3, o4, o5, o6, o7] 3 0 && waits [o0, o1, o2, o3, o4, o5, o6, o7] 3 2 && waits [o0, o1, o2, o3, o4, o5, o6, o7] 5 4 && waits [o0, o1, o2, o3, o4, o5, o6, o7] 6 3 && waits [o0, o1, o2, o3, o4, o5, o6, o7] 6 5 && waits [o0, o1, o2, o3, o4, o5, o6, o7] 7 6) = true)
    (T E : TypeId) (i : TypeInfo) (z : Value) (size bytes : Nat) (ht : P.underlying T = some (.slice E)) (hi : P.info? E = some i) (hz : i.zero = some z) (hsize : i.size = size) (hby : i.bytes = bytes) (hzs : z.cells.size = size) (hsz : 0 < size)
    (k0 k1 k2 k3 k4 k5 k6 k7 sb : Nat) (d0 : o0.dst = some k0) (d1 : o1.dst = some k1) (d2 : o2.dst = some k2) (d3 : o3.dst = some k3) (d4 : o4.dst = some k4) (d5 : o5.dst = some k5) (d6 : o6.dst = some k6) (d7 : o7.dst = some k7)
    (hsz1 : ([k0, k1, k2, k3, k4, k5, k6, k7].all fun k => decide (k < a.tmps.size)) = true)
    (n : Nat) (cells : List Value) (v2 : Value) (happ : App1 P w T E o3.type size n cells v2)
    (xc : List Value) (hxl : xc.length = size) (hx1 : ∀ u ∈ xc, u.oneCell' = true)
    (v1 v4 : Value) (sx : Nat)
    (hsb : ([k0, k1, k2, k3, k4, k5, k6, k7].all fun k => decide (k ≠ sb) && decide (k ≠ sx)) = true)
    (r0 : ∀ (a' : Act) (w' : World), (execOp a'.eval o0).run P w' = .ok (.value (.slice (some ⟨w'.heap.size, 0, none⟩) 0 0)) (w'.alloc (.cells #[] E)))
    (r1 : ∀ (a' : Act) (w' : World), a'.eval (.tmp sb) = a.eval (.tmp sb) → (execOp a'.eval o1).run P w' = .ok (.value v1) w')
    (r2 : ∀ (a' : Act) (w' : World), a'.eval (.tmp k1) = v1 → Below w.heap.size w w' → (execOp a'.eval o2).run P w' = .ok (.value v2) w')
    (r3 : o3.op = .call { callee := .builtin .append, args := #[.tmp k0, .tmp k2], argTypes := #[T, T] })
    (r4 : ∀ (a' : Act) (w' : World), a'.eval (.tmp sx) = a.eval (.tmp sx) → Below w.heap.size w w' → (execOp a'.eval o4).run P w' = .ok (.value v4) w')
    (r5 : ∀ (a' : Act) (w' : World), a'.eval (.tmp k4) = v4 → (execOp a'.eval o5).run P w' = .ok (.value (.slice (some ⟨w'.heap.size, 0, none⟩) 1 1)) (w'.alloc (.cells xc.toArray E)))
    (r6 : o6.op = .call { callee := .builtin .append, args := #[.tmp k3, .tmp k5], argTypes := #[T, T] })
    (r7 : ∀ (a' : Act) (w' : World) (x : Option Addr) (c : Nat), a'.eval (.tmp k6) = .slice x (n + 1) c → (execOp a'.eval o7).run P w' = .ok (.value (h7 (.slice x (n + 1) c))) w')
    (h63 : n + 1 ≤ maxLen) (hbytes : (n + 1) * bytes ≤ 140737488355328)
    (hend : ∀ (u0 u3 u5 v : Value) (w' : World), w'.ownsRow w.heap.size E size v (n + 1) (cells ++ xc) → Below w.heap.size w w' →
      TL P Q t ((((((((a.put o0.dst u0).put o1.dst v1).put o2.dst v2).put o3.dst u3).put o4.dst v4).put o5.dst u5).put o6.dst v).put o7.dst (h7 v)) w') :
    (Code.region id ([o0, o1, o2, o3, o4, o5, o6, o7] ++ t).toArray true).wp P Q a w := by
  simp only [Bool.and_eq_true] at hw
  obtain ⟨⟨⟨⟨⟨⟨w21, w30⟩, w32⟩, w54⟩, w63⟩, w65⟩, w76⟩ := hw
  simp only [List.all_cons, List.all_nil, Bool.and_true, Bool.and_eq_true, decide_eq_true_eq] at hsz1 hsb
  obtain ⟨z0, z1, z2, z3, z4, z5, z6, z7⟩ := hsz1
  obtain ⟨⟨q0, y0⟩, ⟨q1, y1⟩, ⟨q2, y2⟩, ⟨q3, y3⟩, ⟨q4, y4⟩, ⟨q5, y5⟩, ⟨q6, y6⟩, q7, y7⟩ := hsb
  have hval : ∀ (L : Array Bool) (vs : Nat → Value) (j : Nat) (o : Oper) (k : Nat), [o0, o1, o2, o3, o4, o5, o6, o7][j]? = some o → o.dst = some k → k < a.tmps.size → L.getD j false = true → (putL L vs 0 [o0, o1, o2, o3, o4, o5, o6, o7] a).eval (.tmp k) = vs j :=
    fun L vs j o k h1 h2 h3 h4 => putL_at h4 _ 0 a o hap (Nat.zero_le _) (by simpa using h1) h2 h3
  have hoth : ∀ (L : Array Bool) (vs : Nat → Value) (s : Nat), k0 ≠ s → k1 ≠ s → k2 ≠ s → k3 ≠ s → k4 ≠ s → k5 ≠ s → k6 ≠ s → k7 ≠ s → (putL L vs 0 [o0, o1, o2, o3, o4, o5, o6, o7] a).eval (.tmp s) = a.eval (.tmp s) :=
    fun L vs s e0 e1 e2 e3 e4 e5 e6 e7 => putL_other _ 0 a (fun p hp t ht e => by
      injection e with e
      subst e
      simp only [List.mem_cons, List.not_mem_nil, or_false] at hp
      rcases hp with rfl | rfl | rfl | rfl | rfl | rfl | rfl | rfl
      · rw [d0] at ht; injection ht with ht; exact e0 ht
      · rw [d1] at ht; injection ht with ht; exact e1 ht
      · rw [d2] at ht; injection ht with ht; exact e2 ht
      · rw [d3] at ht; injection ht with ht; exact e3 ht
      · rw [d4] at ht; injection ht with ht; exact e4 ht
      · rw [d5] at ht; injection ht with ht; exact e5 ht
      · rw [d6] at ht; injection ht with ht; exact e6 ht
      · rw [d7] at ht; injection ht with ht; exact e7 ht)
  refine wp_region_tail (t := t) hm hap hB hT (fun L vs w' => App3 h7 w E size n cells xc v1 v2 v4 (fun j => L.getD j false) vs w') ?_ ?_ ?_
  · have hno : ∀ j, ¬ (Array.replicate [o0, o1, o2, o3, o4, o5, o6, o7].length false).getD j false = true := fun j => by
      simp [Array.getD_eq_getD_getElem?, Array.getElem?_replicate]; split <;> simp
    exact ⟨⟨rfl, rfl, rfl, Nat.le_refl _, fun _ _ => rfl⟩, fun h => absurd h (hno 0), fun h => absurd h (hno 1), fun h => absurd h (hno 2), fun h => absurd h (hno 3), fun h => absurd h (hno 4), fun h => absurd h (hno 5), fun h => absurd h (hno 6), fun h => absurd h (hno 7)⟩
  · intro L vs w' F j o ho hL hr
    have nj : L.getD j false = false := by simpa using listed_no hL
    have hset := setfun hL
    have hv := hval L vs
    have ho2 := hoth L vs
    have hwt : ∀ k, waits [o0, o1, o2, o3, o4, o5, o6, o7] j k = true → L.getD k false = true := fun k hk => waits_spec hk ho hr
    rw [hset]
    clear hset hr hL
    obtain ⟨ls, hls⟩ : ∃ ls : Nat → Bool, ls = fun j => L.getD j false := ⟨_, rfl⟩
    have hlsj : ∀ j, L.getD j false = ls j := fun j => by rw [hls]
    simp only [hlsj] at F nj hv hwt ⊢
    obtain ⟨fb, f0, f1, f2, f3, f4, f5, f6, f7⟩ := F
    match j, ho with
    | 0, ho =>
      simp at ho; subst ho
      refine oper_wp_ok (r0 _ w') ⟨_, rfl, ?_⟩
      have hb : Below w'.heap.size w' (w'.alloc (.cells #[] E)) := (Below.refl _ _).alloc (Nat.le_refl _) _
      refine ⟨fb.trans (hb.mono fb.size), fun _ _ => ⟨w'.heap.size, by rw [upd_at], fb.size, Blk.new _ _ _⟩, by simpa [upd] using f1, by simpa [upd] using f2, ?_, by simpa [upd] using f4, ?_, ?_, by simpa [upd] using f7⟩
      · simp only [upd]; simp; exact fun h1 h2 => (f3 h1 h2).alloc _
      · simp only [upd]; simp
        intro h1 h2
        obtain ⟨g, e1, e2, e3, e4⟩ := f5 h1 h2
        exact ⟨g, e1, e2, e3.alloc _, e4⟩
      · simp only [upd]; simp; exact fun h1 => ⟨(f6 h1).1.alloc _, (f6 h1).2⟩
    | 1, ho =>
      simp at ho; subst ho
      refine oper_wp_ok (r1 _ w' (ho2 _ q0 q1 q2 q3 q4 q5 q6 q7)) ⟨_, rfl, ?_⟩
      exact ⟨fb, by simpa [upd] using f0, by simp [upd], by simpa [upd] using f2, by simpa [upd] using f3, by simpa [upd] using f4, by simpa [upd] using f5, by simpa [upd] using f6, by simpa [upd] using f7⟩
    | 2, ho =>
      simp at ho; subst ho
      have l1 := hwt 1 w21
      refine oper_wp_ok (r2 _ w' ((hv 1 _ k1 rfl d1 z1 l1).trans (f1 l1)) fb) ⟨_, rfl, ?_⟩
      exact ⟨fb, by simpa [upd] using f0, by simpa [upd] using f1, by simp [upd], by simpa [upd] using f3, by simpa [upd] using f4, by simpa [upd] using f5, by simpa [upd] using f6, by simpa [upd] using f7⟩
    | 3, ho =>
      simp at ho; subst ho
      have l0 := hwt 0 w30
      have l2 := hwt 2 w32
      have n6 : ls 6 = false := by
        cases h : ls 6
        · rfl
        · rw [(f6 h).2.1] at nj; cases nj
      obtain ⟨g, e1, e2, e3⟩ := f0 l0 nj
      have ev0 := (hv 0 _ k0 rfl d0 z0 l0).trans e1
      have ev2 := (hv 2 _ k2 rfl d2 z2 l2).trans (f2 l2)
      obtain ⟨v', w2, hrun, g2, g3, g4⟩ := happ w' g fb e2 e3
      have hex : (execOp (putL L vs 0 [o0, o1, o2, o3, o4, o5, o6, o7] a).eval o3).run P w' = .ok (.value v') w2 := by
        simp [execOp, r3, resolve, invoke, builtin, ev0, ev2, hrun, Result.andThen]
      refine oper_wp_ok hex ⟨_, rfl, ?_⟩
      have hb2 : Below w.heap.size w w2 := fb.grown g3 fb.size (fun j hj => by injection hj with hj; omega)
      refine ⟨hb2, by simp, by simpa [upd] using f1, by simpa [upd] using f2, ?_, by simpa [upd] using f4, ?_, by simp [n6], by simpa [upd] using f7⟩
      · simp only [upd]; simp; exact fun _ => g2
      · simp only [upd]; simp
        intro h1 h2
        obtain ⟨g', e1', e2', e3', e4'⟩ := f5 h1 h2
        have hne : g' ≠ g := fun e => by
          subst e
          have h1 : w'.heap[g']? = some (.cells #[] E (0, 0)) := e3
          have h2 : w'.heap[g']? = some (.cells xc.toArray E (0, 0)) := e3'
          rw [h1] at h2
          have h3 : xc = [] := by simpa using h2.symm
          rw [h3] at hxl
          simp at hxl; omega
        refine ⟨g', e1', e2', (g3.block g' e3'.lt (by intro e; injection e with e; exact hne e)).trans e3', fun e => ?_⟩
        rcases g4 with g4 | g4
        · rw [g4] at e; injection e with e; exact hne e.symm
        · have := g4 g' e; have := e3'.lt; omega
    | 4, ho =>
      simp at ho; subst ho
      refine oper_wp_ok (r4 _ w' (ho2 _ y0 y1 y2 y3 y4 y5 y6 y7) fb) ⟨_, rfl, ?_⟩
      exact ⟨fb, by simpa [upd] using f0, by simpa [upd] using f1, by simpa [upd] using f2, by simpa [upd] using f3, by simp [upd], by simpa [upd] using f5, by simpa [upd] using f6, by simpa [upd] using f7⟩
    | 5, ho =>
      simp at ho; subst ho
      have l4 := hwt 4 w54
      refine oper_wp_ok (r5 _ w' ((hv 4 _ k4 rfl d4 z4 l4).trans (f4 l4))) ⟨_, rfl, ?_⟩
      have hb : Below w'.heap.size w' (w'.alloc (.cells xc.toArray E)) := (Below.refl _ _).alloc (Nat.le_refl _) _
      refine ⟨fb.trans (hb.mono fb.size), ?_, by simpa [upd] using f1, by simpa [upd] using f2, ?_, by simpa [upd] using f4, ?_, ?_, by simpa [upd] using f7⟩
      · simp only [upd]; simp
        intro h1 h2
        obtain ⟨g, e1, e2, e3⟩ := f0 h1 h2
        exact ⟨g, e1, e2, e3.alloc _⟩
      · simp only [upd]; simp; exact fun h1 h2 => (f3 h1 h2).alloc _
      · simp only [upd]; simp
        intro h6
        exact ⟨fb.size, Blk.new _ _ _, fun h3 e => by have := ((f3 h3 h6).lt _ e).2; omega⟩
      · simp only [upd]; simp; exact fun h1 => ⟨(f6 h1).1.alloc _, (f6 h1).2.1⟩
    | 6, ho =>
      simp at ho; subst ho
      have l3 := hwt 3 w63
      have l5 := hwt 5 w65
      have n7 : ls 7 = false := by
        cases h : ls 7
        · rfl
        · rw [(f7 h).2] at nj; cases nj
      obtain ⟨g, e1, e2, e3, e4⟩ := f5 l5 nj
      have ev3 := hv 3 _ k3 rfl d3 z3 l3
      have ev5 := (hv 5 _ k5 rfl d5 z5 l5).trans e1
      obtain ⟨v', w2, hrun, g2, g3, g4⟩ := run_append_own2 (P := P) w' w.heap.size T o6.type E i z size bytes ht hi hz hsize hby hzs hsz (vs 3) n cells (f3 l3 nj) ⟨g, 0, none⟩ 1 1 xc (by rw [hxl, Nat.one_mul]) (fun j u hj => by rw [Addr.add_lit, Nat.zero_add]; exact e3.cell (by simpa using hj)) hx1 h63 hbytes fb.size
      have hex : (execOp (putL L vs 0 [o0, o1, o2, o3, o4, o5, o6, o7] a).eval o6).run P w' = .ok (.value v') w2 := by
        simp [execOp, r6, resolve, invoke, builtin, ev3, ev5, hrun, Result.andThen]
      refine oper_wp_ok hex ⟨_, rfl, ?_⟩
      have hb2 : Below w.heap.size w w2 := fb.grown g3 fb.size (fun j hj => ((f3 l3 nj).lt j hj).1)
      refine ⟨hb2, ?_, by simpa [upd] using f1, by simpa [upd] using f2, by simp, by simpa [upd] using f4, by simp, ?_, by simp [n7]⟩
      · simp [l3]
      · simp only [upd]; simp; exact ⟨g2, l3, l5⟩
    | 7, ho =>
      simp at ho; subst ho
      have l6 := hwt 6 w76
      obtain ⟨x7, c7, e7⟩ := Sl.len (Sl.of_owns (f6 l6).1)
      refine oper_wp_ok (r7 _ w' x7 c7 ((hv 6 _ k6 rfl d6 z6 l6).trans e7)) ⟨_, rfl, ?_⟩
      refine ⟨fb, by simpa [upd] using f0, by simpa [upd] using f1, by simpa [upd] using f2, by simpa [upd] using f3, by simpa [upd] using f4, by simpa [upd] using f5, by simpa [upd] using f6, ?_⟩
      simp only [upd]; simp
      exact ⟨by rw [e7], l6⟩
    | j + 8, ho => simp at ho
  · intro L vs w' F hall
    obtain ⟨fb, f0, f1, f2, f3, f4, f5, f6, f7⟩ := F
    have := hend (vs 0) (vs 3) (vs 5) (vs 6) w' (f6 (hall 6 (by simp))).1 fb
    simp only [putL]
    rw [if_pos (hall 0 (by simp)), if_pos (hall (0 + 1) (by simp)), if_pos (hall (0 + 1 + 1) (by simp)), if_pos (hall (0 + 1 + 1 + 1) (by simp)), if_pos (hall (0 + 1 + 1 + 1 + 1) (by simp)), if_pos (hall (0 + 1 + 1 + 1 + 1 + 1) (by simp)), if_pos (hall (0 + 1 + 1 + 1 + 1 + 1 + 1) (by simp)), if_pos (hall (0 + 1 + 1 + 1 + 1 + 1 + 1 + 1) (by simp))]
    rw [show vs (0 + 1) = v1 from f1 (hall 1 (by simp)), show vs (0 + 1 + 1) = _ from f2 (hall 2 (by simp)), show vs (0 + 1 + 1 + 1 + 1) = _ from f4 (hall 4 (by simp)), show vs (0 + 1 + 1 + 1 + 1 + 1 + 1 + 1) = h7 (vs 6) from (f7 (hall 7 (by simp))).1]
    exact this.out
end
end Go.Proofs.Ytnpaejknoipicag

namespace Go.Proofs.Ytnpaejknoipicag
open Go.RowKit

/-- none of these is wanted -/
def skipB (ops : Array Oper) : List Oper → Act → Bool
  | [], _ => true
  | o :: r, a => !(Region.wanted o (yielded ops a.tmps)) && skipB ops r (a.put o.dst undef)
/-- the frame behind them -/
def putU : List Oper → Act → Act
  | [], a => a
  | o :: r, a => putU r (a.put o.dst undef)

theorem wpQuiet_jump {P : Program} {ops : Array Oper} {C : World → Prop} {Q : Act → Prop} (n : Nat) : ∀ {l : List Oper} {a : Act}, skipB ops (l.take n) a = true → (∀ b, b = putU (l.take n) a → wpQuiet P ops C Q (l.drop n) b) → wpQuiet P ops C Q l a := by
  induction n with
  | zero => intro l a _ h; simpa using h a rfl
  | succ n ih =>
    intro l a hs h
    cases l with
    | nil => simpa using h a rfl
    | cons o r =>
      simp only [List.take_succ_cons, skipB, Bool.and_eq_true, Bool.not_eq_true'] at hs
      refine BigFrame.wpQuiet_skip hs.1 (ih hs.2 (fun b hb => ?_))
      have := h b (by rw [List.take_succ_cons]; exact hb)
      simpa using this

end Go.Proofs.Ytnpaejknoipicag

namespace Go.Proofs.Ytnpaejknoipicag
open Go.RowKit

theorem Blk.drewN {w : World} {b : Nat} {C : Array Value} {t : TypeId} (h : Blk w b C t) (k : Nat) : Blk (w.drewN k) b C t := h

theorem FrsIn.one {S : Nat → Prop} {w : World} {b : Nat} {f : Fr} {pv : Value} (hb : Blk w b #[.int .i64 f.time, .bool f.key, pv] 67) (hS : S b) (hp : StrsIn S w pv f.parts) : FrsIn S w (.slice (some ⟨b, 0, none⟩) 1 1) [f] := by
  refine ⟨some ⟨b, 0, none⟩, 1, rfl, Nat.le_refl _, by omega, fun k hk => ⟨b, 0, rfl, hb.lt, hS, pv, ?_⟩⟩
  have : k = 0 := by simpa using hk
  subst this
  obtain ⟨c0, c1, c2⟩ := hb.three
  exact ⟨c0, c1, c2, hp⟩

end Go.Proofs.Ytnpaejknoipicag

namespace Go.Proofs.Ytnpaejknoipicag
open Go.RowKit

/-- an operation of such a region -/
inductive Cb where
  | quiet (v : Value) (lim : Nat)
  | step (s : Nat)
  | fin (t : Nat) (f : Value → Value)
  | box
def cbAt (ks : List Cb) (i : Nat) : Cb := (ks[i]?).getD (.quiet undef 0)
def Cb.out (r : Nat → Value) (b : Option Nat) : Cb → Value
  | .quiet v _ => v
  | .step s => r s
  | .fin t f => f (r t)
  | .box => match b with
    | some g => .pointer (some ⟨g, 0, none⟩)
    | none => undef
def Cb.isBox : Cb → Bool
  | .box => true
  | _ => false
def putB (r : Nat → Value) (b : Option Nat) : List Cb → List Oper → Act → Act
  | d :: ks, o :: l, a => putB r b ks l (a.put o.dst (d.out r b))
  | _, _, a => a
/-- the steps' places; what waits for what -/
def boxOk (ks : List Cb) (l : List Oper) (st : List Nat) (bx n : Nat) : Bool :=
  decide (ks.length = l.length) && (l.all fun o => match o.dst with | some k => decide (k < n) | none => true) &&
  ((List.range st.length).all fun s => match st[s]? with
    | some i => decide (i < l.length) && (match cbAt ks i with | .step t => t == s | _ => false) && (s == 0 || (match st[s - 1]? with | some j => waits l i j | none => false))
    | none => false) &&
  ((List.range l.length).all fun i => match cbAt ks i with
    | .quiet _ lim => decide (st.length ≤ lim) || (match st[lim]? with | some j => waits l j i | none => false)
    | .step t => st[t]? == some i
    | .fin t _ => (List.range l.length).any fun j => waits l i j && (match cbAt ks j with | .step t' => t' == t | .fin t' _ => t' == t | _ => false)
    | .box => i == bx) && decide (bx < l.length) && (cbAt ks bx).isBox

section
variable {P : Program} {Q : Exit → Act → World → Prop}

structure RB (ks : List Cb) (l : List Oper) (n m bx : Nat) (I : Nat → (Nat → Value) → Option Nat → World → Prop) (ls : Nat → Bool) (vs : Nat → Value) (s : Nat) (r : Nat → Value) (b : Option Nat) (w' : World) : Prop where
  lt : ∀ i, ls i = true → i < n
  steps : ∀ i t, i < n → cbAt ks i = .step t → (ls i = true ↔ t < s)
  fins : ∀ i t f, ls i = true → cbAt ks i = .fin t f → t < s
  box : ls bx = true ↔ b.isSome = true
  vals : ∀ i, ls i = true → vs i = (cbAt ks i).out r b
  inv : I s r b w'
  le : s ≤ m
  closed : ∀ i j, ls j = true → waits l j i = true → ls i = true

theorem putB_all (L : Array Bool) (vs : Nat → Value) (r : Nat → Value) (b : Option Nat) : ∀ (l : List Oper) (k : Nat) (ks : List Cb) (a : Act), ks.length = l.length → (∀ i, i < l.length → L.getD (k + i) false = true) → (∀ i, i < l.length → vs (k + i) = (cbAt ks i).out r b) → putL L vs k l a = putB r b ks l a
  | [], _, [], _, _, _, _ => rfl
  | o :: l, k, d :: ks, a, hl, hL, hv => by
    simp only [putL, putB]
    rw [if_pos (by simpa using hL 0 (by simp)), show vs k = d.out r b by simpa [cbAt] using hv 0 (by simp)]
    refine putB_all L vs r b l (k + 1) ks _ (by simpa using hl) (fun i hi => ?_) (fun i hi => ?_)
    · have := hL (i + 1) (by simpa using hi)
      rw [show k + (i + 1) = k + 1 + i by omega] at this; exact this
    · have := hv (i + 1) (by simpa using hi)
      rw [show k + (i + 1) = k + 1 + i by omega] at this
      simpa [cbAt] using this

theorem region_box {id : Nat} {a : Act} {w : World} {l : List Oper} (hm : P.follows .mixedOrders = true) (hB : regOk l = true) (ks : List Cb) (st : List Nat) (bx : Nat) (hK : boxOk ks l st bx a.tmps.size = true)
    (I : Nat → (Nat → Value) → Option Nat → World → Prop) (h0 : I 0 (fun _ => undef) none { w with drawn := w.drawn + 1 })
    (hstep : ∀ i o, l[i]? = some o → ∀ (a' : Act) (w' : World) (s : Nat) (r : Nat → Value) (b : Option Nat), I s r b w' → (∀ s, (l.all fun o => o.dst != some s) = true → a'.eval (.tmp s) = a.eval (.tmp s)) → (∀ j oj k, waits l i j = true → l[j]? = some oj → oj.dst = some k → a'.eval (.tmp k) = (cbAt ks j).out r b) → (waits l i bx = true → b.isSome = true) →
      match cbAt ks i with
      | .quiet v lim => s ≤ lim → (execOp a'.eval o).run P w' = .ok (.value v) w'
      | .step t => s = t → o.wp P a' w' (fun a'' w'' => ∃ v, a'' = a'.put o.dst v ∧ I (t + 1) (updR r t v) b w'') Q
      | .fin t f => t < s → (execOp a'.eval o).run P w' = .ok (.value (f (r t))) w'
      | .box => b = none → ∃ ob, (execOp a'.eval o).run P w' = .ok (.value (.pointer (some ⟨w'.heap.size, 0, none⟩))) (w'.alloc ob) ∧ I s r (some w'.heap.size) (w'.alloc ob))
    (hend : ∀ (r : Nat → Value) (g : Nat) (w' : World), I st.length r (some g) w' → Q .normal (putB r (some g) ks l a) w') :
    (Code.region id l.toArray true).wp P Q a w := by
  simp only [boxOk, Bool.and_eq_true, decide_eq_true_eq] at hK
  obtain ⟨⟨⟨⟨⟨hlen, hdst⟩, hst⟩, hall⟩, hbl⟩, hbb⟩ := hK
  have hbk : cbAt ks bx = .box := by cases h : cbAt ks bx <;> rw [h] at hbb <;> first | rfl | cases hbb
  have hap : dstsApart l = true := by simp only [regOk, Bool.and_eq_true] at hB; exact hB.1.1
  have hal : ∀ i, i < l.length → _ := fun i hi => List.all_eq_true.1 hall i (List.mem_range.2 hi)
  have hsl : ∀ s, s < st.length → _ := fun s hs => List.all_eq_true.1 hst s (List.mem_range.2 hs)
  have hstp : ∀ s, s < st.length → ∃ i, st[s]? = some i ∧ i < l.length ∧ cbAt ks i = .step s ∧ (0 < s → ∃ j, st[s - 1]? = some j ∧ waits l i j = true) := fun s hs => by
    have h := hsl s hs
    have e : st[s]? = some st[s] := List.getElem?_eq_getElem hs
    rw [e] at h
    simp only [Bool.and_eq_true, decide_eq_true_eq, Bool.or_eq_true, beq_iff_eq] at h
    refine ⟨st[s], e, h.1.1, ?_, fun h0 => ?_⟩
    · have h2 := h.1.2
      cases hk : cbAt ks st[s] with
      | quiet v lim => rw [hk] at h2; cases h2
      | fin t f => rw [hk] at h2; cases h2
      | box => rw [hk] at h2; cases h2
      | step t => rw [hk] at h2; simp at h2; rw [h2]
    · have h3 := h.2
      rcases h3 with h3 | h3
      · omega
      · have e2 : st[s - 1]? = some st[s - 1] := List.getElem?_eq_getElem (by omega)
        rw [e2] at h3
        exact ⟨_, e2, h3⟩
  have hst2 : ∀ i t, i < l.length → cbAt ks i = .step t → st[t]? = some i := fun i t hi hk => by
    have h := hal i hi
    rw [hk] at h
    simpa using h
  refine wp_region_inv hm hB (fun L vs w' => ∃ s r b, RB ks l l.length st.length bx I (fun j => L.getD j false) vs s r b w') ?_ ?_ ?_
  · have hno : ∀ j, ¬ (Array.replicate l.length false).getD j false = true := fun j => by
      simp [Array.getD_eq_getD_getElem?, Array.getElem?_replicate]; split <;> simp
    exact ⟨0, fun _ => undef, none, fun i h => absurd h (hno i), fun i t _ _ => ⟨fun h => absurd h (hno i), fun h => absurd h (Nat.not_lt_zero _)⟩, fun i _ _ h => absurd h (hno i), ⟨fun h => absurd h (hno bx), fun h => by cases h⟩, fun i h => absurd h (hno i), h0, Nat.zero_le _, fun _ j h => absurd h (hno j)⟩
  · rintro L vs w' ⟨s, r, b, F⟩ i o ho hL hr
    have hi : i < l.length := (List.getElem?_eq_some_iff.1 ho).1
    have ni : L.getD i false = false := by simpa using listed_no hL
    have hset := setfun hL
    have hwt : ∀ j, waits l i j = true → L.getD j false = true := fun j hw => waits_spec hw ho hr
    have hfree : ∀ s, (l.all fun o => o.dst != some s) = true → (putL L vs 0 l a).eval (.tmp s) = a.eval (.tmp s) := fun s hs => putL_other l 0 a (fun p hp t ht e => by
      injection e with e
      subst e
      have := List.all_eq_true.1 hs p hp
      rw [ht] at this
      simp at this)
    have hvals : ∀ j oj k, waits l i j = true → l[j]? = some oj → oj.dst = some k → (putL L vs 0 l a).eval (.tmp k) = (cbAt ks j).out r b := fun j oj k hw hoj hk => by
      have h1 := hwt j hw
      have hk2 := List.all_eq_true.1 hdst oj (List.mem_of_getElem? hoj)
      rw [hk] at hk2
      rw [putL_at h1 l 0 a oj hap (Nat.zero_le _) (by simpa using hoj) hk (by simpa using hk2)]
      exact F.vals j h1
    have hs := hstep i o ho (putL L vs 0 l a) w' s r b F.inv hfree hvals (fun hw => F.box.1 (hwt bx hw))
    rw [hset]
    obtain ⟨ls, hls⟩ : ∃ ls : Nat → Bool, ls = fun j => L.getD j false := ⟨_, rfl⟩
    have hlsj : ∀ j, L.getD j false = ls j := fun j => by rw [hls]
    simp only [hlsj] at F ni hwt ⊢
    have hlt' : ∀ j, (decide (j = i) || ls j) = true → j < l.length := fun j hj => by
      simp only [Bool.or_eq_true, decide_eq_true_eq] at hj
      rcases hj with rfl | hj
      · exact hi
      · exact F.lt j hj
    have hcl : ∀ p j, (decide (j = i) || ls j) = true → waits l j p = true → (decide (p = i) || ls p) = true := fun p j hj hw => by
      simp only [Bool.or_eq_true, decide_eq_true_eq] at hj ⊢
      rcases hj with rfl | hj
      · exact .inr (hwt p hw)
      · exact .inr (F.closed p j hj hw)
    have hbne : ∀ k, cbAt ks i = k → k.isBox = false → bx ≠ i := fun k h1 h2 e => by subst e; rw [hbk] at h1; subst h1; cases h2
    have hbxs : ∀ k, cbAt ks i = k → k.isBox = false → ((decide (bx = i) || ls bx) = true ↔ b.isSome = true) := fun k h1 h2 => by
      have := hbne k h1 h2
      simpa [this] using F.box
    have plain : ∀ (k : Cb) (v : Value), cbAt ks i = k → k.isBox = false → (∀ t, k ≠ .step t) → (∀ t f, k = .fin t f → t < s) → k.out r b = v → ∃ s r b, RB ks l l.length st.length bx I (fun j => decide (j = i) || ls j) (upd vs i v) s r b w' := fun k v hk h1 h2 h3 h4 => by
      refine ⟨s, r, b, hlt', ?_, ?_, hbxs k hk h1, ?_, F.inv, F.le, hcl⟩
      · intro j t hj hjk
        have e : j ≠ i := fun e => by subst e; rw [hk] at hjk; exact h2 t hjk
        simpa [e] using F.steps j t hj hjk
      · intro j t f hj hjk
        by_cases e : j = i
        · subst e; rw [hk] at hjk; exact h3 t f hjk
        · exact F.fins j t f (by simpa [e] using hj) hjk
      · intro j hj
        by_cases e : j = i
        · subst e; rw [upd_at, hk, h4]
        · rw [upd_ne e]; exact F.vals j (by simpa [e] using hj)
    cases hk : cbAt ks i with
    | fin t f =>
      rw [hk] at hs
      have hts : t < s := by
        have h := hal i hi
        rw [hk] at h
        obtain ⟨j, hjm, hj⟩ := List.any_eq_true.1 h
        simp only [Bool.and_eq_true] at hj
        have hjl := hwt j hj.1
        have h2 := hj.2
        cases hkj : cbAt ks j with
        | quiet v lim => rw [hkj] at h2; cases h2
        | box => rw [hkj] at h2; cases h2
        | step t' => rw [hkj] at h2; simp at h2; subst h2; exact (F.steps j t' (F.lt j hjl) hkj).1 hjl
        | fin t' f' => rw [hkj] at h2; simp at h2; subst h2; exact F.fins j t' f' hjl hkj
      exact oper_wp_ok (hs hts) ⟨_, rfl, plain (.fin t f) _ hk rfl (fun _ e => by cases e) (fun t' f' e => by injection e with e1; omega) rfl⟩
    | box =>
      rw [hk] at hs
      have hib : i = bx := by
        have h := hal i hi
        rw [hk] at h
        simpa using h
      subst hib
      have hb0 : b = none := by
        cases b with
        | none => rfl
        | some g => have := F.box.2 rfl; rw [this] at ni; cases ni
      subst hb0
      obtain ⟨ob, h1, h2⟩ := hs rfl
      refine oper_wp_ok h1 ⟨_, rfl, s, r, some w'.heap.size, hlt', ?_, ?_, ⟨fun _ => rfl, fun _ => by simp⟩, ?_, h2, F.le, hcl⟩
      · intro j t hj hjk
        have e : j ≠ i := fun e => by subst e; rw [hk] at hjk; cases hjk
        simpa [e] using F.steps j t hj hjk
      · intro j t f hj hjk
        have e : j ≠ i := fun e => by subst e; rw [hk] at hjk; cases hjk
        exact F.fins j t f (by simpa [e] using hj) hjk
      · intro j hj
        by_cases e : j = i
        · subst e; rw [upd_at, hk]; rfl
        · have hlj : ls j = true := by simpa [e] using hj
          rw [upd_ne e, F.vals j hlj]
          have hjb : cbAt ks j ≠ .box := fun e' => by
            have h := hal j (F.lt j hlj)
            rw [e'] at h
            exact e (by simpa using h)
          cases hkj : cbAt ks j with
          | quiet v' lim' => rfl
          | step t' => rfl
          | fin t' f' => rfl
          | box => exact absurd hkj hjb
    | quiet v lim =>
      rw [hk] at hs
      have hle : s ≤ lim := by
        have h := hal i hi
        rw [hk] at h
        simp only [Bool.or_eq_true, decide_eq_true_eq] at h
        rcases h with h | h
        · exact Nat.le_trans F.le h
        · by_cases hlt : s ≤ lim
          · exact hlt
          · exfalso
            have hll : lim < st.length := by have := F.le; omega
            obtain ⟨j, e1, e2, e3, _⟩ := hstp lim hll
            rw [e1] at h
            have hlj := (F.steps j lim e2 e3).2 (by omega)
            rw [F.closed i j hlj h] at ni
            cases ni
      exact oper_wp_ok (hs hle) ⟨v, rfl, plain (.quiet v lim) v hk rfl (fun _ e => by cases e) (fun _ _ e => by cases e) rfl⟩
    | step t =>
      rw [hk] at hs
      have hti := hst2 i t hi hk
      have htl : t < st.length := (List.getElem?_eq_some_iff.1 hti).1
      have hst' : s = t := by
        have h1 : ¬ t < s := fun h => by rw [(F.steps i t hi hk).2 h] at ni; cases ni
        by_cases h0 : t = 0
        · omega
        · obtain ⟨i', e1, e2, e3, e4⟩ := hstp t htl
          rw [hti] at e1
          injection e1 with e1
          subst e1
          obtain ⟨j, q1, q2⟩ := e4 (by omega)
          obtain ⟨j', r1, r2, r3, _⟩ := hstp (t - 1) (by omega)
          rw [q1] at r1
          injection r1 with r1
          subst r1
          have := (F.steps j (t - 1) r2 r3).1 (hwt j q2)
          omega
      subst hst'
      refine Oper.wp_mono ?_ (hs rfl)
      rintro a'' w'' ⟨v, h1, h2⟩
      refine ⟨v, h1, s + 1, updR r s v, b, hlt', ?_, ?_, hbxs _ hk rfl, ?_, h2, htl, hcl⟩
      · intro j t' hj hjk
        by_cases e : j = i
        · subst e
          rw [hk] at hjk
          injection hjk with hjk
          subst hjk
          simp
        · have h3 := F.steps j t' hj hjk
          have hne : t' ≠ s := fun e' => by
            subst e'
            have := hst2 j t' hj hjk
            rw [hti] at this
            injection this with this
            exact e this.symm
          simp only [e, decide_false, Bool.false_or]
          rw [h3]; omega
      · intro j t' f hj hjk
        have e : j ≠ i := fun e => by subst e; rw [hk] at hjk; cases hjk
        have := F.fins j t' f (by simpa [e] using hj) hjk
        omega
      · intro j hj
        by_cases e : j = i
        · subst e; rw [upd_at, hk]; exact (updR_at r s v).symm
        · have hlj : ls j = true := by simpa [e] using hj
          rw [upd_ne e, F.vals j hlj]
          cases hkj : cbAt ks j with
          | quiet v' lim' => rfl
          | box => rfl
          | fin t' f' =>
            have := F.fins j t' f' hlj hkj
            exact congrArg f' (updR_ne (by omega)).symm
          | step t' =>
            have := (F.steps j t' (F.lt j hlj) hkj).1 hlj
            exact (updR_ne (by omega)).symm
  · rintro L vs w' ⟨s, r, b, F⟩ hlst
    have hs : s = st.length := by
      by_cases h : s < st.length
      · obtain ⟨i, e1, e2, e3, _⟩ := hstp s h
        have := (F.steps i s e2 e3).1 (hlst i e2)
        omega
      · have := F.le; omega
    subst hs
    obtain ⟨g, hg⟩ : ∃ g, b = some g := Option.isSome_iff_exists.1 (F.box.1 (hlst bx hbl))
    subst hg
    rw [putB_all L vs r (some g) l 0 ks a hlen (fun i hi => by rw [Nat.zero_add]; exact hlst i hi) (fun i hi => by rw [Nat.zero_add]; exact F.vals i (hlst i hi))]
    exact hend r g w' F.inv
end
end Go.Proofs.Ytnpaejknoipicag

namespace Go.Proofs.Ytnpaejknoipicag
open Go.RowKit

def gon (o : List Fr) (f : Fr) : Bool := decide (0 < o.length) && decide (o.length < 6) && decide ((frAt o (o.length - 1)).time ≤ f.time)
theorem gon_grow {o : List Fr} {f : Fr} (hk : f.key = false) : growG o f = if gon o f then o ++ [f] else o := by
  unfold growG gon
  rw [if_neg (by simp [hk])]
  by_cases h : o.length = 0 ∨ 6 ≤ o.length ∨ f.time < (frAt o (o.length - 1)).time
  · rw [if_pos h, if_neg]
    simp only [Bool.and_eq_true, decide_eq_true_eq]
    omega
  · rw [if_neg h, if_pos]
    simp only [Bool.and_eq_true, decide_eq_true_eq]
    omega

set_option maxHeartbeats 2000000 in
theorem goesOn_any (base M : Nat) (fv cv : Value) (o : List Fr) (cl : List (List Fr)) (f : Fr) (pa : Option Addr) (pn pc : Nat) (w : World) (hM : GMk base M w fv cv o cl) :
    Calls Try.prog 102 #[.pointer (some ⟨M, 0, none⟩), .agg #[.int .i64 f.time, .bool f.key, .slice pa pn pc]] w fun e w' => e = .returned (.bool (gon o f)) ∧ Below w.heap.size w w' := by
  obtain ⟨kM, hF, _⟩ := hM
  obtain ⟨ao, c, efv, h1, h2, hc⟩ := hF.frsIn (S' := fun _ => True) (fun _ _ _ => trivial) (fun _ _ => trivial)
  obtain ⟨n, hn⟩ : ∃ n, n = o.length := ⟨_, rfl⟩
  rw [← hn] at efv h1
  have k0 := kM.two.1
  have hMw := kM.lt
  have hMw1 : M < w.heap.size + 1 := by omega
  rw [efv] at k0
  unfold gon
  rw [← hn]
  obtain ⟨t, k, ps⟩ := f
  simp only
  by_cases h0 : n = 0
  · have hd : decide (0 < n) = false := decide_eq_false (by omega)
    rw [hd]
    subst h0
    clear hn hc efv kM hF
    go_enter Try.func102, Try.ntmps102
    go_wp2_with fail
    go_quiet (fail)
    go_wp2
    go_ret
    exact ⟨by simp, below_drewN ((Below.refl _ w).alloc (Nat.le_refl _) _) _⟩
  · have hd : decide (0 < n) = true := decide_eq_true (by omega)
    rw [hd, Bool.true_and]
    by_cases h6 : n < 6
    · have hd6 : decide (n < 6) = true := decide_eq_true h6
      rw [hd6, Bool.true_and]
      obtain ⟨b, off, e1, hb, _, pv, c0, _⟩ := hc (n - 1) (by omega)
      obtain ⟨n1, hn1⟩ : ∃ n1, n1 = n - 1 := ⟨_, rfl⟩
      rw [← hn1] at c0 ⊢
      obtain ⟨t', ht'⟩ : ∃ t', t' = (frAt o n1).time := ⟨_, rfl⟩
      rw [show (o[n1]?.getD Fr.zero).time = t' from ht'.symm] at c0
      rw [← ht']
      subst e1
      have hn1i : (n : Int) - 1 = (n1 : Int) := by omega
      have hn1l : (n1 : Int) < (n : Int) := by omega
      have hn1w : IntKind.i64.wrap (n1 : Int) = (n1 : Int) := by rw [IntKind.wrap_i64]; omega
      have hn6i : (n : Int) < 6 := by omega
      have hb1 : b < w.heap.size + 1 := by omega
      clear hn hc efv kM hF ht' hn1
      go_enter Try.func102, Try.ntmps102
      go_wp2_with fail
      go_quiet (fail)
      go_wp2
      go_ret
      exact ⟨by simp, below_drewN ((Below.refl _ w).alloc (Nat.le_refl _) _) _⟩
    · have hd6 : decide (n < 6) = false := decide_eq_false h6
      rw [hd6, Bool.false_and]
      have hn6i : ¬ (n : Int) < 6 := by omega
      have hd6i : decide ((n : Int) < 6) = false := decide_eq_false hn6i
      clear hn hc efv kM hF
      go_enter Try.func102, Try.ntmps102
      go_wp2_with fail
      go_quiet (fail)
      go_wp2
      go_ret
      exact ⟨by simp, below_drewN ((Below.refl _ w).alloc (Nat.le_refl _) _) _⟩

set_option maxHeartbeats 4000000 in
set_option maxRecDepth 100000 in
theorem groupTake_any (base M : Nat) (fv cv : Value) (o : List Fr) (cl : List (List Fr)) (f : Fr) (pv : Value) (w : World) (hM : GMk base M w fv cv o cl) (hbM : base ≤ M) (ho : o.length ≤ 6) (hcl : cl.length ≤ 1000) (hp : StrsIn (fun g => g < base) w pv f.parts) (hf : f.chk = 0) :
    Calls Try.prog 98 #[.pointer (some ⟨M, 0, none⟩), .agg #[.int .i64 f.time, .bool f.key, pv]] w fun e w' => e = .returned (.tuple #[]) ∧ GMake base M w' (growG o f) (if f.key && decide (0 < o.length) then cl ++ [o] else cl) ∧ Below base w w' := by
  obtain ⟨i0, hi, hz0, hz1, hz2⟩ := info_parts Try.infoFrm
  obtain ⟨pa, pc, ep⟩ := hp.1.len
  have HP : Hid (StrsIn (fun g => g < base) w pv f.parts) := hp
  obtain ⟨R, hR⟩ : ∃ R, R = growG o f := ⟨_, rfl⟩
  obtain ⟨C, hC⟩ : ∃ C, C = if f.key && decide (0 < o.length) then cl ++ [o] else cl := ⟨_, rfl⟩
  obtain ⟨o', ho'⟩ : ∃ o', o' = if f.key then [] else o := ⟨_, rfl⟩
  have HKEY : Hid (f.key = true → R = o' ++ [f] ∧ C = (if 0 < o.length then cl ++ [o] else cl) ∧ o' = []) := fun h => by
    refine ⟨?_, ?_, by rw [ho', if_pos h]⟩
    · rw [hR, ho', if_pos h]; unfold growG; rw [if_pos h]; rfl
    · rw [hC, h, Bool.true_and]
      by_cases h0 : 0 < o.length
      · rw [if_pos (decide_eq_true h0), if_pos h0]
      · rw [if_neg (by rw [decide_eq_true_eq]; exact h0), if_neg h0]
  have HNK : Hid (f.key = false → C = cl ∧ o' = o ∧ (gon o f = true → R = o' ++ [f]) ∧ (gon o f = false → R = o)) := fun h => by
    have e : o' = o := by rw [ho', h]; rfl
    refine ⟨by rw [hC, h]; rfl, e, fun h2 => ?_, fun h2 => ?_⟩
    · rw [hR, gon_grow h, h2, if_pos rfl, e]
    · rw [hR, gon_grow h, h2]; rfl
  have HO7 : Hid (o'.length ≤ 6) := by
    show _ ≤ _
    rw [ho']
    split
    · simp
    · exact ho
  have HGO : Hid (∀ w' : World, GMk base M w' fv cv o cl → Calls Try.prog 102 #[.pointer (some ⟨M, 0, none⟩), .agg #[.int .i64 f.time, .bool f.key, .slice pa f.parts.length pc]] w' fun e w'' => e = .returned (.bool (gon o f)) ∧ Below w'.heap.size w' w'') := fun w' h => goesOn_any base M fv cv o cl f _ _ _ w' h
  have HCL : Hid (∀ w' : World, GMk base M w' fv cv o cl → Calls Try.prog 101 #[.pointer (some ⟨M, 0, none⟩)] w' fun e w'' => e = .returned (.tuple #[]) ∧ (∃ cv', GMk base M w'' (.slice none 0 0) cv' [] (if 0 < o.length then cl ++ [o] else cl)) ∧ Below base w' w'' ∧ ∀ j, j < w'.heap.size → j ≠ M → some j ≠ cv.ownBlock → w''.heap[j]? = w'.heap[j]?) := fun w' h => groupClose_any base M fv cv o cl w' h hbM ho hcl
  have HCF : Hid (∀ w' : World, StrsIn (fun g => g < base) w' pv f.parts → Calls Try.prog 71 #[.agg #[.int .i64 f.time, .bool f.key, pv]] w' fun e w'' => ∃ a c, e = .returned (.agg #[.int .i64 f.time, .bool f.key, .slice a f.parts.length c]) ∧ StrsIn (fun g => w'.heap.size ≤ g) w'' (.slice a f.parts.length c) f.parts ∧ Below w'.heap.size w' w'') := fun w' h => cloneFrame_any _ f pv w' h hf
  have HMK : Hid (GMk base M w fv cv o cl) := hM
  have hMw := hM.1.lt
  obtain ⟨gg, hgg⟩ : ∃ gg, gg = gon o f := ⟨_, rfl⟩
  rw [← hgg] at HGO HNK
  rw [← hR, ← hC]
  obtain ⟨t, k, parts⟩ := f
  simp only at ep HP HGO HCF HKEY HNK ⊢
  obtain ⟨pn, hpn⟩ : ∃ pn, pn = parts.length := ⟨_, rfl⟩
  have HPN : Hid (pn = parts.length) := hpn
  rw [← hpn] at ep HGO HCF
  clear hM hp hf hR hC ho' hgg hpn ho hcl
  have HEP : Hid (pv = .slice pa pn pc) := ep
  subst ep
  go_enter Try.func98, Try.ntmps98
  go_upto_if 5 with fail
  go_cut [] (fun wc => ∃ fv' cv', Hid (GMk base M wc fv' cv' o' C) ∧ Hid (R = o' ++ [⟨t, k, parts⟩]) ∧ Hid (Blk wc w.heap.size #[.int .i64 t, .bool k, .slice pa pn pc] 67) ∧ Hid (∀ g, fv'.ownBlock = some g → g ≠ w.heap.size) ∧ Hid (StrsIn (fun g => g < base) wc (.slice pa pn pc) parts) ∧ Hid (Below base w wc))
  case first =>
    have MK1 : Hid (GMk base M (w.alloc (.cells #[.int .i64 t, .bool k, .slice pa pn pc] 67)) fv cv o cl) := HMK.out.below ((Below.refl _ w).alloc (Nat.le_refl _) _)
    cases k
    · have hnk := HNK.out rfl
      have HNK2 : Hid (C = cl ∧ o' = o ∧ (gg = true → R = o' ++ [⟨t, false, parts⟩]) ∧ (gg = false → R = o)) := hnk
      clear hnk
      go_wp2_with fail
      refine (HGO.out _ MK1.out).mono ?_
      rintro e w1 ⟨rfl, hb1⟩
      have B1 : Hid (Below w.heap.size w w1) := ((Below.refl _ w).alloc (Nat.le_refl _) _).trans (hb1.mono (by simp))
      have MK2 : Hid (GMk base M w1 fv cv o C) := by rw [HNK2.out.1]; exact MK1.out.below hb1
      have KF : Hid (Blk w1 w.heap.size #[.int .i64 t, .bool false, .slice pa pn pc] 67) := (Blk.new w _ _).below hb1 (by simp)
      have SP : Hid (StrsIn (fun g => g < base) w1 (.slice pa pn pc) parts) := HP.out.below B1.out
      clear hb1
      cases gg
      · have HRO : Hid (R = o) := HNK2.out.2.2.2 rfl
        go_wp2
        refine bodyPost_ret (v := .tuple #[]) (results_none rfl _ _ _) rfl ?_
        exact ⟨rfl, ⟨fv, cv, by rw [HRO.out]; exact MK2.out⟩, B1.out.mono (by omega)⟩
      · have HRO : Hid (R = o' ++ [⟨t, false, parts⟩]) := HNK2.out.2.2.1 rfl
        go_wp2_with fail
        go_meet
        case rel => exact ⟨fv, cv, (show GMk base M w1 fv cv o' C by rw [HNK2.out.2.1]; exact MK2.out), HRO, KF, (show ∀ g, _ → _ from fun g hg e => by have := (HMK.out.2.1.lt g hg).2; omega), SP, (show Below base w w1 from B1.out.mono (by omega))⟩
    · have hk := HKEY.out rfl
      have HK2 : Hid (R = o' ++ [⟨t, true, parts⟩] ∧ C = (if 0 < o.length then cl ++ [o] else cl) ∧ o' = []) := hk
      clear hk
      go_wp2_with fail
      refine (HCL.out _ MK1.out).mono ?_
      rintro e w1 ⟨rfl, ⟨cv', hmk⟩, hb1, oth⟩
      have B1 : Hid (Below base w w1) := ((Below.refl base w).alloc (by omega) _).trans hb1
      have KF : Hid (Blk w1 w.heap.size #[.int .i64 t, .bool true, .slice pa pn pc] 67) := (oth w.heap.size (by simp) (by omega) (fun e => by have := (HMK.out.2.2.lt _ e.symm).2; omega)).trans (Blk.new w _ _)
      have MK2 : Hid (GMk base M w1 (.slice none 0 0) cv' o' C) := by rw [HK2.out.2.1, HK2.out.2.2]; exact hmk
      have SP : Hid (StrsIn (fun g => g < base) w1 (.slice pa pn pc) parts) := HP.out.to ⟨B1.out.size, fun g _ h => B1.out.block g h⟩ (fun _ _ h => h)
      have HRO : Hid (R = o' ++ [⟨t, true, parts⟩]) := HK2.out.1
      clear hmk hb1 oth
      go_wp2_with fail
      go_meet
      case rel => exact ⟨.slice none 0 0, cv', MK2, HRO, KF, (show ∀ g, _ → _ from fun g hg => by simp [Value.ownBlock] at hg), SP, B1⟩
  case rest =>
    obtain ⟨fv', cv', MK, HR, KF, NF, SP, BC⟩ := hcut
    have hmk := MK.out
    obtain ⟨kM, hF, hCl⟩ := hmk
    obtain ⟨qs, fq1, fq2, fq3⟩ := hF
    obtain ⟨fa, fc, efv, hfc, _⟩ := owns_cap fq2
    have hql : qs.length = o'.length := by rw [← fq1, List.length_map]
    obtain ⟨n, hn⟩ : ∃ n, n = o'.length := ⟨_, rfl⟩
    have HN : Hid (n = o'.length) := hn
    have hn6 : n ≤ 6 := by rw [hn]; exact HO7.out
    rw [hql, ← hn] at efv hfc fq2
    have HE1 : Hid (fv' = .slice fa n fc) := efv
    have k0 := kM.two.1
    rw [efv] at k0
    have FQ1 : Hid (qs.map Prod.fst = o') := fq1
    have FQ2 : Hid (wc.ownsRow base 67 3 fv' n (frCells qs)) := fq2
    have FQ3 : Hid (∀ p ∈ qs, StrsIn (GS base M fv' cv') wc p.2 p.1.parts) := fq3
    have HQL : Hid (qs.length = n) := by show _ = _; rw [hql, hn]
    have hMc := kM.lt
    have hKl := KF.out.lt
    obtain ⟨y0, y1, y2⟩ := KF.out.three
    clear kM hCl fq1 fq2 fq3 efv hql hn
    go_wp2_with fail
    refine region_chain (by kernel_rfl) (by kernel_rfl) [.quiet (.pointer (some ⟨M, 0, none⟩)) 4, .quiet (.pointer (some ⟨M, 0, none⟩)) 4, .quiet (.pointer (some ⟨M, 0, none⟩)) 4, .quiet (.pointer (some ⟨M, 0, none⟩)) 4, .quiet (.pointer (some ⟨M, 0, none⟩)) 4, .quiet (.slice fa n fc) 2, .quiet (.agg #[.int .i64 t, .bool k, .slice pa pn pc]) 0, .step 0, .step 1, .step 2, .quiet (.pointer (some ⟨M, 0, none⟩)) 4, .quiet (.pointer (some ⟨M, 0, none⟩)) 4, .quiet (.pointer (some ⟨M, 0, none⟩)) 4, .step 3] [7, 8, 9, 13] (by kernel_rfl)
      (fun s r w' => match s with
        | 0 => Below wc.heap.size wc w'
        | 1 => ∃ a c, r 0 = .agg #[.int .i64 t, .bool k, .slice a pn c] ∧ StrsIn (fun g => wc.heap.size ≤ g) w' (.slice a pn c) parts ∧ Below wc.heap.size wc w'
        | 2 => ∃ a c V, StrsIn (fun g => wc.heap.size ≤ g) V (.slice a pn c) parts ∧ Below wc.heap.size wc V ∧ w' = V.alloc (.cells #[.int .i64 t, .bool k, .slice a pn c] 67) ∧ r 1 = .slice (some ⟨V.heap.size, 0, none⟩) 1 1
        | 3 => ∃ a c V, StrsIn (fun g => wc.heap.size ≤ g) V (.slice a pn c) parts ∧ Below wc.heap.size wc V ∧ w'.ownsRow base 67 3 (r 2) (n + 1) (frCells qs ++ [.int .i64 t, .bool k, .slice a pn c]) ∧ (V.alloc (.cells #[.int .i64 t, .bool k, .slice a pn c] 67)).grownBy w' fv'.ownBlock ∧ ((r 2).ownBlock = fv'.ownBlock ∨ ∀ g, (r 2).ownBlock = some g → (V.alloc (.cells #[.int .i64 t, .bool k, .slice a pn c] 67)).heap.size ≤ g)
        | _ => ∃ a c V w2 v', StrsIn (fun g => wc.heap.size ≤ g) V (.slice a pn c) parts ∧ Below wc.heap.size wc V ∧ w2.ownsRow base 67 3 v' (n + 1) (frCells qs ++ [.int .i64 t, .bool k, .slice a pn c]) ∧ (V.alloc (.cells #[.int .i64 t, .bool k, .slice a pn c] 67)).grownBy w2 fv'.ownBlock ∧ (v'.ownBlock = fv'.ownBlock ∨ ∀ g, v'.ownBlock = some g → (V.alloc (.cells #[.int .i64 t, .bool k, .slice a pn c] 67)).heap.size ≤ g) ∧ w' = w2.setCell ⟨M, 0, none⟩ v') ((Below.refl _ wc).drew) ?step ?fin
    case step =>
      intro i o ho a' w' s r hI hfree hvals
      have f0 : a'.eval (.tmp 0) = .pointer (some ⟨M, 0, none⟩) := (hfree 0 (by kernel_rfl)).trans rfl
      have f3 : a'.eval (.tmp 3) = .pointer (some ⟨w.heap.size, 0, none⟩) := (hfree 3 (by kernel_rfl)).trans rfl
      match i, ho with
      | 0, ho | 1, ho =>
        simp at ho; subst ho
        show s ≤ 4 → (execOp a'.eval _).run _ w' = .ok (.value _) w'
        intro _
        generalize a'.eval = ρ at *
        simp [execOp, go_sem, f0]
      | 2, ho =>
        simp at ho; subst ho
        have e1 : a'.eval (.tmp 13) = .pointer (some ⟨M, 0, none⟩) := hvals 1 _ _ (by kernel_rfl) rfl rfl
        show s ≤ 4 → (execOp a'.eval _).run _ w' = .ok (.value _) w'
        intro _
        generalize a'.eval = ρ at *
        simp [execOp, go_sem, e1]
      | 3, ho =>
        simp at ho; subst ho
        have e1 : a'.eval (.tmp 14) = .pointer (some ⟨M, 0, none⟩) := hvals 2 _ _ (by kernel_rfl) rfl rfl
        show s ≤ 4 → (execOp a'.eval _).run _ w' = .ok (.value _) w'
        intro _
        generalize a'.eval = ρ at *
        simp [execOp, go_sem, e1]
      | 4, ho =>
        simp at ho; subst ho
        have e1 : a'.eval (.tmp 15) = .pointer (some ⟨M, 0, none⟩) := hvals 3 _ _ (by kernel_rfl) rfl rfl
        show s ≤ 4 → (execOp a'.eval _).run _ w' = .ok (.value _) w'
        intro _
        generalize a'.eval = ρ at *
        simp [execOp, go_sem, e1]
      | 5, ho =>
        simp at ho; subst ho
        have e1 : a'.eval (.tmp 16) = .pointer (some ⟨M, 0, none⟩) := hvals 4 _ _ (by kernel_rfl) rfl rfl
        show s ≤ 2 → (execOp a'.eval _).run _ w' = .ok (.value _) w'
        intro hs
        have hc : w'.cell? ⟨M, 0, none⟩ = some (.slice fa n fc) := by
          match s, hs, hI with
          | 0, _, hI => exact (Below.cell hI (p := ⟨M, 0, none⟩) hMc).trans k0
          | 1, _, ⟨_, _, _, _, hI⟩ => exact (Below.cell hI (p := ⟨M, 0, none⟩) hMc).trans k0
          | 2, _, ⟨_, _, V, _, hI, hw, _⟩ => rw [hw]; exact (World.cell?_alloc_past _ _ _ (Nat.lt_of_lt_of_le hMc hI.size)).trans ((Below.cell hI (p := ⟨M, 0, none⟩) hMc).trans k0)
        generalize a'.eval = ρ at *
        simp [execOp, go_sem, e1, hc]
      | 6, ho =>
        simp at ho; subst ho
        show s ≤ 0 → (execOp a'.eval _).run _ w' = .ok (.value _) w'
        intro hs
        have hB : Below wc.heap.size wc w' := by
          match s, hs, hI with
          | 0, _, hI => exact hI
        have z0 := (hB.cell (p := ⟨w.heap.size, 0, none⟩) hKl).trans y0
        have z1 := (hB.cell (p := ⟨w.heap.size, 1, none⟩) hKl).trans y1
        have z2 := (hB.cell (p := ⟨w.heap.size, 2, none⟩) hKl).trans y2
        generalize a'.eval = ρ at *
        simp [execOp, go_sem, f3, z0, z1, z2]
      | 7, ho =>
        simp at ho; subst ho
        have e1 : a'.eval (.tmp 18) = .agg #[.int .i64 t, .bool k, .slice pa pn pc] := hvals 6 _ _ (by kernel_rfl) rfl rfl
        have ef : a'.eval (.func 71) = .func (.func 71) #[] #[] := rfl
        show s = 0 → Oper.wp _ _ _ _ _ _
        intro hs
        subst hs
        have hB : Below wc.heap.size wc w' := hI
        refine oper_wp_call (f := 71) (args := #[.agg #[.int .i64 t, .bool k, .slice pa pn pc]]) ?_ ?_
        · generalize a'.eval = ρ at *
          simp [execOp, go_sem, e1, ef]
        · refine (HCF.out w' (SP.out.below hB)).mono ?_
          rintro e w'' ⟨a, c, rfl, hs1, hb1⟩
          refine ⟨_, rfl, _, rfl, a, c, updR_at _ _ _, hs1.mono (fun g _ hg => Nat.le_trans hB.size hg), hB.trans (hb1.mono hB.size)⟩
      | 8, ho =>
        simp at ho; subst ho
        have e1 : a'.eval (.tmp 19) = r 0 := hvals 7 _ _ (by kernel_rfl) rfl rfl
        show s = 1 → Oper.wp _ _ _ _ _ _
        intro hs
        subst hs
        obtain ⟨a, c, hr0, h1, h2⟩ := hI
        rw [hr0] at e1
        refine oper_wp_ok (v := .slice (some ⟨w'.heap.size, 0, none⟩) 1 1) (w' := w'.alloc (.cells #[.int .i64 t, .bool k, .slice a pn c] 67)) ?_ ⟨_, rfl, a, c, w', h1, h2, rfl, updR_at _ _ _⟩
        generalize a'.eval = ρ at *
        simp [execOp, go_sem, e1]
      | 9, ho =>
        simp at ho; subst ho
        have e1 : a'.eval (.tmp 17) = .slice fa n fc := hvals 5 _ _ (by kernel_rfl) rfl rfl
        have e2 : a'.eval (.tmp 20) = r 1 := hvals 8 _ _ (by kernel_rfl) rfl rfl
        show s = 2 → Oper.wp _ _ _ _ _ _
        intro hs
        subst hs
        obtain ⟨a, c, V, h1, h2, hw, hr1⟩ := hI
        rw [hr1] at e2
        subst hw
        have hV := h2.size
        have hown : (V.alloc (.cells #[.int .i64 t, .bool k, .slice a pn c] 67)).ownsRow base 67 3 fv' n (frCells qs) := (owns_below FQ2.out h2 (Nat.le_refl _)).alloc _
        obtain ⟨v', w2, hrun, g2, g3, g4⟩ := run_append_own2 (P := Try.prog) (V.alloc (.cells #[.int .i64 t, .bool k, .slice a pn c] 67)) base 28 28 67 i0 _ 3 40 Try.underlying28 hi hz0 hz1 hz2 rfl (by decide) fv' n (frCells qs) hown ⟨V.heap.size, 0, none⟩ 1 1 [.int .i64 t, .bool k, .slice a pn c] rfl (fun j u hj => by
            rw [Addr.add_lit, Nat.zero_add]
            exact (Blk.new V #[.int .i64 t, .bool k, .slice a pn c] 67).cell (by simpa using hj)) (fun u hu => by simp at hu; rcases hu with rfl | rfl | rfl <;> rfl) (by unfold maxLen; omega) (by omega) (by simp; omega)
        rw [HE1.out] at hrun
        refine oper_wp_ok (v := v') (w' := w2) ?_ ⟨_, rfl, a, c, V, h1, h2, ?_⟩
        · generalize a'.eval = ρ at *
          simp [execOp, resolve, invoke, builtin, e1, e2, hrun, Result.andThen]
        · rw [updR_at]
          exact ⟨g2, g3, g4⟩
      | 10, ho =>
        simp at ho; subst ho
        have e1 : a'.eval (.tmp 12) = .pointer (some ⟨M, 0, none⟩) := hvals 0 _ _ (by kernel_rfl) rfl rfl
        show s ≤ 4 → (execOp a'.eval _).run _ w' = .ok (.value _) w'
        intro _
        generalize a'.eval = ρ at *
        simp [execOp, go_sem, e1]
      | 11, ho =>
        simp at ho; subst ho
        have e1 : a'.eval (.tmp 22) = .pointer (some ⟨M, 0, none⟩) := hvals 10 _ _ (by kernel_rfl) rfl rfl
        show s ≤ 4 → (execOp a'.eval _).run _ w' = .ok (.value _) w'
        intro _
        generalize a'.eval = ρ at *
        simp [execOp, go_sem, e1]
      | 12, ho =>
        simp at ho; subst ho
        have e1 : a'.eval (.tmp 23) = .pointer (some ⟨M, 0, none⟩) := hvals 11 _ _ (by kernel_rfl) rfl rfl
        show s ≤ 4 → (execOp a'.eval _).run _ w' = .ok (.value _) w'
        intro _
        generalize a'.eval = ρ at *
        simp [execOp, go_sem, e1]
      | 13, ho =>
        simp at ho; subst ho
        have e1 : a'.eval (.tmp 24) = .pointer (some ⟨M, 0, none⟩) := hvals 12 _ _ (by kernel_rfl) rfl rfl
        have e2 : a'.eval (.tmp 21) = r 2 := hvals 9 _ _ (by kernel_rfl) rfl rfl
        show s = 3 → Oper.wp _ _ _ _ _ _
        intro hs
        subst hs
        obtain ⟨a, c, V, h1, h2, g2, g3, g4⟩ := hI
        obtain ⟨va, vc, ev, _⟩ := owns_cap g2
        have hV := h2.size
        have kM2 : Blk w' M #[fv', cv'] 149 := (g3.block M (by simp; omega) (fun e => MK.out.fneM e.symm)).trans ((MK.out.1.below h2 hMc).alloc _)
        have z0 := kM2.two.1
        have z1 := kM2.free 0
        refine oper_wp_skip (w' := w'.setCell ⟨M, 0, none⟩ (r 2)) ?_ ⟨_, rfl, a, c, V, w', r 2, h1, h2, g2, g3, g4, rfl⟩
        rw [ev] at e2 ⊢
        generalize a'.eval = ρ at *
        simp [execOp, go_sem, e1, e2, z0, z1]
      | i + 14, ho => simp at ho
    case fin =>
      rintro r w' ⟨a, c, V, w2, v', h1, h2, g2, g3, g4, hw⟩
      have hmk := MK.out
      have hV := h2.size
      have hsz2 := g3.size
      simp only [World.size_alloc] at hsz2
      have kM2 : Blk w2 M #[fv', cv'] 149 := (g3.block M (by simp; omega) (fun e => hmk.fneM e.symm)).trans ((hmk.1.below h2 hMc).alloc _)
      have hvM : v'.ownBlock ≠ some M := fun e => by
        rcases g4 with g4 | g4
        · rw [g4] at e; exact hmk.fneM e
        · have := g4 M e; simp at this; omega
      have hnew : ∀ g, g < V.heap.size → some g ≠ fv'.ownBlock → some g ≠ v'.ownBlock := fun g hg h1 e => by
        rcases g4 with g4 | g4
        · rw [g4] at e; exact h1 e
        · have := g4 g e.symm; simp at this; omega
      have hsm : SameOn (fun g => g < V.heap.size ∧ some g ≠ fv'.ownBlock) V w2 := ⟨by omega, fun g hg h2 => by
        rw [g3.block g (by simp; omega) h2.2]
        exact Below.heap_alloc V _ g hg⟩
      have hsm2 : SameOn (GS base M fv' cv') wc w2 := (SameOn.of_below h2).trans (hsm.mono' (fun g hg hs => ⟨hg, hs.2.2.1⟩))
      have hSS : ∀ g, g < wc.heap.size → GS base M fv' cv' g → GS base M v' cv' g := fun g hg hs => ⟨hs.1, hs.2.1, hnew g (by omega) hs.2.2.1, hs.2.2.2⟩
      have hcb : ∀ g, cv'.ownBlock = some g → w2.heap[g]? = wc.heap[g]? := fun g hg => by
        have h3 := (hmk.2.2.lt g hg).2
        rw [hsm.2 g (by omega) ⟨by omega, fun e => hmk.fnec g e.symm hg⟩]
        exact h2.block g h3
      have hp2 : StrsIn (GS base M v' cv') w2 (.slice a pn c) parts := by
        refine (h1.mono (S' := fun g => wc.heap.size ≤ g ∧ g < V.heap.size) (fun g hg h => ⟨h, hg⟩)).to (hsm.mono (fun g hg => ⟨hg.2, fun e => by have := (hmk.2.1.lt g e.symm).2; omega⟩)) (fun g hg hs => ⟨?_, ?_, ?_, ?_⟩)
        · have := hmk.1.lt; omega
        · omega
        · exact hnew g hs.2 (fun e => by have := (hmk.2.1.lt g e.symm).2; omega)
        · exact fun e => by have := (hmk.2.2.lt g e.symm).2; omega
      have hof : OwnFrs base (GS base M v' cv') w2 v' (o' ++ [⟨t, k, parts⟩]) := by
        refine ⟨qs ++ [(⟨t, k, parts⟩, .slice a pn c)], by rw [List.map_append, FQ1.out]; rfl, by rw [List.length_append, frCells_append, HQL.out]; exact g2, fun p hp => ?_⟩
        rcases List.mem_append.1 hp with hp | hp
        · exact (FQ3.out p hp).to hsm2 hSS
        · simp at hp; subst hp; exact hp2
      have hoc : OwnGrs base (GS base M v' cv') w2 cv' C := hmk.2.2.to hsm2 hSS hcb
      have set0 : SameOn (GS base M v' cv') w2 (w2.setCell ⟨M, 0, none⟩ v') := SameOn.setCell (fun g hg => hg.2.1) _
      have FIN : Hid (GMake base M (w2.setCell ⟨M, 0, none⟩ v') R C) := ⟨v', cv', kM2.set 0 _, by
          rw [HR.out]
          exact hof.to set0 (fun _ _ h => h) (fun g hg => Below.heap_setCell _ _ _ _ (fun e => hvM (by rw [hg]; exact congrArg some e))),
        hoc.to set0 (fun _ _ h => h) (fun g hg => Below.heap_setCell _ _ _ _ (fun e => hmk.cneM (by rw [hg]; exact congrArg some e)))⟩
      have BEL : Hid (Below base w (w2.setCell ⟨M, 0, none⟩ v')) := (((BC.out.trans (h2.mono (by have := hmk.1.lt; omega))).alloc (by have := hmk.1.lt; omega) _).grown g3 (by have := hmk.1.lt; simp; omega) (fun j hj => (hmk.2.1.lt j hj).1)).setCell (by exact hbM) _
      subst hw
      simp only [putC, Ck.out]
      clear hof hoc hp2 hSS hsm2 hcb hsm hnew g2 g3 g4 kM2 k0 y0 y1 y2 set0
      go_wp2
      go_end0
      exact ⟨rfl, FIN.out, BEL.out⟩

end Go.Proofs.Ytnpaejknoipicag

namespace Go.Proofs.Ytnpaejknoipicag
open Go.RowKit

def eachE (l : List Fr) : Int := goN (fun k => (frAt l k).chk) l.length 0

set_option maxHeartbeats 4000000 in
set_option maxRecDepth 100000 in
theorem groupEach_any (base M : Nat) (v : Value) (l : List Fr) (w : World) (hM : GMk base M w (.slice none 0 0) (.slice none 0 0) [] []) (hbM : base ≤ M) (hv : FrsIn (fun g => g < base) w v l) (hl : l.length ≤ 100) :
    Calls Try.prog 97 #[v, .func (.func 98) #[.pointer (some ⟨M, 0, none⟩)] #[]] w fun e w' => e = .returned (.int .i64 (eachE l)) ∧ (eachE l = 0 → GMake base M w' (upG l l.length).2 (upG l l.length).1) ∧ Below base w w' := by
  have HV : Hid (FrsIn (fun g => g < base) w v l) := hv
  obtain ⟨ao, c, hva, h1, h2, hc⟩ := hv
  have HC : Hid (∀ k, k < l.length → ∃ b off, ao = some ⟨b, off, none⟩ ∧ b < w.heap.size ∧ b < base ∧ At3In (fun g => g < base) w b (off + k * 3) (l[k]?.getD Fr.zero)) := hc
  obtain ⟨n, hn⟩ : ∃ n, n = l.length := ⟨_, rfl⟩
  have HN : Hid (n = l.length) := hn
  have hbw : base ≤ w.heap.size := by have := hM.1.lt; omega
  obtain ⟨E, hE⟩ : ∃ E, E = eachE l := ⟨_, rfl⟩
  have HE : Hid (E = goN (fun k => (frAt l k).chk) n 0) := by show _ = _; rw [hE, hn]; rfl
  have HMK : Hid (GMk base M w (.slice none 0 0) (.slice none 0 0) [] []) := hM
  have eg : Enters Try.prog 98 := enters_of Try.func98 (by kernel_rfl) rfl
  have eg' : ∀ (args : Array Value) (w : World), (callFunc 98 args).run Try.prog w = .ok (.enter 98 args) w := eg
  rw [← hn] at hva h1 hl
  rw [← hE, ← hn]
  clear hc hn hE hM eg
  subst hva
  go_enter Try.func97, Try.ntmps97
  go_wp2_with fail
  go_loopw [10] (fun i wr => ∃ k : Nat, k ≤ n ∧ i = .int .i64 k ∧ Hid (∀ j, j < k → (frAt l j).chk = 0) ∧ Hid (GMake base M wr (upG l k).2 (upG l k).1) ∧ Hid (Below base w wr))
    (fun i _ => n - (intOf i).toNat)
  case atStart => exact ⟨0, Nat.zero_le _, rfl, (show ∀ j, j < 0 → _ from fun j hj => absurd hj (Nat.not_lt_zero _)), ⟨_, _, HMK.out⟩, Below.refl _ _⟩
  case round =>
    obtain ⟨k, hk, rfl, HK, MK, HB⟩ := hrel
    by_cases hlt : k < n
    · obtain ⟨b, off, hao, hb, hbb, pv, c0, c1, c2, hp⟩ := HC.out k (by rw [← HN.out]; exact hlt)
      have d0 := (HB.out.cell (p := ⟨b, off + k * 3, none⟩) hbb).trans c0
      have d1 := (HB.out.cell (p := ⟨b, off + k * 3 + 1, none⟩) hbb).trans c1
      have d2 := (HB.out.cell (p := ⟨b, off + k * 3 + 2, none⟩) hbb).trans c2
      have hpr : StrsIn (fun g => g < base) wr pv (l[k]?.getD Fr.zero).parts := hp.to ⟨HB.out.size, fun g _ h => HB.out.block g h⟩ (fun _ _ h => h)
      obtain ⟨f, hf⟩ : ∃ f, f = frAt l k := ⟨_, rfl⟩
      rw [show (l[k]?.getD Fr.zero) = f from hf.symm] at d0 d1 hpr
      obtain ⟨pa, pc, ep⟩ := hpr.1.len
      obtain ⟨fv, cv, mk⟩ := MK.out
      have hlens := upG_len l k (by rw [← HN.out]; omega)
      have HUP : Hid (upG l (k + 1) = stepG (upG l k) f) := by show _ = _; rw [hf]; exact upG_succ l k (by rw [← HN.out]; exact hlt)
      have HFC : Hid (frAt l k = f) := hf.symm
      obtain ⟨cl, o, hco⟩ : ∃ cl o, upG l k = (cl, o) := ⟨_, _, rfl⟩
      rw [hco] at mk hlens HUP
      simp only at mk hlens
      have HM1 : Hid (GMk base M wr fv cv o cl) := mk
      have HTK : Hid (f.chk = 0 → ∀ w' : World, GMk base M w' fv cv o cl → StrsIn (fun g => g < base) w' pv f.parts → Calls Try.prog 98 #[.pointer (some ⟨M, 0, none⟩), .agg #[.int .i64 f.time, .bool f.key, pv]] w' fun e w'' => e = .returned (.tuple #[]) ∧ GMake base M w'' (growG o f) (if f.key && decide (0 < o.length) then cl ++ [o] else cl) ∧ Below base w' w'') := fun h w' h1 h2 => groupTake_any base M fv cv o cl f pv w' h1 hbM hlens.1 (by have := hlens.2; omega) h2 h
      obtain ⟨ck, hck⟩ : ∃ ck, ck = f.chk := ⟨_, rfl⟩
      have HCF : Hid (∀ w' : World, Strs w' pv f.parts → Calls Try.prog 47 #[.agg #[.int .i64 f.time, .bool f.key, pv]] w' fun e w'' => e = .returned (.int .i64 ck) ∧ Below w'.heap.size w' w'') := fun w' hs => by rw [hck]; exact frameCheck_any f.time f.key _ f.parts w' hs hpr.2.1
      have HP : Hid (StrsIn (fun g => g < base) wr pv f.parts) := hpr
      have HCK : Hid (ck = f.chk) := hck
      rw [← hck] at HTK
      obtain ⟨R, hR⟩ : ∃ R, R = growG o f := ⟨_, rfl⟩
      obtain ⟨C, hC⟩ : ∃ C, C = (if f.key && decide (0 < o.length) then cl ++ [o] else cl) := ⟨_, rfl⟩
      have HUP2 : Hid (upG l (k + 1) = (C, R)) := by show _ = _; rw [HUP.out, hR, hC]; rfl
      rw [← hR, ← hC] at HTK
      obtain ⟨pn, hpn⟩ : ∃ pn, pn = f.parts.length := ⟨_, rfl⟩
      rw [← hpn] at ep
      subst ep
      subst hao
      have hlti : (k : Int) < (n : Int) := by omega
      obtain ⟨ft, fk, fp⟩ := f
      simp only at d0 d1 HP HCF HTK
      clear c0 c1 c2 hp hpr hf hck hpn hco mk hlens hR hC MK HUP
      go_wp2_with fail
      refine (HCF.out _ (HP.out.1.below ((Below.refl _ wr).alloc (Nat.le_refl _) _))).mono ?_
      rintro e w1 ⟨rfl, hb1⟩
      have B1 : Hid (Below wr.heap.size wr w1) := ((Below.refl _ wr).alloc (Nat.le_refl _) _).trans (hb1.mono (by simp))
      have BB1 : Hid (Below base w w1) := HB.out.trans (B1.out.mono (by have := HB.out.size; omega))
      obtain ⟨y0, y1, y2⟩ := ((Blk.new wr #[.int .i64 ft, .bool fk, .slice pa pn pc] 67).below hb1 (by simp)).three
      clear hb1 d0 d1 d2
      by_cases hc0 : ck = 0
      · have MK1 : Hid (GMk base M w1 fv cv o cl) := HM1.out.below B1.out
        have SP1 : Hid (StrsIn (fun g => g < base) w1 (.slice pa pn pc) fp) := HP.out.below B1.out
        have HCK0 : Hid ((frAt l k).chk = 0) := by show _ = _; rw [HFC.out, ← HCK.out, hc0]
        have HT2 : Hid (∀ w' : World, GMk base M w' fv cv o cl → StrsIn (fun g => g < base) w' (.slice pa pn pc) fp → Calls Try.prog 98 #[.pointer (some ⟨M, 0, none⟩), .agg #[.int .i64 ft, .bool fk, .slice pa pn pc]] w' fun e w'' => e = .returned (.tuple #[]) ∧ GMake base M w'' R C ∧ Below base w' w'') := HTK.out hc0
        subst hc0
        clear HTK HCK
        go_wp2_with (go_at_fn 98; refine (HT2.out _ MK1.out SP1.out).mono ?_; rintro e w2 ⟨rfl, mk2, hb2⟩)
        have MK3 : Hid (GMake base M w2 (upG l (k + 1)).2 (upG l (k + 1)).1) := by show GMake _ _ _ _ _; rw [HUP2.out]; exact mk2
        have BB2 : Hid (Below base w w2) := BB1.out.trans hb2
        clear mk2 hb2 y0 y1 y2
        go_roundw
        case rel => exact ⟨k + 1, by omega, by go_num, (show ∀ j, j < k + 1 → _ from fun j hj => by
          by_cases e : j = k
          · subst e; exact HCK0.out
          · exact HK.out j (by omega)), MK3, BB2⟩
        case measure => simp [intOf]; omega
      · have HEE : Hid (E = ck) := by
          show _ = _
          rw [HE.out, goN_hit n 0 k (Nat.zero_le _) (by omega) (fun j _ hj => HK.out j hj) (by rw [HFC.out, ← HCK.out]; exact hc0), HFC.out, ← HCK.out]
        go_wp2
        go_ret
        exact ⟨by rw [HEE.out]; rfl, fun h => absurd (HEE.out.symm.trans h) hc0, BB1.out⟩
    · have hkl : k = n := by omega
      subst hkl
      have HEE : Hid (E = 0) := by show _ = _; rw [HE.out]; exact goN_all _ _ (fun j _ hj => HK.out j (by omega))
      go_wp2
      go_ret
      exact ⟨by rw [HEE.out]; rfl, fun _ => MK.out, HB.out⟩

end Go.Proofs.Ytnpaejknoipicag

namespace Go.Proofs.Ytnpaejknoipicag
open Go.RowKit

/-- what All answers lies in blocks of its own -/
def Fresh3 (base : Nat) (w : World) (cv fv : Value) (r : List (List Fr) × List Fr) : Prop := GrsIn (fun g => base ≤ g) w cv r.1 ∧ FrsIn (fun g => base ≤ g) w fv r.2

set_option maxHeartbeats 4000000 in
set_option maxRecDepth 100000 in
theorem groupAll_any (v : Value) (l : List Fr) (w : World) (S : Nat → Prop) (hv : FrsIn S w v l) :
    Calls Try.prog 93 #[v] w fun e w' => ∃ ca cc fa fc, e = .returned (.tuple #[.slice ca (groupsR l).1.length cc, .agg #[.slice fa (groupsR l).2.length fc], .int .i64 (groupsE l)]) ∧ GrsIn (fun g => w.heap.size ≤ g) w' (.slice ca (groupsR l).1.length cc) (groupsR l).1 ∧ FrsIn (fun g => w.heap.size ≤ g) w' (.slice fa (groupsR l).2.length fc) (groupsR l).2 ∧ Below w.heap.size w w' := by
  obtain ⟨a, c, hva, _, hl⟩ := hv.len
  have HV : Hid (FrsIn S w v l) := hv
  obtain ⟨n, hn⟩ : ∃ n, n = l.length := ⟨_, rfl⟩
  have HN : Hid (n = l.length) := hn
  obtain ⟨E, hE⟩ : ∃ E, E = groupsE l := ⟨_, rfl⟩
  obtain ⟨R, hR⟩ : ∃ R, R = groupsR l := ⟨_, rfl⟩
  have HE : Hid (E = if 100 < n then 2 else eachE l) := by show _ = _; rw [hE, hn]; rfl
  have HR : Hid (R = if E = 0 then upG l n else ([], [])) := by show _ = _; rw [hR, hE, hn]; rfl
  rw [← hn] at hva hl
  rw [← hE, ← hR]
  clear hv hn hE hR
  subst hva
  by_cases h1 : 100 < n
  · have hE2 : E = 2 := by rw [HE.out, if_pos h1]
    have hR2 : R = ([], []) := by rw [HR.out, hE2]; rfl
    rw [hE2, hR2]
    have hr := Blk.new w #[.slice none 0 0] 30
    have r0 := hr.one
    have r1 := hr.free 0
    have HBl : Hid (Below w.heap.size w (w.alloc (.cells #[.slice none 0 0] 30))) := (Below.refl _ w).alloc (Nat.le_refl _) _
    clear hr
    go_enter Try.func93, Try.ntmps93
    go_wp2
    exact bodyPost_ret (v := .tuple #[.slice none 0 0, .agg #[.slice none 0 0], .int .i64 2]) (by simp [results, Try.results93, go_sem]) rfl ⟨none, 0, none, 0, rfl, GrsIn.nil _ _, FrsIn.nil _ _, HBl.out⟩
  have hn100 : n ≤ 100 := by omega
  have HE2 : Hid (E = eachE l) := by show _ = _; rw [HE.out, if_neg h1]
  have HEA : Hid (∀ w' : World, GMk (w.heap.size + 1) (w.heap.size + 1) w' (.slice none 0 0) (.slice none 0 0) [] [] → FrsIn (fun g => g < w.heap.size + 1) w' (.slice a n c) l → Calls Try.prog 97 #[.slice a n c, .func (.func 98) #[.pointer (some ⟨w.heap.size + 1, 0, none⟩)] #[]] w' fun e w'' => e = .returned (.int .i64 E) ∧ (E = 0 → GMake (w.heap.size + 1) (w.heap.size + 1) w'' (upG l n).2 (upG l n).1) ∧ Below (w.heap.size + 1) w' w'') := fun w' h1 h2 => by
    have := groupEach_any (w.heap.size + 1) (w.heap.size + 1) (.slice a n c) l w' h1 (Nat.le_refl _) h2 (by rw [← HN.out]; exact hn100)
    rw [← HE2.out, ← HN.out] at this
    exact this
  clear HE h1
  go_enter Try.func93, Try.ntmps93
  have HM0 : Hid (GMk (w.heap.size + 1) (w.heap.size + 1) ((w.alloc (.cells #[.slice none 0 0] 30)).alloc (.cells #[.slice none 0 0, .slice none 0 0] 149)) (.slice none 0 0) (.slice none 0 0) [] []) := by
    refine ⟨?_, OwnFrs.nil _ _ _, OwnGrs.nil _ _ _⟩
    have := Blk.new (w.alloc (.cells #[.slice none 0 0] 30)) #[.slice none 0 0, .slice none 0 0] 149
    simp only [World.size_alloc] at this
    exact this
  have HV0 : Hid (FrsIn (fun g => g < w.heap.size + 1) ((w.alloc (.cells #[.slice none 0 0] 30)).alloc (.cells #[.slice none 0 0, .slice none 0 0] 149)) (.slice a n c) l) := ((HV.out.mono (S' := fun g => g < w.heap.size + 1) (fun g hg _ => by show g < _; omega)).alloc _).alloc _
  go_wp2_with fail
  refine (HEA.out _ HM0.out HV0.out).mono ?_
  rintro e w1 ⟨rfl, hmk, hb1⟩
  have kR : Blk w1 w.heap.size #[.slice none 0 0] 30 := ((Blk.new w #[.slice none 0 0] 30).alloc (.cells #[.slice none 0 0, .slice none 0 0] 149)).below hb1 (by omega)
  have B1 : Hid (Below w.heap.size w w1) := (((Below.refl _ w).alloc (Nat.le_refl _) _).alloc (by simp) _).trans (hb1.mono (by omega))
  have r0 := kR.one
  have r1 := kR.free 0
  by_cases hE0 : E = 0
  · obtain ⟨fv, cv, mk⟩ := hmk hE0
    have hR2 : R = upG l n := by rw [HR.out, if_pos hE0]
    rw [← hR2] at mk
    obtain ⟨kM, hF, hC⟩ := mk
    have GF : FrsIn (fun g => w.heap.size + 1 ≤ g) w1 fv R.2 := hF.frsIn (fun g _ h => h.1) (fun g hg => (hF.lt g hg).1)
    have GC : GrsIn (fun g => w.heap.size + 1 ≤ g) w1 cv R.1 := hC.grsIn (fun g _ h => h.1) (fun g hg => (hC.lt g hg).1)
    obtain ⟨fa, fc, efv, _⟩ := GF.len
    obtain ⟨ca, cc, ecv, _⟩ := GC.len
    obtain ⟨k0, k1⟩ := kM.two
    rw [efv] at GF k0
    rw [ecv] at GC k1
    have HGF : Hid (FrsIn (fun g => w.heap.size + 1 ≤ g) w1 (.slice fa R.2.length fc) R.2) := GF
    have HGC : Hid (GrsIn (fun g => w.heap.size + 1 ≤ g) w1 (.slice ca R.1.length cc) R.1) := GC
    obtain ⟨nF, hnF⟩ : ∃ nF, nF = R.2.length := ⟨_, rfl⟩
    obtain ⟨nC, hnC⟩ : ∃ nC, nC = R.1.length := ⟨_, rfl⟩
    rw [← hnF] at HGF k0
    rw [← hnC] at HGC k1
    have HNF : Hid (nF = R.2.length) := hnF
    have HNC : Hid (nC = R.1.length) := hnC
    have hne : ¬ w.heap.size + 1 = w.heap.size := by omega
    have hMl := kM.lt
    subst hE0
    clear hmk hb1 kR kM hF hC efv ecv GF GC hR2 hnF hnC
    go_wp2_with fail
    go_region
    all_goals
      go_wp2
      refine bodyPost_ret (v := .tuple #[.slice ca nC cc, .agg #[.slice fa nF fc], .int .i64 0]) (by simp [results, Try.results93, go_sem, r0]) rfl ⟨ca, cc, fa, fc, by rw [HNC.out, HNF.out], ?_, ?_, ?_⟩
      · rw [← HNC.out]
        exact HGC.out.to (SameOn.setCell (fun g (hg : w.heap.size + 1 ≤ g) => by show g ≠ w.heap.size; omega) _) (fun g _ hg => by omega)
      · rw [← HNF.out]
        exact HGF.out.to (SameOn.setCell (fun g (hg : w.heap.size + 1 ≤ g) => by show g ≠ w.heap.size; omega) _) (fun g _ hg => by omega)
      · exact (B1.out.setCell (by simp) _).drew
  · have hR2 : R = ([], []) := by rw [HR.out, if_neg hE0]
    have HR2 : Hid (R = ([], [])) := hR2
    clear hmk hb1 kR hR2
    go_wp2
    refine bodyPost_ret (v := .tuple #[.slice none 0 0, .agg #[.slice none 0 0], .int .i64 E]) (by simp [results, Try.results93, go_sem, r0]) rfl ?_
    rw [HR2.out]
    exact ⟨none, 0, none, 0, rfl, GrsIn.nil _ _, FrsIn.nil _ _, B1.out.setCell (by simp) _⟩

end Go.Proofs.Ytnpaejknoipicag

namespace Go.Proofs.Ytnpaejknoipicag
open Go.RowKit

theorem FrsIn.two {S : Nat → Prop} {w : World} {b : Nat} {f : Fr} {pv : Value} (hb : Blk w b #[.int .i64 f.time, .bool f.key, pv] 67) (hS : S b) (hp : StrsIn S w pv f.parts) : FrsIn S w (.slice (some ⟨b, 0, none⟩) 1 1) [f] := FrsIn.one hb hS hp

/-- what is known behind each step -/
def AddI (w1 : World) (f : Fr) (pa : Option Addr) (pn pc : Nat) (oa : Option Addr) (lo oc : Nat) (X : List Fr) (C : List (List Fr)) (R : List Fr) (E : Int) (s : Nat) (r : Nat → Value) (b : Option Nat) (w' : World) : Prop :=
  Below w1.heap.size w1 w' ∧ (s ≤ 4 → ∀ g, b = some g → w1.heap.size ≤ g ∧ Blk w' g #[.slice none 0 0] 30) ∧ match s with
    | 0 => True
    | 1 => ∃ g1, r 0 = .slice (some ⟨g1, 0, none⟩) 1 1 ∧ Blk w' g1 #[.int .i64 f.time, .bool f.key, .slice pa pn pc] 67
    | 2 => ∃ g1 g2, r 1 = .slice (some ⟨g2, 0, none⟩) 2 2 ∧ Blk w' g1 #[.int .i64 f.time, .bool f.key, .slice pa pn pc] 67 ∧ Blk w' g2 #[.slice oa lo oc, .slice (some ⟨g1, 0, none⟩) 1 1] 28
    | 3 => FrsIn (fun _ => True) w' (r 2) X
    | 4 => ∃ ca cc fa fc, r 3 = .tuple #[.slice ca C.length cc, .agg #[.slice fa R.length fc], .int .i64 E] ∧ GrsIn (fun x => b ≠ some x ∧ w1.heap.size ≤ x) w' (.slice ca C.length cc) C ∧ FrsIn (fun x => b ≠ some x ∧ w1.heap.size ≤ x) w' (.slice fa R.length fc) R
    | _ => ∃ g ca cc fa fc, b = some g ∧ w1.heap.size ≤ g ∧ r 3 = .tuple #[.slice ca C.length cc, .agg #[.slice fa R.length fc], .int .i64 E] ∧ GrsIn (fun x => b ≠ some x ∧ w1.heap.size ≤ x) w' (.slice ca C.length cc) C ∧ FrsIn (fun x => b ≠ some x ∧ w1.heap.size ≤ x) w' (.slice fa R.length fc) R ∧ Blk w' g #[.slice fa R.length fc] 30

theorem AddI.box {w1 : World} {f : Fr} {pa : Option Addr} {pn pc : Nat} {oa : Option Addr} {lo oc : Nat} {X : List Fr} {C : List (List Fr)} {R : List Fr} {E : Int} {s : Nat} {r : Nat → Value} {w' : World} (h : AddI w1 f pa pn pc oa lo oc X C R E s r none w') : AddI w1 f pa pn pc oa lo oc X C R E s r (some w'.heap.size) (w'.alloc (.cells #[.slice none 0 0] 30)) := by
  obtain ⟨h1, _, h3⟩ := h
  refine ⟨h1.alloc h1.size _, fun _ g hg => by injection hg with hg; subst hg; exact ⟨h1.size, Blk.new _ _ _⟩, ?_⟩
  match s, h3 with
  | 0, _ => trivial
  | 1, ⟨g1, e1, e2⟩ => exact ⟨g1, e1, e2.alloc _⟩
  | 2, ⟨g1, g2, e1, e2, e3⟩ => exact ⟨g1, g2, e1, e2.alloc _, e3.alloc _⟩
  | 3, h => exact FrsIn.alloc h _
  | 4, ⟨ca, cc, fa, fc, e1, e2, e3⟩ => exact ⟨ca, cc, fa, fc, e1, (e2.mono fun g hg h => ⟨fun e => (by injection e with e; omega), h.2⟩).alloc _, (e3.mono fun g hg h => ⟨fun e => (by injection e with e; omega), h.2⟩).alloc _⟩
  | _ + 5, ⟨g, _, _, _, _, e, _⟩ => cases e

end Go.Proofs.Ytnpaejknoipicag

namespace Go.Proofs.Ytnpaejknoipicag
open Go.RowKit

/-- what the frames of a right group make: that group -/
theorem upG_group {O : List Fr} (h : O = [] ∨ gchk O = 0) : ∀ k, k ≤ O.length → upG O k = ([], O.take k) := by
  rcases h with h | h
  · subst h; intro k hk
    have : k = 0 := by simpa using hk
    subst this; rfl
  · obtain ⟨_, h6, hc⟩ := gchk_zero.1 h
    intro k
    induction k with
    | zero => intro _; rfl
    | succ k ih =>
      intro hk
      rw [upG_succ O k (by omega), ih (by omega), take_one (by omega) Fr.zero]
      have hin := (hc k (by omega)).2
      unfold inPl at hin
      by_cases h0 : k = 0
      · subst h0
        rw [if_pos rfl] at hin
        simp [stepG, growG, hin]
      · rw [if_neg h0] at hin
        simp only [Bool.and_eq_true, Bool.not_eq_true', decide_eq_true_eq] at hin
        have hl : (O.take k).length = k := by simp; omega
        have hlast : frAt (O.take k) (k - 1) = frAt O (k - 1) := by
          unfold frAt; rw [List.getElem?_take_of_lt (by omega)]
        simp only [stepG, hin.1, Bool.false_and, Bool.false_eq_true, if_false]
        unfold growG
        rw [if_neg (by rw [hin.1]; simp), hl, hlast, if_neg (by omega)]
theorem groups_more {O : List Fr} {f : Fr} (h : O = [] ∨ gchk O = 0) (hf : f.chk = 0) : groupsE (O ++ [f]) = 0 ∧ groupsR (O ++ [f]) = (if f.key && decide (0 < O.length) then [O] else [], growG O f) := by
  have hO6 : O.length ≤ 6 := by
    rcases h with h | h
    · rw [h]; simp
    · exact (gchk_zero.1 h).2.1
  have hok : ∀ k, k < (O ++ [f]).length → (frAt (O ++ [f]) k).chk = 0 := fun k hk => by
    by_cases hkl : k < O.length
    · have e : frAt (O ++ [f]) k = frAt O k := by unfold frAt; rw [List.getElem?_append_left hkl]
      rw [e]
      rcases h with h | h
      · rw [h] at hkl; simp at hkl
      · exact ((gchk_zero.1 h).2.2 k hkl).1
    · have : k = O.length := by simp at hk; omega
      subst this
      have e : frAt (O ++ [f]) O.length = f := by unfold frAt; simp
      rw [e]; exact hf
  have hE : groupsE (O ++ [f]) = 0 := by
    unfold groupsE
    rw [if_neg (by simp; omega)]
    exact goN_all _ _ (fun j _ hj => hok j (by omega))
  refine ⟨hE, ?_⟩
  unfold groupsR
  rw [if_pos hE]
  have h1 : upG (O ++ [f]) (O ++ [f]).length = stepG (upG O O.length) f := by
    unfold upG
    rw [List.take_length, List.take_length, List.foldl_append]; rfl
  rw [h1, upG_group h O.length (Nat.le_refl _), List.take_length]
  simp [stepG]

set_option maxHeartbeats 8000000 in
set_option maxRecDepth 100000 in
theorem keeperAdd_any (M : Nat) (first : Int) (gv ov pv : Value) (L : List (List Fr)) (O : List Fr) (f : Fr) (w : World) (hM : Blk w M #[.int .i64 first, gv, ov] 141) (hg : GrsIn (fun g => g ≠ M) w gv L) (ho : FrsIn (fun g => g ≠ M) w ov O) (hp : StrsIn (fun g => g ≠ M) w pv f.parts)
    (hL : L.length ≤ 5) (hLr : ∀ g ∈ L, gchk g = 0) (hOr : O = [] ∨ gchk O = 0) (hf : f.chk = 0) (hf0 : 0 ≤ first) (hf1 : first ≤ 100000) (C : List (List Fr)) (hC : C = if f.key && decide (0 < O.length) then [O] else []) :
    Calls Try.prog 90 #[.pointer (some ⟨M, 0, none⟩), .agg #[.int .i64 f.time, .bool f.key, pv]] w fun e w' => e = .returned (.bool (decide (0 < C.length))) ∧ ∃ gv' ov', Blk w' M #[.int .i64 (first + trimD (L ++ C)), gv', ov'] 141 ∧ GrsIn (fun g => w.heap.size ≤ g) w' gv' ((L ++ C).drop (trimD (L ++ C))) ∧ FrsIn (fun g => w.heap.size ≤ g) w' ov' (growG O f) ∧ Kept [M] w w' := by
  obtain ⟨hE, hR⟩ := groups_more hOr hf
  rw [← hC] at hR
  obtain ⟨R, hRR⟩ : ∃ R, R = growG O f := ⟨_, rfl⟩
  rw [← hRR] at hR
  obtain ⟨ga, gc, eg, _, _⟩ := hg.len
  obtain ⟨oa, oc, eo, _, _⟩ := ho.len
  obtain ⟨pa, pc, ep⟩ := hp.1.len
  obtain ⟨ln, hln⟩ : ∃ n, n = L.length := ⟨_, rfl⟩
  obtain ⟨lo, hlo⟩ : ∃ n, n = O.length := ⟨_, rfl⟩
  obtain ⟨pn, hpn⟩ : ∃ n, n = f.parts.length := ⟨_, rfl⟩
  rw [← hln] at eg
  rw [← hlo] at eo
  rw [← hpn] at ep
  have hO6 : O.length ≤ 6 := by
    rcases hOr with h | h
    · rw [h]; simp
    · exact (gchk_zero.1 h).2.1
  have hC1 : C.length ≤ 1 := by rw [hC]; split <;> simp
  have HX : Hid (∀ (U : World) (x : Value), FrsIn (fun _ => True) U x (O ++ [f]) → Calls Try.prog 93 #[x] U fun e w'' => ∃ ca cc fa fc, e = .returned (.tuple #[.slice ca C.length cc, .agg #[.slice fa R.length fc], .int .i64 0]) ∧ GrsIn (fun g => U.heap.size ≤ g) w'' (.slice ca C.length cc) C ∧ FrsIn (fun g => U.heap.size ≤ g) w'' (.slice fa R.length fc) R ∧ Below U.heap.size U w'') := fun U x hx => by
    have := groupAll_any x (O ++ [f]) U _ hx
    rw [hE, hR] at this
    exact this
  have HG : Hid (GrsIn (fun g => g ≠ M) w gv L) := hg
  have HO : Hid (FrsIn (fun g => g ≠ M) w ov O) := ho
  have HP : Hid (StrsIn (fun g => g ≠ M) w pv f.parts) := hp
  have HM : Hid (Blk w M #[.int .i64 first, gv, ov] 141) := hM
  have HLR : Hid (∀ g ∈ L, gchk g = 0) := hLr
  have HO6 : Hid (O.length ≤ 6) := hO6
  have HLO : Hid (lo = O.length) := hlo
  have hMw : M < w.heap.size := hM.lt
  rw [← hRR]
  clear hE hR hg ho hp hM hLr hOr hf hRR hC hln hpn hlo
  subst eg eo ep
  go_enter Try.func90, Try.ntmps90
  go_wp2_with fail
  obtain ⟨w1, hw1⟩ : ∃ w1, w1 = w.alloc (.cells #[.int .i64 f.time, .bool f.key, .slice pa pn pc] 67) := ⟨_, rfl⟩
  have B1 : Below w.heap.size w w1 := by rw [hw1]; exact (Below.refl _ _).alloc (Nat.le_refl _) _
  have KF : Blk w1 w.heap.size #[.int .i64 f.time, .bool f.key, .slice pa pn pc] 67 := by rw [hw1]; exact Blk.new _ _ _
  have KM : Blk w1 M #[.int .i64 first, .slice ga ln gc, .slice oa lo oc] 141 := HM.out.below B1 hMw
  have hw1s : w1.heap.size = w.heap.size + 1 := by rw [hw1]; simp
  rw [← hw1]
  have BB1 : Hid (Below w.heap.size w w1) := B1
  have KMH : Hid (Blk w1 M #[.int .i64 first, .slice ga ln gc, .slice oa lo oc] 141) := KM
  clear hw1 B1
  refine region_box (by kernel_rfl) (by kernel_rfl) [.quiet (.pointer (some ⟨M, 0, none⟩)) 5, .quiet (.pointer (some ⟨M, 0, none⟩)) 5, .quiet (.pointer (some ⟨M, 0, none⟩)) 5, .quiet (.pointer (some ⟨M, 2, none⟩)) 5, .quiet (.pointer (some ⟨M, 2, none⟩)) 5, .quiet (.slice oa lo oc) 5, .quiet (.agg #[.int .i64 f.time, .bool f.key, .slice pa pn pc]) 5, .step 0, .step 1, .step 2, .step 3, .fin 3 (fun x => x), .fin 3 (exT 0), .fin 3 (exT 1), .fin 3 (exT 2), .box, .fin 3 (exT 0), .step 4, .fin 3 (exT 2)] [7, 8, 9, 10, 17] 15 (by kernel_rfl)
    (AddI w1 f pa pn pc oa lo oc (O ++ [f]) C R 0) ?i0 ?step ?fin
  case i0 => exact ⟨⟨rfl, rfl, rfl, Nat.le_refl _, fun _ _ => rfl⟩, fun _ g hg => (by cases hg), trivial⟩
  case step =>
    intro i o ho a' w' s r b hI hfree hvals hbx
    have f0 : a'.eval (.tmp 0) = .pointer (some ⟨M, 0, none⟩) := (hfree 0 (by kernel_rfl)).trans rfl
    have f3 : a'.eval (.tmp 3) = .pointer (some ⟨w.heap.size, 0, none⟩) := (hfree 3 (by kernel_rfl)).trans rfl
    have hBw : Below w1.heap.size w1 w' := hI.1
    have hMw1 := KM.lt
    have hFw1 := KF.lt
    obtain ⟨_, _, y2⟩ := (KM.below hBw hMw1).three
    obtain ⟨z0, z1, z2⟩ := (KF.below hBw hFw1).three
    have hR3 : 3 < s → ∃ ca cc fa fc, r 3 = .tuple #[.slice ca C.length cc, .agg #[.slice fa R.length fc], .int .i64 0] := fun hs => by
      match s, hs, hI.2.2 with
      | 4, _, ⟨ca, cc, fa, fc, e, _⟩ => exact ⟨ca, cc, fa, fc, e⟩
      | _ + 5, _, ⟨_, ca, cc, fa, fc, _, _, e, _⟩ => exact ⟨ca, cc, fa, fc, e⟩
    match i, ho with
    | 0, ho =>
      simp at ho; subst ho
      show s ≤ 5 → (execOp a'.eval _).run _ w' = .ok (.value _) w'
      intro _
      generalize a'.eval = ρ at *
      simp [execOp, go_sem, f0]
    | 1, ho =>
      simp at ho; subst ho
      have e1 : a'.eval (.tmp 9) = .pointer (some ⟨M, 0, none⟩) := hvals 0 _ _ (by kernel_rfl) rfl rfl
      show s ≤ 5 → (execOp a'.eval _).run _ w' = .ok (.value _) w'
      intro _
      generalize a'.eval = ρ at *
      simp [execOp, go_sem, e1]
    | 2, ho =>
      simp at ho; subst ho
      have e1 : a'.eval (.tmp 10) = .pointer (some ⟨M, 0, none⟩) := hvals 1 _ _ (by kernel_rfl) rfl rfl
      show s ≤ 5 → (execOp a'.eval _).run _ w' = .ok (.value _) w'
      intro _
      generalize a'.eval = ρ at *
      simp [execOp, go_sem, e1]
    | 3, ho =>
      simp at ho; subst ho
      have e1 : a'.eval (.tmp 11) = .pointer (some ⟨M, 0, none⟩) := hvals 2 _ _ (by kernel_rfl) rfl rfl
      show s ≤ 5 → (execOp a'.eval _).run _ w' = .ok (.value _) w'
      intro _
      generalize a'.eval = ρ at *
      simp [execOp, go_sem, e1]
    | 4, ho =>
      simp at ho; subst ho
      have e1 : a'.eval (.tmp 12) = .pointer (some ⟨M, 2, none⟩) := hvals 3 _ _ (by kernel_rfl) rfl rfl
      show s ≤ 5 → (execOp a'.eval _).run _ w' = .ok (.value _) w'
      intro _
      generalize a'.eval = ρ at *
      simp [execOp, go_sem, e1]
    | 5, ho =>
      simp at ho; subst ho
      have e1 : a'.eval (.tmp 13) = .pointer (some ⟨M, 2, none⟩) := hvals 4 _ _ (by kernel_rfl) rfl rfl
      show s ≤ 5 → (execOp a'.eval _).run _ w' = .ok (.value _) w'
      intro _
      generalize a'.eval = ρ at *
      simp [execOp, go_sem, e1, y2]
    | 6, ho =>
      simp at ho; subst ho
      show s ≤ 5 → (execOp a'.eval _).run _ w' = .ok (.value _) w'
      intro _
      generalize a'.eval = ρ at *
      simp [execOp, go_sem, f3, z0, z1, z2]
    | 7, ho =>
      simp at ho; subst ho
      have e1 : a'.eval (.tmp 15) = .agg #[.int .i64 f.time, .bool f.key, .slice pa pn pc] := hvals 6 _ _ (by kernel_rfl) rfl rfl
      show s = 0 → _
      intro hs
      subst hs
      refine oper_wp_ok (v := .slice (some ⟨w'.heap.size, 0, none⟩) 1 1) (w' := w'.alloc (.cells #[.int .i64 f.time, .bool f.key, .slice pa pn pc] 67)) ?_ ⟨_, rfl, hBw.alloc hBw.size _, fun _ g hg => ⟨(hI.2.1 (by omega) g hg).1, (hI.2.1 (by omega) g hg).2.alloc _⟩, w'.heap.size, updR_at _ _ _, Blk.new _ _ _⟩
      generalize a'.eval = ρ at *
      simp [execOp, go_sem, e1]
    | 8, ho =>
      simp at ho; subst ho
      show s = 1 → _
      intro hs
      subst hs
      obtain ⟨g1, q1, q2⟩ := hI.2.2
      have e1 : a'.eval (.tmp 14) = .slice oa lo oc := hvals 5 _ _ (by kernel_rfl) rfl rfl
      have e2 : a'.eval (.tmp 16) = .slice (some ⟨g1, 0, none⟩) 1 1 := (hvals 7 _ _ (by kernel_rfl) rfl rfl).trans q1
      refine oper_wp_ok (v := .slice (some ⟨w'.heap.size, 0, none⟩) 2 2) (w' := w'.alloc (.cells #[.slice oa lo oc, .slice (some ⟨g1, 0, none⟩) 1 1] 28)) ?_ ⟨_, rfl, hBw.alloc hBw.size _, fun _ g hg => ⟨(hI.2.1 (by omega) g hg).1, (hI.2.1 (by omega) g hg).2.alloc _⟩, g1, w'.heap.size, updR_at _ _ _, q2.alloc _, Blk.new _ _ _⟩
      generalize a'.eval = ρ at *
      simp [execOp, go_sem, e1, e2]
    | 9, ho =>
      simp at ho; subst ho
      show s = 2 → _
      intro hs
      subst hs
      obtain ⟨g1, g2, q1, q2, q3⟩ := hI.2.2
      have e1 : a'.eval (.tmp 17) = .slice (some ⟨g2, 0, none⟩) 2 2 := (hvals 8 _ _ (by kernel_rfl) rfl rfl).trans q1
      have ef : a'.eval (.func 94) = .func (.func 94) #[] #[] := rfl
      obtain ⟨t0, t1⟩ := q3.two
      have hbw : Below w.heap.size w w' := BB1.out.trans (hBw.mono BB1.out.size)
      have hc := concatFrs_any (fun _ => True) g2 (.slice oa lo oc) (.slice (some ⟨g1, 0, none⟩) 1 1) O [f] w' t0 t1 ((HO.out.below hbw).mono fun _ _ _ => trivial) (FrsIn.one q2 trivial ((HP.out.below hbw).mono fun _ _ _ => trivial)) (by have := HO6.out; simp; omega)
      refine oper_wp_call (f := 94) (args := #[.slice (some ⟨g2, 0, none⟩) 2 2]) ?_ (hc.mono ?_)
      · generalize a'.eval = ρ at *
        simp [execOp, go_sem, e1, ef]
      · rintro e w'' ⟨u, rfl, o1, b1⟩
        exact ⟨u, rfl, u, rfl, hBw.trans (b1.mono hBw.size), fun _ g hg => ⟨(hI.2.1 (by omega) g hg).1, (hI.2.1 (by omega) g hg).2.below b1 (hI.2.1 (by omega) g hg).2.lt⟩, by show FrsIn _ _ _ _; rw [updR_at]; exact o1.frsIn (fun _ _ _ => trivial) (fun _ _ => trivial)⟩
    | 10, ho =>
      simp at ho; subst ho
      show s = 3 → _
      intro hs
      subst hs
      have e1 : a'.eval (.tmp 18) = r 2 := hvals 9 _ _ (by kernel_rfl) rfl rfl
      have ef : a'.eval (.func 93) = .func (.func 93) #[] #[] := rfl
      refine oper_wp_call (f := 93) (args := #[r 2]) ?_ ((HX.out w' (r 2) hI.2.2).mono ?_)
      · generalize a'.eval = ρ at *
        simp [execOp, go_sem, e1, ef]
      · rintro e w'' ⟨ca, cc, fa, fc, rfl, s1, s2, b1⟩
        have hne : ∀ x, w'.heap.size ≤ x → b ≠ some x := fun x hx e => by have := (hI.2.1 (by omega) x e).2.lt; omega
        exact ⟨_, rfl, _, rfl, hBw.trans (b1.mono hBw.size), fun _ g hg => ⟨(hI.2.1 (by omega) g hg).1, (hI.2.1 (by omega) g hg).2.below b1 (hI.2.1 (by omega) g hg).2.lt⟩, ca, cc, fa, fc, updR_at _ _ _, s1.mono fun x _ hx => ⟨hne x hx, by have := hBw.size; omega⟩, s2.mono fun x _ hx => ⟨hne x hx, by have := hBw.size; omega⟩⟩
    | 11, ho =>
      simp at ho; subst ho
      have e1 : a'.eval (.tmp 19) = r 3 := hvals 10 _ _ (by kernel_rfl) rfl rfl
      show 3 < s → (execOp a'.eval _).run _ w' = .ok (.value _) w'
      intro hs
      obtain ⟨ca, cc, fa, fc, er⟩ := hR3 hs
      rw [er] at e1 ⊢
      generalize a'.eval = ρ at *
      simp [execOp, go_sem, e1]
    | 12, ho =>
      simp at ho; subst ho
      have e1 : a'.eval (.tmp 8) = r 3 := hvals 11 _ _ (by kernel_rfl) rfl rfl
      show 3 < s → (execOp a'.eval _).run _ w' = .ok (.value _) w'
      intro hs
      obtain ⟨ca, cc, fa, fc, er⟩ := hR3 hs
      rw [er] at e1 ⊢
      simp only [exT] at e1 ⊢
      generalize a'.eval = ρ at *
      simp [execOp, go_sem, e1]
    | 13, ho =>
      simp at ho; subst ho
      have e1 : a'.eval (.tmp 8) = r 3 := hvals 11 _ _ (by kernel_rfl) rfl rfl
      show 3 < s → (execOp a'.eval _).run _ w' = .ok (.value _) w'
      intro hs
      obtain ⟨ca, cc, fa, fc, er⟩ := hR3 hs
      rw [er] at e1 ⊢
      simp only [exT] at e1 ⊢
      generalize a'.eval = ρ at *
      simp [execOp, go_sem, e1]
    | 14, ho =>
      simp at ho; subst ho
      have e1 : a'.eval (.tmp 8) = r 3 := hvals 11 _ _ (by kernel_rfl) rfl rfl
      show 3 < s → (execOp a'.eval _).run _ w' = .ok (.value _) w'
      intro hs
      obtain ⟨ca, cc, fa, fc, er⟩ := hR3 hs
      rw [er] at e1 ⊢
      simp only [exT] at e1 ⊢
      generalize a'.eval = ρ at *
      simp [execOp, go_sem, e1]
    | 15, ho =>
      simp at ho; subst ho
      show b = none → _
      intro hb
      subst hb
      refine ⟨.cells #[.slice none 0 0] 30, ?_, hI.box⟩
      generalize a'.eval = ρ at *
      simp [execOp, go_sem]
    | 16, ho =>
      simp at ho; subst ho
      have e1 : a'.eval (.tmp 20) = exT 0 (r 3) := hvals 12 _ _ (by kernel_rfl) rfl rfl
      show 3 < s → (execOp a'.eval _).run _ w' = .ok (.value _) w'
      intro hs
      obtain ⟨ca, cc, fa, fc, er⟩ := hR3 hs
      rw [er] at e1 ⊢
      simp only [exT] at e1 ⊢
      generalize a'.eval = ρ at *
      simp [execOp, go_sem, e1]
    | 17, ho =>
      simp at ho; subst ho
      show s = 4 → _
      intro hs
      subst hs
      obtain ⟨ca, cc, fa, fc, er, s1, s2⟩ := hI.2.2
      obtain ⟨g, hg⟩ := Option.isSome_iff_exists.1 (hbx (by kernel_rfl))
      subst hg
      obtain ⟨hgb, kg⟩ := hI.2.1 (by omega) g rfl
      have e1 : a'.eval (.tmp 6) = .pointer (some ⟨g, 0, none⟩) := hvals 15 _ _ (by kernel_rfl) rfl rfl
      have e2 : a'.eval (.tmp 21) = .agg #[.slice fa R.length fc] := (hvals 13 _ _ (by kernel_rfl) rfl rfl).trans (by show exT 1 (r 3) = _; rw [er]; rfl)
      have t0 := kg.one
      have t1 := kg.free 0
      refine oper_wp_skip (w' := w'.setCell ⟨g, 0, none⟩ (.slice fa R.length fc)) ?_ ⟨_, rfl, hBw.setCell hgb _, fun h => absurd h (by omega), ?_⟩
      · generalize a'.eval = ρ at *
        simp [execOp, go_sem, e1, e2, t0, t1]
      · exact ⟨g, ca, cc, fa, fc, rfl, hgb, by rw [updR_ne (by omega)]; exact er, s1.to (SameOn.setCell (fun x hx e => hx.1 (by rw [e])) _) (fun _ _ h => h), s2.to (SameOn.setCell (fun x hx e => hx.1 (by rw [e])) _) (fun _ _ h => h), kg.set 0 _⟩
    | 18, ho =>
      simp at ho; subst ho
      have e1 : a'.eval (.tmp 22) = exT 2 (r 3) := hvals 14 _ _ (by kernel_rfl) rfl rfl
      show 3 < s → (execOp a'.eval _).run _ w' = .ok (.value _) w'
      intro hs
      obtain ⟨ca, cc, fa, fc, er⟩ := hR3 hs
      rw [er] at e1 ⊢
      simp only [exT] at e1 ⊢
      generalize a'.eval = ρ at *
      simp [execOp, go_sem, e1]
    | i + 19, ho => simp at ho
  case fin =>
    rintro r g W ⟨hB, _, g', ca, cc, fa, fc, hgg, hg1, er, s1, s2, kg⟩
    injection hgg with hgg
    subst hgg
    simp only [putB, Cb.out, er, exT]
    obtain ⟨nC, hnC⟩ : ∃ n, n = C.length := ⟨_, rfl⟩
    obtain ⟨nR, hnR⟩ : ∃ n, n = R.length := ⟨_, rfl⟩
    rw [← hnC] at s1
    rw [← hnR] at s2 kg
    have HNC : Hid (nC = C.length) := hnC
    simp only [← hnC, ← hnR]
    have KMW : Blk W M #[.int .i64 first, .slice ga ln gc, .slice oa lo oc] 141 := KMH.out.below hB KMH.out.lt
    have BW : Below w.heap.size w W := BB1.out.trans (hB.mono BB1.out.size)
    have GW : GrsIn (fun x => x ≠ M) W (.slice ga ln gc) L := HG.out.below BW
    have hMW : M < W.heap.size := KMW.lt
    have HCLN : Hid (Calls Try.prog 50 #[.slice ga ln gc] W fun e w' => ∃ u, e = .returned u ∧ OwnGrs W.heap.size (NS W.heap.size u) w' u L ∧ Below W.heap.size W w') := cloneGroups_any _ _ L W GW (by omega) HLR.out
    have S1 : Hid (GrsIn (fun x => w1.heap.size ≤ x ∧ x < W.heap.size) W (.slice ca nC cc) C) := s1.mono fun x hx h => ⟨h.2, hx⟩
    have S2 : Hid (FrsIn (fun x => w1.heap.size ≤ x ∧ x < W.heap.size) W (.slice fa nR fc) R) := s2.mono fun x hx h => ⟨h.2, hx⟩
    have KG : Hid (Blk W g #[.slice fa nR fc] 30) := kg
    have KMW2 : Hid (Blk W M #[.int .i64 first, .slice ga ln gc, .slice oa lo oc] 141) := KMW
    have HKW : Hid (Kept [M] w W) := (Kept.refl [M] w).below BW
    have hgM : g ≠ M := by omega
    have hWw : w.heap.size ≤ W.heap.size := BW.size
    obtain ⟨q0, q1, q2⟩ := KMW.three
    clear s1 s2 kg hB er BW GW KMW
    have HNR : Hid (nR = R.length) := hnR
    clear hnC hnR KM KF
    go_wp2_with fail
    refine HCLN.out.mono ?_
    rintro e w2 ⟨u, rfl, ou, bu⟩
    have hu : ∀ x, u.ownBlock = some x → W.heap.size ≤ x ∧ x < w2.heap.size := ou.lt
    have O2 : OwnGrs W.heap.size (fun x => w.heap.size ≤ x ∧ some x ≠ u.ownBlock ∧ x < w2.heap.size) w2 u L := ou.to (SameOn.refl _ _) (fun x hx h => ⟨by have := h.1; omega, h.2, hx⟩) (fun _ _ => rfl)
    have S3 : GrsIn (fun x => w.heap.size ≤ x ∧ some x ≠ u.ownBlock ∧ x < w2.heap.size) w2 (.slice ca nC cc) C := (S1.out.below bu).mono fun x hx h => ⟨by have := h.1; omega, fun e => (by have := (hu x e.symm).1; omega), hx⟩
    obtain ⟨qs, t1, t2, t3⟩ := S3.sl
    obtain ⟨v', w3, r3, o3, g3, dd⟩ := groups_app O2 t1 t2 t3 (fun x hx => hx.2.1) (by omega) bu.size
    have hg3 : ∀ x, x < W.heap.size → w3.heap[x]? = W.heap[x]? := fun x hx => (g3.block x (Nat.lt_of_lt_of_le hx bu.size) (fun e => by have := (hu x e.symm).1; omega)).trans (bu.block x hx)
    have hs3 : w2.heap.size ≤ w3.heap.size := g3.size
    have hWs3 : W.heap.size ≤ w3.heap.size := Nat.le_trans bu.size hs3
    have BW3 : Below W.heap.size W w3 := bu.grown g3 bu.size (fun x hx => (hu x hx).1)
    have K3 : Blk w3 M #[.int .i64 first, .slice ga ln gc, .slice oa lo oc] 141 := (hg3 M hMW).trans KMW2.out
    have G3 : Blk w3 g #[.slice fa nR fc] 30 := (hg3 g KG.out.lt).trans KG.out
    have hv' : ∀ x, v'.ownBlock = some x → W.heap.size ≤ x := fun x hx => (o3.lt x hx).1
    have V3 : GrsIn (fun x => w.heap.size ≤ x) w3 v' (L ++ C) := o3.grsIn (fun x _ h => h.1) (fun x hx => by have := hv' x hx; omega)
    have R3 : FrsIn (fun x => w.heap.size ≤ x) w3 (.slice fa nR fc) R := S2.out.to ⟨hWs3, fun x hx _ => hg3 x hx⟩ (fun x _ h => by have := h.1; omega)
    obtain ⟨va, vc, ev, _, _⟩ := V3.len
    obtain ⟨nV, hnV⟩ : ∃ n, n = (L ++ C).length := ⟨_, rfl⟩
    rw [← hnV] at ev
    clear hnV
    have c1 := K3.three
    obtain ⟨c10, c11, c12⟩ := c1
    have fr := K3.free
    have cg := G3.one
    obtain ⟨w5, hw5⟩ : ∃ w5, w5 = (w3.setCell ⟨M, 1, none⟩ v').setCell ⟨M, 2, none⟩ (.slice fa nR fc) := ⟨_, rfl⟩
    have K5 : Blk w5 M #[.int .i64 first, v', .slice fa nR fc] 141 := by
      rw [hw5]; exact (K3.set 1 v').set 2 (.slice fa nR fc)
    have same5 : SameOn (fun x => w.heap.size ≤ x) w3 w5 := by
      rw [hw5]
      exact (SameOn.setCell (S := fun x => w.heap.size ≤ x) (w := w3) (a := ⟨M, 1, none⟩) (fun x hx => (by show x ≠ M; omega)) v').trans (SameOn.setCell (S := fun x => w.heap.size ≤ x) (w := w3.setCell ⟨M, 1, none⟩ v') (a := ⟨M, 2, none⟩) (fun x hx => (by show x ≠ M; omega)) (.slice fa nR fc))
    have V5 : GrsIn (fun x => w.heap.size ≤ x) w5 v' (L ++ C) := V3.to same5 (fun _ _ h => h)
    have R5 : Hid (FrsIn (fun x => w.heap.size ≤ x) w5 (.slice fa nR fc) R) := R3.to same5 (fun _ _ h => h)
    have P5 : Hid (Kept [M] w w5) := by
      rw [hw5]; exact ((HKW.out.below BW3).setCell (by simp) _).setCell (by simp) _
    have HLG : Hid (Calls Try.prog 95 #[.pointer (some ⟨M, 0, none⟩)] w5 fun e w' => e = .returned (.tuple #[]) ∧ ∃ gv', Blk w' M #[.int .i64 (first + trimD (L ++ C)), gv', .slice fa nR fc] 141 ∧ GrsIn (fun x => w.heap.size ≤ x) w' gv' ((L ++ C).drop (trimD (L ++ C))) ∧ Kept [M] w5 w') := letGo_any M first v' _ (L ++ C) _ w5 K5 V5 (fun x hx => (by show x ≠ M; omega)) (by simp; omega) hf0 (by omega)
    clear ou bu hu O2 S3 t1 t2 t3 o3 g3 dd hg3 hs3 BW3 K3 G3 hv' V3 R3 K5 V5 same5 q0 q1 q2 HCLN
    subst ev
    go_wp2_with (at_builtin; refine wpList_append_run rfl (.tmp 29) (.tmp 30) 27 27 rfl _ _ rfl rfl r3 ?_)
    rw [← hw5]
    refine HLG.out.mono ?_
    rintro e w6 ⟨rfl, gv', k6, v6, p6⟩
    have R6 : FrsIn (fun x => w.heap.size ≤ x) w6 (.slice fa nR fc) R := R5.out.to ⟨p6.size, fun x hx h => p6.block x hx (by simp; omega)⟩ (fun _ _ h => h)
    have FIN : Hid (∃ gv' ov', Blk w6 M #[.int .i64 (first + trimD (L ++ C)), gv', ov'] 141 ∧ GrsIn (fun g => w.heap.size ≤ g) w6 gv' ((L ++ C).drop (trimD (L ++ C))) ∧ FrsIn (fun g => w.heap.size ≤ g) w6 ov' R ∧ Kept [M] w w6) := ⟨gv', .slice fa nR fc, k6, v6, R6, P5.out.trans p6⟩
    clear k6 v6 p6 R6 R5 P5 HLG hw5 c10 c11 c12 fr cg r3
    go_wp2
    go_ret
    exact ⟨by rw [← HNC.out]; first | rfl | simp, FIN.out⟩

end Go.Proofs.Ytnpaejknoipicag

namespace Go.Proofs.Ytnpaejknoipicag
open Go.RowKit

/-- the group that a frame closes -/
def closedG (O : List Fr) (f : Fr) : List (List Fr) := if f.key && decide (0 < O.length) then [O] else []
/-- what Add says, and what it leaves -/
def addsE (first : Int) (L : List (List Fr)) (O : List Fr) (f : Fr) : Int := if stchk first L O = 0 then (if f.chk = 0 then (if 100000 < first + trimD (L ++ closedG O f) then 2 else 0) else f.chk) else stchk first L O
def addsF (first : Int) (L : List (List Fr)) (O : List Fr) (f : Fr) : Int := if addsE first L O f = 0 then first + trimD (L ++ closedG O f) else 0
def addsL (first : Int) (L : List (List Fr)) (O : List Fr) (f : Fr) : List (List Fr) := if addsE first L O f = 0 then (L ++ closedG O f).drop (trimD (L ++ closedG O f)) else []
def addsO (first : Int) (L : List (List Fr)) (O : List Fr) (f : Fr) : List Fr := if addsE first L O f = 0 then growG O f else []
def addsB (first : Int) (L : List (List Fr)) (O : List Fr) (f : Fr) : Bool := if addsE first L O f = 0 then decide (0 < (closedG O f).length) else false

set_option maxHeartbeats 8000000 in
set_option maxRecDepth 100000 in
theorem storeAdd_new (first : Int) (gv ov pv : Value) (L : List (List Fr)) (O : List Fr) (f : Fr) (w : World) (hg : GrsIn (fun _ => True) w gv L) (ho : FrsIn (fun _ => True) w ov O) (hp : StrsIn (fun _ => True) w pv f.parts) :
    Calls Try.prog 83 #[.agg #[.int .i64 first, gv, ov], .agg #[.int .i64 f.time, .bool f.key, pv]] w fun e w' => ∃ gv' ov', e = .returned (.tuple #[.agg #[.int .i64 (addsF first L O f), gv', ov'], .bool (addsB first L O f), .int .i64 (addsE first L O f)]) ∧ GrsIn (fun g => w.heap.size ≤ g) w' gv' (addsL first L O f) ∧ FrsIn (fun g => w.heap.size ≤ g) w' ov' (addsO first L O f) ∧ Below w.heap.size w w' := by
  obtain ⟨ga, gc, eg, _, _⟩ := hg.len
  obtain ⟨oa, oc, eo, _, _⟩ := ho.len
  obtain ⟨pa, pc, ep⟩ := hp.1.len
  obtain ⟨ln, hln⟩ : ∃ n, n = L.length := ⟨_, rfl⟩
  obtain ⟨lo, hlo⟩ : ∃ n, n = O.length := ⟨_, rfl⟩
  obtain ⟨pn, hpn⟩ : ∃ n, n = f.parts.length := ⟨_, rfl⟩
  rw [← hln] at eg
  rw [← hlo] at eo
  rw [← hpn] at ep
  have HG : Hid (GrsIn (fun g => g < w.heap.size) w gv L) := hg.mono fun g h _ => h
  have HO : Hid (FrsIn (fun g => g < w.heap.size) w ov O) := ho.mono fun g h _ => h
  have HP : Hid (StrsIn (fun g => g < w.heap.size) w pv f.parts) := hp.mono fun g h _ => h
  obtain ⟨E, hE⟩ : ∃ E, E = addsE first L O f := ⟨_, rfl⟩
  obtain ⟨K, hK⟩ : ∃ K, K = stchk first L O := ⟨_, rfl⟩
  obtain ⟨Z, hZ⟩ : ∃ Z, Z = f.chk := ⟨_, rfl⟩
  obtain ⟨C, hC⟩ : ∃ C, C = closedG O f := ⟨_, rfl⟩
  have HE : Hid (E = if K = 0 then (if Z = 0 then (if 100000 < first + trimD (L ++ C) then 2 else 0) else Z) else K) := by show _ = _; rw [hE, hK, hZ, hC]; rfl
  have HBAD : Hid (¬ E = 0 → addsF first L O f = 0 ∧ addsL first L O f = [] ∧ addsO first L O f = [] ∧ addsB first L O f = false) := fun h => by
    rw [hE] at h
    exact ⟨if_neg h, if_neg h, if_neg h, if_neg h⟩
  have HGOOD : Hid (E = 0 → addsF first L O f = first + trimD (L ++ C) ∧ addsL first L O f = (L ++ C).drop (trimD (L ++ C)) ∧ addsO first L O f = growG O f ∧ addsB first L O f = decide (0 < C.length)) := fun h => by
    rw [hE] at h
    rw [hC]
    exact ⟨if_pos h, if_pos h, if_pos h, if_pos h⟩
  have HCK : Hid (∀ U, Below w.heap.size w U → Calls Try.prog 15 #[.agg #[.int .i64 first, gv, ov]] U fun e w' => e = .returned (.int .i64 K) ∧ Below U.heap.size U w') := fun U hU => by
    rw [hK]; exact storeCheck_any _ first gv ov L O U (HG.out.below hU) (HO.out.below hU)
  have HCF : Hid (∀ U, Below w.heap.size w U → Calls Try.prog 47 #[.agg #[.int .i64 f.time, .bool f.key, pv]] U fun e w' => e = .returned (.int .i64 Z) ∧ Below U.heap.size U w') := fun U hU => by
    rw [hZ]; exact frameCheck_any _ _ _ _ _ (HP.out.below hU).1 HP.out.2.1
  have HADD : Hid (K = 0 → Z = 0 → ∀ (M : Nat) (U : World), w.heap.size ≤ M → Blk U M #[.int .i64 first, gv, ov] 141 → Below w.heap.size w U → Calls Try.prog 90 #[.pointer (some ⟨M, 0, none⟩), .agg #[.int .i64 f.time, .bool f.key, pv]] U fun e w' => e = .returned (.bool (decide (0 < C.length))) ∧ ∃ gv' ov', Blk w' M #[.int .i64 (first + trimD (L ++ C)), gv', ov'] 141 ∧ GrsIn (fun g => U.heap.size ≤ g) w' gv' ((L ++ C).drop (trimD (L ++ C))) ∧ FrsIn (fun g => U.heap.size ≤ g) w' ov' (growG O f) ∧ Kept [M] U w') := fun h1 h2 M U hM hk hU => by
    have h1' : stchk first L O = 0 := by rw [← hK]; exact h1
    obtain ⟨a1, a2, a3, a4, _, a6⟩ := stchk_zero.1 h1'
    exact keeperAdd_any M first gv ov pv L O f U hk ((HG.out.below hU).mono fun g _ h => by omega) ((HO.out.below hU).mono fun g _ h => by omega) ((HP.out.below hU).mono fun g _ h => by omega) a3 a4 a6 (by rw [← hZ]; exact h2) a1 a2 C hC
  have HTR : Hid (K = 0 → 0 ≤ first ∧ first ≤ 100000) := fun h => by
    have h1' : stchk first L O = 0 := by rw [← hK]; exact h
    obtain ⟨a1, a2, _⟩ := stchk_zero.1 h1'
    exact ⟨a1, a2⟩
  have HEE : Hid (E = addsE first L O f) := hE
  clear hg ho hp hE hK hZ hC hln hlo hpn
  subst eg eo ep
  go_enter Try.func83, Try.ntmps83
  go_wp2_with fail
  obtain ⟨w1, hw1⟩ : ∃ w1, w1 = ((w.alloc (.cells #[.int .i64 first, .slice ga ln gc, .slice oa lo oc] 32)).alloc (.cells #[.int .i64 f.time, .bool f.key, .slice pa pn pc] 67)).alloc (.cells #[.int .i64 0, .slice none 0 0, .slice none 0 0] 32) := ⟨_, rfl⟩
  have B1 : Hid (Below w.heap.size w w1) := by
    rw [hw1]; exact (((Below.refl _ _).alloc (Nat.le_refl _) _).alloc (by simp) _).alloc (by simp; omega) _
  have K1 : Hid (Blk w1 w.heap.size #[.int .i64 first, .slice ga ln gc, .slice oa lo oc] 32) := by rw [hw1]; exact ((Blk.new w _ _).alloc _).alloc _
  have F1 : Hid (Blk w1 (w.heap.size + 1) #[.int .i64 f.time, .bool f.key, .slice pa pn pc] 67) := by
    have := (Blk.new (w.alloc (.cells #[.int .i64 first, .slice ga ln gc, .slice oa lo oc] 32)) #[.int .i64 f.time, .bool f.key, .slice pa pn pc] 67).alloc (.cells #[.int .i64 0, .slice none 0 0, .slice none 0 0] 32)
    rw [hw1]; simpa [Hid] using this
  have R1 : Hid (Blk w1 (w.heap.size + 1 + 1) #[.int .i64 0, .slice none 0 0, .slice none 0 0] 32) := by
    have := Blk.new ((w.alloc (.cells #[.int .i64 first, .slice ga ln gc, .slice oa lo oc] 32)).alloc (.cells #[.int .i64 f.time, .bool f.key, .slice pa pn pc] 67)) #[.int .i64 0, .slice none 0 0, .slice none 0 0] 32
    rw [hw1]; simpa [Hid] using this
  rw [← hw1]
  clear hw1
  refine (HCK.out _ B1.out).mono ?_
  rintro e w2 ⟨rfl, hb⟩
  have B2 : Hid (Below w.heap.size w w2) := B1.out.trans (hb.mono B1.out.size)
  have K2 : Hid (Blk w2 w.heap.size #[.int .i64 first, .slice ga ln gc, .slice oa lo oc] 32) := K1.out.below hb K1.out.lt
  have F2 : Hid (Blk w2 (w.heap.size + 1) #[.int .i64 f.time, .bool f.key, .slice pa pn pc] 67) := F1.out.below hb F1.out.lt
  have R2 : Hid (Blk w2 (w.heap.size + 1 + 1) #[.int .i64 0, .slice none 0 0, .slice none 0 0] 32) := R1.out.below hb R1.out.lt
  clear hb B1 K1 F1 R1 HCK
  by_cases hK : K = 0
  case neg =>
    have HEK : Hid (E = K) := by show _ = _; rw [HE.out, if_neg hK]
    obtain ⟨r0, r1, r2⟩ := R2.out.three
    have fr := R2.out.free
    go_wp2
    obtain ⟨b1, b2, b3, b4⟩ := HBAD.out (by rw [HEK.out]; exact hK)
    rw [b1, b2, b3, b4, ← HEE.out, HEK.out]
    refine bodyPost_ret (v := .tuple #[.agg #[.int .i64 0, .slice none 0 0, .slice none 0 0], .bool false, .int .i64 K]) (by simp [results, Try.results83, go_sem, r0, r1, r2]) rfl ⟨_, _, rfl, GrsIn.nil _ _, FrsIn.nil _ _, ?_⟩
    first | exact B2.out | exact ((B2.out.setCell (by show _ ≤ w.heap.size + 1 + 1; omega) _).setCell (by show _ ≤ w.heap.size + 1 + 1; omega) _).setCell (by show _ ≤ w.heap.size + 1 + 1; omega) _
  obtain ⟨hf0, hf1⟩ := HTR.out hK
  obtain ⟨f0, f1, f2⟩ := F2.out.three
  go_wp2_with fail
  refine (HCF.out _ B2.out).mono ?_
  rintro e w3 ⟨rfl, hb⟩
  have B3 : Hid (Below w.heap.size w w3) := B2.out.trans (hb.mono B2.out.size)
  have K3 : Hid (Blk w3 w.heap.size #[.int .i64 first, .slice ga ln gc, .slice oa lo oc] 32) := K2.out.below hb K2.out.lt
  have F3 : Hid (Blk w3 (w.heap.size + 1) #[.int .i64 f.time, .bool f.key, .slice pa pn pc] 67) := F2.out.below hb F2.out.lt
  have R3 : Hid (Blk w3 (w.heap.size + 1 + 1) #[.int .i64 0, .slice none 0 0, .slice none 0 0] 32) := R2.out.below hb R2.out.lt
  clear hb B2 K2 F2 R2 HCF f0 f1 f2
  by_cases hZ : Z = 0
  case neg =>
    have HEK : Hid (E = Z) := by show _ = _; rw [HE.out, if_pos hK, if_neg hZ]
    obtain ⟨r0, r1, r2⟩ := R3.out.three
    have fr := R3.out.free
    subst hK
    go_wp2
    obtain ⟨b1, b2, b3, b4⟩ := HBAD.out (by rw [HEK.out]; exact hZ)
    rw [b1, b2, b3, b4, ← HEE.out, HEK.out]
    refine bodyPost_ret (v := .tuple #[.agg #[.int .i64 0, .slice none 0 0, .slice none 0 0], .bool false, .int .i64 Z]) (by simp [results, Try.results83, go_sem, r0, r1, r2]) rfl ⟨_, _, rfl, GrsIn.nil _ _, FrsIn.nil _ _, ?_⟩
    first | exact B3.out | exact ((B3.out.setCell (by show _ ≤ w.heap.size + 1 + 1; omega) _).setCell (by show _ ≤ w.heap.size + 1 + 1; omega) _).setCell (by show _ ≤ w.heap.size + 1 + 1; omega) _
  have HAD2 : Hid (∀ (M : Nat) (U : World), w.heap.size ≤ M → Blk U M #[.int .i64 first, .slice ga ln gc, .slice oa lo oc] 141 → Below w.heap.size w U → Calls Try.prog 90 #[.pointer (some ⟨M, 0, none⟩), .agg #[.int .i64 f.time, .bool f.key, .slice pa pn pc]] U fun e w' => e = .returned (.bool (decide (0 < C.length))) ∧ ∃ gv' ov', Blk w' M #[.int .i64 (first + trimD (L ++ C)), gv', ov'] 141 ∧ GrsIn (fun g => U.heap.size ≤ g) w' gv' ((L ++ C).drop (trimD (L ++ C))) ∧ FrsIn (fun g => U.heap.size ≤ g) w' ov' (growG O f) ∧ Kept [M] U w') := HADD.out hK hZ
  have HE2 : Hid (E = if 100000 < first + trimD (L ++ C) then 2 else 0) := by show _ = _; rw [HE.out, if_pos hK, if_pos hZ]
  obtain ⟨T, hT⟩ : ∃ T : Int, T = first + trimD (L ++ C) := ⟨_, rfl⟩
  obtain ⟨D, hD⟩ : ∃ D : Bool, D = decide (0 < C.length) := ⟨_, rfl⟩
  rw [← hT] at HAD2 HE2 HGOOD
  rw [← hD] at HAD2 HGOOD
  clear HADD HE HTR hT hD
  subst hK hZ
  obtain ⟨k0, k1, k2⟩ := K3.out.three
  obtain ⟨f0, f1, f2⟩ := F3.out.three
  have hFl : w.heap.size + 1 < w3.heap.size := F3.out.lt
  have hKl : w.heap.size < w3.heap.size := K3.out.lt
  go_wp2_with fail
  obtain ⟨U, hU⟩ : ∃ U, U = w3.alloc (.cells #[.int .i64 first, .slice ga ln gc, .slice oa lo oc] 141) := ⟨_, rfl⟩
  have BU : Hid (Below w.heap.size w U) := by rw [hU]; exact B3.out.alloc B3.out.size _
  have KU : Hid (Blk U w3.heap.size #[.int .i64 first, .slice ga ln gc, .slice oa lo oc] 141) := by rw [hU]; exact Blk.new _ _ _
  have RU : Hid (Blk U (w.heap.size + 1 + 1) #[.int .i64 0, .slice none 0 0, .slice none 0 0] 32) := by rw [hU]; exact R3.out.alloc _
  rw [← hU]
  have hMR : w.heap.size + 1 + 1 < w3.heap.size := R3.out.lt
  clear hU k0 k1 k2 f0 f1 f2 K3 F3 R3 B3
  refine (HAD2.out _ _ (by omega) KU.out BU.out).mono ?_
  rintro e w5 ⟨rfl, gv', ov', k5, v5, o5, p5⟩
  have B5 : Hid (Below w.heap.size w w5) := BU.out.trans (p5.toBelow BU.out.size (fun k hk => by simp at hk; omega))
  have R5 : Hid (Blk w5 (w.heap.size + 1 + 1) #[.int .i64 0, .slice none 0 0, .slice none 0 0] 32) := RU.out.kept p5 (by simp; omega)
  have hRU := RU.out.lt
  obtain ⟨va, vc, ev, _, _⟩ := v5.len
  obtain ⟨qa, qc, eq, _, _⟩ := o5.len
  obtain ⟨nv, hnv⟩ : ∃ n, n = ((L ++ C).drop (trimD (L ++ C))).length := ⟨_, rfl⟩
  obtain ⟨nq, hnq⟩ : ∃ n, n = (growG O f).length := ⟨_, rfl⟩
  rw [← hnv] at ev
  rw [← hnq] at eq
  clear hnv hnq
  subst ev eq
  have V5 : Hid (GrsIn (fun g => U.heap.size ≤ g) w5 (.slice va nv vc) ((L ++ C).drop (trimD (L ++ C)))) := v5
  have O5 : Hid (FrsIn (fun g => U.heap.size ≤ g) w5 (.slice qa nq qc) (growG O f)) := o5
  obtain ⟨k0, k1, k2⟩ := k5.three
  obtain ⟨r0, r1, r2⟩ := R5.out.three
  have fr := R5.out.free
  clear v5 o5 p5 HAD2 RU KU
  by_cases hT : 100000 < T
  · have HEK : Hid (E = 2) := by show _ = _; rw [HE2.out, if_pos hT]
    go_wp2
    obtain ⟨b1, b2, b3, b4⟩ := HBAD.out (by rw [HEK.out]; decide)
    rw [b1, b2, b3, b4, ← HEE.out, HEK.out]
    refine bodyPost_ret (v := .tuple #[.agg #[.int .i64 0, .slice none 0 0, .slice none 0 0], .bool false, .int .i64 2]) (by simp [results, Try.results83, go_sem, r0, r1, r2]) rfl ⟨_, _, rfl, GrsIn.nil _ _, FrsIn.nil _ _, ?_⟩
    first | exact B5.out | exact ((B5.out.setCell (by show _ ≤ w.heap.size + 1 + 1; omega) _).setCell (by show _ ≤ w.heap.size + 1 + 1; omega) _).setCell (by show _ ≤ w.heap.size + 1 + 1; omega) _
  · have HEK : Hid (E = 0) := by show _ = _; rw [HE2.out, if_neg hT]
    obtain ⟨V, hV⟩ : ∃ V, V = ((w5.setCell ⟨w.heap.size + 1 + 1, 0, none⟩ (.int .i64 T)).setCell ⟨w.heap.size + 1 + 1, 1, none⟩ (.slice va nv vc)).setCell ⟨w.heap.size + 1 + 1, 2, none⟩ (.slice qa nq qc) := ⟨_, rfl⟩
    have KV : Blk V (w.heap.size + 1 + 1) #[.int .i64 T, .slice va nv vc, .slice qa nq qc] 32 := by
      rw [hV]; exact ((R5.out.set 0 (.int .i64 T)).set 1 (.slice va nv vc)).set 2 (.slice qa nq qc)
    have hVo : ∀ g, g ≠ w.heap.size + 1 + 1 → V.heap[g]? = w5.heap[g]? := fun g hg => by
      rw [hV, Below.heap_setCell _ _ _ _ (by exact hg), Below.heap_setCell _ _ _ _ (by exact hg), Below.heap_setCell _ _ _ _ (by exact hg)]
    have hVs : V.heap.size = w5.heap.size := by rw [hV]; simp
    have GV : Hid (GrsIn (fun g => w.heap.size ≤ g) V (.slice va nv vc) ((L ++ C).drop (trimD (L ++ C)))) := V5.out.to ⟨by omega, fun g _ hg => hVo g (by omega)⟩ (fun _ _ _ => by omega)
    have OV : Hid (FrsIn (fun g => w.heap.size ≤ g) V (.slice qa nq qc) (growG O f)) := O5.out.to ⟨by omega, fun g _ hg => hVo g (by omega)⟩ (fun _ _ _ => by omega)
    have BV : Hid (Below w.heap.size w V) := by
      rw [hV]; exact ((B5.out.setCell (by show _ ≤ w.heap.size + 1 + 1; omega) _).setCell (by show _ ≤ w.heap.size + 1 + 1; omega) _).setCell (by show _ ≤ w.heap.size + 1 + 1; omega) _
    obtain ⟨c0, c1, c2⟩ := KV.three
    clear hVo hVs V5 O5 KV
    go_wp2_with fail
    rw [← hV]
    obtain ⟨b1, b2, b3, b4⟩ := HGOOD.out HEK.out
    rw [b1, b2, b3, b4, ← HEE.out, HEK.out]
    exact bodyPost_ret (v := .tuple #[.agg #[.int .i64 T, .slice va nv vc, .slice qa nq qc], .bool D, .int .i64 0]) (by simp [results, Try.results83, go_sem, c0, c1, c2]) rfl ⟨_, _, rfl, GV.out, OV.out, BV.out⟩

theorem storeAdd_any (first : Int) (gv ov pv : Value) (L : List (List Fr)) (O : List Fr) (f : Fr) (w : World) (hg : GrsIn (fun _ => True) w gv L) (ho : FrsIn (fun _ => True) w ov O) (hp : StrsIn (fun _ => True) w pv f.parts) :
    Calls Try.prog 83 #[.agg #[.int .i64 first, gv, ov], .agg #[.int .i64 f.time, .bool f.key, pv]] w fun e w' => ∃ gv' ov', e = .returned (.tuple #[.agg #[.int .i64 (addsF first L O f), gv', ov'], .bool (addsB first L O f), .int .i64 (addsE first L O f)]) ∧ GrsIn (fun _ => True) w' gv' (addsL first L O f) ∧ FrsIn (fun _ => True) w' ov' (addsO first L O f) ∧ Below w.heap.size w w' := by
  refine (storeAdd_new first gv ov pv L O f w hg ho hp).mono ?_
  rintro e w' ⟨gv', ov', he, h1, h2, h3⟩
  exact ⟨gv', ov', he, h1.mono (fun _ _ _ => trivial), h2.mono (fun _ _ _ => trivial), h3⟩

end Go.Proofs.Ytnpaejknoipicag

namespace Go.Proofs.Ytnpaejknoipicag
open Go.RowKit

/-- what Get says, and what it finds -/
def getE (first : Int) (L : List (List Fr)) (O : List Fr) (n : Int) : Int := if stchk first L O = 0 then (if n < first then 5 else if ((allG L O).length : Int) ≤ n - first then 5 else 0) else stchk first L O
def getG (first : Int) (L : List (List Fr)) (O : List Fr) (n : Int) : List Fr := if getE first L O n = 0 then grAt (allG L O) (n - first).toNat else []
theorem allG_len (L : List (List Fr)) (O : List Fr) (h : L.length ≤ 5) : (allG L O).length ≤ 6 := by
  unfold allG; split
  · simp; omega
  · omega
theorem allG_right {first : Int} {L : List (List Fr)} {O : List Fr} (h : stchk first L O = 0) : ∀ g ∈ allG L O, gchk g = 0 := by
  obtain ⟨_, _, _, h1, _, h2⟩ := stchk_zero.1 h
  intro g hg
  unfold allG at hg
  split at hg
  · rcases List.mem_append.1 hg with hg | hg
    · exact h1 g hg
    · simp at hg; subst hg
      rcases h2 with h2 | h2
      · rename_i h0; rw [h2] at h0; simp at h0
      · exact h2
  · exact h1 g hg

end Go.Proofs.Ytnpaejknoipicag

namespace Go.Proofs.Ytnpaejknoipicag
open Go.RowKit

/-- the last one behind the first that begins so early, or the first one -/
def seekI (A : List (List Fr)) (t : Int) : Nat → Nat
  | 0 => 0
  | i + 1 => if (frAt (grAt A (i + 1)) 0).time ≤ t then i + 1 else seekI A t i
theorem seekI_le (A : List (List Fr)) (t : Int) : ∀ i, seekI A t i ≤ i
  | 0 => Nat.le_refl _
  | i + 1 => by
    unfold seekI; split
    · exact Nat.le_refl _
    · exact Nat.le_succ_of_le (seekI_le A t i)
theorem seekI_hit {A : List (List Fr)} {t : Int} {i i1 : Nat} (h : i = i1 + 1) (hl : (frAt (grAt A i) 0).time ≤ t) : seekI A t i = i := by
  subst h; simp only [seekI]; rw [if_pos hl]
theorem seekI_miss {A : List (List Fr)} {t : Int} {i i1 : Nat} (h : i = i1 + 1) (hl : ¬ (frAt (grAt A i) 0).time ≤ t) : seekI A t i = seekI A t i1 := by
  subst h; simp only [seekI]; rw [if_neg hl]
def seekE (first : Int) (L : List (List Fr)) (O : List Fr) (t : Int) : Int := if stchk first L O = 0 then (if t < 0 then 3 else if 1000000 < t then 3 else if (allG L O).length = 0 then 5 else 0) else stchk first L O
def seekN (first : Int) (L : List (List Fr)) (O : List Fr) (t : Int) : Int := if seekE first L O t = 0 then first + seekI (allG L O) t ((allG L O).length - 1) else 0

end Go.Proofs.Ytnpaejknoipicag

namespace Go.Proofs.Ytnpaejknoipicag

theorem trimD_le : ∀ L : List (List Fr), trimD L ≤ L.length - 1
  | [] => Nat.le_refl _
  | g :: r => by
    unfold trimD
    split
    · rename_i h
      have := fullB_len h
      have := trimD_le r
      simp at *
      omega
    · omega
theorem trimD_done : ∀ L : List (List Fr), fullB (L.drop (trimD L)) = false
  | [] => fullB_nil
  | g :: r => by
    unfold trimD
    split
    · rw [List.drop_succ_cons]; exact trimD_done r
    · rename_i h; simpa using h
theorem closedG_cases (O : List Fr) (f : Fr) : (closedG O f = [] ∧ ¬ (f.key = true ∧ 0 < O.length)) ∨ (closedG O f = [O] ∧ f.key = true ∧ 0 < O.length) := by
  unfold closedG
  by_cases h : (f.key && decide (0 < O.length)) = true
  · rw [if_pos h]
    simp only [Bool.and_eq_true, decide_eq_true_eq] at h
    exact .inr ⟨rfl, h⟩
  · rw [if_neg h]
    simp only [Bool.and_eq_true, decide_eq_true_eq] at h
    exact .inl ⟨rfl, h⟩
theorem addsE_zero {first : Int} {L : List (List Fr)} {O : List Fr} {f : Fr} (h : addsE first L O f = 0) : stchk first L O = 0 ∧ f.chk = 0 ∧ first + trimD (L ++ closedG O f) ≤ 100000 ∧ addsF first L O f = first + trimD (L ++ closedG O f) ∧ addsL first L O f = (L ++ closedG O f).drop (trimD (L ++ closedG O f)) ∧ addsO first L O f = growG O f ∧ addsB first L O f = decide (0 < (closedG O f).length) := by
  have h0 := h
  unfold addsE at h0
  by_cases h1 : stchk first L O = 0
  · rw [if_pos h1] at h0
    by_cases h2 : f.chk = 0
    · rw [if_pos h2] at h0
      by_cases h3 : 100000 < first + trimD (L ++ closedG O f)
      · rw [if_pos h3] at h0; cases h0
      · exact ⟨h1, h2, by omega, if_pos h, if_pos h, if_pos h, if_pos h⟩
    · rw [if_neg h2] at h0; exact absurd h0 h2
  · rw [if_neg h1] at h0; exact absurd h0 h1
theorem addsE_bad {first : Int} {L : List (List Fr)} {O : List Fr} {f : Fr} (h : ¬ addsE first L O f = 0) : addsF first L O f = 0 ∧ addsL first L O f = [] ∧ addsO first L O f = [] ∧ addsB first L O f = false := ⟨if_neg h, if_neg h, if_neg h, if_neg h⟩
theorem growG_right {O : List Fr} {f : Fr} (hO : O = [] ∨ gchk O = 0) (hf : f.chk = 0) : growG O f = [] ∨ gchk (growG O f) = 0 := by
  have := stepG_right (s := ([], O)) (f := f) ⟨fun g hg => absurd hg List.not_mem_nil, hO⟩ hf
  exact this.2
/-- what Add leaves is right -/
theorem adds_right {first : Int} {L : List (List Fr)} {O : List Fr} {f : Fr} (h : addsE first L O f = 0) : stchk (addsF first L O f) (addsL first L O f) (addsO first L O f) = 0 := by
  obtain ⟨h1, h2, h3, e1, e2, e3, _⟩ := addsE_zero h
  obtain ⟨a1, a2, a3, a4, a5, a6⟩ := stchk_zero.1 h1
  rw [e1, e2, e3]
  have hd := trimD_done (L ++ closedG O f)
  simp only [fullB, Bool.or_eq_false_iff, decide_eq_false_iff_not] at hd
  refine stchk_zero.2 ⟨by omega, h3, by omega, fun g hg => ?_, hd.2, growG_right a6 h2⟩
  have hm := List.mem_of_mem_drop hg
  rcases List.mem_append.1 hm with hm | hm
  · exact a4 g hm
  · rcases closedG_cases O f with ⟨e, _⟩ | ⟨e, _, h0⟩
    · rw [e] at hm; exact absurd hm List.not_mem_nil
    · rw [e] at hm
      simp at hm
      subst hm
      rcases a6 with a6 | a6
      · rw [a6] at h0; simp at h0
      · exact a6
theorem fullB_right {first : Int} {L : List (List Fr)} {O : List Fr} (h : stchk first L O = 0) : fullB L = false := by
  obtain ⟨_, _, a3, _, a5, _⟩ := stchk_zero.1 h
  simp only [fullB, Bool.or_eq_false_iff, decide_eq_false_iff_not]
  exact ⟨by omega, a5⟩
/-- a frame that closes none leaves the closed ones as they were -/
theorem adds_open {first : Int} {L : List (List Fr)} {O : List Fr} {f : Fr} (h : addsE first L O f = 0) (hb : addsB first L O f = false) : addsF first L O f = first ∧ addsL first L O f = L := by
  obtain ⟨h1, _, _, e1, e2, _, e4⟩ := addsE_zero h
  rw [e4, decide_eq_false_iff_not] at hb
  have hc : closedG O f = [] := List.eq_nil_of_length_eq_zero (by omega)
  rw [hc, List.append_nil] at e1 e2
  rw [trimD_no (fullB_right h1)] at e1 e2
  exact ⟨by rw [e1]; simp, by rw [e2]; simp⟩
theorem grAt_append (L M : List (List Fr)) (k : Nat) : grAt (L ++ M) k = if k < L.length then grAt L k else grAt M (k - L.length) := by
  unfold grAt
  split
  · rename_i h; rw [List.getElem?_append_left h]
  · rename_i h; rw [List.getElem?_append_right (by omega)]
theorem grAt_drop (L : List (List Fr)) (d k : Nat) : grAt (L.drop d) k = grAt L (d + k) := by
  unfold grAt; rw [List.getElem?_drop]
/-- what Get says of a store that is right -/
theorem getE_in {first : Int} {L : List (List Fr)} {O : List Fr} (h : stchk first L O = 0) {n : Int} {d : Nat} (hn : n = first + d) (hd : d < (allG L O).length) : getE first L O n = 0 ∧ getG first L O n = grAt (allG L O) d := by
  have e : getE first L O n = 0 := by
    unfold getE; rw [if_pos h, if_neg (by omega), if_neg (by omega)]
  refine ⟨e, ?_⟩
  unfold getG; rw [if_pos e]
  congr 1; omega
theorem getE_out {first : Int} {L : List (List Fr)} {O : List Fr} (h : stchk first L O = 0) {n : Int} (hn : n < first ∨ first + (allG L O).length ≤ n) : getE first L O n = 5 ∧ getG first L O n = [] := by
  have e : getE first L O n = 5 := by
    unfold getE; rw [if_pos h]
    by_cases h1 : n < first
    · rw [if_pos h1]
    · rw [if_neg h1, if_pos (by omega)]
  exact ⟨e, by unfold getG; rw [if_neg (by rw [e]; decide)]⟩
theorem allG_length (L : List (List Fr)) (O : List Fr) : (allG L O).length = L.length + (if 0 < O.length then 1 else 0) := by
  unfold allG; split <;> simp
/-- what was stored is there, by its number, or is gone -/
theorem adds_get {first : Int} {L : List (List Fr)} {O : List Fr} {f : Fr} (h : addsE first L O f = 0) {i : Nat} (hi : i < (L ++ closedG O f).length) :
    (first + i < addsF first L O f → getE (addsF first L O f) (addsL first L O f) (addsO first L O f) (first + i) = 5) ∧
    (¬ first + i < addsF first L O f → getE (addsF first L O f) (addsL first L O f) (addsO first L O f) (first + i) = 0 ∧ getG (addsF first L O f) (addsL first L O f) (addsO first L O f) (first + i) = grAt (L ++ closedG O f) i) := by
  have hr := adds_right h
  obtain ⟨_, _, _, e1, e2, _, _⟩ := addsE_zero h
  refine ⟨fun h1 => (getE_out hr (.inl h1)).1, fun h1 => ?_⟩
  rw [e1] at h1
  have hd : i - trimD (L ++ closedG O f) < (addsL first L O f).length := by rw [e2, List.length_drop]; omega
  obtain ⟨g1, g2⟩ := getE_in hr (n := first + i) (d := i - trimD (L ++ closedG O f)) (by rw [e1]; omega) (by rw [allG_length]; omega)
  refine ⟨g1, ?_⟩
  rw [g2]
  unfold allG
  have : grAt (addsL first L O f) (i - trimD (L ++ closedG O f)) = grAt (L ++ closedG O f) i := by
    rw [e2, grAt_drop]; congr 1; omega
  split
  · rw [grAt_append, if_pos hd, this]
  · exact this
/-- the newest one is there -/
theorem adds_last {first : Int} {L : List (List Fr)} {O : List Fr} {f : Fr} (h : addsE first L O f = 0) : addsF first L O f ≤ first + ((L ++ closedG O f).length - 1 : Nat) ∧ first ≤ addsF first L O f ∧ (0 < (L ++ closedG O f).length → 0 < (addsL first L O f).length) := by
  obtain ⟨_, _, _, e1, e2, _, _⟩ := addsE_zero h
  have := trimD_le (L ++ closedG O f)
  rw [e1, e2, List.length_drop]
  exact ⟨by omega, by omega, fun _ => by omega⟩
/-- what Seek finds -/
theorem seekI_spec (A : List (List Fr)) (t : Int) : ∀ i, (∀ j, seekI A t i < j → j ≤ i → t < (frAt (grAt A j) 0).time) ∧ (t < (frAt (grAt A (seekI A t i)) 0).time → seekI A t i = 0)
  | 0 => ⟨fun j h1 h2 => by simp [seekI] at h1; omega, fun _ => rfl⟩
  | i + 1 => by
    by_cases h : (frAt (grAt A (i + 1)) 0).time ≤ t
    · rw [seekI_hit rfl h]
      exact ⟨fun j h1 h2 => by omega, fun h2 => by omega⟩
    · rw [seekI_miss rfl h]
      have ih := seekI_spec A t i
      refine ⟨fun j h1 h2 => ?_, ih.2⟩
      by_cases hj : j = i + 1
      · subst hj; omega
      · exact ih.1 j h1 (by omega)
theorem seekE_zero {first : Int} {L : List (List Fr)} {O : List Fr} {t : Int} (h : seekE first L O t = 0) : stchk first L O = 0 ∧ 0 ≤ t ∧ t ≤ 1000000 ∧ 0 < (allG L O).length ∧ seekN first L O t = first + seekI (allG L O) t ((allG L O).length - 1) := by
  have h0 := h
  unfold seekE at h0
  by_cases h1 : stchk first L O = 0
  · rw [if_pos h1] at h0
    by_cases h2 : t < 0
    · rw [if_pos h2] at h0; cases h0
    rw [if_neg h2] at h0
    by_cases h3 : 1000000 < t
    · rw [if_pos h3] at h0; cases h0
    rw [if_neg h3] at h0
    by_cases h4 : (allG L O).length = 0
    · rw [if_pos h4] at h0; cases h0
    exact ⟨h1, by omega, by omega, by omega, if_pos h⟩
  · rw [if_neg h1] at h0; exact absurd h0 h1

end Go.Proofs.Ytnpaejknoipicag

namespace Go.Proofs.Ytnpaejknoipicag

/-- what a builder makes of a slot more -/
def addF (l : List Sk) (x : Sk) : Fr := ⟨addT l x, addK l x, addP l x⟩

theorem takeF_chk {l : List Sk} {x : Sk} (hl : ∀ y ∈ l, y.chk = 0) (hx : x.chk = 0) : ∀ y ∈ takeF l x, y.chk = 0 := fun y hy => by
  rcases takeF_mem hy with h | h
  · exact hl y h
  · rw [h]; exact hx
theorem ochk_len {l : List Sk} (h : ochk l = 0) : l.length ≤ 3 ∧ ogo none l = 0 ∧ ∀ y ∈ l, y.chk = 0 := by
  unfold ochk at h
  by_cases h4 : 4 ≤ l.length
  · rw [if_pos h4] at h; cases h
  · rw [if_neg h4] at h
    exact ⟨by omega, h, ogo_all l none h⟩
theorem ochk_nil : ochk [] = 0 := rfl
/-- a builder stays right -/
theorem ochk_add {l : List Sk} {x : Sk} (h : ochk l = 0) (hx : x.chk = 0) : ochk (addO l x) = 0 := by
  obtain ⟨h1, h2, h3⟩ := ochk_len h
  unfold addO
  cases hw : addW l x
  · rw [if_neg (by simp)]
    by_cases h4 : (takeF l x).length = 4
    · rw [if_pos h4]; rfl
    · rw [if_neg h4]
      unfold addW at hw
      unfold takeF at h4 hw ⊢
      by_cases hf : x.p.f = true
      · rw [if_pos hf] at hw ⊢
        have he : x.p.e = false := by simpa using hw
        unfold ochk
        rw [if_neg (by simp)]
        simp [ogo, hx, badO, hf, he]
      · rw [if_neg hf] at h4 hw ⊢
        have hff : x.p.f = false := by simpa using hf
        by_cases hc : 0 < l.length ∧ folB (lastSk l) x = true
        · rw [if_pos hc] at h4 hw ⊢
          have he : x.p.e = false := by simpa using hw
          rw [List.length_append, List.length_singleton] at h4
          unfold ochk
          rw [if_neg (by rw [List.length_append, List.length_singleton]; omega), ogo_split _ _ _ _ h2]
          have hlast : l.foldl (fun _ y => some y) none = some (lastSk l) := by
            have := olast_at l none l.length (Nat.le_refl _)
            rw [List.take_length, if_neg (by omega)] at this
            exact this
          rw [hlast]
          simp [ogo, hx, badO, he, nextB, hff, hc.2]
        · rw [if_neg hc]; rfl
  · rw [if_pos rfl]; rfl
/-- and what it makes is right -/
theorem addF_right {l : List Sk} {x : Sk} (h : ochk l = 0) (hx : x.chk = 0) (hw : addW l x = true) : (addF l x).chk = 0 := by
  obtain ⟨h1, _, h3⟩ := ochk_len h
  have ht := takeF_chk h3 hx
  have hlen := takeF_len l x
  have hw0 := hw
  unfold addW at hw0
  simp only [Bool.and_eq_true, decide_eq_true_eq] at hw0
  unfold addF Fr.chk chkF
  simp only
  unfold addT addP
  rw [if_pos hw, if_pos hw]
  have h0 : (takeF l x)[0]?.getD Sk.zero ∈ takeF l x := by
    rw [List.getElem?_eq_getElem hw0.1, Option.getD_some]; exact List.getElem_mem _
  obtain ⟨_, _, c3, c4, _⟩ := Pk.chk_ok (Sk.chk_zero (ht _ h0)).2.2.1
  have hp : (texts (takeF l x)).length = (takeF l x).length := by unfold texts; rw [List.length_map]
  rw [if_neg (by omega), if_neg (by omega), if_neg (by omega), if_neg]
  intro hany
  obtain ⟨s, hs, hl⟩ := List.any_eq_true.1 hany
  unfold texts at hs
  obtain ⟨y, hy, e⟩ := List.mem_map.1 hs
  have := Sk.chk_short (ht y hy)
  rw [e] at this
  unfold longB at hl
  have := of_decide_eq_true hl
  omega

structure Tr where
  last : Int
  next : Int
  h : List Sk
  o : List Sk
  first : Int
  L : List (List Fr)
  O : List Fr
def Tr.zero : Tr := ⟨0, 0, [], [], 0, [], []⟩
/-- what Check says of a track -/
def Tr.chk (t : Tr) : Int :=
  if ¬ t.last = 0 ∧ Cn.isNB t.last = false then 3 else
    if bchk t.next t.h = 0 then
      (if ochk t.o = 0 then (if stchk t.first t.L t.O = 0 then (if (t.last == 0) = (t.next == 0) then 0 else 4) else stchk t.first t.L t.O) else ochk t.o)
    else bchk t.next t.h
theorem Tr.chk_zero {t : Tr} : t.chk = 0 ↔ (t.last = 0 ∨ Cn.isNB t.last = true) ∧ Right t.next t.h ∧ ochk t.o = 0 ∧ stchk t.first t.L t.O = 0 ∧ (t.last = 0 ↔ t.next = 0) := by
  unfold Tr.chk
  rw [← bchk_right]
  have hbe : ((t.last == 0) = (t.next == 0)) ↔ (t.last = 0 ↔ t.next = 0) := by
    by_cases h1 : t.last = 0 <;> by_cases h2 : t.next = 0
    · simp [h1, h2]
    · simp [h1, h2]
    · simp [h1, h2]
    · have e1 : (t.last == 0) = false := by simpa using h1
      have e2 : (t.next == 0) = false := by simpa using h2
      rw [e1, e2]; simp [h1, h2]
  by_cases h1 : ¬ t.last = 0 ∧ Cn.isNB t.last = false
  · rw [if_pos h1]
    refine ⟨fun h => (by cases h), fun h => ?_⟩
    rcases h.1 with h | h
    · exact absurd h h1.1
    · rw [h] at h1; cases h1.2
  rw [if_neg h1]
  have h1' : t.last = 0 ∨ Cn.isNB t.last = true := by
    by_cases h : t.last = 0
    · exact .inl h
    · right
      cases hb : Cn.isNB t.last
      · exact absurd ⟨h, hb⟩ h1
      · rfl
  by_cases h2 : bchk t.next t.h = 0
  · rw [if_pos h2]
    by_cases h3 : ochk t.o = 0
    · rw [if_pos h3]
      by_cases h4 : stchk t.first t.L t.O = 0
      · rw [if_pos h4]
        by_cases h5 : (t.last == 0) = (t.next == 0)
        · rw [if_pos h5]; exact ⟨fun _ => ⟨h1', h2, h3, h4, hbe.1 h5⟩, fun _ => rfl⟩
        · rw [if_neg h5]; exact ⟨fun h => (by cases h), fun h => absurd (hbe.2 h.2.2.2.2) h5⟩
      · rw [if_neg h4]; exact ⟨fun h => absurd h h4, fun h => absurd h.2.2.2.1 h4⟩
    · rw [if_neg h3]; exact ⟨fun h => absurd h h3, fun h => absurd h.2.2.1 h3⟩
  · rw [if_neg h2]; exact ⟨fun h => absurd h h2, fun h => absurd h.2.1 h2⟩

/-- a track with other numbers, and another buffer -/
def Tr.buf (t : Tr) (l n : Int) (h : List Sk) : Tr := ⟨l, n, h, t.o, t.first, t.L, t.O⟩
/-- one slot taken: the track behind it, how many groups were closed, the error -/
def tk1 (t : Tr) (x : Sk) : Tr × Nat × Int :=
  if addW t.o x then (⟨t.last, t.next, t.h, addO t.o x, addsF t.first t.L t.O (addF t.o x), addsL t.first t.L t.O (addF t.o x), addsO t.first t.L t.O (addF t.o x)⟩, if addsB t.first t.L t.O (addF t.o x) then 1 else 0, addsE t.first t.L t.O (addF t.o x))
  else (⟨t.last, t.next, t.h, addO t.o x, t.first, t.L, t.O⟩, 0, 0)
/-- all of them -/
def tkN : List Sk → Tr × Nat → Tr × Nat × Int
  | [], s => (s.1, s.2, 0)
  | x :: r, s => if (tk1 s.1 x).2.2 = 0 then tkN r ((tk1 s.1 x).1, s.2 + (tk1 s.1 x).2.1) else (Tr.zero, 0, (tk1 s.1 x).2.2)
/-- the number of a packet -/
def numE (last : Int) (p : Pk) : Int := if last = 0 then 0 else Cn.uwE last p.seq
def numN (last : Int) (p : Pk) : Int := if last = 0 then p.seq + 65536 else Cn.uwN last p.seq
/-- a packet fed, its number known -/
def feedP (t : Tr) (n : Int) (p : Pk) : Tr × Nat × Int := tkN (putF t.next t.h ⟨n, p⟩).2.2 (t.buf (max t.last n) (putF t.next t.h ⟨n, p⟩).1 (putF t.next t.h ⟨n, p⟩).2.1, 0)
def feedR (t : Tr) (s : List UInt8) : Tr × Nat × Int :=
  if (Pk.dec s).2 = 0 then (if numE t.last (Pk.dec s).1 = 0 then feedP t (numN t.last (Pk.dec s).1) (Pk.dec s).1 else (Tr.zero, 0, numE t.last (Pk.dec s).1)) else (Tr.zero, 0, (Pk.dec s).2)
def drainR (t : Tr) : Tr × Nat × Int := tkN (relF 0 t.next t.h []).2.2 (t.buf t.last (relF 0 t.next t.h []).1 (relF 0 t.next t.h []).2.1, 0)
def feedA (t : Tr) (s : List UInt8) : Tr × Nat × Int := if t.chk = 0 then feedR t s else (Tr.zero, 0, t.chk)
def drainA (t : Tr) : Tr × Nat × Int := if t.chk = 0 then drainR t else (Tr.zero, 0, t.chk)

theorem tk1_buf (t : Tr) (l n : Int) (h : List Sk) (x : Sk) : tk1 (t.buf l n h) x = ((tk1 t x).1.buf l n h, (tk1 t x).2) := by
  unfold tk1 Tr.buf
  simp only
  cases addW t.o x <;> rfl
theorem tk1_keep (t : Tr) (x : Sk) : (tk1 t x).1.last = t.last ∧ (tk1 t x).1.next = t.next ∧ (tk1 t x).1.h = t.h := by
  unfold tk1
  cases addW t.o x <;> exact ⟨rfl, rfl, rfl⟩
/-- builder and store are right -/
def TkOk (t : Tr) : Prop := ochk t.o = 0 ∧ stchk t.first t.L t.O = 0
theorem tk1_ok {t : Tr} {x : Sk} (h : TkOk t) (hx : x.chk = 0) : ((tk1 t x).2.2 = 0 ∧ TkOk (tk1 t x).1) ∨ (tk1 t x).2.2 = 2 := by
  obtain ⟨h1, h2⟩ := h
  have ho := ochk_add h1 hx
  unfold tk1
  cases hw : addW t.o x
  · left; exact ⟨rfl, ho, h2⟩
  · have hf := addF_right h1 hx hw
    simp only [if_true]
    by_cases hE : addsE t.first t.L t.O (addF t.o x) = 0
    · left
      exact ⟨hE, ho, adds_right hE⟩
    · right
      unfold addsE at hE ⊢
      rw [if_pos h2, if_pos hf] at hE ⊢
      split
      · rfl
      · rename_i h; rw [if_neg h] at hE; exact absurd rfl hE
theorem tkN_ok : ∀ (l : List Sk) (s : Tr × Nat), TkOk s.1 → (∀ x ∈ l, x.chk = 0) → ((tkN l s).2.2 = 0 ∧ TkOk (tkN l s).1 ∧ (tkN l s).1.last = s.1.last ∧ (tkN l s).1.next = s.1.next ∧ (tkN l s).1.h = s.1.h) ∨ ((tkN l s).2.2 = 2 ∧ (tkN l s).1 = Tr.zero ∧ (tkN l s).2.1 = 0)
  | [], s, h, _ => .inl ⟨rfl, h, rfl, rfl, rfl⟩
  | x :: r, s, h, hl => by
    simp only [tkN]
    rcases tk1_ok h (hl x List.mem_cons_self) with ⟨e, h'⟩ | e
    · rw [if_pos e]
      have hk := tk1_keep s.1 x
      rcases tkN_ok r ((tk1 s.1 x).1, s.2 + (tk1 s.1 x).2.1) h' (fun y hy => hl y (List.mem_cons_of_mem _ hy)) with h3 | h3
      · left
        obtain ⟨a1, a2, a3, a4, a5⟩ := h3
        exact ⟨a1, a2, by rw [a3]; exact hk.1, by rw [a4]; exact hk.2.1, by rw [a5]; exact hk.2.2⟩
      · exact .inr h3
    · rw [if_neg (by omega)]
      exact .inr ⟨e, rfl, rfl⟩
theorem tkN_bad : ∀ (l : List Sk) (s : Tr × Nat), ¬ (tkN l s).2.2 = 0 → (tkN l s).1 = Tr.zero ∧ (tkN l s).2.1 = 0
  | [], _, h => absurd rfl h
  | x :: r, s, h => by
    simp only [tkN] at h ⊢
    by_cases e : (tk1 s.1 x).2.2 = 0
    · rw [if_pos e] at h ⊢
      exact tkN_bad r _ h
    · rw [if_neg e]; exact ⟨rfl, rfl⟩
theorem feedA_bad {t : Tr} {s : List UInt8} (h : ¬ (feedA t s).2.2 = 0) : (feedA t s).1 = Tr.zero ∧ (feedA t s).2.1 = 0 := by
  unfold feedA at h ⊢
  by_cases h1 : t.chk = 0
  · rw [if_pos h1] at h ⊢
    unfold feedR at h ⊢
    by_cases h2 : (Pk.dec s).2 = 0
    · rw [if_pos h2] at h ⊢
      by_cases h3 : numE t.last (Pk.dec s).1 = 0
      · rw [if_pos h3] at h ⊢; exact tkN_bad _ _ h
      · rw [if_neg h3]; exact ⟨rfl, rfl⟩
    · rw [if_neg h2]; exact ⟨rfl, rfl⟩
  · rw [if_neg h1]; exact ⟨rfl, rfl⟩
theorem drainA_bad {t : Tr} (h : ¬ (drainA t).2.2 = 0) : (drainA t).1 = Tr.zero ∧ (drainA t).2.1 = 0 := by
  unfold drainA at h ⊢
  by_cases h1 : t.chk = 0
  · rw [if_pos h1] at h ⊢; exact tkN_bad _ _ h
  · rw [if_neg h1]; exact ⟨rfl, rfl⟩

/-- a packet's number -/
theorem num_ok {last : Int} {p : Pk} (hp : p.chk = 0) (hl : last = 0 ∨ Cn.isNB last = true) (h : numE last p = 0) : Cn.isNB (numN last p) = true ∧ numN last p % 65536 = p.seq ∧ numE (max last (numN last p)) p = 0 ∧ numN (max last (numN last p)) p = numN last p ∧ Cn.isNB (max last (numN last p)) = true := by
  obtain ⟨p1, p2, _⟩ := Pk.chk_ok hp
  obtain ⟨n, hn⟩ : ∃ n, n = numN last p := ⟨_, rfl⟩
  have key : Cn.isNB n = true ∧ n % 65536 = p.seq ∧ (last = 0 ∨ (last - 32767 ≤ n ∧ n ≤ last + 32768)) := by
    unfold numE at h
    unfold numN at hn
    by_cases h0 : last = 0
    · rw [if_pos h0] at hn
      subst hn
      exact ⟨Cn.isNB_true (by omega) (by omega), by omega, .inl h0⟩
    · rw [if_neg h0] at h hn
      cases ho : Cn.okB last p.seq
      · rw [(Cn.uw_no ho).1] at h; cases h
      · rw [(Cn.uw_ok ho).2] at hn
        obtain ⟨_, _, _, b1, b2⟩ := Cn.okB_iff.1 ho
        obtain ⟨r1, r2, r3⟩ := Cn.raw_near last p.seq p1 p2
        subst hn
        exact ⟨Cn.isNB_true b1 b2, r1, .inr ⟨r2, r3⟩⟩
  obtain ⟨k1, k2, k3⟩ := key
  rw [← hn]
  obtain ⟨n1, n2⟩ := Cn.isNB_iff.1 k1
  obtain ⟨m, hm⟩ : ∃ m, m = max last n := ⟨_, rfl⟩
  rw [← hm]
  have hlb : last = 0 ∨ 65536 ≤ last ∧ last ≤ 1000000000 := hl.imp id Cn.isNB_iff.1
  have hm1 : 65536 ≤ m ∧ m ≤ 1000000000 ∧ m - 32767 ≤ n ∧ n ≤ m + 32768 := by omega
  have hm0 : ¬ m = 0 := by omega
  have hraw := Cn.raw_uniq m p.seq n k2 hm1.2.2.1 hm1.2.2.2
  have hok : Cn.okB m p.seq = true := Cn.okB_iff.2 ⟨⟨hm1.1, hm1.2.1⟩, p1, p2, by omega, by omega⟩
  refine ⟨k1, k2, ?_, ?_, Cn.isNB_true hm1.1 hm1.2.1⟩
  · unfold numE; rw [if_neg hm0]; exact (Cn.uw_ok hok).1
  · unfold numN; rw [if_neg hm0, (Cn.uw_ok hok).2]; exact hraw
theorem num_slot {last : Int} {p : Pk} (hp : p.chk = 0) (hl : last = 0 ∨ Cn.isNB last = true) (h : numE last p = 0) : (Sk.mk (numN last p) p).chk = 0 := by
  obtain ⟨h1, h2, _⟩ := num_ok hp hl h
  exact Sk.chk_ok h1 hp h2

/-- what Feed leaves is right, and what comes again leaves no trace -/
theorem feed_right {t : Tr} {s : List UInt8} (h : (feedA t s).2.2 = 0) : (feedA t s).1.chk = 0 ∧ feedA (feedA t s).1 s = ((feedA t s).1, 0, 0) ∧ t.chk = 0 := by
  have hc : t.chk = 0 := by
    by_cases h1 : t.chk = 0
    · exact h1
    · unfold feedA at h; rw [if_neg h1] at h; exact h
  obtain ⟨c1, c2, c3, c4, c5⟩ := Tr.chk_zero.1 hc
  have e0 : feedA t s = feedR t s := by unfold feedA; rw [if_pos hc]
  have hd : (Pk.dec s).2 = 0 := by
    by_cases h1 : (Pk.dec s).2 = 0
    · exact h1
    · rw [e0] at h; unfold feedR at h; rw [if_neg h1] at h; exact absurd h h1
  have hp : (Pk.dec s).1.chk = 0 := by
    rcases Pk.dec_or s with ⟨_, h2⟩ | ⟨_, h2, _⟩
    · rw [hd] at h2; cases h2
    · exact h2
  have hn : numE t.last (Pk.dec s).1 = 0 := by
    by_cases h1 : numE t.last (Pk.dec s).1 = 0
    · exact h1
    · rw [e0] at h; unfold feedR at h; rw [if_pos hd, if_neg h1] at h; exact absurd h h1
  have e1 : feedA t s = feedP t (numN t.last (Pk.dec s).1) (Pk.dec s).1 := by rw [e0]; unfold feedR; rw [if_pos hd, if_pos hn]
  obtain ⟨n1, n2, n3, n4, n5⟩ := num_ok hp c1 hn
  have hx := num_slot hp c1 hn
  obtain ⟨i1, i2, i3, i4, i5, i6, i7⟩ := put_inv c2 hx
  rw [e1] at h ⊢
  have hall : ∀ y ∈ (putF t.next t.h ⟨numN t.last (Pk.dec s).1, (Pk.dec s).1⟩).2.2, y.chk = 0 := fun y hy => by
    rcases (i3 y hy).1 with e | e
    · rw [e]; exact hx
    · exact c2.2.2.1 y e
  obtain ⟨B, hB⟩ : ∃ B, B = t.buf (max t.last (numN t.last (Pk.dec s).1)) (putF t.next t.h ⟨numN t.last (Pk.dec s).1, (Pk.dec s).1⟩).1 (putF t.next t.h ⟨numN t.last (Pk.dec s).1, (Pk.dec s).1⟩).2.1 := ⟨_, rfl⟩
  have hBok : TkOk B := by rw [hB]; exact ⟨c3, c4⟩
  have hF : feedP t (numN t.last (Pk.dec s).1) (Pk.dec s).1 = tkN (putF t.next t.h ⟨numN t.last (Pk.dec s).1, (Pk.dec s).1⟩).2.2 (B, 0) := by rw [hB]; rfl
  rcases tkN_ok _ (B, 0) hBok hall with ⟨_, r2, r3, r4, r5⟩ | ⟨r1, _⟩
  · rw [← hF] at r2 r3 r4 r5
    rw [hB] at r3 r4 r5
    obtain ⟨A, hA⟩ : ∃ A, A = (feedP t (numN t.last (Pk.dec s).1) (Pk.dec s).1).1 := ⟨_, rfl⟩
    rw [← hA] at r2 r3 r4 r5 ⊢
    have r3' : A.last = max t.last (numN t.last (Pk.dec s).1) := r3
    have r4' : A.next = (putF t.next t.h ⟨numN t.last (Pk.dec s).1, (Pk.dec s).1⟩).1 := r4
    have r5' : A.h = (putF t.next t.h ⟨numN t.last (Pk.dec s).1, (Pk.dec s).1⟩).2.1 := r5
    have hAlast : ¬ A.last = 0 := by rw [r3']; have := Cn.isNB_iff.1 n5; omega
    have hchk : A.chk = 0 := by
      refine Tr.chk_zero.2 ⟨.inr (by rw [r3']; exact n5), by rw [r4', r5']; exact i1, r2.1, r2.2, ⟨fun e => absurd e hAlast, fun e => absurd (r4'.symm.trans e) i7⟩⟩
    refine ⟨hchk, ?_, hc⟩
    unfold feedA
    rw [if_pos hchk]
    unfold feedR
    rw [if_pos hd, r3', if_pos n3, n4]
    unfold feedP
    have hag : putF A.next A.h ⟨numN t.last (Pk.dec s).1, (Pk.dec s).1⟩ = (A.next, A.h, []) := put_again (by rw [r4']; exact i7) (by rw [r4', r5']; exact i6)
    rw [hag]
    have hmm : max A.last (numN t.last (Pk.dec s).1) = A.last := by rw [r3']; omega
    rw [hmm]
    rfl
  · rw [hF] at h; rw [h] at r1; cases r1
/-- what Drain leaves -/
theorem drain_right {t : Tr} (hc : t.chk = 0) : ((drainA t).2.2 = 0 ∧ (drainA t).1.h = [] ∧ (drainA t).1.chk = 0) ∨ (drainA t).2.2 = 2 := by
  obtain ⟨c1, c2, c3, c4, c5⟩ := Tr.chk_zero.1 hc
  obtain ⟨i1, i2, i3, i4, i5⟩ := flush_inv c2
  have e0 : drainA t = drainR t := by unfold drainA; rw [if_pos hc]
  rw [e0]
  have hall : ∀ y ∈ (relF 0 t.next t.h []).2.2, y.chk = 0 := fun y hy => c2.2.2.1 y (i3 y hy).1
  obtain ⟨B, hB⟩ : ∃ B, B = t.buf t.last (relF 0 t.next t.h []).1 (relF 0 t.next t.h []).2.1 := ⟨_, rfl⟩
  have hBok : TkOk B := by rw [hB]; exact ⟨c3, c4⟩
  have hF : drainR t = tkN (relF 0 t.next t.h []).2.2 (B, 0) := by rw [hB]; rfl
  rw [hF]
  rcases tkN_ok _ (B, 0) hBok hall with ⟨r1, r2, r3, r4, r5⟩ | ⟨r1, _⟩
  · left
    obtain ⟨A, hA⟩ : ∃ A, A = (tkN (relF 0 t.next t.h []).2.2 (B, 0)).1 := ⟨_, rfl⟩
    rw [← hA] at r2 r3 r4 r5 ⊢
    rw [hB] at r3 r4 r5
    have r3' : A.last = t.last := r3
    have r4' : A.next = (relF 0 t.next t.h []).1 := r4
    have r5' : A.h = (relF 0 t.next t.h []).2.1 := r5
    refine ⟨r1, by rw [r5']; exact i5, Tr.chk_zero.2 ⟨by rw [r3']; exact c1, by rw [r4', r5']; exact i1, r2.1, r2.2, ?_⟩⟩
    rw [r3', r4', c5]
    constructor
    · intro h0
      have hh : t.h = [] := by
        rcases c2.1 with ⟨_, h⟩ | h
        · exact h
        · omega
      rw [hh, h0]; rfl
    · intro h0
      rcases c2.1 with ⟨h, _⟩ | h
      · exact h
      · omega
  · exact .inr r1

theorem putF_at {next : Int} (h : List Sk) (x : Sk) (h0 : ¬ next = 0) : putF next h x = if x.n < next then (next, h, []) else if (h.any fun y => y.n == x.n) then (next, h, []) else relF 4 next (insF h x) [] := by
  unfold putF
  simp only [if_neg h0]
/-- two packets one behind the other leave the same, whichever comes first -/
theorem feed_order {t : Tr} {p q : Pk} (hc : t.chk = 0) (hl : ¬ t.last = 0) (hh : t.h = []) (hn : t.next = t.last + 1) (hm : t.last ≤ 999999998) (hp : p.chk = 0) (hq : q.chk = 0) (hps : p.seq = (t.last + 1) % 65536) (hqs : q.seq = (t.last + 2) % 65536) :
    (feedA t q.enc).2.2 = 0 ∧ (feedA t q.enc).2.1 = 0 ∧
    (((feedA t p.enc).2.2 = 0 ∧ (feedA (feedA t p.enc).1 q.enc).2.2 = 0 ∧ (feedA (feedA t q.enc).1 p.enc).2.2 = 0 ∧ (feedA t p.enc).2.1 + (feedA (feedA t p.enc).1 q.enc).2.1 = (feedA (feedA t q.enc).1 p.enc).2.1 ∧ (feedA (feedA t p.enc).1 q.enc).1 = (feedA (feedA t q.enc).1 p.enc).1) ∨ (feedA t p.enc).2.2 = 2 ∨ (feedA (feedA t p.enc).1 q.enc).2.2 = 2) := by
  obtain ⟨c1, c2, c3, c4, c5⟩ := Tr.chk_zero.1 hc
  have hlb : 65536 ≤ t.last ∧ t.last ≤ 1000000000 := Cn.isNB_iff.1 (c1.resolve_left hl)
  obtain ⟨p1, p2, _⟩ := Pk.chk_ok hp
  obtain ⟨q1, q2, _⟩ := Pk.chk_ok hq
  -- numbers
  have num : ∀ (m n : Int) (r : Pk), 65536 ≤ m → m ≤ 1000000000 → 65536 ≤ n → n ≤ 1000000000 → 0 ≤ r.seq → r.seq ≤ 65535 → n % 65536 = r.seq → m - 32767 ≤ n → n ≤ m + 32768 → numE m r = 0 ∧ numN m r = n := fun m n r a1 a2 a3 a4 a5 a6 a7 a8 a9 => by
    have hraw := Cn.raw_uniq m r.seq n a7 a8 a9
    have hok : Cn.okB m r.seq = true := Cn.okB_iff.2 ⟨⟨a1, a2⟩, a5, a6, by omega, by omega⟩
    unfold numE numN
    rw [if_neg (by omega), if_neg (by omega)]
    exact ⟨(Cn.uw_ok hok).1, by rw [(Cn.uw_ok hok).2]; exact hraw⟩
  have stp : ∀ (u : Tr) (r : Pk) (n : Int), u.chk = 0 → r.chk = 0 → numE u.last r = 0 → numN u.last r = n → feedA u r.enc = feedP u n r := fun u r n a1 a2 a3 a4 => by
    unfold feedA; rw [if_pos a1]; unfold feedR; rw [Pk.dec_enc r a2, if_pos rfl, if_pos a3, a4]
  obtain ⟨np1, np2⟩ := num t.last (t.last + 1) p (by omega) (by omega) (by omega) (by omega) p1 p2 (by omega) (by omega) (by omega)
  obtain ⟨nq1, nq2⟩ := num t.last (t.last + 2) q (by omega) (by omega) (by omega) (by omega) q1 q2 (by omega) (by omega) (by omega)
  have ep := stp t p _ hc hp np1 np2
  have eq := stp t q _ hc hq nq1 nq2
  obtain ⟨x, hx⟩ : ∃ x : Sk, x = ⟨t.last + 1, p⟩ := ⟨_, rfl⟩
  obtain ⟨y, hy⟩ : ∃ y : Sk, y = ⟨t.last + 2, q⟩ := ⟨_, rfl⟩
  have hxc : x.chk = 0 := by rw [hx]; exact Sk.chk_ok (Cn.isNB_true (by simp; omega) (by simp; omega)) hp (by simp; omega)
  have hyc : y.chk = 0 := by rw [hy]; exact Sk.chk_ok (Cn.isNB_true (by simp; omega) (by simp; omega)) hq (by simp; omega)
  have hxn : x.n = t.last + 1 := by rw [hx]
  have hyn : y.n = t.last + 2 := by rw [hy]
  -- what the buffer does
  have bp : putF t.next t.h x = (t.last + 2, [], [x]) := by
    rw [hh, hn, putF_at _ _ (by omega), if_neg (by omega)]
    simp only [List.any_nil, Bool.false_eq_true, if_false, insF_nil]
    simp [relF, hxn]; omega
  have bq : putF t.next t.h y = (t.last + 1, [y], []) := by
    rw [hh, hn, putF_at _ _ (by omega), if_neg (by omega)]
    simp only [List.any_nil, Bool.false_eq_true, if_false, insF_nil]
    simp [relF, hyn]
  have eq' : feedA t q.enc = (t.buf (t.last + 2) (t.last + 1) [y], 0, 0) := by
    rw [eq]
    unfold feedP
    rw [← hy, bq, show max t.last (t.last + 2) = t.last + 2 by omega]; rfl
  have hcC : (t.buf (t.last + 2) (t.last + 1) [y]).chk = 0 := by
    rw [show t.buf (t.last + 2) (t.last + 1) [y] = (feedA t q.enc).1 by rw [eq']]
    exact (feed_right (by rw [eq'])).1
  have eqp : feedA (t.buf (t.last + 2) (t.last + 1) [y]) p.enc = tkN [x, y] (t.buf (t.last + 2) (t.last + 3) [], 0) := by
    obtain ⟨m1, m2⟩ := num (t.last + 2) (t.last + 1) p (by omega) (by omega) (by omega) (by omega) p1 p2 (by omega) (by omega) (by omega)
    rw [stp _ p (t.last + 1) hcC hp m1 m2]
    unfold feedP
    have b2 : putF (t.last + 1) [y] x = (t.last + 3, [], [x, y]) := by
      rw [putF_at _ _ (by omega), if_neg (by omega), if_neg (by simp [hyn, hxn]), insF_cons, if_pos (by omega)]
      simp only [relF]
      rw [if_pos hxn, if_pos (by omega), show t.last + 1 + 1 + 1 = t.last + 3 by omega]; rfl
    rw [← hx]
    show tkN (putF (t.last + 1) [y] x).2.2 ((t.buf (t.last + 2) (t.last + 1) [y]).buf (max (t.last + 2) (t.last + 1)) (putF (t.last + 1) [y] x).1 (putF (t.last + 1) [y] x).2.1, 0) = _
    rw [b2, show max (t.last + 2) (t.last + 1) = t.last + 2 by omega]; rfl
  have ep' : feedA t p.enc = tkN [x] (t.buf (t.last + 1) (t.last + 2) [], 0) := by
    rw [ep]
    unfold feedP
    rw [← hx, bp, show max t.last (t.last + 1) = t.last + 1 by omega]
  rw [eq']
  refine ⟨rfl, rfl, ?_⟩
  rw [eqp]
  have hT : TkOk t := ⟨c3, c4⟩
  rcases tk1_ok hT hxc with ⟨e1, ok1⟩ | e1
  · have ep2 : feedA t p.enc = ((tk1 t x).1.buf (t.last + 1) (t.last + 2) [], (tk1 t x).2.1, 0) := by
      rw [ep']
      simp only [tkN, tk1_buf, e1, if_true, Nat.zero_add]
    rw [ep2]
    have hA := (feed_right (t := t) (s := p.enc) (by rw [ep2])).1
    rw [ep2] at hA
    obtain ⟨A, hAe⟩ : ∃ A, A = (tk1 t x).1.buf (t.last + 1) (t.last + 2) [] := ⟨_, rfl⟩
    have eAq : feedA A q.enc = tkN [y] ((tk1 t x).1.buf (t.last + 2) (t.last + 3) [], 0) := by
      obtain ⟨m1, m2⟩ := num (t.last + 1) (t.last + 2) q (by omega) (by omega) (by omega) (by omega) q1 q2 (by omega) (by omega) (by omega)
      rw [hAe]
      rw [stp _ q (t.last + 2) hA hq m1 m2]
      unfold feedP
      have b3 : putF (t.last + 2) [] y = (t.last + 3, [], [y]) := by
        rw [putF_at _ _ (by omega), if_neg (by omega)]
        simp only [List.any_nil, Bool.false_eq_true, if_false, insF_nil]
        simp [relF, hyn]; omega
      rw [← hy]
      show tkN (putF (t.last + 2) [] y).2.2 (((tk1 t x).1.buf (t.last + 1) (t.last + 2) []).buf (max (t.last + 1) (t.last + 2)) (putF (t.last + 2) [] y).1 (putF (t.last + 2) [] y).2.1, 0) = _
      rw [b3, show max (t.last + 1) (t.last + 2) = t.last + 2 by omega]; rfl
    rw [← hAe] at hA ⊢
    simp only
    rw [eAq]
    rcases tk1_ok ok1 hyc with ⟨e2, _⟩ | e2
    · left
      simp only [tkN, tk1_buf, e1, e2, if_true, Nat.zero_add]
      exact ⟨trivial, trivial, trivial, trivial, trivial⟩
    · right; right
      simp only [tkN, tk1_buf]
      rw [if_neg (by omega)]
      exact e2
  · right; left
    rw [ep']
    simp only [tkN, tk1_buf]
    rw [if_neg (by omega)]
    exact e1

end Go.Proofs.Ytnpaejknoipicag

namespace Go.Proofs.Ytnpaejknoipicag
open Go.RowKit

def Stay (w : World) (P : World → Prop) : Prop := ∀ w', Below w.heap.size w w' → P w'
theorem Stay.now {w : World} {P : World → Prop} (h : Stay w P) : P w := h w (Below.refl _ _)
theorem Stay.step {w w' : World} {P : World → Prop} (h : Stay w P) (hb : Below w.heap.size w w') : Stay w' P := fun w'' h2 => h w'' (hb.trans (h2.mono hb.size))
theorem Stay.alloc {w : World} {P : World → Prop} (h : Stay w P) (o : Obj) : Stay (w.alloc o) P := h.step ((Below.refl _ w).alloc (Nat.le_refl _) _)
theorem Stay.and {w : World} {P Q : World → Prop} (h : Stay w P) (k : Stay w Q) : Stay w (fun U => P U ∧ Q U) := fun w' hb => ⟨h w' hb, k w' hb⟩
theorem Stay.imp {w : World} {P Q : World → Prop} (h : Stay w P) (k : ∀ U, P U → Q U) : Stay w Q := fun w' hb => k w' (h w' hb)
theorem Blk.stay {w : World} {b : Nat} {C : Array Value} {t : TypeId} (h : Blk w b C t) : Stay w (fun U => Blk U b C t) := fun _ hb => h.below hb h.lt
theorem FrsIn.stay {S : Nat → Prop} {w : World} {v : Value} {l : List Fr} (h : FrsIn S w v l) : Stay w (fun U => FrsIn S U v l) := fun _ hb => h.below hb
theorem StrsIn.stay {S : Nat → Prop} {w : World} {v : Value} {l : List ByteArray} (h : StrsIn S w v l) : Stay w (fun U => StrsIn S U v l) := fun _ hb => h.below hb
theorem GrsIn.stay {S : Nat → Prop} {w : World} {v : Value} {L : List (List Fr)} (h : GrsIn S w v L) : Stay w (fun U => GrsIn S U v L) := fun _ hb => h.below hb
theorem below_stay {B : Nat} {a w : World} (h : Below B a w) (hB : B ≤ w.heap.size) : Stay w (fun U => Below B a U) := fun _ hb => h.trans (hb.mono hB)
theorem below_stay0 (w : World) : Stay w (fun U => Below w.heap.size w U) := below_stay (Below.refl _ _) (Nat.le_refl _)

theorem Stay.hid {w : World} {P : World → Prop} (h : Stay w P) : Hid (Stay w P) := h
theorem Stay.go {w w' : World} {P : World → Prop} (h : Hid (Stay w P)) (hb : Below w.heap.size w w') : Hid (Stay w' P) := Stay.step h hb
theorem Stay.allocE {w W : World} {P : World → Prop} {o : Obj} (h : Stay w P) (e : W = w.alloc o) : Hid (Stay W P) := by subst e; exact h.alloc _
theorem Blk.newE {w W : World} {C : Array Value} {t : TypeId} (e : W = w.alloc (.cells C t)) : Blk W w.heap.size C t := by subst e; exact Blk.new _ _ _
theorem FrsIn.allocE {S : Nat → Prop} {w W : World} {v : Value} {l : List Fr} {o : Obj} (h : FrsIn S w v l) (e : W = w.alloc o) : FrsIn S W v l := by subst e; exact h.alloc _
theorem GrsIn.allocE {S : Nat → Prop} {w W : World} {v : Value} {L : List (List Fr)} {o : Obj} (h : GrsIn S w v L) (e : W = w.alloc o) : GrsIn S W v L := by subst e; exact h.alloc _
theorem StrsIn.allocE {S : Nat → Prop} {w W : World} {v : Value} {l : List ByteArray} {o : Obj} (h : StrsIn S w v l) (e : W = w.alloc o) : StrsIn S W v l := by subst e; exact h.alloc _

end Go.Proofs.Ytnpaejknoipicag

namespace Go.Proofs.Ytnpaejknoipicag
open Go.RowKit

def SlsIn (S : Nat → Prop) (w : World) (v : Value) (l : List Sk) : Prop := Sls w v l ∧ l.length ≤ 9223372036854775807 ∧ ∀ g, v.ownBlock = some g → 0 < l.length → S g ∧ g < w.heap.size
theorem SlsIn.to {S S' : Nat → Prop} {w w' : World} {v : Value} {l : List Sk} (h : SlsIn S w v l) (hs : SameOn S w w') (hm : ∀ g, g < w.heap.size → S g → S' g) : SlsIn S' w' v l := by
  obtain ⟨⟨h1, h2⟩, h3, h4⟩ := h
  refine ⟨⟨h1, ?_⟩, h3, fun g hg h0 => ⟨hm g (h4 g hg h0).2 (h4 g hg h0).1, Nat.lt_of_lt_of_le (h4 g hg h0).2 hs.1⟩⟩
  rcases h2 with h2 | ⟨b, off, c, rfl, hlt, hc⟩
  · exact .inl h2
  · by_cases h0 : 0 < l.length
    · exact .inr ⟨b, off, c, rfl, Nat.lt_of_lt_of_le hlt hs.1, fun j u hj => (World.cell?_of_block (hs.2 b hlt (h4 b rfl h0).1)).trans (hc j u hj)⟩
    · refine .inl ⟨by omega, some ⟨b, off, none⟩, c, by congr 1; omega⟩
theorem SlsIn.below {S : Nat → Prop} {w w' : World} {v : Value} {l : List Sk} (h : SlsIn S w v l) (hb : Below w.heap.size w w') : SlsIn S w' v l := h.to (SameOn.of_below hb) fun _ _ h => h
theorem SlsIn.mono {S S' : Nat → Prop} {w : World} {v : Value} {l : List Sk} (h : SlsIn S w v l) (hm : ∀ g, g < w.heap.size → S g → S' g) : SlsIn S' w v l := h.to (SameOn.refl _ _) hm
theorem SlsIn.nil (S : Nat → Prop) (w : World) : SlsIn S w (.slice none 0 0) [] := ⟨Sls.nil w, Nat.zero_le _, fun g hg => by simp [Value.ownBlock] at hg⟩
theorem SlsIn.len {S : Nat → Prop} {w : World} {v : Value} {l : List Sk} (h : SlsIn S w v l) : ∃ a c, v = .slice a l.length c := h.1.len
theorem SlsIn.of {S : Nat → Prop} {w : World} {v : Value} {l : List Sk} (h : Sls w v l) (hl : l.length ≤ 9223372036854775807) (hS : ∀ g, v.ownBlock = some g → 0 < l.length → S g) : SlsIn S w v l := by
  refine ⟨h, hl, fun g hg h0 => ⟨hS g hg h0, ?_⟩⟩
  obtain ⟨_, h4 | ⟨b, off, c, rfl, hb, _⟩⟩ := h
  · omega
  · have : b = g := by simpa [Value.ownBlock] using hg
    subst this; exact hb

/-- what a track's rows show -/
def TrIn (S : Nat → Prop) (w : World) (hv bv gv ov : Value) (t : Tr) : Prop := SlsIn S w hv t.h ∧ SlsIn S w bv t.o ∧ GrsIn S w gv t.L ∧ FrsIn S w ov t.O
theorem TrIn.to {S S' : Nat → Prop} {w w' : World} {hv bv gv ov : Value} {t : Tr} (h : TrIn S w hv bv gv ov t) (hs : SameOn S w w') (hm : ∀ g, g < w.heap.size → S g → S' g) : TrIn S' w' hv bv gv ov t :=
  ⟨h.1.to hs hm, h.2.1.to hs hm, h.2.2.1.to hs hm, h.2.2.2.to hs hm⟩
theorem TrIn.below {S : Nat → Prop} {w w' : World} {hv bv gv ov : Value} {t : Tr} (h : TrIn S w hv bv gv ov t) (hb : Below w.heap.size w w') : TrIn S w' hv bv gv ov t := h.to (SameOn.of_below hb) fun _ _ h => h
theorem TrIn.mono {S S' : Nat → Prop} {w : World} {hv bv gv ov : Value} {t : Tr} (h : TrIn S w hv bv gv ov t) (hm : ∀ g, g < w.heap.size → S g → S' g) : TrIn S' w hv bv gv ov t := h.to (SameOn.refl _ _) hm
theorem TrIn.zero (S : Nat → Prop) (w : World) : TrIn S w (.slice none 0 0) (.slice none 0 0) (.slice none 0 0) (.slice none 0 0) Tr.zero := ⟨SlsIn.nil _ _, SlsIn.nil _ _, GrsIn.nil _ _, FrsIn.nil _ _⟩
theorem TrIn.stay {S : Nat → Prop} {w : World} {hv bv gv ov : Value} {t : Tr} (h : TrIn S w hv bv gv ov t) : Stay w (fun U => TrIn S U hv bv gv ov t) := fun _ hb => h.below hb
theorem TrIn.slices {S : Nat → Prop} {w : World} {hv bv gv ov : Value} {t : Tr} (h : TrIn S w hv bv gv ov t) : ∃ ha hc ba bc ga gc oa oc, hv = .slice ha t.h.length hc ∧ bv = .slice ba t.o.length bc ∧ gv = .slice ga t.L.length gc ∧ ov = .slice oa t.O.length oc := by
  obtain ⟨h1, h2, h3, h4⟩ := h
  obtain ⟨a1, c1, e1⟩ := h1.len
  obtain ⟨a2, c2, e2⟩ := h2.len
  obtain ⟨a3, c3, e3, _⟩ := h3.len
  obtain ⟨a4, c4, e4, _⟩ := h4.len
  exact ⟨a1, c1, a2, c2, a3, c3, a4, c4, e1, e2, e3, e4⟩

/-- a track's seven cells -/
abbrev Tr.cells (t : Tr) (hv bv gv ov : Value) : Array Value := #[.int .i64 t.last, .int .i64 t.next, hv, bv, .int .i64 t.first, gv, ov]
/-- the taker's box: a track, and how many groups were closed; its rows lie elsewhere, in blocks of S -/
def TkB (S : Nat → Prop) (M : Nat) (w : World) (t : Tr) (c : Int) : Prop := ∃ hv bv gv ov, Blk w M #[.int .i64 t.last, .int .i64 t.next, hv, bv, .int .i64 t.first, gv, ov, .int .i64 c] 76 ∧ TrIn (fun g => S g ∧ g ≠ M) w hv bv gv ov t
theorem TkB.below {S : Nat → Prop} {M : Nat} {w w' : World} {t : Tr} {c : Int} (h : TkB S M w t c) (hb : Below w.heap.size w w') : TkB S M w' t c := by
  obtain ⟨hv, bv, gv, ov, h1, h2⟩ := h
  exact ⟨hv, bv, gv, ov, h1.below hb h1.lt, h2.below hb⟩
theorem TkB.lt {S : Nat → Prop} {M : Nat} {w : World} {t : Tr} {c : Int} (h : TkB S M w t c) : M < w.heap.size := by
  obtain ⟨_, _, _, _, h1, _⟩ := h
  exact h1.lt
theorem Blk.eight {w : World} {b : Nat} {x0 x1 x2 x3 x4 x5 x6 x7 : Value} {t : TypeId} (h : Blk w b #[x0, x1, x2, x3, x4, x5, x6, x7] t) :
    w.cell? ⟨b, 0, none⟩ = some x0 ∧ w.cell? ⟨b, 1, none⟩ = some x1 ∧ w.cell? ⟨b, 2, none⟩ = some x2 ∧ w.cell? ⟨b, 3, none⟩ = some x3 ∧ w.cell? ⟨b, 4, none⟩ = some x4 ∧ w.cell? ⟨b, 5, none⟩ = some x5 ∧ w.cell? ⟨b, 6, none⟩ = some x6 ∧ w.cell? ⟨b, 7, none⟩ = some x7 :=
  ⟨h.cell rfl, h.cell rfl, h.cell rfl, h.cell rfl, h.cell rfl, h.cell rfl, h.cell rfl, h.cell rfl⟩
theorem Blk.sevenc {w : World} {b : Nat} {x0 x1 x2 x3 x4 x5 x6 : Value} {t : TypeId} (h : Blk w b #[x0, x1, x2, x3, x4, x5, x6] t) :
    w.cell? ⟨b, 0, none⟩ = some x0 ∧ w.cell? ⟨b, 1, none⟩ = some x1 ∧ w.cell? ⟨b, 2, none⟩ = some x2 ∧ w.cell? ⟨b, 3, none⟩ = some x3 ∧ w.cell? ⟨b, 4, none⟩ = some x4 ∧ w.cell? ⟨b, 5, none⟩ = some x5 ∧ w.cell? ⟨b, 6, none⟩ = some x6 :=
  ⟨h.cell rfl, h.cell rfl, h.cell rfl, h.cell rfl, h.cell rfl, h.cell rfl, h.cell rfl⟩

end Go.Proofs.Ytnpaejknoipicag

namespace Go.Proofs.Ytnpaejknoipicag
open Go.ChangeShapes Go.WideShapes Go.ChangeAt Go.RowKit

section
variable {H : Type} {enc : TypeId × Value → H} {W : World} {r : Reach} {b0 base : Nat} {spare : Nat → Bool} {held : Bool} {v : Value} {d : DataW H} {p : List MemPlace}

theorem Try.cellsTrk : Try.prog.cellsOf 34 = 7 := by kernel_rfl
theorem Try.cellsTkI : Try.prog.cellsOf 3 = 1 := by kernel_rfl
theorem Try.cellsTkS : Try.prog.cellsOf 22 = 1 := by kernel_rfl
theorem Try.cellsTkB : Try.prog.cellsOf 24 = 2 := by kernel_rfl
theorem Try.cellsTkD : Try.prog.cellsOf 26 = 1 := by kernel_rfl
theorem Try.cellsTkSt : Try.prog.cellsOf 32 = 3 := by kernel_rfl
theorem Try.cellsTkGs : Try.prog.cellsOf 27 = 1 := by kernel_rfl
theorem Try.cellsTkG : Try.prog.cellsOf 30 = 1 := by kernel_rfl
theorem list7t {α : Type} {l : List α} (h : l.length = 7) : ∃ a b c d e f g, l = [a, b, c, d, e, f, g] := by
  match l, h with
  | [a, b, c, d, e, f, g], _ => exact ⟨a, b, c, d, e, f, g, rfl⟩
theorem list4t {α : Type} {l : List α} (h : l.length = 4) : ∃ a b c d, l = [a, b, c, d] := by
  match l, h with
  | [a, b, c, d], _ => exact ⟨a, b, c, d, rfl⟩

theorem slsIn_of {u : Value} {l : List Sk} (h : Sls W u l) (hl : l.length ≤ maxLen) : SlsIn (fun _ => True) W u l := SlsIn.of h (by unfold maxLen at hl; omega) fun _ _ _ => trivial

set_option maxRecDepth 100000 in
theorem trod_bufC {fuel : Nat} {k0 k1 : Value} {x : DataW H × List MemPlace} (h : DataW.trod enc Try.prog W base spare held fuel 24 [k0, k1] = some x) :
    ∃ (a : Int) (l : List Sk), k0 = .int .i64 a ∧ (Lit.int .i64 a).wf = true ∧ SlsIn (fun _ => True) W k1 l ∧ (∀ s ∈ l, s.fits) ∧ ∀ a n c, k1 = .slice a n c → n ≤ c := by
  obtain ⟨xs, n, _, _, _, hxl, hg⟩ := DataW.trod_struct Try.underlying24 h
  obtain ⟨x0, x1, rfl⟩ := list2 (show xs.length = 2 from hxl)
  have h0 : DataW.trod enc Try.prog W base spare held n 3 (([k0, k1].drop 0).take (Try.prog.cellsOf 3)) = some x0 := hg 0 _ rfl
  have h1 : DataW.trod enc Try.prog W base spare held n 22 (([k0, k1].drop 1).take (Try.prog.cellsOf 22)) = some x1 := hg 1 _ rfl
  rw [Try.cellsTkI] at h0
  rw [Try.cellsTkS] at h1
  obtain ⟨a, ea, _, wa⟩ := DataW.trod_int Try.underlying3 h0
  obtain ⟨u, l, eu, hS, hfit, hlen, hcap, _⟩ := trod_slots h1
  simp at ea eu
  subst ea eu
  exact ⟨a, l, rfl, wa, slsIn_of hS hlen, hfit, hcap⟩

set_option maxRecDepth 100000 in
theorem trod_bldC {fuel : Nat} {k0 : Value} {x : DataW H × List MemPlace} (h : DataW.trod enc Try.prog W base spare held fuel 26 [k0] = some x) :
    ∃ (l : List Sk), SlsIn (fun _ => True) W k0 l ∧ ∀ s ∈ l, s.fits := by
  obtain ⟨xs, n, _, _, _, hxl, hg⟩ := DataW.trod_struct Try.underlying26 h
  obtain ⟨x0, rfl⟩ := list1 (show xs.length = 1 from hxl)
  have h1 : DataW.trod enc Try.prog W base spare held n 22 (([k0].drop 0).take (Try.prog.cellsOf 22)) = some x0 := hg 0 _ rfl
  rw [Try.cellsTkS] at h1
  obtain ⟨u, l, eu, hS, hfit, hlen, _⟩ := trod_slots h1
  simp at eu
  subst eu
  exact ⟨l, slsIn_of hS hlen, hfit⟩

set_option maxRecDepth 100000 in
theorem trod_storeC {fuel : Nat} {k0 k1 k2 : Value} {x : DataW H × List MemPlace} (h : DataW.trod enc Try.prog W base spare held fuel 32 [k0, k1, k2] = some x) :
    ∃ (a : Int) (L : List (List Fr)) (O : List Fr), k0 = .int .i64 a ∧ (Lit.int .i64 a).wf = true ∧ GrsIn (fun _ => True) W k1 L ∧ FrsIn (fun _ => True) W k2 O := by
  obtain ⟨xs, n, _, _, _, hxl, hg⟩ := DataW.trod_struct Try.underlying32 h
  obtain ⟨x0, x1, x2, rfl⟩ := list3 (show xs.length = 3 from hxl)
  have h0 : DataW.trod enc Try.prog W base spare held n 3 (([k0, k1, k2].drop 0).take (Try.prog.cellsOf 3)) = some x0 := hg 0 _ rfl
  have h1 : DataW.trod enc Try.prog W base spare held n 27 (([k0, k1, k2].drop 1).take (Try.prog.cellsOf 27)) = some x1 := hg 1 _ rfl
  have h2 : DataW.trod enc Try.prog W base spare held n 30 (([k0, k1, k2].drop 2).take (Try.prog.cellsOf 30)) = some x2 := hg 2 _ rfl
  rw [Try.cellsTkI] at h0
  rw [Try.cellsTkGs] at h1
  rw [Try.cellsTkG] at h2
  obtain ⟨a, ea, _, wa⟩ := DataW.trod_int Try.underlying3 h0
  obtain ⟨u1, L, eu1, hL⟩ := trod_grs h1
  obtain ⟨u2, O, eu2, hO⟩ := trod_grp h2
  simp at ea eu1 eu2
  subst ea eu1 eu2
  exact ⟨a, L, O, rfl, wa, hL, hO⟩

set_option maxRecDepth 100000 in
theorem op_track (hval : Value.okWide Try.prog W r b0 34 v) (h : DataW.Trod enc Try.prog W base spare held 34 v d p) :
    ∃ (t : Tr) (hv bv gv ov : Value), v = .agg #[.int .i64 t.last, .int .i64 t.next, hv, bv, .int .i64 t.first, gv, ov] ∧ TrIn (fun _ => True) W hv bv gv ov t ∧ (Lit.int .i64 t.last).wf = true ∧ (Lit.int .i64 t.next).wf = true ∧ (Lit.int .i64 t.first).wf = true ∧ (∀ s ∈ t.h, s.fits) ∧ (∀ s ∈ t.o, s.fits) ∧ ∀ a n c, hv = .slice a n c → n ≤ c := by
  obtain ⟨cs, rfl, _⟩ := okWide_struct Try.underlying34 hval
  obtain ⟨fuel, hf⟩ := h
  obtain ⟨xs, n, _, _, hl, hxl, hg⟩ := DataW.trod_struct Try.underlying34 hf
  rw [Try.cellsTrk] at hl
  obtain ⟨c0, c1, c2, c3, c4, c5, c6, hcs⟩ := list7t hl
  obtain ⟨x0, x1, x2, x3, rfl⟩ := list4t (show xs.length = 4 from hxl)
  rw [hcs] at hg
  have h0 : DataW.trod enc Try.prog W base spare held n 3 (([c0, c1, c2, c3, c4, c5, c6].drop 0).take (Try.prog.cellsOf 3)) = some x0 := hg 0 _ rfl
  have h1 : DataW.trod enc Try.prog W base spare held n 24 (([c0, c1, c2, c3, c4, c5, c6].drop 1).take (Try.prog.cellsOf 24)) = some x1 := hg 1 _ rfl
  have h2 : DataW.trod enc Try.prog W base spare held n 26 (([c0, c1, c2, c3, c4, c5, c6].drop 3).take (Try.prog.cellsOf 26)) = some x2 := hg 2 _ rfl
  have h3 : DataW.trod enc Try.prog W base spare held n 32 (([c0, c1, c2, c3, c4, c5, c6].drop 4).take (Try.prog.cellsOf 32)) = some x3 := hg 3 _ rfl
  rw [Try.cellsTkI] at h0
  rw [Try.cellsTkB] at h1
  rw [Try.cellsTkD] at h2
  rw [Try.cellsTkSt] at h3
  obtain ⟨a, ea, _, wa⟩ := DataW.trod_int Try.underlying3 h0
  obtain ⟨b, lh, rfl, wb, hh, fh, hcp⟩ := trod_bufC (k0 := c1) (k1 := c2) h1
  obtain ⟨lo, ho, fo⟩ := trod_bldC (k0 := c3) h2
  obtain ⟨f, L, O, rfl, wf, hL, hO⟩ := trod_storeC (k0 := c4) (k1 := c5) (k2 := c6) h3
  simp at ea
  subst ea
  refine ⟨⟨a, b, lh, lo, f, L, O⟩, c2, c3, c5, c6, ?_, ⟨hh, ho, hL, hO⟩, wa, wb, wf, fh, fo, hcp⟩
  have : cs = #[.int .i64 a, .int .i64 b, c2, c3, .int .i64 f, c5, c6] := by
    apply Array.ext'
    simpa [Value.cells] using hcs
  rw [this]
end
end Go.Proofs.Ytnpaejknoipicag

namespace Go.Proofs.Ytnpaejknoipicag
open Go.RowKit

set_option maxHeartbeats 8000000 in
set_option maxRecDepth 100000 in
theorem tkKeep_any (S : Nat → Prop) (M : Nat) (t : Tr) (c : Int) (f : Fr) (pv : Value) (w : World) (hT : TkB S M w t c) (hp : StrsIn (fun _ => True) w pv f.parts) (hS : ∀ g, w.heap.size ≤ g → S g) (hc0 : 0 ≤ c) (hc1 : c ≤ 1000000) :
    Calls Try.prog 74 #[.pointer (some ⟨M, 0, none⟩), .agg #[.int .i64 f.time, .bool f.key, pv]] w fun e w' => e = .returned (.int .i64 (addsE t.first t.L t.O f)) ∧ TkB S M w' ⟨t.last, t.next, t.h, t.o, addsF t.first t.L t.O f, addsL t.first t.L t.O f, addsO t.first t.L t.O f⟩ (c + (if addsB t.first t.L t.O f then (1 : Nat) else 0)) ∧ Kept [M] w w' := by
  obtain ⟨hv, bv, gv, ov, hM, hr⟩ := hT
  obtain ⟨ha, hc, ba, bc, ga, gc, oa, oc, eh, eb, eg, eo⟩ := hr.slices
  obtain ⟨pa, pc, ep⟩ := hp.1.len
  obtain ⟨last, hlast⟩ : ∃ x, x = t.last := ⟨_, rfl⟩
  obtain ⟨next, hnext⟩ : ∃ x, x = t.next := ⟨_, rfl⟩
  obtain ⟨first, hfirst⟩ : ∃ x, x = t.first := ⟨_, rfl⟩
  obtain ⟨hn, hhn⟩ : ∃ x, x = t.h.length := ⟨_, rfl⟩
  obtain ⟨bn, hbn⟩ : ∃ x, x = t.o.length := ⟨_, rfl⟩
  obtain ⟨ln, hln⟩ : ∃ x, x = t.L.length := ⟨_, rfl⟩
  obtain ⟨lo, hlo⟩ : ∃ x, x = t.O.length := ⟨_, rfl⟩
  obtain ⟨pn, hpn⟩ : ∃ x, x = f.parts.length := ⟨_, rfl⟩
  obtain ⟨ft, hft⟩ : ∃ x, x = f.time := ⟨_, rfl⟩
  obtain ⟨fk, hfk⟩ : ∃ x, x = f.key := ⟨_, rfl⟩
  obtain ⟨E1, hE1⟩ : ∃ E, E = addsE t.first t.L t.O f := ⟨_, rfl⟩
  obtain ⟨F1, hF1⟩ : ∃ E, E = addsF t.first t.L t.O f := ⟨_, rfl⟩
  obtain ⟨L1, hL1⟩ : ∃ E, E = addsL t.first t.L t.O f := ⟨_, rfl⟩
  obtain ⟨O1, hO1⟩ : ∃ E, E = addsO t.first t.L t.O f := ⟨_, rfl⟩
  obtain ⟨B1, hB1⟩ : ∃ E, E = addsB t.first t.L t.O f := ⟨_, rfl⟩
  obtain ⟨nA, hnA⟩ : ∃ n, n = L1.length := ⟨_, rfl⟩
  obtain ⟨nO, hnO⟩ : ∃ n, n = O1.length := ⟨_, rfl⟩
  have HADDw : Hid (∀ U : World, Below w.heap.size w U → Calls Try.prog 83 #[.agg #[.int .i64 first, gv, ov], .agg #[.int .i64 ft, .bool fk, pv]] U fun e w' => ∃ va vc qa qc, e = .returned (.tuple #[.agg #[.int .i64 F1, .slice va nA vc, .slice qa nO qc], .bool B1, .int .i64 E1]) ∧ Hid (GrsIn (fun g => U.heap.size ≤ g) w' (.slice va nA vc) L1) ∧ Hid (FrsIn (fun g => U.heap.size ≤ g) w' (.slice qa nO qc) O1) ∧ Below U.heap.size U w') := fun U hU => by
    rw [hft, hfk, hfirst]
    refine (storeAdd_new t.first gv ov pv t.L t.O f U ((hr.2.2.1.mono fun _ _ _ => trivial).below hU) ((hr.2.2.2.mono fun _ _ _ => trivial).below hU) (hp.below hU)).mono ?_
    rintro e w' ⟨gv', ov', rfl, h1, h2, h3⟩
    rw [← hL1] at h1
    rw [← hO1] at h2
    obtain ⟨va, vc, ev, _, _⟩ := h1.len
    obtain ⟨qa, qc, eq, _, _⟩ := h2.len
    rw [← hnA] at ev
    rw [← hnO] at eq
    subst ev eq
    rw [← hE1, ← hF1, ← hB1]
    exact ⟨va, vc, qa, qc, rfl, h1, h2, h3⟩
  rw [← hE1, ← hF1, ← hL1, ← hO1, ← hB1, ← hlast, ← hnext, ← hft, ← hfk]
  rw [← hlast, ← hnext, ← hfirst] at hM
  rw [← hhn] at eh
  rw [← hbn] at eb
  rw [← hln] at eg
  rw [← hlo] at eo
  rw [← hpn] at ep
  have HSU : Hid (∀ g, w.heap.size ≤ g → S g) := hS
  clear hlast hnext hfirst hhn hbn hln hlo hpn hft hfk hE1 hF1 hL1 hO1 hB1 hnA hnO hp hS
  subst eh eb eg eo ep
  have HMw : Hid (Blk w M #[.int .i64 last, .int .i64 next, .slice ha hn hc, .slice ba bn bc, .int .i64 first, .slice ga ln gc, .slice oa lo oc, .int .i64 c] 76) := hM
  have HRw : Hid (TrIn (fun g => S g ∧ g ≠ M) w (.slice ha hn hc) (.slice ba bn bc) (.slice ga ln gc) (.slice oa lo oc) t) := hr
  have hMw := hM.lt
  clear hM hr
  go_enter Try.func74, Try.ntmps74
  go_wp2_with fail
  obtain ⟨w0, hw0⟩ : ∃ w0, w0 = w.alloc (.cells #[.int .i64 ft, .bool fk, .slice pa pn pc] 67) := ⟨_, rfl⟩
  have HB0 : Hid (Below w.heap.size w w0) := by rw [hw0]; exact (Below.refl _ _).alloc (Nat.le_refl _) _
  have z0 : w0.heap.size = w.heap.size + 1 := by rw [hw0]; simp
  have HM0 : Hid (Blk w0 M #[.int .i64 last, .int .i64 next, .slice ha hn hc, .slice ba bn bc, .int .i64 first, .slice ga ln gc, .slice oa lo oc, .int .i64 c] 76) := HMw.out.below HB0.out hMw
  have HF0 : Hid (Blk w0 w.heap.size #[.int .i64 ft, .bool fk, .slice pa pn pc] 67) := Blk.newE hw0
  have HR0 : Hid (TrIn (fun g => S g ∧ g ≠ M) w0 (.slice ha hn hc) (.slice ba bn bc) (.slice ga ln gc) (.slice oa lo oc) t) := HRw.out.below HB0.out
  have HADD : Hid (∀ U : World, Below w0.heap.size w0 U → Calls Try.prog 83 #[.agg #[.int .i64 first, .slice ga ln gc, .slice oa lo oc], .agg #[.int .i64 ft, .bool fk, .slice pa pn pc]] U fun e w' => ∃ va vc qa qc, e = .returned (.tuple #[.agg #[.int .i64 F1, .slice va nA vc, .slice qa nO qc], .bool B1, .int .i64 E1]) ∧ Hid (GrsIn (fun g => U.heap.size ≤ g) w' (.slice va nA vc) L1) ∧ Hid (FrsIn (fun g => U.heap.size ≤ g) w' (.slice qa nO qc) O1) ∧ Below U.heap.size U w') := fun U hU => HADDw.out U (HB0.out.trans (hU.mono (by omega)))
  rw [← hw0]
  clear hw0 HMw HRw HADDw
  refine region_main (by kernel_rfl) (by kernel_rfl) [.quiet (.pointer (some ⟨M, 0, none⟩)), .quiet (.pointer (some ⟨M, 0, none⟩)), .quiet (.pointer (some ⟨M, 0, none⟩)), .quiet (.pointer (some ⟨M, 4, none⟩)), .quiet (.agg #[.int .i64 first, .slice ga ln gc, .slice oa lo oc]), .quiet (.agg #[.int .i64 ft, .bool fk, .slice pa pn pc]), .main, .fin (fun r => r), .fin (exT 0), .fin (exT 1), .fin (exT 2), .box 32 #[.int .i64 0, .slice none 0 0, .slice none 0 0], .put 11 (fun r => aggC (exT 0 r)), .fin (exT 1), .fin (exT 2)] 6 (by kernel_rfl)
    (fun S r w' => ∃ va vc qa qc, r = .tuple #[.agg #[.int .i64 F1, .slice va nA vc, .slice qa nO qc], .bool B1, .int .i64 E1] ∧ GrsIn (fun g => S g ∧ w0.heap.size ≤ g) w' (.slice va nA vc) L1 ∧ FrsIn (fun g => S g ∧ w0.heap.size ≤ g) w' (.slice qa nO qc) O1) ?loc ?step ?fin
  case loc =>
    rintro S r w1 w3 ⟨va, vc, qa, qc, rfl, h1, h2⟩ hs hsame
    exact ⟨va, vc, qa, qc, rfl, h1.to ⟨hs, fun g hg hS => hsame g hS.1 hg⟩ (fun _ _ h => h), h2.to ⟨hs, fun g hg hS => hsame g hS.1 hg⟩ (fun _ _ h => h)⟩
  case step =>
    intro i o ho a' w' r hb hfree hvals
    have f0 : a'.eval (.tmp 0) = .pointer (some ⟨M, 0, none⟩) := (hfree 0 (by kernel_rfl)).trans rfl
    have f3 : a'.eval (.tmp 3) = .pointer (some ⟨w.heap.size, 0, none⟩) := (hfree 3 (by kernel_rfl)).trans rfl
    obtain ⟨y0, y1, y2, y3, y4, y5, y6, y7⟩ := (HM0.out.below hb HM0.out.lt).eight
    obtain ⟨j0, j1, j2⟩ := (HF0.out.below hb HF0.out.lt).three
    match i, ho with
    | 0, ho =>
      simp at ho; subst ho
      show (execOp a'.eval _).run _ w' = .ok (.value _) w'
      generalize a'.eval = ρ at *
      simp [execOp, go_sem, f0]
    | 1, ho =>
      simp at ho; subst ho
      have e9 : a'.eval (.tmp 9) = .pointer (some ⟨M, 0, none⟩) := hvals 0 _ (by kernel_rfl) rfl
      show (execOp a'.eval _).run _ w' = .ok (.value _) w'
      generalize a'.eval = ρ at *
      simp [execOp, go_sem, e9]
    | 2, ho =>
      simp at ho; subst ho
      have e10 : a'.eval (.tmp 10) = .pointer (some ⟨M, 0, none⟩) := hvals 1 _ (by kernel_rfl) rfl
      show (execOp a'.eval _).run _ w' = .ok (.value _) w'
      generalize a'.eval = ρ at *
      simp [execOp, go_sem, e10]
    | 3, ho =>
      simp at ho; subst ho
      have e11 : a'.eval (.tmp 11) = .pointer (some ⟨M, 0, none⟩) := hvals 2 _ (by kernel_rfl) rfl
      show (execOp a'.eval _).run _ w' = .ok (.value _) w'
      generalize a'.eval = ρ at *
      simp [execOp, go_sem, e11]
    | 4, ho =>
      simp at ho; subst ho
      have e12 : a'.eval (.tmp 12) = .pointer (some ⟨M, 4, none⟩) := hvals 3 _ (by kernel_rfl) rfl
      show (execOp a'.eval _).run _ w' = .ok (.value _) w'
      generalize a'.eval = ρ at *
      simp [execOp, go_sem, e12, y4, y5, y6]
    | 5, ho =>
      simp at ho; subst ho
      show (execOp a'.eval _).run _ w' = .ok (.value _) w'
      generalize a'.eval = ρ at *
      simp [execOp, go_sem, f3, j0, j1, j2]
    | 6, ho =>
      simp at ho; subst ho
      have e13 : a'.eval (.tmp 13) = .agg #[.int .i64 first, .slice ga ln gc, .slice oa lo oc] := hvals 4 _ (by kernel_rfl) rfl
      have e14 : a'.eval (.tmp 14) = .agg #[.int .i64 ft, .bool fk, .slice pa pn pc] := hvals 5 _ (by kernel_rfl) rfl
      have ef : a'.eval (.func 83) = .func (.func 83) #[] #[] := rfl
      show ∃ f args, (execOp a'.eval _).run _ w' = .ok (.enter f args) w' ∧ _
      generalize a'.eval = ρ at *
      refine ⟨83, #[.agg #[.int .i64 first, .slice ga ln gc, .slice oa lo oc], .agg #[.int .i64 ft, .bool fk, .slice pa pn pc]], by simp [execOp, go_sem, e13, e14, ef], ?_⟩
      refine (HADD.out w' hb).mono ?_
      rintro e w'' ⟨va, vc, qa, qc, rfl, h1, h2, hb4⟩
      exact ⟨_, rfl, ⟨va, vc, qa, qc, rfl, h1.out.mono (fun g hl hg => ⟨⟨hl, .inr hg⟩, (by have := hb.size; omega)⟩), h2.out.mono (fun g hl hg => ⟨⟨hl, .inr hg⟩, (by have := hb.size; omega)⟩)⟩, hb4⟩
    | 7, ho =>
      simp at ho; subst ho
      have e15 : a'.eval (.tmp 15) = r := hvals 6 _ (by kernel_rfl) rfl
      show ∀ S, _ → (execOp a'.eval _).run _ w' = .ok (.value _) w'
      rintro S ⟨va, vc, qa, qc, rfl, _, _⟩
      try simp only [exT] at e15
      generalize a'.eval = ρ at *
      simp [execOp, go_sem, e15]
    | 8, ho =>
      simp at ho; subst ho
      have e8 : a'.eval (.tmp 8) = r := hvals 7 _ (by kernel_rfl) rfl
      show ∀ S, _ → (execOp a'.eval _).run _ w' = .ok (.value _) w'
      rintro S ⟨va, vc, qa, qc, rfl, _, _⟩
      try simp only [exT] at e8
      generalize a'.eval = ρ at *
      simp [execOp, go_sem, e8, exT]
    | 9, ho =>
      simp at ho; subst ho
      have e8 : a'.eval (.tmp 8) = r := hvals 7 _ (by kernel_rfl) rfl
      show ∀ S, _ → (execOp a'.eval _).run _ w' = .ok (.value _) w'
      rintro S ⟨va, vc, qa, qc, rfl, _, _⟩
      try simp only [exT] at e8
      generalize a'.eval = ρ at *
      simp [execOp, go_sem, e8, exT]
    | 10, ho =>
      simp at ho; subst ho
      have e8 : a'.eval (.tmp 8) = r := hvals 7 _ (by kernel_rfl) rfl
      show ∀ S, _ → (execOp a'.eval _).run _ w' = .ok (.value _) w'
      rintro S ⟨va, vc, qa, qc, rfl, _, _⟩
      try simp only [exT] at e8
      generalize a'.eval = ρ at *
      simp [execOp, go_sem, e8, exT]
    | 11, ho =>
      simp at ho; subst ho
      show (execOp a'.eval _).run _ w' = .ok (.value _) _
      generalize a'.eval = ρ at *
      simp [execOp, go_sem]
    | 12, ho =>
      simp at ho; subst ho
      have e16 : a'.eval (.tmp 16) = (exT 0) r := hvals 8 _ (by kernel_rfl) rfl
      show ∀ S, _ → ∀ t z g C, _ → _ → _ → _ → ∃ w'', (execOp a'.eval _).run _ w' = .ok .skip w'' ∧ _
      rintro S ⟨va, vc, qa, qc, rfl, _, _⟩ t z g C hz hC hs (eb : a'.eval (.tmp 5) = _)
      cases hz
      obtain ⟨u0, u1, u2, q0, q1, q2⟩ := cells3 hC hs
      have p0 := hC.free 0
      have p1 := hC.free 1
      have p2 := hC.free 2
      obtain ⟨m1, m2, m3⟩ := set3 hC hs (.int .i64 F1) (.slice va nA vc) (.slice qa nO qc)
      simp only [exT] at e16
      generalize a'.eval = ρ at *
      exact ⟨_, by simp [execOp, go_sem, e16, eb, q0, q1, q2, p0, p1, p2], m1, m2, rfl, m3, rfl, rfl, rfl⟩
    | 13, ho =>
      simp at ho; subst ho
      have e17 : a'.eval (.tmp 17) = (exT 1) r := hvals 9 _ (by kernel_rfl) rfl
      show ∀ S, _ → (execOp a'.eval _).run _ w' = .ok (.value _) w'
      rintro S ⟨va, vc, qa, qc, rfl, _, _⟩
      try simp only [exT] at e17
      generalize a'.eval = ρ at *
      simp [execOp, go_sem, e17, exT]
    | 14, ho =>
      simp at ho; subst ho
      have e18 : a'.eval (.tmp 18) = (exT 2) r := hvals 10 _ (by kernel_rfl) rfl
      show ∀ S, _ → (execOp a'.eval _).run _ w' = .ok (.value _) w'
      rintro S ⟨va, vc, qa, qc, rfl, _, _⟩
      try simp only [exT] at e18
      generalize a'.eval = ρ at *
      simp [execOp, go_sem, e18, exT]
    | i + 15, ho => simp at ho
  case fin =>
    rintro r gs Sr W hb ⟨va, vc, qa, qc, rfl, h1, h2⟩ hS hbox hap
    obtain ⟨p1, p2, C, p3, p4⟩ := hbox 11 _ _ (by decide) rfl
    have p5 := p4 12 _ (by decide) rfl
    subst p5
    have KP : Hid (Blk W (gs 11) #[.int .i64 F1, .slice va nA vc, .slice qa nO qc] 32) := p3
    simp only [putK, Kd.out, exT, Act.put, List.setIfInBounds_toArray, List.set_cons_succ, List.set_cons_zero, List.getElem?_toArray, List.getElem?_cons_zero, List.getElem?_cons_succ, Option.getD_some]
    obtain ⟨p, hp⟩ : ∃ p, p = gs 11 := ⟨_, rfl⟩
    rw [← hp] at KP p1
    rw [← hp]
    have HBW : Hid (Below w0.heap.size w0 W) := hb
    have H1 : Hid (GrsIn (fun g => w0.heap.size ≤ g) W (.slice va nA vc) L1) := h1.mono fun _ _ h => h.2
    have H2 : Hid (FrsIn (fun g => w0.heap.size ≤ g) W (.slice qa nO qc) O1) := h2.mono fun _ _ h => h.2
    clear hp h1 h2 hS hbox hap p2 p3 p4 hb
    have HMW : Hid (Blk W M #[.int .i64 last, .int .i64 next, .slice ha hn hc, .slice ba bn bc, .int .i64 first, .slice ga ln gc, .slice oa lo oc, .int .i64 c] 76) := HM0.out.below HBW.out HM0.out.lt
    have HRW : Hid (TrIn (fun g => S g ∧ g ≠ M) W (.slice ha hn hc) (.slice ba bn bc) (.slice ga ln gc) (.slice oa lo oc) t) := HR0.out.below HBW.out
    obtain ⟨x0, x1, x2⟩ := KP.out.three
    obtain ⟨y0, y1, y2, y3, y4, y5, y6, y7⟩ := HMW.out.eight
    have fM := HMW.out.free
    have lM := HMW.out.lt
    have hpM : ¬ p = M := by omega
    obtain ⟨V, hV⟩ : ∃ V, V = ((W.setCell ⟨M, 4, none⟩ (.int .i64 F1)).setCell ⟨M, 5, none⟩ (.slice va nA vc)).setCell ⟨M, 6, none⟩ (.slice qa nO qc) := ⟨_, rfl⟩
    have hVo : ∀ g, g ≠ M → V.heap[g]? = W.heap[g]? := fun g hg => by
      rw [hV, Below.heap_setCell _ _ _ _ (by exact hg), Below.heap_setCell _ _ _ _ (by exact hg), Below.heap_setCell _ _ _ _ (by exact hg)]
    have hVs : V.heap.size = W.heap.size := by rw [hV]; simp
    have HMV : Hid (Blk V M #[.int .i64 last, .int .i64 next, .slice ha hn hc, .slice ba bn bc, .int .i64 F1, .slice va nA vc, .slice qa nO qc, .int .i64 c] 76) := by
      have := ((HMW.out.set 4 (.int .i64 F1)).set 5 (.slice va nA vc)).set 6 (.slice qa nO qc)
      rw [hV]; simpa [Hid] using this
    have HKV : Hid (Kept [M] w V) := by
      rw [hV]
      have k := (Kept.refl [M] w).below (HB0.out.trans (HBW.out.mono HB0.out.size))
      exact ((k.setCell (p := ⟨M, 4, none⟩) (by simp) _).setCell (p := ⟨M, 5, none⟩) (by simp) _).setCell (p := ⟨M, 6, none⟩) (by simp) _
    have HRV : Hid (SlsIn (fun g => S g ∧ g ≠ M) V (.slice ha hn hc) t.h ∧ SlsIn (fun g => S g ∧ g ≠ M) V (.slice ba bn bc) t.o ∧ GrsIn (fun g => S g ∧ g ≠ M) V (.slice va nA vc) L1 ∧ FrsIn (fun g => S g ∧ g ≠ M) V (.slice qa nO qc) O1) := by
      have so : SameOn (fun g => g ≠ M) W V := ⟨by omega, fun g _ hg => hVo g hg⟩
      have hsz := HB0.out.size
      exact ⟨HRW.out.1.to (so.mono fun g h => h.2) (fun _ _ h => h), HRW.out.2.1.to (so.mono fun g h => h.2) (fun _ _ h => h), H1.out.to (so.mono fun g h => by omega) (fun g _ h => ⟨HSU.out g (by omega), by omega⟩), H2.out.to (so.mono fun g h => by omega) (fun g _ h => ⟨HSU.out g (by omega), by omega⟩)⟩
    clear hVo hVs H1 H2 HRW HMW
    cases B1
    case false =>
      go_wp2_with fail
      rw [← hV]
      go_wp2
      go_ret
      refine ⟨rfl, ⟨_, _, _, _, ?_, HRV.out⟩, HKV.out⟩
      have := HMV.out
      simpa using this
    case true =>
      obtain ⟨V2, hV2⟩ : ∃ X, X = V.setCell ⟨M, 7, none⟩ (.int .i64 (c + 1)) := ⟨_, rfl⟩
      have HMV2 : Hid (Blk V2 M #[.int .i64 last, .int .i64 next, .slice ha hn hc, .slice ba bn bc, .int .i64 F1, .slice va nA vc, .slice qa nO qc, .int .i64 (c + 1)] 76) := by
        have := HMV.out.set 7 (.int .i64 (c + 1))
        rw [hV2]; simpa [Hid] using this
      have HKV2 : Hid (Kept [M] w V2) := by rw [hV2]; exact HKV.out.setCell (p := ⟨M, 7, none⟩) (by simp) _
      have HRV2 : Hid (SlsIn (fun g => S g ∧ g ≠ M) V2 (.slice ha hn hc) t.h ∧ SlsIn (fun g => S g ∧ g ≠ M) V2 (.slice ba bn bc) t.o ∧ GrsIn (fun g => S g ∧ g ≠ M) V2 (.slice va nA vc) L1 ∧ FrsIn (fun g => S g ∧ g ≠ M) V2 (.slice qa nO qc) O1) := by
        have so : SameOn (fun g => S g ∧ g ≠ M) V V2 := ⟨by rw [hV2]; simp, fun g _ hg => by rw [hV2, Below.heap_setCell _ _ _ _ (by exact hg.2)]⟩
        exact ⟨HRV.out.1.to so (fun _ _ h => h), HRV.out.2.1.to so (fun _ _ h => h), HRV.out.2.2.1.to so (fun _ _ h => h), HRV.out.2.2.2.to so (fun _ _ h => h)⟩
      go_upto_region 4 with fail
      rw [← hV]
      clear hV x0 x1 x2 y0 y1 y2 y3 y4 y5 y6 y7 fM lM
      obtain ⟨y0, y1, y2, y3, y4, y5, y6, y7⟩ := HMV.out.eight
      have fM := HMV.out.free
      have lM := HMV.out.lt
      go_wp2_with fail
      rw [← hV2]
      go_wp2
      go_ret
      exact ⟨rfl, ⟨_, _, _, _, HMV2.out, HRV2.out⟩, HKV2.out⟩

end Go.Proofs.Ytnpaejknoipicag

namespace Go.Proofs.Ytnpaejknoipicag
open Go.RowKit

theorem chkFit_all (q : Nat → Bool) : ∀ (l : List Sk) (i : Nat), chkFit q i l = 0 → ∀ x ∈ l, x.chk = 0
  | [], _, _, x, hx => absurd hx List.not_mem_nil
  | y :: r, i, h, x, hx => by
    simp only [chkFit] at h
    by_cases hy : y.chk = 0
    · rw [if_pos hy] at h
      cases hq : q i
      · rw [hq] at h; simp at h
      · rw [hq, if_pos rfl] at h
        rcases List.mem_cons.1 hx with rfl | hx
        · exact hy
        · exact chkFit_all q r (i + 1) h x hx
    · rw [if_neg hy] at h; exact absurd h hy

/-- a closure that tells q of a place where all ahead is right, and changes nothing that was there -/
def FitsR (g : Nat) (lb : Array Value) (q : Nat → Bool) (l : List Sk) (w : World) : Prop :=
  ∀ (W : World) (k : Nat), k < l.length → (∀ x ∈ l.take k, x.chk = 0) → Below w.heap.size w W → Calls Try.prog g (#[.int .i64 k] ++ lb) W fun e w' => e = .returned (.bool (q k)) ∧ Below W.heap.size W w'

set_option maxHeartbeats 1600000 in
theorem checkAllR_any (g : Nat) (lb : Array Value) (q : Nat → Bool) (eg : Enters Try.prog g) (v : Value) (l : List Sk) (w : World) (hv : Sls w v l) (hlen : l.length ≤ 9223372036854775807) (hq : FitsR g lb q l w) :
    Calls Try.prog 27 #[v, .func (.func g) #[] lb] w fun e w' => e = .returned (.int .i64 (chkFit q 0 l)) ∧ Below w.heap.size w w' := by
  obtain ⟨ao, c, rfl, hc⟩ := hv.parts
  have HC : Hid (∀ k, k < l.length → ∃ b off, ao = some ⟨b, off, none⟩ ∧ b < w.heap.size ∧ At7 w b (off + k * 7) (l[k]?.getD Sk.zero)) := hc
  have HQ : Hid (FitsR g lb q l w) := hq
  obtain ⟨n, hn⟩ : ∃ n, n = l.length := ⟨_, rfl⟩
  have HN : Hid (n = l.length) := hn
  have eg' : ∀ (args : Array Value) (w : World), (callFunc g args).run Try.prog w = .ok (.enter g args) w := eg
  rw [← hn] at hlen ⊢
  clear hc hv hn hq eg
  go_enter Try.func27, Try.ntmps27
  go_wp2
  go_loopw [10] (fun i wr => ∃ k : Nat, k ≤ n ∧ i = .int .i64 k ∧ Hid (chkFit q 0 (l.take k) = 0) ∧ Below w.heap.size w wr)
    (fun i _ => n - (intOf i).toNat)
  case atStart => exact ⟨0, Nat.zero_le _, rfl, (show chkFit q 0 (l.take 0) = 0 from rfl), Below.refl _ _⟩
  case round =>
    obtain ⟨k, hk, rfl, HK, hbel⟩ := hrel
    by_cases hlt : k < n
    · obtain ⟨b, off, rfl, hb, hat⟩ := HC.out k (by rw [← HN.out]; exact hlt)
      obtain ⟨c0, c1, c2, c3, c4, c5, c6⟩ := hat.below hbel hb
      obtain ⟨x, hx⟩ : ∃ x, x = l[k]?.getD Sk.zero := ⟨_, rfl⟩
      rw [← hx] at c0 c1 c2 c3 c4 c5 c6
      have HX : Hid (x = l[k]?.getD Sk.zero) := hx
      clear hx hat
      obtain ⟨ch, hch⟩ : ∃ ch, ch = x.chk := ⟨_, rfl⟩
      have HCH : Hid (ch = x.chk) := hch
      have hck : ∀ w : World, Calls Try.prog 42 #[x.val] w fun e w' => e = .returned (.int .i64 ch) ∧ Below w.heap.size w w' := fun w => by rw [hch]; exact slotCheck_any x w
      clear hch
      obtain ⟨qk, hqk⟩ : ∃ qk, qk = q k := ⟨_, rfl⟩
      have HQK : Hid (qk = q k) := hqk
      have hfit : ∀ W : World, Below w.heap.size w W → Calls Try.prog g (#[.int .i64 k] ++ lb) W fun e w' => e = .returned (.bool qk) ∧ Below W.heap.size W w' := fun W hW => by rw [hqk]; exact HQ.out W k (by rw [← HN.out]; exact hlt) (chkFit_all _ _ _ HK.out) hW
      have HF : Hid (∀ W : World, Below w.heap.size w W → Calls Try.prog g (#[.int .i64 k] ++ lb) W fun e w' => e = .returned (.bool qk) ∧ Below W.heap.size W w') := hfit
      clear hqk hfit
      obtain ⟨xn, seq, time, xf, xe, xk, xt⟩ := x
      simp only [Sk.val] at hck c0 c1 c2 c3 c4 c5 c6
      have HB : Hid (Below w.heap.size w wr) := hbel
      clear hbel
      by_cases h0 : ch = 0
      · subst h0
        cases qk
        · go_wp2_with (first
            | (go_at_call 42; refine (hck _).mono ?_; rintro e w1 ⟨rfl, hbw⟩; have HB1 : Hid (Below w.heap.size w w1) := HB.out.trans (((Below.refl _ _).alloc HB.out.size _).trans (hbw.mono (by have := HB.out.size; simp; omega))))
            | (go_at_fn g; refine (HF.out _ HB1.out).mono ?_; rintro e w2 ⟨rfl, hbw2⟩))
          go_ret
          exact ⟨by rw [chkFit_no2 (by rw [← HN.out]; exact hlt) HK.out (by rw [← HX.out]; exact HCH.out.symm) HQK.out.symm]; rfl, HB1.out.trans (hbw2.mono HB1.out.size)⟩
        · go_wp2_with (first
            | (go_at_call 42; refine (hck _).mono ?_; rintro e w1 ⟨rfl, hbw⟩; have HB1 : Hid (Below w.heap.size w w1) := HB.out.trans (((Below.refl _ _).alloc HB.out.size _).trans (hbw.mono (by have := HB.out.size; simp; omega))))
            | (go_at_fn g; refine (HF.out _ HB1.out).mono ?_; rintro e w2 ⟨rfl, hbw2⟩))
          go_roundw
          case rel => exact ⟨k + 1, by omega, by go_num, (show chkFit q 0 (l.take (k + 1)) = 0 from chkFit_ok (by rw [← HN.out]; exact hlt) HK.out (by rw [← HX.out]; exact HCH.out.symm) HQK.out.symm), HB1.out.trans (hbw2.mono HB1.out.size)⟩
          case measure => simp [intOf]; omega
      · go_wp2_with (go_at_call 42; refine (hck _).mono ?_; rintro e w' ⟨rfl, hbw⟩)
        go_ret
        exact ⟨by rw [chkFit_no1 (by rw [← HN.out]; exact hlt) HK.out (by rw [← HX.out, ← HCH.out]; exact h0), ← HX.out, ← HCH.out]; rfl, HB.out.trans (((Below.refl _ _).alloc HB.out.size _).trans (hbw.mono (by have := HB.out.size; simp; omega)))⟩
    · have hkl : k = n := by omega
      subst hkl
      go_wp2
      go_ret
      have hk0 := HK.out
      rw [HN.out, List.take_length] at hk0
      rw [hk0]
      exact ⟨rfl, hbel⟩

end Go.Proofs.Ytnpaejknoipicag

namespace Go.Proofs.Ytnpaejknoipicag
open Go.RowKit

set_option maxHeartbeats 400000 in
theorem begunLit_fits (v : Value) (l : List Sk) (B : Nat) (w : World) (hB : Blk w B #[v] 26) (hv : Sls w v l) (hlen : l.length ≤ 9223372036854775807) :
    FitsR 63 #[.pointer (some ⟨B, 0, none⟩)] (qO l) l w := fun W k hk hok hb => by
  have hBW := hB.below hb hB.lt
  have c0 := hBW.one
  have hcall := isBegun_any v l k W (hv.below hb) hk hlen (fun h0 => by
    have hk1 : k - 1 < l.length := by omega
    rw [List.getElem?_eq_getElem hk1, Option.getD_some]
    have := Sk.chk_zero (hok l[k - 1] (by
      rw [List.mem_iff_getElem]
      exact ⟨k - 1, by simp; omega, by simp⟩))
    omega)
  obtain ⟨q, hq⟩ : ∃ q, q = qO l k := ⟨_, rfl⟩
  rw [← hq] at hcall ⊢
  obtain ⟨a, c, rfl⟩ := hv.len
  clear hq hBW hB hv hok
  show Calls Try.prog 63 #[.int .i64 k, .pointer (some ⟨B, 0, none⟩)] W _
  go_enter Try.func63, Try.ntmps63
  go_wp2_with (go_at_call 64; refine hcall.mono ?_; rintro e w1 ⟨rfl, hbw⟩)
  go_ret
  exact ⟨rfl, hbw⟩

set_option maxHeartbeats 1000000 in
theorem checkBuilder_any (v : Value) (l : List Sk) (w : World) (hv : Sls w v l) (hlen : l.length ≤ 9223372036854775807) :
    Calls Try.prog 43 #[.agg #[v]] w fun e w' => e = .returned (.int .i64 (ochk l)) ∧ Below w.heap.size w w' := by
  obtain ⟨a, c, hva⟩ := hv.len
  obtain ⟨n, hn⟩ : ∃ n, n = l.length := ⟨_, rfl⟩
  rw [← hn] at hva
  have hr : ochk l = if 4 ≤ n then 2 else ogo none l := by rw [hn]; rfl
  rw [hr]
  have hln : n ≤ 9223372036854775807 := by omega
  have hcA : Calls Try.prog 27 #[v, .func (.func 63) #[] #[.pointer (some ⟨w.heap.size, 0, none⟩)]] (w.alloc (.cells #[v] 26)) fun e w' => e = .returned (.int .i64 (ogo none l)) ∧ Below (w.alloc (.cells #[v] 26)).heap.size (w.alloc (.cells #[v] 26)) w' := by
    rw [← fit_open]
    exact checkAllR_any 63 #[.pointer (some ⟨w.heap.size, 0, none⟩)] (qO l) (enters_of Try.func63 (by kernel_rfl) rfl) v l _ (hv.alloc _) hlen (begunLit_fits v l w.heap.size _ (Blk.new w _ _) (hv.alloc _) hlen)
  obtain ⟨r, hrr⟩ : ∃ r, r = ogo none l := ⟨_, rfl⟩
  rw [← hrr] at hcA ⊢
  have HA : Hid (Calls Try.prog 27 #[v, .func (.func 63) #[] #[.pointer (some ⟨w.heap.size, 0, none⟩)]] (w.alloc (.cells #[v] 26)) fun e w' => e = .returned (.int .i64 r) ∧ Below (w.alloc (.cells #[v] 26)).heap.size (w.alloc (.cells #[v] 26)) w') := hcA
  clear hr hrr hcA hv hn hlen
  subst hva
  by_cases h4 : 4 ≤ n
  · rw [if_pos h4]
    go_enter Try.func43, Try.ntmps43
    go_wp2
    go_ret
    exact ⟨rfl, by go_grown⟩
  · rw [if_neg h4]
    go_enter Try.func43, Try.ntmps43
    go_wp2_with fail
    refine HA.out.mono ?_
    rintro e w1 ⟨rfl, hb1⟩
    have B1 : Hid (Below w.heap.size w w1) := ((Below.refl _ w).alloc (Nat.le_refl _) _).trans (hb1.mono (by simp))
    clear hb1
    go_wp2
    go_ret
    exact ⟨rfl, B1.out⟩

/-- the errno of Add, and what comes of it -/
def addE (l : List Sk) (x : Sk) : Int := if ochk l = 0 then x.chk else ochk l
theorem frameAdd_bad (v : Value) (l : List Sk) (x : Sk) (w : World) (hv : Sls w v l) (hlen : l.length ≤ 9223372036854775807) (hE : ¬ addE l x = 0) :
    Calls Try.prog 30 #[.agg #[v], x.val] w fun e w' => e = .returned (.tuple #[.agg #[.slice none 0 0], .agg #[.int .i64 0, .bool false, .slice none 0 0], .bool false, .int .i64 (addE l x)]) ∧ Below w.heap.size w w' :=
  frameAdd_no (ochk l) v l x w hv (fun w' hs => checkBuilder_any v l w' hs hlen) (addE l x) rfl hE
theorem addE_zero {l : List Sk} {x : Sk} (h : addE l x = 0) : ochk l = 0 ∧ x.chk = 0 ∧ l.length ≤ 3 ∧ ∀ y ∈ l, y.chk = 0 := by
  unfold addE at h
  by_cases h0 : ochk l = 0
  · rw [if_pos h0] at h
    have h1 := h0
    unfold ochk at h1
    by_cases h4 : 4 ≤ l.length
    · rw [if_pos h4] at h1; omega
    · rw [if_neg h4] at h1
      exact ⟨h0, h, by omega, ogo_all l none h1⟩
  · rw [if_neg h0] at h; exact absurd h h0
theorem frameAdd_good (v : Value) (l : List Sk) (x : Sk) (w : World) (hv : Sls w v l) (hE : addE l x = 0) :
    Calls Try.prog 30 #[.agg #[v], x.val] w fun e w' => ∃ ov pv, e = .returned (.tuple #[.agg #[ov], .agg #[.int .i64 (addT l x), .bool (addK l x), pv], .bool (addW l x), .int .i64 0]) ∧
      (Sls w' ov (addO l x) ∧ Strs w' pv (addP l x) ∧ (∀ g, ov.ownBlock = some g → w.heap.size ≤ g ∧ g < w'.heap.size) ∧ ∀ g, pv.ownBlock = some g → w.heap.size ≤ g ∧ g < w'.heap.size) ∧ Below w.heap.size w w' := by
  obtain ⟨h0, hx, h3, hl⟩ := addE_zero hE
  exact frameAdd_ok v l x w hv (fun w' hs => by rw [← h0]; exact checkBuilder_any v l w' hs (by omega)) h3 hl hx

/-- what Add answers: nothing beside an errno -/
structure AddR where
  o : List Sk
  t : Int
  k : Bool
  p : List ByteArray
  b : Bool
def addR (l : List Sk) (x : Sk) : AddR := if addE l x = 0 then ⟨addO l x, addT l x, addK l x, addP l x, addW l x⟩ else ⟨[], 0, false, [], false⟩
theorem frameAdd_any (v : Value) (l : List Sk) (x : Sk) (w : World) (hv : Sls w v l) (hlen : l.length ≤ 9223372036854775807) :
    Calls Try.prog 30 #[.agg #[v], x.val] w fun e w' => ∃ ov pv, e = .returned (.tuple #[.agg #[ov], .agg #[.int .i64 (addR l x).t, .bool (addR l x).k, pv], .bool (addR l x).b, .int .i64 (addE l x)]) ∧
      (Sls w' ov (addR l x).o ∧ Strs w' pv (addR l x).p ∧ (∀ g, ov.ownBlock = some g → w.heap.size ≤ g ∧ g < w'.heap.size) ∧ ∀ g, pv.ownBlock = some g → w.heap.size ≤ g ∧ g < w'.heap.size) ∧ Below w.heap.size w w' := by
  by_cases hE : addE l x = 0
  · have hr : addR l x = ⟨addO l x, addT l x, addK l x, addP l x, addW l x⟩ := by unfold addR; rw [if_pos hE]
    rw [hr, hE]
    exact frameAdd_good v l x w hv hE
  · have hr : addR l x = ⟨[], 0, false, [], false⟩ := by unfold addR; rw [if_neg hE]
    rw [hr]
    refine (frameAdd_bad v l x w hv hlen hE).mono ?_
    rintro e w' ⟨rfl, hb⟩
    exact ⟨_, _, rfl, ⟨Sls.nil _, Strs.nil _, fun g hg => by simp [Value.ownBlock] at hg, fun g hg => by simp [Value.ownBlock] at hg⟩, hb⟩

end Go.Proofs.Ytnpaejknoipicag

namespace Go.Proofs.Ytnpaejknoipicag
open Go.RowKit

theorem Blk.sevenp {w : World} {b : Nat} {x : Sk} {t : TypeId} (h : Blk w b x.cells t) :
    w.cell? ⟨b, 0, none⟩ = some (.int .i64 x.n) ∧ w.cell? ⟨b, 1, none⟩ = some (.int .i64 x.p.seq) ∧ w.cell? ⟨b, 2, none⟩ = some (.int .i64 x.p.time) ∧ w.cell? ⟨b, 3, none⟩ = some (.bool x.p.f) ∧ w.cell? ⟨b, 4, none⟩ = some (.bool x.p.e) ∧ w.cell? ⟨b, 5, none⟩ = some (.bool x.p.k) ∧ w.cell? ⟨b, 6, none⟩ = some (.string x.p.t) :=
  ⟨h.cell rfl, h.cell rfl, h.cell rfl, h.cell rfl, h.cell rfl, h.cell rfl, h.cell rfl⟩

set_option maxHeartbeats 8000000 in
set_option maxRecDepth 100000 in
theorem tkAdd_any (S : Nat → Prop) (M : Nat) (t : Tr) (c : Int) (x : Sk) (w : World) (hT : TkB S M w t c) (hto : ochk t.o = 0) (hx : x.chk = 0) (hS : ∀ g, w.heap.size ≤ g → S g) (hc0 : 0 ≤ c) (hc1 : c ≤ 1000000) :
    Calls Try.prog 58 #[.pointer (some ⟨M, 0, none⟩), x.val] w fun e w' => e = .returned (.int .i64 (tk1 t x).2.2) ∧ TkB S M w' (tk1 t x).1 (c + (tk1 t x).2.1) ∧ Kept [M] w w' := by
  obtain ⟨hv, bv, gv, ov, hM, hr⟩ := hT
  obtain ⟨ha, hc, ba, bc, ga, gc, oa, oc, eh, eb, eg, eo⟩ := hr.slices
  obtain ⟨last, hlast⟩ : ∃ x, x = t.last := ⟨_, rfl⟩
  obtain ⟨next, hnext⟩ : ∃ x, x = t.next := ⟨_, rfl⟩
  obtain ⟨first, hfirst⟩ : ∃ x, x = t.first := ⟨_, rfl⟩
  obtain ⟨hn, hhn⟩ : ∃ x, x = t.h.length := ⟨_, rfl⟩
  obtain ⟨bn, hbn⟩ : ∃ x, x = t.o.length := ⟨_, rfl⟩
  obtain ⟨ln, hln⟩ : ∃ x, x = t.L.length := ⟨_, rfl⟩
  obtain ⟨lo, hlo⟩ : ∃ x, x = t.O.length := ⟨_, rfl⟩
  obtain ⟨B1, hB1⟩ : ∃ E, E = addO t.o x := ⟨_, rfl⟩
  obtain ⟨T1, hT1⟩ : ∃ E, E = addT t.o x := ⟨_, rfl⟩
  obtain ⟨K1, hK1⟩ : ∃ E, E = addK t.o x := ⟨_, rfl⟩
  obtain ⟨P1, hP1⟩ : ∃ E, E = addP t.o x := ⟨_, rfl⟩
  obtain ⟨W1, hW1⟩ : ∃ E, E = addW t.o x := ⟨_, rfl⟩
  obtain ⟨nB, hnB⟩ : ∃ n, n = B1.length := ⟨_, rfl⟩
  obtain ⟨nP, hnP⟩ : ∃ n, n = P1.length := ⟨_, rfl⟩
  have HWW : Hid (W1 = addW t.o x ∧ B1 = addO t.o x ∧ T1 = addT t.o x ∧ K1 = addK t.o x ∧ P1 = addP t.o x) := ⟨hW1, hB1, hT1, hK1, hP1⟩
  have HADDw : Hid (∀ U : World, Below w.heap.size w U → Calls Try.prog 30 #[.agg #[bv], .agg #[.int .i64 x.n, .int .i64 x.p.seq, .int .i64 x.p.time, .bool x.p.f, .bool x.p.e, .bool x.p.k, .string x.p.t]] U fun e w' => ∃ va vc qa qc, e = .returned (.tuple #[.agg #[.slice va nB vc], .agg #[.int .i64 T1, .bool K1, .slice qa nP qc], .bool W1, .int .i64 0]) ∧ Hid (SlsIn (fun g => U.heap.size ≤ g) w' (.slice va nB vc) B1) ∧ Hid (StrsIn (fun g => U.heap.size ≤ g) w' (.slice qa nP qc) P1) ∧ Below U.heap.size U w') := fun U hU => by
    obtain ⟨o1, o2, o3⟩ := ochk_len hto
    refine (frameAdd_any bv t.o x U (hr.2.1.below hU).1 (by omega)).mono ?_
    rintro e w' ⟨ov', pv', rfl, ⟨h1, h2, h3, h4⟩, h5⟩
    have e0 : addE t.o x = 0 := by unfold addE; rw [if_pos hto]; exact hx
    have e1 : addR t.o x = ⟨addO t.o x, addT t.o x, addK t.o x, addP t.o x, addW t.o x⟩ := by unfold addR; rw [if_pos e0]
    rw [e1] at h1 h2 ⊢
    simp only at h1 h2 ⊢
    rw [← hB1] at h1
    rw [← hP1] at h2
    obtain ⟨va, vc, ev⟩ := h1.len
    obtain ⟨qa, qc, eq⟩ := h2.len
    rw [← hnB] at ev
    rw [← hnP] at eq
    subst ev eq
    rw [e0, ← hT1, ← hK1, ← hW1]
    have l1 : B1.length ≤ 3 := by rw [hB1]; exact addO_len _ _ o1
    have l2 : P1.length ≤ 4 := by rw [hP1]; exact addP_len _ _ o1
    exact ⟨va, vc, qa, qc, rfl, SlsIn.of h1 (by omega) (fun g hg _ => (h3 g hg).1), ⟨h2, by omega, fun g hg _ => h4 g hg⟩, h5⟩
  rw [← hlast, ← hnext, ← hfirst] at hM
  rw [← hhn] at eh
  rw [← hbn] at eb
  rw [← hln] at eg
  rw [← hlo] at eo
  have HSU : Hid (∀ g, w.heap.size ≤ g → S g) := hS
  have HTT : Hid (last = t.last ∧ next = t.next ∧ first = t.first) := ⟨hlast, hnext, hfirst⟩
  clear hlast hnext hfirst hhn hbn hln hlo hB1 hT1 hK1 hP1 hW1 hnB hnP hS hx hto
  subst eh eb eg eo
  have HMw : Hid (Blk w M #[.int .i64 last, .int .i64 next, .slice ha hn hc, .slice ba bn bc, .int .i64 first, .slice ga ln gc, .slice oa lo oc, .int .i64 c] 76) := hM
  have HRw : Hid (TrIn (fun g => S g ∧ g ≠ M) w (.slice ha hn hc) (.slice ba bn bc) (.slice ga ln gc) (.slice oa lo oc) t) := hr
  have hMw := hM.lt
  clear hM hr
  simp only [Sk.val]
  go_enter Try.func58, Try.ntmps58
  go_wp2_with fail
  obtain ⟨w0, hw0⟩ : ∃ w0, w0 = w.alloc (.cells #[.int .i64 x.n, .int .i64 x.p.seq, .int .i64 x.p.time, .bool x.p.f, .bool x.p.e, .bool x.p.k, .string x.p.t] 71) := ⟨_, rfl⟩
  have HB0 : Hid (Below w.heap.size w w0) := by rw [hw0]; exact (Below.refl _ _).alloc (Nat.le_refl _) _
  have z0 : w0.heap.size = w.heap.size + 1 := by rw [hw0]; simp
  have HM0 : Hid (Blk w0 M #[.int .i64 last, .int .i64 next, .slice ha hn hc, .slice ba bn bc, .int .i64 first, .slice ga ln gc, .slice oa lo oc, .int .i64 c] 76) := HMw.out.below HB0.out hMw
  have HF0 : Hid (Blk w0 w.heap.size #[.int .i64 x.n, .int .i64 x.p.seq, .int .i64 x.p.time, .bool x.p.f, .bool x.p.e, .bool x.p.k, .string x.p.t] 71) := Blk.newE hw0
  have HR0 : Hid (TrIn (fun g => S g ∧ g ≠ M) w0 (.slice ha hn hc) (.slice ba bn bc) (.slice ga ln gc) (.slice oa lo oc) t) := HRw.out.below HB0.out
  have HADD : Hid (∀ U : World, Below w0.heap.size w0 U → Calls Try.prog 30 #[.agg #[.slice ba bn bc], .agg #[.int .i64 x.n, .int .i64 x.p.seq, .int .i64 x.p.time, .bool x.p.f, .bool x.p.e, .bool x.p.k, .string x.p.t]] U fun e w' => ∃ va vc qa qc, e = .returned (.tuple #[.agg #[.slice va nB vc], .agg #[.int .i64 T1, .bool K1, .slice qa nP qc], .bool W1, .int .i64 0]) ∧ Hid (SlsIn (fun g => U.heap.size ≤ g) w' (.slice va nB vc) B1) ∧ Hid (StrsIn (fun g => U.heap.size ≤ g) w' (.slice qa nP qc) P1) ∧ Below U.heap.size U w') := fun U hU => HADDw.out U (HB0.out.trans (hU.mono (by omega)))
  rw [← hw0]
  clear hw0 HMw HRw HADDw
  refine region_main (by kernel_rfl) (by kernel_rfl) [.quiet (.pointer (some ⟨M, 0, none⟩)), .quiet (.pointer (some ⟨M, 0, none⟩)), .quiet (.pointer (some ⟨M, 0, none⟩)), .quiet (.pointer (some ⟨M, 3, none⟩)), .quiet (.agg #[.slice ba bn bc]), .quiet (.agg #[.int .i64 x.n, .int .i64 x.p.seq, .int .i64 x.p.time, .bool x.p.f, .bool x.p.e, .bool x.p.k, .string x.p.t]), .main, .fin (fun r => r), .fin (exT 0), .fin (exT 1), .fin (exT 2), .fin (exT 3), .box 26 #[.slice none 0 0], .box 67 #[.int .i64 0, .bool false, .slice none 0 0], .put 12 (fun r => aggC (exT 0 r)), .put 13 (fun r => aggC (exT 1 r)), .fin (exT 2), .fin (exT 3)] 6 (by kernel_rfl)
    (fun S r w' => ∃ va vc qa qc, r = .tuple #[.agg #[.slice va nB vc], .agg #[.int .i64 T1, .bool K1, .slice qa nP qc], .bool W1, .int .i64 0] ∧ SlsIn (fun g => S g ∧ w0.heap.size ≤ g) w' (.slice va nB vc) B1 ∧ StrsIn (fun g => S g ∧ w0.heap.size ≤ g) w' (.slice qa nP qc) P1) ?loc ?step ?fin
  case loc =>
    rintro S r w1 w3 ⟨va, vc, qa, qc, rfl, h1, h2⟩ hs hsame
    exact ⟨va, vc, qa, qc, rfl, h1.to ⟨hs, fun g hg hS => hsame g hS.1 hg⟩ (fun _ _ h => h), h2.to ⟨hs, fun g hg hS => hsame g hS.1 hg⟩ (fun _ _ h => h)⟩
  case step =>
    intro i o ho a' w' r hb hfree hvals
    have f0 : a'.eval (.tmp 0) = .pointer (some ⟨M, 0, none⟩) := (hfree 0 (by kernel_rfl)).trans rfl
    have f3 : a'.eval (.tmp 3) = .pointer (some ⟨w.heap.size, 0, none⟩) := (hfree 3 (by kernel_rfl)).trans rfl
    obtain ⟨y0, y1, y2, y3, y4, y5, y6, y7⟩ := (HM0.out.below hb HM0.out.lt).eight
    obtain ⟨j0, j1, j2, j3, j4, j5, j6⟩ := (HF0.out.below hb HF0.out.lt).sevenc
    match i, ho with
    | 0, ho =>
      simp at ho; subst ho
      show (execOp a'.eval _).run _ w' = .ok (.value _) w'
      generalize a'.eval = ρ at *
      simp [execOp, go_sem, f0]
    | 1, ho =>
      simp at ho; subst ho
      have e10 : a'.eval (.tmp 10) = .pointer (some ⟨M, 0, none⟩) := hvals 0 _ (by kernel_rfl) rfl
      show (execOp a'.eval _).run _ w' = .ok (.value _) w'
      generalize a'.eval = ρ at *
      simp [execOp, go_sem, e10]
    | 2, ho =>
      simp at ho; subst ho
      have e11 : a'.eval (.tmp 11) = .pointer (some ⟨M, 0, none⟩) := hvals 1 _ (by kernel_rfl) rfl
      show (execOp a'.eval _).run _ w' = .ok (.value _) w'
      generalize a'.eval = ρ at *
      simp [execOp, go_sem, e11]
    | 3, ho =>
      simp at ho; subst ho
      have e12 : a'.eval (.tmp 12) = .pointer (some ⟨M, 0, none⟩) := hvals 2 _ (by kernel_rfl) rfl
      show (execOp a'.eval _).run _ w' = .ok (.value _) w'
      generalize a'.eval = ρ at *
      simp [execOp, go_sem, e12]
    | 4, ho =>
      simp at ho; subst ho
      have e13 : a'.eval (.tmp 13) = .pointer (some ⟨M, 3, none⟩) := hvals 3 _ (by kernel_rfl) rfl
      show (execOp a'.eval _).run _ w' = .ok (.value _) w'
      generalize a'.eval = ρ at *
      simp [execOp, go_sem, e13, y3]
    | 5, ho =>
      simp at ho; subst ho
      show (execOp a'.eval _).run _ w' = .ok (.value _) w'
      generalize a'.eval = ρ at *
      simp [execOp, go_sem, f3, j0, j1, j2, j3, j4, j5, j6]
    | 6, ho =>
      simp at ho; subst ho
      have e14 : a'.eval (.tmp 14) = .agg #[.slice ba bn bc] := hvals 4 _ (by kernel_rfl) rfl
      have e15 : a'.eval (.tmp 15) = .agg #[.int .i64 x.n, .int .i64 x.p.seq, .int .i64 x.p.time, .bool x.p.f, .bool x.p.e, .bool x.p.k, .string x.p.t] := hvals 5 _ (by kernel_rfl) rfl
      have ef : a'.eval (.func 30) = .func (.func 30) #[] #[] := rfl
      show ∃ f args, (execOp a'.eval _).run _ w' = .ok (.enter f args) w' ∧ _
      generalize a'.eval = ρ at *
      refine ⟨30, #[.agg #[.slice ba bn bc], .agg #[.int .i64 x.n, .int .i64 x.p.seq, .int .i64 x.p.time, .bool x.p.f, .bool x.p.e, .bool x.p.k, .string x.p.t]], by simp [execOp, go_sem, e14, e15, ef], ?_⟩
      refine (HADD.out w' hb).mono ?_
      rintro e w'' ⟨va, vc, qa, qc, rfl, h1, h2, hb4⟩
      exact ⟨_, rfl, ⟨va, vc, qa, qc, rfl, h1.out.mono (fun g hl hg => ⟨⟨hl, .inr hg⟩, (by have := hb.size; omega)⟩), h2.out.mono (fun g hl hg => ⟨⟨hl, .inr hg⟩, (by have := hb.size; omega)⟩)⟩, hb4⟩
    | 7, ho =>
      simp at ho; subst ho
      have e16 : a'.eval (.tmp 16) = r := hvals 6 _ (by kernel_rfl) rfl
      show ∀ S, _ → (execOp a'.eval _).run _ w' = .ok (.value _) w'
      rintro S ⟨va, vc, qa, qc, rfl, _, _⟩
      try simp only [exT] at e16
      generalize a'.eval = ρ at *
      simp [execOp, go_sem, e16]
    | 8, ho =>
      simp at ho; subst ho
      have e9 : a'.eval (.tmp 9) = r := hvals 7 _ (by kernel_rfl) rfl
      show ∀ S, _ → (execOp a'.eval _).run _ w' = .ok (.value _) w'
      rintro S ⟨va, vc, qa, qc, rfl, _, _⟩
      try simp only [exT] at e9
      generalize a'.eval = ρ at *
      simp [execOp, go_sem, e9, exT]
    | 9, ho =>
      simp at ho; subst ho
      have e9 : a'.eval (.tmp 9) = r := hvals 7 _ (by kernel_rfl) rfl
      show ∀ S, _ → (execOp a'.eval _).run _ w' = .ok (.value _) w'
      rintro S ⟨va, vc, qa, qc, rfl, _, _⟩
      try simp only [exT] at e9
      generalize a'.eval = ρ at *
      simp [execOp, go_sem, e9, exT]
    | 10, ho =>
      simp at ho; subst ho
      have e9 : a'.eval (.tmp 9) = r := hvals 7 _ (by kernel_rfl) rfl
      show ∀ S, _ → (execOp a'.eval _).run _ w' = .ok (.value _) w'
      rintro S ⟨va, vc, qa, qc, rfl, _, _⟩
      try simp only [exT] at e9
      generalize a'.eval = ρ at *
      simp [execOp, go_sem, e9, exT]
    | 11, ho =>
      simp at ho; subst ho
      have e9 : a'.eval (.tmp 9) = r := hvals 7 _ (by kernel_rfl) rfl
      show ∀ S, _ → (execOp a'.eval _).run _ w' = .ok (.value _) w'
      rintro S ⟨va, vc, qa, qc, rfl, _, _⟩
      try simp only [exT] at e9
      generalize a'.eval = ρ at *
      simp [execOp, go_sem, e9, exT]
    | 12, ho =>
      simp at ho; subst ho
      show (execOp a'.eval _).run _ w' = .ok (.value _) _
      generalize a'.eval = ρ at *
      simp [execOp, go_sem]
    | 13, ho =>
      simp at ho; subst ho
      show (execOp a'.eval _).run _ w' = .ok (.value _) _
      generalize a'.eval = ρ at *
      simp [execOp, go_sem]
    | 14, ho =>
      simp at ho; subst ho
      have e17 : a'.eval (.tmp 17) = (exT 0) r := hvals 8 _ (by kernel_rfl) rfl
      show ∀ S, _ → ∀ t z g C, _ → _ → _ → _ → ∃ w'', (execOp a'.eval _).run _ w' = .ok .skip w'' ∧ _
      rintro S ⟨va, vc, qa, qc, rfl, _, _⟩ t z g C hz hC hs (eb : a'.eval (.tmp 5) = _)
      cases hz
      obtain ⟨u0, q0⟩ := cells1 hC hs
      have p0 := hC.free 0
      obtain ⟨m1, m2, m3⟩ := set1 hC hs (.slice va nB vc)
      simp only [exT] at e17
      generalize a'.eval = ρ at *
      exact ⟨_, by simp [execOp, go_sem, e17, eb, q0, p0], m1, m2, rfl, m3, rfl, rfl, rfl⟩
    | 15, ho =>
      simp at ho; subst ho
      have e18 : a'.eval (.tmp 18) = (exT 1) r := hvals 9 _ (by kernel_rfl) rfl
      show ∀ S, _ → ∀ t z g C, _ → _ → _ → _ → ∃ w'', (execOp a'.eval _).run _ w' = .ok .skip w'' ∧ _
      rintro S ⟨va, vc, qa, qc, rfl, _, _⟩ t z g C hz hC hs (eb : a'.eval (.tmp 6) = _)
      cases hz
      obtain ⟨u0, u1, u2, q0, q1, q2⟩ := cells3 hC hs
      have p0 := hC.free 0
      have p1 := hC.free 1
      have p2 := hC.free 2
      obtain ⟨m1, m2, m3⟩ := set3 hC hs (.int .i64 T1) (.bool K1) (.slice qa nP qc)
      simp only [exT] at e18
      generalize a'.eval = ρ at *
      exact ⟨_, by simp [execOp, go_sem, e18, eb, q0, q1, q2, p0, p1, p2], m1, m2, rfl, m3, rfl, rfl, rfl⟩
    | 16, ho =>
      simp at ho; subst ho
      have e19 : a'.eval (.tmp 19) = (exT 2) r := hvals 10 _ (by kernel_rfl) rfl
      show ∀ S, _ → (execOp a'.eval _).run _ w' = .ok (.value _) w'
      rintro S ⟨va, vc, qa, qc, rfl, _, _⟩
      try simp only [exT] at e19
      generalize a'.eval = ρ at *
      simp [execOp, go_sem, e19, exT]
    | 17, ho =>
      simp at ho; subst ho
      have e20 : a'.eval (.tmp 20) = (exT 3) r := hvals 11 _ (by kernel_rfl) rfl
      show ∀ S, _ → (execOp a'.eval _).run _ w' = .ok (.value _) w'
      rintro S ⟨va, vc, qa, qc, rfl, _, _⟩
      try simp only [exT] at e20
      generalize a'.eval = ρ at *
      simp [execOp, go_sem, e20, exT]
    | i + 18, ho => simp at ho
  case fin =>
    rintro r gs Sr W hb ⟨va, vc, qa, qc, rfl, h1, h2⟩ hS hbox hap
    obtain ⟨p1, p2, C, p3, p4⟩ := hbox 12 _ _ (by decide) rfl
    have p5 := p4 14 _ (by decide) rfl
    subst p5
    obtain ⟨o1, o2, C', o3, o4⟩ := hbox 13 _ _ (by decide) rfl
    have o5 := o4 15 _ (by decide) rfl
    subst o5
    have KP : Hid (Blk W (gs 12) #[.slice va nB vc] 26) := p3
    have KO : Hid (Blk W (gs 13) #[.int .i64 T1, .bool K1, .slice qa nP qc] 67) := o3
    simp only [putK, Kd.out, exT, Act.put, List.setIfInBounds_toArray, List.set_cons_succ, List.set_cons_zero, List.getElem?_toArray, List.getElem?_cons_zero, List.getElem?_cons_succ, Option.getD_some]
    obtain ⟨p, hp⟩ : ∃ p, p = gs 12 := ⟨_, rfl⟩
    obtain ⟨o, ho⟩ : ∃ p, p = gs 13 := ⟨_, rfl⟩
    rw [← hp] at KP p1
    rw [← ho] at KO o1
    rw [← hp, ← ho]
    have HBW : Hid (Below w0.heap.size w0 W) := hb
    have H1 : Hid (SlsIn (fun g => w0.heap.size ≤ g) W (.slice va nB vc) B1) := h1.mono fun _ _ h => h.2
    have H2 : Hid (StrsIn (fun g => w0.heap.size ≤ g) W (.slice qa nP qc) P1) := h2.mono fun _ _ h => h.2
    clear hp ho h1 h2 hS hbox hap p2 p3 p4 o2 o3 o4 hb
    have HMW : Hid (Blk W M #[.int .i64 last, .int .i64 next, .slice ha hn hc, .slice ba bn bc, .int .i64 first, .slice ga ln gc, .slice oa lo oc, .int .i64 c] 76) := HM0.out.below HBW.out HM0.out.lt
    have HRW : Hid (TrIn (fun g => S g ∧ g ≠ M) W (.slice ha hn hc) (.slice ba bn bc) (.slice ga ln gc) (.slice oa lo oc) t) := HR0.out.below HBW.out
    have x0 := KP.out.one
    obtain ⟨y0, y1, y2, y3, y4, y5, y6, y7⟩ := HMW.out.eight
    have fM := HMW.out.free
    have lM := HMW.out.lt
    have hpM : ¬ p = M := by omega
    have hoM : ¬ o = M := by omega
    obtain ⟨V, hV⟩ : ∃ V, V = W.setCell ⟨M, 3, none⟩ (.slice va nB vc) := ⟨_, rfl⟩
    have hVo : ∀ g, g ≠ M → V.heap[g]? = W.heap[g]? := fun g hg => by
      rw [hV, Below.heap_setCell _ _ _ _ (by exact hg)]
    have hVs : V.heap.size = W.heap.size := by rw [hV]; simp
    have HMV : Hid (Blk V M #[.int .i64 last, .int .i64 next, .slice ha hn hc, .slice va nB vc, .int .i64 first, .slice ga ln gc, .slice oa lo oc, .int .i64 c] 76) := by
      have := HMW.out.set 3 (.slice va nB vc)
      rw [hV]; simpa [Hid] using this
    have HKV : Hid (Kept [M] w V) := by
      rw [hV]
      have k := (Kept.refl [M] w).below (HB0.out.trans (HBW.out.mono HB0.out.size))
      exact k.setCell (p := ⟨M, 3, none⟩) (by simp) _
    have KOV : Hid (Blk V o #[.int .i64 T1, .bool K1, .slice qa nP qc] 67) := (hVo o hoM).trans KO.out
    have HTV : Hid (TkB S M V ⟨t.last, t.next, t.h, B1, t.first, t.L, t.O⟩ c) := by
      have so : SameOn (fun g => g ≠ M) W V := ⟨by omega, fun g _ hg => hVo g hg⟩
      have hsz := HB0.out.size
      refine ⟨_, _, _, _, by rw [HTT.out.1, HTT.out.2.1, HTT.out.2.2] at HMV; exact HMV.out, HRW.out.1.to (so.mono fun g h => h.2) (fun _ _ h => h), H1.out.to (so.mono fun g h => by omega) (fun g _ h => ⟨HSU.out g (by omega), by omega⟩), HRW.out.2.2.1.to (so.mono fun g h => h.2) (fun _ _ h => h), HRW.out.2.2.2.to (so.mono fun g h => h.2) (fun _ _ h => h)⟩
    have HPV : Hid (StrsIn (fun _ => True) V (.slice qa nP qc) P1) := by
      have so : SameOn (fun g => g ≠ M) W V := ⟨by omega, fun g _ hg => hVo g hg⟩
      exact H2.out.to (so.mono fun g h => by omega) (fun _ _ _ => trivial)
    have hsV : w.heap.size ≤ V.heap.size := HKV.out.size
    clear hVo hVs H1 H2 HRW HMW
    cases W1
    case false =>
      have h1 : tk1 t x = (⟨t.last, t.next, t.h, B1, t.first, t.L, t.O⟩, 0, 0) := by
        have hw := HWW.out
        unfold tk1; rw [← hw.1, ← hw.2.1]; rfl
      have HH1 : Hid (tk1 t x = (⟨t.last, t.next, t.h, B1, t.first, t.L, t.O⟩, 0, 0)) := h1
      clear h1
      go_wp2_with fail
      rw [← hV]
      go_wp2
      go_ret
      rw [HH1.out]
      exact ⟨rfl, by simpa using HTV.out, HKV.out⟩
    case true =>
      have h1 : tk1 t x = (⟨t.last, t.next, t.h, B1, addsF t.first t.L t.O ⟨T1, K1, P1⟩, addsL t.first t.L t.O ⟨T1, K1, P1⟩, addsO t.first t.L t.O ⟨T1, K1, P1⟩⟩, if addsB t.first t.L t.O ⟨T1, K1, P1⟩ then 1 else 0, addsE t.first t.L t.O ⟨T1, K1, P1⟩) := by
        have hw := HWW.out
        unfold tk1; rw [← hw.1, ← hw.2.1]; unfold addF; rw [← hw.2.2.1, ← hw.2.2.2.1, ← hw.2.2.2.2]; rfl
      have HH1 : Hid (tk1 t x = (⟨t.last, t.next, t.h, B1, addsF t.first t.L t.O ⟨T1, K1, P1⟩, addsL t.first t.L t.O ⟨T1, K1, P1⟩, addsO t.first t.L t.O ⟨T1, K1, P1⟩⟩, if addsB t.first t.L t.O ⟨T1, K1, P1⟩ then 1 else 0, addsE t.first t.L t.O ⟨T1, K1, P1⟩)) := h1
      have HKEEP : Hid (Calls Try.prog 74 #[.pointer (some ⟨M, 0, none⟩), .agg #[.int .i64 T1, .bool K1, .slice qa nP qc]] V fun e w' => e = .returned (.int .i64 (addsE t.first t.L t.O ⟨T1, K1, P1⟩)) ∧ TkB S M w' ⟨t.last, t.next, t.h, B1, addsF t.first t.L t.O ⟨T1, K1, P1⟩, addsL t.first t.L t.O ⟨T1, K1, P1⟩, addsO t.first t.L t.O ⟨T1, K1, P1⟩⟩ (c + (if addsB t.first t.L t.O ⟨T1, K1, P1⟩ then (1 : Nat) else 0)) ∧ Kept [M] V w') :=
        tkKeep_any S M _ c ⟨T1, K1, P1⟩ _ V HTV.out HPV.out (fun g hg => HSU.out g (by omega)) hc0 hc1
      obtain ⟨E9, hE9⟩ : ∃ e, e = addsE t.first t.L t.O ⟨T1, K1, P1⟩ := ⟨_, rfl⟩
      obtain ⟨C9, hC9⟩ : ∃ e : Int, e = c + (if addsB t.first t.L t.O ⟨T1, K1, P1⟩ then (1 : Nat) else 0) := ⟨_, rfl⟩
      obtain ⟨T9, hT9⟩ : ∃ e : Tr, e = ⟨t.last, t.next, t.h, B1, addsF t.first t.L t.O ⟨T1, K1, P1⟩, addsL t.first t.L t.O ⟨T1, K1, P1⟩, addsO t.first t.L t.O ⟨T1, K1, P1⟩⟩ := ⟨_, rfl⟩
      have HC9 : Hid (C9 = c + (if addsB t.first t.L t.O ⟨T1, K1, P1⟩ then (1 : Nat) else 0)) := hC9
      rw [← hE9, ← hC9, ← hT9] at HKEEP
      rw [← hE9, ← hT9] at HH1
      clear h1 hE9 hC9 hT9 HTV HPV
      go_upto_region 4 with fail
      rw [← hV]
      clear hV x0 y0 y1 y2 y3 y4 y5 y6 y7 fM lM
      obtain ⟨f0, f1, f2⟩ := KOV.out.three
      go_wp2_with fail
      refine HKEEP.out.mono ?_
      rintro e w9 ⟨rfl, t9, k9⟩
      have T9' : Hid (TkB S M w9 T9 C9) := t9
      have K9 : Hid (Kept [M] w w9) := HKV.out.trans k9
      clear t9 k9 f0 f1 f2
      go_wp2
      go_ret
      rw [HH1.out]
      refine ⟨rfl, ?_, K9.out⟩
      have := T9'.out
      rw [HC9.out] at this
      simpa using this

end Go.Proofs.Ytnpaejknoipicag

namespace Go.Proofs.Ytnpaejknoipicag
open Go.RowKit

def StayK (S : List Nat) (w : World) (P : World → Prop) : Prop := ∀ w', Kept S w w' → P w'
theorem StayK.now {S : List Nat} {w : World} {P : World → Prop} (h : StayK S w P) : P w := h w (Kept.refl _ _)
theorem StayK.step {S : List Nat} {w w' : World} {P : World → Prop} (h : StayK S w P) (hk : Kept S w w') : StayK S w' P := fun w'' h2 => h w'' (hk.trans h2)
theorem StayK.go {S : List Nat} {w w' : World} {P : World → Prop} (h : Hid (StayK S w P)) (hk : Below w.heap.size w w') : Hid (StayK S w' P) := StayK.step h ((Kept.refl _ _).below hk)
theorem StayK.goK {S : List Nat} {w w' : World} {P : World → Prop} (h : Hid (StayK S w P)) (hk : Kept S w w') : Hid (StayK S w' P) := StayK.step h hk
theorem StayK.allocE {S : List Nat} {w W : World} {P : World → Prop} {o : Obj} (h : Hid (StayK S w P)) (e : W = w.alloc o) : Hid (StayK S W P) := by subst e; exact StayK.step h ((Kept.refl _ _).alloc _)
theorem StayK.and {S : List Nat} {w : World} {P Q : World → Prop} (h : StayK S w P) (k : StayK S w Q) : StayK S w (fun U => P U ∧ Q U) := fun w' hb => ⟨h w' hb, k w' hb⟩
theorem Stay.toK {w W : World} {P : World → Prop} {o : Obj} (h : Stay w P) (e : W = w.alloc o) : StayK [w.heap.size] W P := by
  subst e
  intro w' hk
  refine h w' (((Below.refl _ w).alloc (Nat.le_refl _) o).trans ?_)
  exact hk.toBelow (by simp) (fun k hk => by simp at hk; omega)
theorem Kept.sameOn {S : List Nat} {X : Nat → Prop} {w w' : World} (h : Kept S w w') (hx : ∀ g, X g → g ∉ S) : SameOn X w w' := ⟨h.size, fun g hg hX => h.block g hg (hx g hX)⟩
theorem Blk.stayK {S : List Nat} {w : World} {b : Nat} {C : Array Value} {t : TypeId} (h : Blk w b C t) (hS : b ∉ S) : StayK S w (fun U => Blk U b C t) := fun _ hk => h.kept hk hS
theorem FrsIn.stayK {S : List Nat} {X : Nat → Prop} {w : World} {v : Value} {l : List Fr} (h : FrsIn X w v l) (hx : ∀ g, X g → g ∉ S) : StayK S w (fun U => FrsIn X U v l) := fun _ hk => h.to (hk.sameOn hx) fun _ _ h => h
theorem StrsIn.stayK {S : List Nat} {X : Nat → Prop} {w : World} {v : Value} {l : List ByteArray} (h : StrsIn X w v l) (hx : ∀ g, X g → g ∉ S) : StayK S w (fun U => StrsIn X U v l) := fun _ hk => h.to (hk.sameOn hx) fun _ _ h => h
theorem GrsIn.stayK {S : List Nat} {X : Nat → Prop} {w : World} {v : Value} {l : List (List Fr)} (h : GrsIn X w v l) (hx : ∀ g, X g → g ∉ S) : StayK S w (fun U => GrsIn X U v l) := fun _ hk => h.to (hk.sameOn hx) fun _ _ h => h
theorem below_stayK {S : List Nat} {B : Nat} {a w : World} (h : Below B a w) (hB : B ≤ w.heap.size) (hS : ∀ k ∈ S, B ≤ k) : StayK S w (fun U => Below B a U) := fun _ hk => h.trans (hk.toBelow hB hS)

/-- three cells are put in three others' place -/
theorem Blk.put3 {w : World} {b : Nat} {x0 x1 x2 : Value} {t : TypeId} (h : Blk w b #[x0, x1, x2] t) (y0 y1 y2 : Value) : Blk (((w.setCell ⟨b, 0, none⟩ y0).setCell ⟨b, 1, none⟩ y1).setCell ⟨b, 2, none⟩ y2) b #[y0, y1, y2] t := ((h.set 0 y0).set 1 y1).set 2 y2
theorem Kept.put3 {S : List Nat} {a w : World} {b : Nat} (h : Kept S a w) (hb : b ∈ S) (y0 y1 y2 : Value) : Kept S a (((w.setCell ⟨b, 0, none⟩ y0).setCell ⟨b, 1, none⟩ y1).setCell ⟨b, 2, none⟩ y2) := ((h.setCell (p := ⟨b, 0, none⟩) hb y0).setCell (p := ⟨b, 1, none⟩) hb y1).setCell (p := ⟨b, 2, none⟩) hb y2

end Go.Proofs.Ytnpaejknoipicag

namespace Go.Proofs.Ytnpaejknoipicag
open Go.RowKit

theorem SlsIn.kept {S : Nat → Prop} {K : List Nat} {w w' : World} {v : Value} {l : List Sk} (h : SlsIn S w v l) (hk : Kept K w w') (hS : ∀ g, S g → g ∉ K) : SlsIn S w' v l := h.to ⟨hk.size, fun g hg hs => hk.block g hg (hS g hs)⟩ (fun _ _ h => h)
theorem SlsIn.at {S : Nat → Prop} {w : World} {ao : Option Addr} {n c k : Nat} {l : List Sk} (h : SlsIn S w (.slice ao n c) l) (hk : k < l.length) : ∃ b off, ao = some ⟨b, off, none⟩ ∧ b < w.heap.size ∧ At7 w b (off + k * 7) (l[k]?.getD Sk.zero) := by
  obtain ⟨ao', c', e, hc⟩ := h.1.parts
  injection e with e1 _ _
  subst e1
  exact hc k hk
theorem tkN_drop {l : List Sk} {k : Nat} (hk : k < l.length) (s : Tr × Nat) : tkN (l.drop k) s = if (tk1 s.1 (l[k]?.getD Sk.zero)).2.2 = 0 then tkN (l.drop (k + 1)) ((tk1 s.1 (l[k]?.getD Sk.zero)).1, s.2 + (tk1 s.1 (l[k]?.getD Sk.zero)).2.1) else (Tr.zero, 0, (tk1 s.1 (l[k]?.getD Sk.zero)).2.2) := by
  rw [List.drop_eq_getElem_cons hk, List.getElem?_eq_getElem hk, Option.getD_some]
  rfl
theorem tk1_le (t : Tr) (x : Sk) : (tk1 t x).2.1 ≤ 1 := by
  unfold tk1
  cases addW t.o x
  · exact Nat.zero_le _
  · simp only [if_true]
    split <;> omega

set_option maxHeartbeats 8000000 in
set_option maxRecDepth 100000 in
theorem tkPass_any (S : Nat → Prop) (M : Nat) (t : Tr) (c : Nat) (next' : Int) (hv' v : Value) (h' l : List Sk) (w : World) (hT : TkB S M w t c) (hok : TkOk t) (hh : SlsIn (fun g => S g ∧ g ≠ M) w hv' h') (hv : SlsIn (fun g => g ≠ M) w v l) (hl : ∀ x ∈ l, x.chk = 0) (hlen : l.length ≤ 100) (hS : ∀ g, w.heap.size ≤ g → S g) (hc : c ≤ 1000) :
    Calls Try.prog 36 #[.pointer (some ⟨M, 0, none⟩), .agg #[.int .i64 next', hv'], v, .int .i64 0] w fun e w' => e = .returned (.int .i64 (tkN l (t.buf t.last next' h', c)).2.2) ∧ ((tkN l (t.buf t.last next' h', c)).2.2 = 0 → TkB S M w' (tkN l (t.buf t.last next' h', c)).1 ((tkN l (t.buf t.last next' h', c)).2.1 : Nat)) ∧ Kept [M] w w' := by
  obtain ⟨hv0, bv, gv, ov, hM, hr⟩ := hT
  obtain ⟨ha, hcc, ba, bc, ga, gc, oa, oc, eh, eb, eg, eo⟩ := hr.slices
  obtain ⟨na, nc, en⟩ := hh.len
  obtain ⟨va, vc, ev⟩ := hv.len
  obtain ⟨n, hn⟩ : ∃ x, x = l.length := ⟨_, rfl⟩
  obtain ⟨nh, hnh⟩ : ∃ x, x = h'.length := ⟨_, rfl⟩
  obtain ⟨last, hlast⟩ : ∃ x, x = t.last := ⟨_, rfl⟩
  obtain ⟨next, hnext⟩ : ∃ x, x = t.next := ⟨_, rfl⟩
  obtain ⟨first, hfirst⟩ : ∃ x, x = t.first := ⟨_, rfl⟩
  obtain ⟨hn0, hhn⟩ : ∃ x, x = t.h.length := ⟨_, rfl⟩
  obtain ⟨bn, hbn⟩ : ∃ x, x = t.o.length := ⟨_, rfl⟩
  obtain ⟨ln, hln⟩ : ∃ x, x = t.L.length := ⟨_, rfl⟩
  obtain ⟨lo, hlo⟩ : ∃ x, x = t.O.length := ⟨_, rfl⟩
  obtain ⟨R, hR⟩ : ∃ x, x = tkN l (t.buf t.last next' h', c) := ⟨_, rfl⟩
  rw [← hn] at ev hlen
  rw [← hnh] at en
  rw [← hlast, ← hnext, ← hfirst] at hM
  rw [← hhn] at eh
  rw [← hbn] at eb
  rw [← hln] at eg
  rw [← hlo] at eo
  have HN : Hid (n = l.length) := hn
  have HSU : Hid (∀ g, w.heap.size ≤ g → S g) := hS
  have HTT : Hid (last = t.last ∧ next = t.next ∧ first = t.first) := ⟨hlast, hnext, hfirst⟩
  have HRR : Hid (R = tkN (l.drop 0) (t.buf t.last next' h', c)) := by rw [List.drop_zero]; exact hR
  have HCH : Hid (∀ x ∈ l, x.chk = 0) := hl
  have HOK : Hid (TkOk t) := hok
  rw [← hR]
  clear hn hnh hlast hnext hfirst hhn hbn hln hlo hR hS hl hok
  subst eh eb eg eo en ev
  have HMw : Hid (Blk w M #[.int .i64 last, .int .i64 next, .slice ha hn0 hcc, .slice ba bn bc, .int .i64 first, .slice ga ln gc, .slice oa lo oc, .int .i64 c] 76) := hM
  have HRw : Hid (TrIn (fun g => S g ∧ g ≠ M) w (.slice ha hn0 hcc) (.slice ba bn bc) (.slice ga ln gc) (.slice oa lo oc) t) := hr
  have HHw : Hid (SlsIn (fun g => S g ∧ g ≠ M) w (.slice na nh nc) h') := hh
  have HVw : Hid (SlsIn (fun g => g ≠ M) w (.slice va n vc) l) := hv
  have hMw := hM.lt
  clear hM hr hh hv
  go_enter Try.func36, Try.ntmps36
  obtain ⟨y0, y1, y2, y3, y4, y5, y6, y7⟩ := HMw.out.eight
  have fM := HMw.out.free
  obtain ⟨V, hV⟩ : ∃ V, V = ((w.setCell ⟨M, 1, none⟩ (.int .i64 next')).setCell ⟨M, 2, none⟩ (.slice na nh nc)).alloc (.cells #[.int .i64 next', .slice na nh nc] 24) := ⟨_, rfl⟩
  have HKV : Hid (Kept [M] w V) := by
    rw [hV]; exact (((Kept.refl [M] w).setCell (p := ⟨M, 1, none⟩) (by simp) _).setCell (p := ⟨M, 2, none⟩) (by simp) _).alloc _
  have HTV : Hid (TkB S M V (t.buf t.last next' h') c) := by
    have hm := ((HMw.out.set 1 (.int .i64 next')).set 2 (.slice na nh nc)).alloc (.cells #[.int .i64 next', .slice na nh nc] 24)
    rw [← hV, HTT.out.1, HTT.out.2.2] at hm
    have so : SameOn (fun g => S g ∧ g ≠ M) w V := ⟨HKV.out.size, fun g hg h => HKV.out.block g hg (by simp; exact h.2)⟩
    exact ⟨_, _, _, _, by simpa [Tr.buf] using hm, HHw.out.to so (fun _ _ h => h), HRw.out.2.1.to so (fun _ _ h => h), HRw.out.2.2.1.to so (fun _ _ h => h), HRw.out.2.2.2.to so (fun _ _ h => h)⟩
  have HVV : Hid (SlsIn (fun g => g ≠ M) V (.slice va n vc) l) := HVw.out.kept HKV.out (fun g h => by simpa using h)
  have hsV : w.heap.size ≤ V.heap.size := HKV.out.size
  clear HMw HRw HHw HVw HTT
  go_wp2_with fail
  rw [← hV]
  clear hV y0 y1 y2 y3 y4 y5 y6 y7 fM hMw
  go_loopw [19] (fun i wr => ∃ (k : Nat) (tk : Tr) (ck : Nat), k ≤ n ∧ i = .int .i64 k ∧ Hid (TkB S M wr tk ck) ∧ Hid (TkOk tk) ∧ Hid (R = tkN (l.drop k) (tk, ck)) ∧ ck ≤ c + k ∧ Hid (Kept [M] V wr))
    (fun i _ => n - (intOf i).toNat)
  case atStart => exact ⟨0, _, c, Nat.zero_le _, rfl, HTV.out, HOK.out, HRR.out, by omega, Kept.refl _ _⟩
  case round =>
    obtain ⟨k, tk, ck, hk, rfl, HT, HO, HR, hck, HK⟩ := hrel
    clear HTV HRR HOK
    by_cases hlt : k < n
    · have hlti : (k : Int) < (n : Int) := by omega
      have hkl : k < l.length := by rw [← HN.out]; exact hlt
      have HVr : Hid (SlsIn (fun g => g ≠ M) wr (.slice va n vc) l) := HVV.out.kept HK.out (fun g h => by simpa using h)
      obtain ⟨b, off, e1, hb, d0, d1, d2, d3, d4, d5, d6⟩ := HVr.out.at hkl
      obtain ⟨x, hx⟩ : ∃ x, x = l[k]?.getD Sk.zero := ⟨_, rfl⟩
      rw [← hx] at d0 d1 d2 d3 d4 d5 d6
      have hxc : x.chk = 0 := by
        rw [hx, List.getElem?_eq_getElem hkl, Option.getD_some]; exact HCH.out _ (List.getElem_mem _)
      have hs9 : w.heap.size ≤ wr.heap.size := Nat.le_trans hsV HK.out.size
      obtain ⟨E, hE⟩ : ∃ e, e = (tk1 tk x).2.2 := ⟨_, rfl⟩
      have HRX : Hid (R = if E = 0 then tkN (l.drop (k + 1)) ((tk1 tk x).1, ck + (tk1 tk x).2.1) else (Tr.zero, 0, E)) := by
        show R = _
        rw [HR.out, tkN_drop hkl, ← hx, ← hE]
      have HADD : Hid (∀ W : World, Below wr.heap.size wr W → Calls Try.prog 58 #[.pointer (some ⟨M, 0, none⟩), .agg #[.int .i64 x.n, .int .i64 x.p.seq, .int .i64 x.p.time, .bool x.p.f, .bool x.p.e, .bool x.p.k, .string x.p.t]] W fun e w' => e = .returned (.int .i64 E) ∧ Hid (TkB S M w' (tk1 tk x).1 (ck + (tk1 tk x).2.1 : Nat)) ∧ Hid (Kept [M] V w')) := fun W hW => by
        have hsz := hW.size
        refine (tkAdd_any S M tk ck x W (HT.out.below hW) HO.out.1 hxc (fun g hg => HSU.out g (by omega)) (by omega) (by omega)).mono ?_
        rintro e w' ⟨rfl, h2, h3⟩
        rw [hE]
        exact ⟨rfl, by simpa [Hid] using h2, (HK.out.below hW).trans h3⟩
      have HO2 : Hid (E = 0 → TkOk (tk1 tk x).1) := fun h => by
        rcases tk1_ok HO.out hxc with ⟨_, h'⟩ | h'
        · exact h'
        · rw [← hE, h] at h'; cases h'
      have hle := tk1_le tk x
      subst e1
      clear hx hE HR HT HO hxc
      go_upto_region 5 with fail
      obtain ⟨W1, hW1⟩ : ∃ X, X = wr.alloc (.cells #[.int .i64 x.n, .int .i64 x.p.seq, .int .i64 x.p.time, .bool x.p.f, .bool x.p.e, .bool x.p.k, .string x.p.t] 71) := ⟨_, rfl⟩
      have HB1 : Hid (Below wr.heap.size wr W1) := by rw [hW1]; exact (Below.refl _ _).alloc (Nat.le_refl _) _
      have KX : Hid (Blk W1 wr.heap.size #[.int .i64 x.n, .int .i64 x.p.seq, .int .i64 x.p.time, .bool x.p.f, .bool x.p.e, .bool x.p.k, .string x.p.t] 71) := Blk.newE hW1
      rw [← hW1]
      clear hW1 d0 d1 d2 d3 d4 d5 d6 hb HVr
      obtain ⟨d0, d1, d2, d3, d4, d5, d6⟩ := KX.out.sevenc
      go_wp2_with fail
      refine (HADD.out W1 HB1.out).mono ?_
      rintro e w2 ⟨rfl, HT2, HK2⟩
      clear d0 d1 d2 d3 d4 d5 d6 KX HB1 HADD
      by_cases hE0 : E = 0
      · have HRX' : Hid (R = tkN (l.drop (k + 1)) ((tk1 tk x).1, ck + (tk1 tk x).2.1)) := by show R = _; rw [HRX.out, if_pos hE0]
        have HO3 : Hid (TkOk (tk1 tk x).1) := HO2.out hE0
        clear HRX HO2
        subst hE0
        go_wp2_with fail
        go_roundw
        case rel => exact ⟨k + 1, _, _, by omega, by go_num, HT2.out, HO3.out, HRX'.out, by omega, HK2.out⟩
        case measure => simp [intOf]; omega
      · have HRX' : Hid (R = (Tr.zero, 0, E)) := by show R = _; rw [HRX.out, if_neg hE0]
        clear HRX HO2
        go_wp2
        go_ret
        rw [HRX'.out]
        exact ⟨rfl, fun h => absurd h hE0, HKV.out.trans HK2.out⟩
    · have hkn : k = n := by omega
      subst hkn
      have HRX' : Hid (R = (tk, ck, 0)) := by
        show R = _
        rw [HR.out, HN.out, List.drop_length]; rfl
      clear HR
      go_wp2
      go_ret
      rw [HRX'.out]
      exact ⟨rfl, fun _ => HT.out, HKV.out.trans HK.out⟩

end Go.Proofs.Ytnpaejknoipicag

namespace Go.Proofs.Ytnpaejknoipicag
open Go.RowKit

/-- the law's own slot -/
def lsk (n time : Int) (f e k : Bool) : Sk := ⟨n, ⟨n % 65536, time, f, e, k, ⟨#[116]⟩⟩⟩

end Go.Proofs.Ytnpaejknoipicag

namespace Go.Proofs.Ytnpaejknoipicag
open Go.RowKit

/-- Put, whatever it is handed -/
theorem bufPut_any (next : Int) (v : Value) (l : List Sk) (x : Sk) (w : World) (hv : Sls w v l) (hlen : l.length ≤ 9223372036854775807) :
    Calls Try.prog 37 #[.agg #[.int .i64 next, v], x.val] w fun e w' => ∃ hv' ov', e = .returned (.tuple #[.agg #[.int .i64 (putR next l x).1, hv'], ov', .int .i64 (putE next l x)]) ∧
      Fresh w.heap.size w' hv' (putR next l x).2.1 ∧ Fresh w.heap.size w' ov' (putR next l x).2.2 ∧ Below w.heap.size w w' := by
  by_cases hE : putE next l x = 0
  · have hp : pchk next l = 0 := by
      unfold putE at hE
      by_cases h : pchk next l = 0
      · exact h
      · rw [if_neg h] at hE; exact absurd hE h
    have hx : x.chk = 0 := by unfold putE at hE; rw [if_pos hp] at hE; exact hE
    have hr : putR next l x = putF next l x := by unfold putR; rw [if_pos hE]
    rw [hE, hr]
    exact bufPut_ok next v l x w hv ((pchk_right next l).1 hp) hx
  · have hr : putR next l x = (0, [], []) := by unfold putR; rw [if_neg hE]
    rw [hr]
    refine (bufPut_no next v l x w hv hlen hE).mono ?_
    rintro e w' ⟨rfl, hb⟩
    exact ⟨_, _, rfl, Fresh.nil _ _, Fresh.nil _ _, hb⟩
theorem bufFlush_any (next : Int) (v : Value) (l : List Sk) (w : World) (hv : Sls w v l) (hlen : l.length ≤ 9223372036854775807) :
    Calls Try.prog 41 #[.agg #[.int .i64 next, v]] w fun e w' => ∃ hv' ov', e = .returned (.tuple #[.agg #[.int .i64 (flushR next l).1, hv'], ov', .int .i64 (pchk next l)]) ∧
      Fresh w.heap.size w' hv' (flushR next l).2.1 ∧ Fresh w.heap.size w' ov' (flushR next l).2.2 ∧ Below w.heap.size w w' := by
  by_cases hE : pchk next l = 0
  · have hr : flushR next l = relF 0 next l [] := by unfold flushR; rw [if_pos hE]
    rw [hE, hr]
    exact bufFlush_ok next v l w hv ((pchk_right next l).1 hE)
  · have hr : flushR next l = (0, [], []) := by unfold flushR; rw [if_neg hE]
    rw [hr]
    refine (bufFlush_no next v l w hv hlen hE).mono ?_
    rintro e w' ⟨rfl, hb⟩
    exact ⟨_, _, rfl, Fresh.nil _ _, Fresh.nil _ _, hb⟩

abbrev bx (n : Int) : Sk := lsk n 1 true true true
theorem bx0 : (bx 70000).chk = 0 := by decide
theorem bx1 : (bx 70001).chk = 0 := by decide
theorem bx2 : (bx 70002).chk = 0 := by decide
theorem right0 : Right 0 [] := ⟨.inl ⟨rfl, rfl⟩, by decide, by simp, rfl⟩
theorem right1 : Right 70001 [] := ⟨.inr (by decide), by decide, by simp, rfl⟩
theorem right2 : Right 70001 [bx 70002] := ⟨.inr (by decide), by decide, by simp [bx2], rfl⟩
theorem put0 : putF 0 [] (bx 70000) = (70001, [], [bx 70000]) := by rfl
theorem put1 : putF 70001 [] (bx 70002) = (70001, [bx 70002], []) := by rfl
theorem put2 : putF 70001 [bx 70002] (bx 70001) = (70003, [], [bx 70001, bx 70002]) := by rfl
theorem flush2 : relF 0 70001 [bx 70002] [] = (70003, [], [bx 70002]) := by rfl

end Go.Proofs.Ytnpaejknoipicag

namespace Go.Proofs.Ytnpaejknoipicag
open Go.RowKit

/-- an operation of such a region -/
inductive Cm where
  | quiet (v : Value) (lim : Nat)
  | step (s : Nat)
  | fin (t : Nat) (f : Value → Value)
  | box
def cmAt (ks : List Cm) (i : Nat) : Cm := (ks[i]?).getD (.quiet undef 0)
def Cm.out (r : Nat → Value) (b : Nat → Option Nat) (i : Nat) : Cm → Value
  | .quiet v _ => v
  | .step s => r s
  | .fin t f => f (r t)
  | .box => match b i with
    | some g => .pointer (some ⟨g, 0, none⟩)
    | none => undef
def Cm.isBox : Cm → Bool
  | .box => true
  | _ => false
def putM (r : Nat → Value) (b : Nat → Option Nat) : Nat → List Cm → List Oper → Act → Act
  | k, d :: ks, o :: l, a => putM r b (k + 1) ks l (a.put o.dst (d.out r b k))
  | _, _, _, a => a
def updO (b : Nat → Option Nat) (i : Nat) (g : Nat) : Nat → Option Nat := fun j => if j = i then some g else b j
/-- the steps' places; what waits for what -/
def boxesOk (ks : List Cm) (l : List Oper) (st : List Nat) (n : Nat) : Bool :=
  decide (ks.length = l.length) && (l.all fun o => match o.dst with | some k => decide (k < n) | none => true) &&
  ((List.range st.length).all fun s => match st[s]? with
    | some i => decide (i < l.length) && (match cmAt ks i with | .step t => t == s | _ => false) && (s == 0 || (match st[s - 1]? with | some j => waits l i j | none => false))
    | none => false) &&
  ((List.range l.length).all fun i => match cmAt ks i with
    | .quiet _ lim => decide (st.length ≤ lim) || (match st[lim]? with | some j => waits l j i | none => false)
    | .step t => st[t]? == some i
    | .fin t _ => (List.range l.length).any fun j => waits l i j && (match cmAt ks j with | .step t' => t' == t | .fin t' _ => t' == t | _ => false)
    | .box => true)

section
variable {P : Program} {Q : Exit → Act → World → Prop}

structure RBx (ks : List Cm) (l : List Oper) (n m : Nat) (I : Nat → (Nat → Value) → (Nat → Option Nat) → World → Prop) (ls : Nat → Bool) (vs : Nat → Value) (s : Nat) (r : Nat → Value) (b : Nat → Option Nat) (w' : World) : Prop where
  lt : ∀ i, ls i = true → i < n
  steps : ∀ i t, i < n → cmAt ks i = .step t → (ls i = true ↔ t < s)
  fins : ∀ i t f, ls i = true → cmAt ks i = .fin t f → t < s
  box : ∀ i, i < n → cmAt ks i = .box → (ls i = true ↔ (b i).isSome = true)
  vals : ∀ i, ls i = true → vs i = (cmAt ks i).out r b i
  inv : I s r b w'
  le : s ≤ m
  closed : ∀ i j, ls j = true → waits l j i = true → ls i = true

theorem putM_all (L : Array Bool) (vs : Nat → Value) (r : Nat → Value) (b : Nat → Option Nat) : ∀ (l : List Oper) (k : Nat) (ks : List Cm) (a : Act), ks.length = l.length → (∀ i, i < l.length → L.getD (k + i) false = true) → (∀ i, i < l.length → vs (k + i) = (cmAt ks i).out r b (k + i)) → putL L vs k l a = putM r b k ks l a
  | [], _, [], _, _, _, _ => rfl
  | o :: l, k, d :: ks, a, hl, hL, hv => by
    simp only [putL, putM]
    rw [if_pos (by simpa using hL 0 (by simp)), show vs k = d.out r b k by simpa [cmAt] using hv 0 (by simp)]
    refine putM_all L vs r b l (k + 1) ks _ (by simpa using hl) (fun i hi => ?_) (fun i hi => ?_)
    · have := hL (i + 1) (by simpa using hi)
      rw [show k + (i + 1) = k + 1 + i by omega] at this; exact this
    · have := hv (i + 1) (by simpa using hi)
      rw [show k + (i + 1) = k + 1 + i by omega] at this
      simpa [cmAt] using this

theorem region_boxes {id : Nat} {a : Act} {w : World} {l : List Oper} (hm : P.follows .mixedOrders = true) (hB : regOk l = true) (ks : List Cm) (st : List Nat) (hK : boxesOk ks l st a.tmps.size = true)
    (I : Nat → (Nat → Value) → (Nat → Option Nat) → World → Prop) (h0 : I 0 (fun _ => undef) (fun _ => none) { w with drawn := w.drawn + 1 })
    (hstep : ∀ i o, l[i]? = some o → ∀ (a' : Act) (w' : World) (s : Nat) (r : Nat → Value) (b : Nat → Option Nat), I s r b w' → (∀ s, (l.all fun o => o.dst != some s) = true → a'.eval (.tmp s) = a.eval (.tmp s)) → (∀ j oj k, waits l i j = true → l[j]? = some oj → oj.dst = some k → a'.eval (.tmp k) = (cmAt ks j).out r b j) → (∀ j, waits l i j = true → cmAt ks j = .box → (b j).isSome = true) →
      match cmAt ks i with
      | .quiet v lim => s ≤ lim → (execOp a'.eval o).run P w' = .ok (.value v) w'
      | .step t => s = t → o.wp P a' w' (fun a'' w'' => ∃ v, a'' = a'.put o.dst v ∧ I (t + 1) (updR r t v) b w'') Q
      | .fin t f => t < s → (execOp a'.eval o).run P w' = .ok (.value (f (r t))) w'
      | .box => b i = none → ∃ ob, (execOp a'.eval o).run P w' = .ok (.value (.pointer (some ⟨w'.heap.size, 0, none⟩))) (w'.alloc ob) ∧ I s r (updO b i w'.heap.size) (w'.alloc ob))
    (hend : ∀ (r : Nat → Value) (b : Nat → Option Nat) (w' : World), I st.length r b w' → (∀ i, i < l.length → cmAt ks i = .box → ∃ g, b i = some g) → Q .normal (putM r b 0 ks l a) w') :
    (Code.region id l.toArray true).wp P Q a w := by
  simp only [boxesOk, Bool.and_eq_true, decide_eq_true_eq] at hK
  obtain ⟨⟨⟨hlen, hdst⟩, hst⟩, hall⟩ := hK
  have hap : dstsApart l = true := by simp only [regOk, Bool.and_eq_true] at hB; exact hB.1.1
  have hal : ∀ i, i < l.length → _ := fun i hi => List.all_eq_true.1 hall i (List.mem_range.2 hi)
  have hsl : ∀ s, s < st.length → _ := fun s hs => List.all_eq_true.1 hst s (List.mem_range.2 hs)
  have hstp : ∀ s, s < st.length → ∃ i, st[s]? = some i ∧ i < l.length ∧ cmAt ks i = .step s ∧ (0 < s → ∃ j, st[s - 1]? = some j ∧ waits l i j = true) := fun s hs => by
    have h := hsl s hs
    have e : st[s]? = some st[s] := List.getElem?_eq_getElem hs
    rw [e] at h
    simp only [Bool.and_eq_true, decide_eq_true_eq, Bool.or_eq_true, beq_iff_eq] at h
    refine ⟨st[s], e, h.1.1, ?_, fun h0 => ?_⟩
    · have h2 := h.1.2
      cases hk : cmAt ks st[s] with
      | quiet v lim => rw [hk] at h2; cases h2
      | fin t f => rw [hk] at h2; cases h2
      | box => rw [hk] at h2; cases h2
      | step t => rw [hk] at h2; simp at h2; rw [h2]
    · have h3 := h.2
      rcases h3 with h3 | h3
      · omega
      · have e2 : st[s - 1]? = some st[s - 1] := List.getElem?_eq_getElem (by omega)
        rw [e2] at h3
        exact ⟨_, e2, h3⟩
  have hst2 : ∀ i t, i < l.length → cmAt ks i = .step t → st[t]? = some i := fun i t hi hk => by
    have h := hal i hi
    rw [hk] at h
    simpa using h
  refine wp_region_inv hm hB (fun L vs w' => ∃ s r b, RBx ks l l.length st.length I (fun j => L.getD j false) vs s r b w') ?_ ?_ ?_
  · have hno : ∀ j, ¬ (Array.replicate l.length false).getD j false = true := fun j => by
      simp [Array.getD_eq_getD_getElem?, Array.getElem?_replicate]; split <;> simp
    exact ⟨0, fun _ => undef, fun _ => none, fun i h => absurd h (hno i), fun i t _ _ => ⟨fun h => absurd h (hno i), fun h => absurd h (Nat.not_lt_zero _)⟩, fun i _ _ h => absurd h (hno i), fun i _ _ => ⟨fun h => absurd h (hno i), fun h => by cases h⟩, fun i h => absurd h (hno i), h0, Nat.zero_le _, fun _ j h => absurd h (hno j)⟩
  · rintro L vs w' ⟨s, r, b, F⟩ i o ho hL hr
    have hi : i < l.length := (List.getElem?_eq_some_iff.1 ho).1
    have ni : L.getD i false = false := by simpa using listed_no hL
    have hset := setfun hL
    have hwt : ∀ j, waits l i j = true → L.getD j false = true := fun j hw => waits_spec hw ho hr
    have hfree : ∀ s, (l.all fun o => o.dst != some s) = true → (putL L vs 0 l a).eval (.tmp s) = a.eval (.tmp s) := fun s hs => putL_other l 0 a (fun p hp t ht e => by
      injection e with e
      subst e
      have := List.all_eq_true.1 hs p hp
      rw [ht] at this
      simp at this)
    have hvals : ∀ j oj k, waits l i j = true → l[j]? = some oj → oj.dst = some k → (putL L vs 0 l a).eval (.tmp k) = (cmAt ks j).out r b j := fun j oj k hw hoj hk => by
      have h1 := hwt j hw
      have hk2 := List.all_eq_true.1 hdst oj (List.mem_of_getElem? hoj)
      rw [hk] at hk2
      rw [putL_at h1 l 0 a oj hap (Nat.zero_le _) (by simpa using hoj) hk (by simpa using hk2)]
      exact F.vals j h1
    have hs := hstep i o ho (putL L vs 0 l a) w' s r b F.inv hfree hvals (fun j hw hj => (F.box j (F.lt j (hwt j hw)) hj).1 (hwt j hw))
    rw [hset]
    obtain ⟨ls, hls⟩ : ∃ ls : Nat → Bool, ls = fun j => L.getD j false := ⟨_, rfl⟩
    have hlsj : ∀ j, L.getD j false = ls j := fun j => by rw [hls]
    simp only [hlsj] at F ni hwt ⊢
    have hlt' : ∀ j, (decide (j = i) || ls j) = true → j < l.length := fun j hj => by
      simp only [Bool.or_eq_true, decide_eq_true_eq] at hj
      rcases hj with rfl | hj
      · exact hi
      · exact F.lt j hj
    have hcl : ∀ p j, (decide (j = i) || ls j) = true → waits l j p = true → (decide (p = i) || ls p) = true := fun p j hj hw => by
      simp only [Bool.or_eq_true, decide_eq_true_eq] at hj ⊢
      rcases hj with rfl | hj
      · exact .inr (hwt p hw)
      · exact .inr (F.closed p j hj hw)
    have hbxs : ∀ k, cmAt ks i = k → k.isBox = false → ∀ j, j < l.length → cmAt ks j = .box → ((decide (j = i) || ls j) = true ↔ (b j).isSome = true) := fun k h1 h2 j hj hjk => by
      have e : j ≠ i := fun e => by subst e; rw [h1] at hjk; subst hjk; cases h2
      simpa [e] using F.box j hj hjk
    have plain : ∀ (k : Cm) (v : Value), cmAt ks i = k → k.isBox = false → (∀ t, k ≠ .step t) → (∀ t f, k = .fin t f → t < s) → k.out r b i = v → ∃ s r b, RBx ks l l.length st.length I (fun j => decide (j = i) || ls j) (upd vs i v) s r b w' := fun k v hk h1 h2 h3 h4 => by
      refine ⟨s, r, b, hlt', ?_, ?_, hbxs k hk h1, ?_, F.inv, F.le, hcl⟩
      · intro j t hj hjk
        have e : j ≠ i := fun e => by subst e; rw [hk] at hjk; exact h2 t hjk
        simpa [e] using F.steps j t hj hjk
      · intro j t f hj hjk
        by_cases e : j = i
        · subst e; rw [hk] at hjk; exact h3 t f hjk
        · exact F.fins j t f (by simpa [e] using hj) hjk
      · intro j hj
        by_cases e : j = i
        · subst e; rw [upd_at, hk, h4]
        · rw [upd_ne e]; exact F.vals j (by simpa [e] using hj)
    cases hk : cmAt ks i with
    | fin t f =>
      rw [hk] at hs
      have hts : t < s := by
        have h := hal i hi
        rw [hk] at h
        obtain ⟨j, hjm, hj⟩ := List.any_eq_true.1 h
        simp only [Bool.and_eq_true] at hj
        have hjl := hwt j hj.1
        have h2 := hj.2
        cases hkj : cmAt ks j with
        | quiet v lim => rw [hkj] at h2; cases h2
        | box => rw [hkj] at h2; cases h2
        | step t' => rw [hkj] at h2; simp at h2; subst h2; exact (F.steps j t' (F.lt j hjl) hkj).1 hjl
        | fin t' f' => rw [hkj] at h2; simp at h2; subst h2; exact F.fins j t' f' hjl hkj
      exact oper_wp_ok (hs hts) ⟨_, rfl, plain (.fin t f) _ hk rfl (fun _ e => by cases e) (fun t' f' e => by injection e with e1; omega) rfl⟩
    | box =>
      rw [hk] at hs
      have hb0 : b i = none := by
        cases hbi : b i with
        | none => rfl
        | some g => have := (F.box i hi hk).2 (by rw [hbi]; rfl); rw [this] at ni; cases ni
      obtain ⟨ob, h1, h2⟩ := hs hb0
      refine oper_wp_ok h1 ⟨_, rfl, s, r, updO b i w'.heap.size, hlt', ?_, ?_, ?_, ?_, h2, F.le, hcl⟩
      · intro j t hj hjk
        have e : j ≠ i := fun e => by subst e; rw [hk] at hjk; cases hjk
        simpa [e] using F.steps j t hj hjk
      · intro j t f hj hjk
        have e : j ≠ i := fun e => by subst e; rw [hk] at hjk; cases hjk
        exact F.fins j t f (by simpa [e] using hj) hjk
      · intro j hj hjk
        by_cases e : j = i
        · subst e; simp [updO]
        · simpa [e, updO] using F.box j hj hjk
      · intro j hj
        by_cases e : j = i
        · subst e; rw [upd_at, hk]; simp [Cm.out, updO]
        · have hlj : ls j = true := by simpa [e] using hj
          rw [upd_ne e, F.vals j hlj]
          cases hkj : cmAt ks j with
          | quiet v' lim' => rfl
          | step t' => rfl
          | fin t' f' => rfl
          | box => simp [Cm.out, updO, e]
    | quiet v lim =>
      rw [hk] at hs
      have hle : s ≤ lim := by
        have h := hal i hi
        rw [hk] at h
        simp only [Bool.or_eq_true, decide_eq_true_eq] at h
        rcases h with h | h
        · exact Nat.le_trans F.le h
        · by_cases hlt : s ≤ lim
          · exact hlt
          · exfalso
            have hll : lim < st.length := by have := F.le; omega
            obtain ⟨j, e1, e2, e3, _⟩ := hstp lim hll
            rw [e1] at h
            have hlj := (F.steps j lim e2 e3).2 (by omega)
            rw [F.closed i j hlj h] at ni
            cases ni
      exact oper_wp_ok (hs hle) ⟨v, rfl, plain (.quiet v lim) v hk rfl (fun _ e => by cases e) (fun _ _ e => by cases e) rfl⟩
    | step t =>
      rw [hk] at hs
      have hti := hst2 i t hi hk
      have htl : t < st.length := (List.getElem?_eq_some_iff.1 hti).1
      have hst' : s = t := by
        have h1 : ¬ t < s := fun h => by rw [(F.steps i t hi hk).2 h] at ni; cases ni
        by_cases h0 : t = 0
        · omega
        · obtain ⟨i', e1, e2, e3, e4⟩ := hstp t htl
          rw [hti] at e1
          injection e1 with e1
          subst e1
          obtain ⟨j, q1, q2⟩ := e4 (by omega)
          obtain ⟨j', r1, r2, r3, _⟩ := hstp (t - 1) (by omega)
          rw [q1] at r1
          injection r1 with r1
          subst r1
          have := (F.steps j (t - 1) r2 r3).1 (hwt j q2)
          omega
      subst hst'
      refine Oper.wp_mono ?_ (hs rfl)
      rintro a'' w'' ⟨v, h1, h2⟩
      refine ⟨v, h1, s + 1, updR r s v, b, hlt', ?_, ?_, hbxs _ hk rfl, ?_, h2, htl, hcl⟩
      · intro j t' hj hjk
        by_cases e : j = i
        · subst e
          rw [hk] at hjk
          injection hjk with hjk
          subst hjk
          simp
        · have h3 := F.steps j t' hj hjk
          have hne : t' ≠ s := fun e' => by
            subst e'
            have := hst2 j t' hj hjk
            rw [hti] at this
            injection this with this
            exact e this.symm
          simp only [e, decide_false, Bool.false_or]
          rw [h3]; omega
      · intro j t' f hj hjk
        have e : j ≠ i := fun e => by subst e; rw [hk] at hjk; cases hjk
        have := F.fins j t' f (by simpa [e] using hj) hjk
        omega
      · intro j hj
        by_cases e : j = i
        · subst e; rw [upd_at, hk]; exact (updR_at r s v).symm
        · have hlj : ls j = true := by simpa [e] using hj
          rw [upd_ne e, F.vals j hlj]
          cases hkj : cmAt ks j with
          | quiet v' lim' => rfl
          | box => rfl
          | fin t' f' =>
            have := F.fins j t' f' hlj hkj
            exact congrArg f' (updR_ne (by omega)).symm
          | step t' =>
            have := (F.steps j t' (F.lt j hlj) hkj).1 hlj
            exact (updR_ne (by omega)).symm
  · rintro L vs w' ⟨s, r, b, F⟩ hlst
    have hs : s = st.length := by
      by_cases h : s < st.length
      · obtain ⟨i, e1, e2, e3, _⟩ := hstp s h
        have := (F.steps i s e2 e3).1 (hlst i e2)
        omega
      · have := F.le; omega
    subst hs
    rw [putM_all L vs r b l 0 ks a hlen (fun i hi => by rw [Nat.zero_add]; exact hlst i hi) (fun i hi => by rw [Nat.zero_add]; exact F.vals i (hlst i hi))]
    exact hend r b w' F.inv (fun i hi hk => Option.isSome_iff_exists.1 ((F.box i hi hk).1 (hlst i hi)))
end
end Go.Proofs.Ytnpaejknoipicag
