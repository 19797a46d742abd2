/-
  Contract: out.Send.
-/
import Derived.Test.YtnpaejknoipicagGreatMgDeskSees8
import Derived.Lib.QuietBelow
import Derived.Test.YtnpaejknoipicagGreatMgDeskSees5
import Derived.Test.YtnpaejknoipicagGreatMgDeskSees1
import Derived.Test.YtnpaejknoipicagGreatMgDeskSees3
import Derived.Test.YtnpaejknoipicagGreatMgDeskSees7
import Derived.Test.YtnpaejknoipicagGreatMgDeskSees4
import Derived.Deep.DeepCutAuto

namespace Go.Proofs.YtnpaejknoipicagGreat
open Go.RowKit Go.Sort

def roomE (l t s ft : Int) (pn : Nat) : Int := if ft + s < t then 4 else if 1000000 < ft + s then 2 else if 1000000000 < l + pn then 2 else 0

set_option maxHeartbeats 4000000 in
set_option maxRecDepth 100000 in
theorem checkRoom_any (M : Nat) (l t s ft : Int) (fk : Bool) (pa : Option Addr) (pn pc : Nat) (w : World) (hM : Blk w M #[.int .i64 l, .int .i64 t, .int .i64 s] 150) (hf0 : 0 ≤ ft) (hf1 : ft ≤ 1000000) (hs0 : -3000000 ≤ s) (hs1 : s ≤ 3000000) (hl0 : 0 ≤ l) (hl1 : l ≤ 1000000000) (hpn : pn ≤ 4) :
    Calls Tryz.prog 97 #[.pointer (some ⟨M, 0, none⟩), .agg #[.int .i64 ft, .bool fk, .slice pa pn pc]] w fun e w' => e = .returned (.int .i64 (roomE l t s ft pn)) ∧ Below w.heap.size w w' := by
  obtain ⟨W1, hW1⟩ : ∃ W1, W1 = w.alloc (.cells #[.int .i64 ft, .bool fk, .slice pa pn pc] 98) := ⟨_, rfl⟩
  obtain ⟨FB, hFB⟩ : ∃ n, n = w.heap.size := ⟨_, rfl⟩
  have HS1 : Hid (Stay W1 (fun U => (Blk U M #[.int .i64 l, .int .i64 t, .int .i64 s] 150 ∧ Blk U FB #[.int .i64 ft, .bool fk, .slice pa pn pc] 98) ∧ Below w.heap.size w U)) := by
    have hb : Below w.heap.size w W1 := by rw [hW1]; exact (Below.refl _ _).alloc (Nat.le_refl _) _
    exact ((hM.below hb hM.lt).stay.and (by rw [hFB]; exact (Blk.newE hW1).stay)).and (below_stay hb hb.size)
  obtain ⟨tm, htm⟩ : ∃ tm, tm = ft + s := ⟨_, rfl⟩
  have HT : Hid (∀ U : World, Blk U M #[.int .i64 l, .int .i64 t, .int .i64 s] 150 → Calls Tryz.prog 127 #[.pointer (some ⟨M, 0, none⟩), .agg #[.int .i64 ft, .bool fk, .slice pa pn pc]] U fun e w' => e = .returned (.int .i64 tm) ∧ Below U.heap.size U w') := fun U h => by
    rw [htm]; exact timeOf_any M l t s ft fk pa pn pc U h hf0 hf1 hs0 hs1
  obtain ⟨E, hE⟩ : ∃ E, E = roomE l t s ft pn := ⟨_, rfl⟩
  have HE : Hid (E = if tm < t then 4 else if 1000000 < tm then 2 else if 1000000000 < l + pn then 2 else 0) := by show _ = _; rw [hE, htm]; rfl
  rw [← hE]
  clear hM hE htm
  go_enter Tryz.func97, Tryz.ntmps97
  have mk : ∀ X : World, Below W1.heap.size W1 X → ∀ d os, Calls Tryz.prog 127 #[.pointer (some ⟨M, 0, none⟩), .agg #[.int .i64 ft, .bool fk, .slice pa pn pc]] (grow (redrawn X d) os) fun e w'' => e = .returned (.int .i64 tm) ∧ ∃ p : Regrown, w'' = grow (redrawn X p.d) p.os := fun X hX d os =>
    Calls.regrown_of (HT.out _ ((HS1.out X hX).1.1.below (below_regrown X d os) (HS1.out X hX).1.1.lt))
  have MK : Hid (∀ X : World, Below W1.heap.size W1 X → ∀ d os, Calls Tryz.prog 127 #[.pointer (some ⟨M, 0, none⟩), .agg #[.int .i64 ft, .bool fk, .slice pa pn pc]] (grow (redrawn X d) os) fun e w'' => e = .returned (.int .i64 tm) ∧ ∃ p : Regrown, w'' = grow (redrawn X p.d) p.os) := mk
  clear mk HT
  have cF := MK.out W1 (Below.refl _ _)
  obtain ⟨m0, m1, m2⟩ := HS1.out.now.1.1.three
  obtain ⟨f0, f1, f2⟩ := HS1.out.now.1.2.three
  have a0 := cell_regrown m0
  have a1 := cell_regrown m1
  have b0 := cell_regrown f0
  have b1 := cell_regrown f1
  have b2 := cell_regrown f2
  clear m0 m1 m2 f0 f1 f2
  go_wp2_with fail
  rw [← hW1, ← hFB]
  clear hW1 hFB
  refine wp_region_quiet_below (by kernel_rfl) (by kernel_rfl) ?_
  repeat (quiet_step (exact cF _ _))
  refine wpQuiet_nil ?_
  intro _ hw'
  obtain ⟨⟨dq, osq⟩, hw''⟩ := hw'
  subst hw''
  have bR := below_regrown W1 dq osq
  obtain ⟨V, hV⟩ : ∃ V, V = grow (redrawn W1 dq) osq := ⟨_, rfl⟩
  rw [← hV] at bR
  rw [← hV]
  have HB : Hid (Below W1.heap.size W1 V) := bR
  clear hV bR cF a0 a1 b0 b1 b2
  by_cases h1 : tm < t
  · have e : E = 4 := by rw [HE.out, if_pos h1]
    subst e
    go_wp2_with fail
    go_ret
    exact ⟨rfl, (HS1.out V HB.out).2⟩
  have cG := MK.out V HB.out
  obtain ⟨m0, m1, m2⟩ := (HS1.out V HB.out).1.1.three
  obtain ⟨f0, f1, f2⟩ := (HS1.out V HB.out).1.2.three
  have a0 := cell_regrown m0
  have a1 := cell_regrown m1
  have a2 := cell_regrown m2
  have b0 := cell_regrown f0
  have b1 := cell_regrown f1
  have b2 := cell_regrown f2
  clear m0 m1 m2 f0 f1 f2 MK
  by_cases h2 : 1000000 < tm
  · have e : E = 2 := by rw [HE.out, if_neg h1, if_pos h2]
    subst e
    go_wp2_with fail
    refine wp_region_quiet_below (by kernel_rfl) (by kernel_rfl) ?_
    iterate 4 (quiet_step (exact cG _ _))
    refine wpQuiet_step (fun K hK => ?_)
    go_simp
    generalize hA : Act.mk _ _ = A
    refine hK A ?_
    clear hK K
    refine wpQuiet_jump 10 (by rw [← hA]; kernel_rfl) (fun B hB => ?_)
    rw [← hA] at hB
    simp only [List.take, List.drop] at hB ⊢
    simp [putU, go_sem] at hB
    subst hB
    clear hA
    iterate 1 (quiet_step (exact cG _ _))
    refine wpQuiet_nil ?_
    intro _ hw'
    obtain ⟨⟨dq, osq⟩, hw''⟩ := hw'
    subst hw''
    have bR := below_regrown V dq osq
    obtain ⟨Y, hY⟩ : ∃ Y, Y = grow (redrawn V dq) osq := ⟨_, rfl⟩
    rw [← hY] at bR
    rw [← hY]
    have HBY : Hid (Below W1.heap.size W1 Y) := HB.out.trans (bR.mono HB.out.size)
    clear hY bR cG a0 a1 a2 b0 b1 b2
    go_wp2_with fail
    go_ret
    exact ⟨rfl, (HS1.out Y HBY.out).2⟩
  · have hwr : IntKind.i64.wrap (l + (pn : Int)) = l + (pn : Int) := by rw [IntKind.wrap_i64]; omega
    have h3i : 1000000000 < l + (pn : Int) ∨ ¬ 1000000000 < l + (pn : Int) := by omega
    rcases h3i with h3 | h3
    · have e : E = 2 := by rw [HE.out, if_neg h1, if_neg h2, if_pos h3]
      have d2 : decide (1000000 < tm) = false := decide_eq_false h2
      have d3 : decide (1000000000 < l + (pn : Int)) = true := decide_eq_true h3
      subst e
      go_wp2_with fail
      refine wp_region_quiet_below (by kernel_rfl) (by kernel_rfl) ?_
      repeat (quiet_step (exact cG _ _))
      refine wpQuiet_nil ?_
      intro _ hw'
      obtain ⟨⟨dq, osq⟩, hw''⟩ := hw'
      subst hw''
      have bR := below_regrown V dq osq
      obtain ⟨Y, hY⟩ : ∃ Y, Y = grow (redrawn V dq) osq := ⟨_, rfl⟩
      rw [← hY] at bR
      rw [← hY]
      have HBY : Hid (Below W1.heap.size W1 Y) := HB.out.trans (bR.mono HB.out.size)
      clear hY bR cG a0 a1 a2 b0 b1 b2
      go_wp2_with fail
      go_ret
      exact ⟨rfl, (HS1.out Y HBY.out).2⟩
    · have e : E = 0 := by rw [HE.out, if_neg h1, if_neg h2, if_neg h3]
      have d2 : decide (1000000 < tm) = false := decide_eq_false h2
      have d3 : decide (1000000000 < l + (pn : Int)) = false := decide_eq_false h3
      subst e
      go_wp2_with fail
      refine wp_region_quiet_below (by kernel_rfl) (by kernel_rfl) ?_
      repeat (quiet_step (exact cG _ _))
      refine wpQuiet_nil ?_
      intro _ hw'
      obtain ⟨⟨dq, osq⟩, hw''⟩ := hw'
      subst hw''
      have bR := below_regrown V dq osq
      obtain ⟨Y, hY⟩ : ∃ Y, Y = grow (redrawn V dq) osq := ⟨_, rfl⟩
      rw [← hY] at bR
      rw [← hY]
      have HBY : Hid (Below W1.heap.size W1 Y) := HB.out.trans (bR.mono HB.out.size)
      clear hY bR cG a0 a1 a2 b0 b1 b2
      go_wp2_with fail
      go_ret
      exact ⟨rfl, (HS1.out Y HBY.out).2⟩

end Go.Proofs.YtnpaejknoipicagGreat

namespace Go.Proofs.YtnpaejknoipicagGreat
open Go.RowKit

def pkCells (l : List Pk) : List Value := l.flatMap fun p => p.cells.toList
theorem pkCells_append (l m : List Pk) : pkCells (l ++ m) = pkCells l ++ pkCells m := by simp [pkCells]
theorem pkCells_one (p : Pk) : pkCells [p] = p.cells.toList := by simp [pkCells]
theorem pkCells_len (l : List Pk) : (pkCells l).length = l.length * 6 := by
  induction l with
  | nil => rfl
  | cons p r ih => rw [show p :: r = [p] ++ r from rfl, pkCells_append, pkCells_one, List.length_append, ih]; simp [Pk.cells]; omega
/-- what a row of packets shows -/
def Pks (w : World) (v : Value) (l : List Pk) : Prop := Sl w v l.length 6 (pkCells l)
theorem Pks.below {w w' : World} {v : Value} {l : List Pk} (h : Pks w v l) (hb : Below w.heap.size w w') : Pks w' v l := Sl.below h hb
theorem Tryz.infoPkt : (Tryz.prog.info? 63).map (fun i => (i.zero, i.size, i.bytes)) = some (some Pk.zero.val, 6, 40) := by kernel_rfl
theorem Pk.one2 (p : Pk) : ∀ u ∈ p.cells.toList, u.oneCell' = true := fun u hu => by
  simp [Pk.cells] at hu
  rcases hu with rfl | rfl | rfl | rfl | rfl | rfl <;> rfl
/-- one more packet behind a row of the call's own -/
theorem pk_snoc {base : Nat} {w : World} {v : Value} {n : Nat} {l : List Pk} (p : Pk) (h : w.ownsRow base 63 6 v n (pkCells l)) (hl : n ≤ 999) (hb : base ≤ w.heap.size) :
    ∃ v' w', (Builtin.append_ #[42, 42] 42 #[v, .slice (some ⟨w.heap.size, 0, none⟩) 1 1]).run Tryz.prog (w.alloc (.cells p.cells 63)) = .ok v' w' ∧ w'.ownsRow base 63 6 v' (n + 1) (pkCells (l ++ [p])) ∧ (w.alloc (.cells p.cells 63)).grownBy w' v.ownBlock := by
  obtain ⟨i0, hi, hz0, hz1, hz2⟩ := info_parts Tryz.infoPkt
  obtain ⟨v', w', r, o, g, _⟩ := run_append_any (P := Tryz.prog) (w.alloc (.cells p.cells 63)) base 42 42 63 i0 _ 6 40 Tryz.underlying42 hi hz0 hz1 hz2 rfl (by decide) v n (pkCells l) (h.alloc _) 1 p.cells.toList (.slice (some ⟨w.heap.size, 0, none⟩) 1 1) (Sl.new w p.cells 63 1 6 1 rfl) p.one2 (by unfold maxLen; omega) (by omega) (by simp; omega)
  exact ⟨v', w', r, by rw [pkCells_append, pkCells_one]; exact o, g⟩
theorem grown_cell {w w' : World} {row : Option Nat} {a : Addr} (hg : w.grownBy w' row) (ha : a.block < w.heap.size) (hn : some a.block ≠ row) : w'.cell? a = w.cell? a := by
  unfold World.cell?; rw [hg.block _ ha hn]
/-- a row's packet -/
theorem Pks.at {w : World} {ao : Option Addr} {n c k : Nat} {l : List Pk} (h : Pks w (.slice ao n c) l) (hk : k < l.length) : ∃ b off, ao = some ⟨b, off, none⟩ ∧ b < w.heap.size ∧ ∀ j u, (l[k]).cells[j]? = some u → w.cell? ⟨b, off + k * 6 + j, none⟩ = some u := by
  obtain ⟨_, ⟨h0, _⟩ | ⟨b, off, c', e, hb, hc⟩⟩ := h
  · omega
  · injection e with e1 _ _
    refine ⟨b, off, e1, hb, fun j u hj => ?_⟩
    rw [Nat.add_assoc]
    refine hc _ _ ?_
    have hj6 : j < 6 := by
      have := (Array.getElem?_eq_some_iff.1 hj).1
      simpa [Pk.cells] using this
    have : l = l.take k ++ [l[k]] ++ l.drop (k + 1) := by
      rw [List.append_assoc, List.singleton_append, List.getElem_cons_drop, List.take_append_drop]
    rw [this, pkCells_append, pkCells_append, pkCells_one]
    have hl1 : (pkCells (l.take k)).length = k * 6 := by rw [pkCells_len, List.length_take, Nat.min_eq_left (by omega)]
    rw [List.getElem?_append_left (by rw [List.length_append, hl1]; simp [Pk.cells]; omega), List.getElem?_append_right (by omega), hl1, Nat.add_sub_cancel_left]
    simpa using hj

/-- the packets of a frame, behind number last, at a time -/
def pkAt (last t : Int) (key : Bool) (ps : List ByteArray) (i : Nat) : Pk := ⟨(last + 1 + i) % 65536, t, i == 0, i == ps.length - 1, i == 0 && key, ps[i]?.getD ByteArray.empty⟩
def pksK (last t : Int) (key : Bool) (ps : List ByteArray) (k : Nat) : List Pk := (List.range k).map (pkAt last t key ps)
def pksOf (last t : Int) (key : Bool) (ps : List ByteArray) : List Pk := pksK last t key ps ps.length
theorem pksK_succ (last t : Int) (key : Bool) (ps : List ByteArray) (k : Nat) : pksK last t key ps (k + 1) = pksK last t key ps k ++ [pkAt last t key ps k] := by simp [pksK, List.range_succ]
theorem pksK_len (last t : Int) (key : Bool) (ps : List ByteArray) (k : Nat) : (pksK last t key ps k).length = k := by simp [pksK]

end Go.Proofs.YtnpaejknoipicagGreat

namespace Go.Proofs.YtnpaejknoipicagGreat
open Go.RowKit

section
variable {P : Program} {Q : Exit → Act → World → Prop}

/-- an operation that is done, or whose guard is not met -/
def StepG (P : Program) (ops : Array Oper) (o : Oper) (a : Act) (w : World) (K : Act → World → Prop) (Q : Exit → Act → World → Prop) : Prop :=
  (Region.wanted o (yielded ops a.tmps) = true ∧ o.wp P a w K Q) ∨ (Region.wanted o (yielded ops a.tmps) = false ∧ K (a.put o.dst undef) w)
theorem StepG.mono {ops : Array Oper} {o : Oper} {a : Act} {w : World} {K K' : Act → World → Prop} (h : ∀ a w, K a w → K' a w) (hh : StepG P ops o a w K Q) : StepG P ops o a w K' Q := by
  rcases hh with ⟨h1, h2⟩ | ⟨h1, h2⟩
  · exact .inl ⟨h1, Oper.wp_mono h h2⟩
  · exact .inr ⟨h1, h _ _ h2⟩
def regOkG (l : List Oper) : Bool := dstsApart l && (l.zipIdx.all fun p => p.1.after.all fun e => decide (e.on < p.2) || !(Region.binds .any e))
/-- a slot that none of the listed ones writes -/
theorem putL_other2 {L : Array Bool} {vs : Nat → Value} {x : Operand} : ∀ (l : List Oper) (k : Nat) (a : Act), (∀ j p, l[j]? = some p → L.getD (k + j) false = true → ∀ t, p.dst = some t → x ≠ .tmp t) → (putL L vs k l a).eval x = a.eval x
  | [], _, _, _ => rfl
  | o :: r, k, a, h => by
    simp only [putL]
    rw [putL_other2 r (k + 1) _ (fun j p hp hl => h (j + 1) p (by simpa using hp) (by rw [show k + (j + 1) = k + 1 + j by omega]; exact hl))]
    split
    · rename_i hk
      exact Act.eval_put (fun t ht => h 0 o (by simp) (by simpa using hk) t ht)
    · rfl
theorem tmps_of {a : Act} {k : Nat} {b : Bool} (he : a.eval (.tmp k) = .bool b) : a.tmps[k]? = some (.bool b) := by
  simp only [Act.eval, Array.getD_eq_getD_getElem?] at he
  cases hk : a.tmps[k]? with
  | none => rw [hk] at he; simp [undef] at he
  | some v => rw [hk] at he; simpa using he
theorem wpAny_invG {md : Region.Mode} {ops : Array Oper} (I : Array Bool → Act → World → Prop)
    (hstep : ∀ L a w, L.size = ops.size → I L a w → ∀ (i : Nat) (o : Oper), ops[i]? = some o → L[i]? = some false → (∀ e ∈ o.after, Region.binds md e = true → L.getD e.on false = true) → StepG P ops o a w (fun a' w' => I (L.setIfInBounds i true) a' w') Q)
    (hend : ∀ L a w, L.size = ops.size → I L a w → Region.ready md ops L = [] → Q .normal a w) :
    ∀ (fuel : Nat) (L : Array Bool) (a : Act) (w : World), L.size = ops.size → left L ≤ fuel → I L a w → wpAny P md ops Q fuel L a w
  | 0, L, a, w, hs, hf, hI => by
    have hr : Region.ready md ops L = [] := by
      rw [List.eq_nil_iff_forall_not_mem]
      intro j hj
      have h := getD_false (mem_ready.1 hj).1
      have := left_set h
      omega
    exact ⟨hr, hend L a w hs hI hr⟩
  | fuel + 1, L, a, w, hs, hf, hI => by
    refine ⟨hend L a w hs hI, fun i hi => ?_⟩
    obtain ⟨h1, o, h2, h3⟩ := mem_ready.1 hi
    have h4 := getD_false h1
    unfold wpOp
    rcases hstep L a w hs hI i o h2 h4 h3 with ⟨hw, h⟩ | ⟨hw, h⟩
    · simp only [h2, hw, if_true]
      exact .inl (Oper.wp_mono (fun a' w' h => wpAny_invG I hstep hend fuel _ a' w' (by simpa using hs) (by have := left_set h4; omega) h) h)
    · simp only [h2, hw, Bool.false_eq_true, if_false]
      exact wpAny_invG I hstep hend fuel _ _ _ (by simpa using hs) (by have := left_set h4; omega) h

theorem wp_region_invG {id : Nat} {a : Act} {w : World} {l : List Oper} (hm : P.follows .mixedOrders = true) (hB : regOkG l = true) (F : Array Bool → (Nat → Value) → World → Prop)
    (h0 : F (Array.replicate l.length false) (fun _ => undef) { w with drawn := w.drawn + 1 })
    (hstep : ∀ L vs w', F L vs w' → ∀ (i : Nat) (o : Oper), l[i]? = some o → L[i]? = some false → (∀ e ∈ o.after, Region.binds .any e = true → L.getD e.on false = true) →
      StepG P l.toArray o (putL L vs 0 l a) w' (fun a' w'' => ∃ v, a' = (putL L vs 0 l a).put o.dst v ∧ F (L.setIfInBounds i true) (upd vs i v) w'') Q)
    (hend : ∀ L vs w', F L vs w' → (∀ i, i < l.length → L.getD i false = true) → Q .normal (putL L vs 0 l a) w') : (Code.region id l.toArray true).wp P Q a w := by
  simp only [regOkG, Bool.and_eq_true] at hB
  obtain ⟨hd, hA⟩ := hB
  refine wp_region_any hm ?_
  refine wpAny_invG (md := .any) (fun L a' w' => ∃ vs, a' = putL L vs 0 l a ∧ F L vs w') ?_ ?_ _ _ _ _ (by simp) ?_ ?_
  · rintro L a' w' hs ⟨vs, rfl, hF⟩ i o ho hL hrdy
    refine StepG.mono (fun a'' w'' ⟨v, h1, h2⟩ => ?_) (hstep L vs w' hF i o (by simpa using ho) hL hrdy)
    exact ⟨upd vs i v, by rw [h1, putL_set hL l 0 a o hd (Nat.zero_le _) (by simpa using ho)], h2⟩
  · rintro L a' w' hs ⟨vs, rfl, hF⟩ hr
    refine hend L vs w' hF (fun i hi => ?_)
    have := ready_nil hs (fun i o ho e he hb => ?_) hr i (by simpa using hi)
    · simp [Array.getD_eq_getD_getElem?, this]
    · have h1 : (o, i) ∈ l.zipIdx := by
        rw [List.mem_zipIdx_iff_getElem?]; simpa using ho
      have h2 := List.all_eq_true.1 hA _ h1
      rw [Array.all_eq_true_iff_forall_mem] at h2
      simpa [hb] using h2 e he
  · simp only [left]; exact Nat.le_trans List.countP_le_length (by simp)
  · refine ⟨fun _ => undef, ?_, by simpa using h0⟩
    have : ∀ (m : List Oper) (k : Nat) (a : Act), a = putL (Array.replicate l.toArray.size false) (fun _ => undef) k m a := by
      intro m
      induction m with
      | nil => intro k a; rfl
      | cons o r ih =>
        intro k a
        simp only [putL]
        rw [if_neg (by simp [Array.getD_eq_getD_getElem?, Array.getElem?_replicate]; split <;> simp)]
        exact ih (k + 1) a
    exact this l 0 a


theorem region_chainG {id : Nat} {a : Act} {w : World} {l : List Oper} (hm : P.follows .mixedOrders = true) (hB : regOkG l = true) (ks : List Ck) (st : List Nat) (hK : chainOk ks l st a.tmps.size = true)
    (I : Nat → (Nat → Value) → World → Prop) (h0 : I 0 (fun _ => undef) { w with drawn := w.drawn + 1 })
    (hstep : ∀ i o, l[i]? = some o → ∀ (a' : Act) (w' : World) (s : Nat) (r : Nat → Value), I s r w' → (∀ s, (l.zipIdx.all fun p => p.1.dst != some s || waits l p.2 i) = true → a'.eval (.tmp s) = a.eval (.tmp s)) → (∀ j oj k, waits l i j = true → l[j]? = some oj → oj.dst = some k → a'.eval (.tmp k) = (ckAt ks j).out r) →
      match ckAt ks i with
      | .quiet v lim => s ≤ lim → (Region.wanted o (yielded l.toArray a'.tmps) = true ∧ (execOp a'.eval o).run P w' = .ok (.value v) w') ∨ (Region.wanted o (yielded l.toArray a'.tmps) = false ∧ v = undef)
      | .step t => s = t → o.guard = none ∧ o.wp P a' w' (fun a'' w'' => ∃ v, a'' = a'.put o.dst v ∧ I (t + 1) (updR r t v) w'') Q)
    (hend : ∀ (r : Nat → Value) (w' : World), I st.length r w' → Q .normal (putC r ks l a) w') :
    (Code.region id l.toArray true).wp P Q a w := by
  simp only [chainOk, Bool.and_eq_true, decide_eq_true_eq] at hK
  obtain ⟨⟨⟨hlen, hdst⟩, hst⟩, hall⟩ := hK
  have hap : dstsApart l = true := by simp only [regOkG, Bool.and_eq_true] at hB; exact hB.1
  have hal : ∀ i, i < l.length → _ := fun i hi => List.all_eq_true.1 hall i (List.mem_range.2 hi)
  have hsl : ∀ s, s < st.length → _ := fun s hs => List.all_eq_true.1 hst s (List.mem_range.2 hs)
  have hstp : ∀ s, s < st.length → ∃ i, st[s]? = some i ∧ i < l.length ∧ ckAt ks i = .step s ∧ (0 < s → ∃ j, st[s - 1]? = some j ∧ waits l i j = true) := fun s hs => by
    have h := hsl s hs
    have e : st[s]? = some st[s] := List.getElem?_eq_getElem hs
    rw [e] at h
    simp only [Bool.and_eq_true, decide_eq_true_eq, Bool.or_eq_true, beq_iff_eq] at h
    refine ⟨st[s], e, h.1.1, ?_, fun h0 => ?_⟩
    · have h2 := h.1.2
      cases hk : ckAt ks st[s] with
      | quiet v lim => rw [hk] at h2; cases h2
      | step t => rw [hk] at h2; simp at h2; rw [h2]
    · have h3 := h.2
      rcases h3 with h3 | h3
      · omega
      · have e2 : st[s - 1]? = some st[s - 1] := List.getElem?_eq_getElem (by omega)
        rw [e2] at h3
        exact ⟨_, e2, h3⟩
  have hst2 : ∀ i t, i < l.length → ckAt ks i = .step t → st[t]? = some i := fun i t hi hk => by
    have h := hal i hi
    rw [hk] at h
    simpa using h
  refine wp_region_invG hm hB (fun L vs w' => ∃ s r, RC ks l l.length st.length I (fun j => L.getD j false) vs s r w') ?_ ?_ ?_
  · have hno : ∀ j, ¬ (Array.replicate l.length false).getD j false = true := fun j => by
      simp [Array.getD_eq_getD_getElem?, Array.getElem?_replicate]; split <;> simp
    exact ⟨0, fun _ => undef, fun i h => absurd h (hno i), fun i t _ _ => ⟨fun h => absurd h (hno i), fun h => absurd h (Nat.not_lt_zero _)⟩, fun i h => absurd h (hno i), h0, Nat.zero_le _, fun _ j h => absurd h (hno j)⟩
  · rintro L vs w' ⟨s, r, F⟩ i o ho hL hr
    have hi : i < l.length := (List.getElem?_eq_some_iff.1 ho).1
    have ni : L.getD i false = false := by simpa using listed_no hL
    have hset := setfun hL
    have hwt : ∀ j, waits l i j = true → L.getD j false = true := fun j hw => waits_spec hw ho hr
    have hfree : ∀ s, (l.zipIdx.all fun p => p.1.dst != some s || waits l p.2 i) = true → (putL L vs 0 l a).eval (.tmp s) = a.eval (.tmp s) := fun s hs => putL_other2 l 0 a (fun j p hp hj t ht e => by
      injection e with e
      subst e
      rw [Nat.zero_add] at hj
      have h1 : (p, j) ∈ l.zipIdx := by rw [List.mem_zipIdx_iff_getElem?]; exact hp
      have := List.all_eq_true.1 hs _ h1
      simp only [ht, bne_self_eq_false, Bool.false_or] at this
      have h2 := F.closed i j hj this
      rw [h2] at ni
      cases ni)
    have hvals : ∀ j oj k, waits l i j = true → l[j]? = some oj → oj.dst = some k → (putL L vs 0 l a).eval (.tmp k) = (ckAt ks j).out r := fun j oj k hw hoj hk => by
      have h1 := hwt j hw
      have hk2 := List.all_eq_true.1 hdst oj (List.mem_of_getElem? hoj)
      rw [hk] at hk2
      rw [putL_at h1 l 0 a oj hap (Nat.zero_le _) (by simpa using hoj) hk (by simpa using hk2)]
      exact F.vals j h1
    have hs := hstep i o ho (putL L vs 0 l a) w' s r F.inv hfree hvals
    rw [hset]
    obtain ⟨ls, hls⟩ : ∃ ls : Nat → Bool, ls = fun j => L.getD j false := ⟨_, rfl⟩
    have hlsj : ∀ j, L.getD j false = ls j := fun j => by rw [hls]
    simp only [hlsj] at F ni hwt ⊢
    have hlt' : ∀ j, (decide (j = i) || ls j) = true → j < l.length := fun j hj => by
      simp only [Bool.or_eq_true, decide_eq_true_eq] at hj
      rcases hj with rfl | hj
      · exact hi
      · exact F.lt j hj
    have hcl : ∀ p j, (decide (j = i) || ls j) = true → waits l j p = true → (decide (p = i) || ls p) = true := fun p j hj hw => by
      simp only [Bool.or_eq_true, decide_eq_true_eq] at hj ⊢
      rcases hj with rfl | hj
      · exact .inr (hwt p hw)
      · exact .inr (F.closed p j hj hw)
    cases hk : ckAt ks i with
    | quiet v lim =>
      rw [hk] at hs
      have hle : s ≤ lim := by
        have h := hal i hi
        rw [hk] at h
        simp only [Bool.or_eq_true, decide_eq_true_eq] at h
        rcases h with h | h
        · exact Nat.le_trans F.le h
        · by_cases hlt : s ≤ lim
          · exact hlt
          · exfalso
            have hll : lim < st.length := by have := F.le; omega
            obtain ⟨j, e1, e2, e3, _⟩ := hstp lim hll
            rw [e1] at h
            have hlj := (F.steps j lim e2 e3).2 (by omega)
            rw [F.closed i j hlj h] at ni
            cases ni
      have hfin : ∃ v', (putL L vs 0 l a).put o.dst v = (putL L vs 0 l a).put o.dst v' ∧ ∃ s r, RC ks l l.length st.length I (fun j => decide (j = i) || ls j) (upd vs i v') s r w' := by
        refine ⟨v, rfl, s, r, hlt', ?_, ?_, F.inv, F.le, hcl⟩
        · intro j t hj hjk
          have e : j ≠ i := fun e => by subst e; rw [hk] at hjk; cases hjk
          simpa [e] using F.steps j t hj hjk
        · intro j hj
          by_cases e : j = i
          · subst e; rw [upd_at, hk]; rfl
          · rw [upd_ne e]; exact F.vals j (by simpa [e] using hj)
      rcases hs hle with ⟨hw, h⟩ | ⟨hw, hv⟩
      · exact .inl ⟨hw, oper_wp_ok h hfin⟩
      · exact .inr ⟨hw, by rw [← hv]; exact hfin⟩
    | step t =>
      rw [hk] at hs
      have hti := hst2 i t hi hk
      have htl : t < st.length := (List.getElem?_eq_some_iff.1 hti).1
      have hst' : s = t := by
        have h1 : ¬ t < s := fun h => by rw [(F.steps i t hi hk).2 h] at ni; cases ni
        by_cases h0 : t = 0
        · omega
        · obtain ⟨i', e1, e2, e3, e4⟩ := hstp t htl
          rw [hti] at e1
          injection e1 with e1
          subst e1
          obtain ⟨j, q1, q2⟩ := e4 (by omega)
          obtain ⟨j', r1, r2, r3, _⟩ := hstp (t - 1) (by omega)
          rw [q1] at r1
          injection r1 with r1
          subst r1
          have := (F.steps j (t - 1) r2 r3).1 (hwt j q2)
          omega
      subst hst'
      refine .inl ⟨by simp [Region.wanted, (hs rfl).1], Oper.wp_mono ?_ (hs rfl).2⟩
      rintro a'' w'' ⟨v, h1, h2⟩
      refine ⟨v, h1, s + 1, updR r s v, hlt', ?_, ?_, h2, htl, hcl⟩
      · intro j t' hj hjk
        by_cases e : j = i
        · subst e
          rw [hk] at hjk
          injection hjk with hjk
          subst hjk
          simp
        · have h3 := F.steps j t' hj hjk
          have hne : t' ≠ s := fun e' => by
            subst e'
            have := hst2 j t' hj hjk
            rw [hti] at this
            injection this with this
            exact e this.symm
          simp only [e, decide_false, Bool.false_or]
          rw [h3]; omega
      · intro j hj
        by_cases e : j = i
        · subst e; rw [upd_at, hk]; exact (updR_at r s v).symm
        · have hlj : ls j = true := by simpa [e] using hj
          rw [upd_ne e, F.vals j hlj]
          cases hkj : ckAt ks j with
          | quiet v' lim' => rfl
          | step t' =>
            have := (F.steps j t' (F.lt j hlj) hkj).1 hlj
            exact (updR_ne (by omega)).symm
  · rintro L vs w' ⟨s, r, F⟩ hlst
    have hs : s = st.length := by
      by_cases h : s < st.length
      · obtain ⟨i, e1, e2, e3, _⟩ := hstp s h
        have := (F.steps i s e2 e3).1 (hlst i e2)
        omega
      · have := F.le; omega
    subst hs
    rw [putC_all L vs r l 0 ks a hlen (fun i hi => by rw [Nat.zero_add]; exact hlst i hi) (fun i hi => by rw [Nat.zero_add]; exact F.vals i (hlst i hi))]
    exact hend r w' F.inv
end

end Go.Proofs.YtnpaejknoipicagGreat

namespace Go.Proofs.YtnpaejknoipicagGreat
open Go.RowKit

def StayK (S : List Nat) (w : World) (P : World → Prop) : Prop := ∀ w', Kept S w w' → P w'
theorem StayK.now {S : List Nat} {w : World} {P : World → Prop} (h : StayK S w P) : P w := h w (Kept.refl _ _)
theorem StayK.step {S : List Nat} {w w' : World} {P : World → Prop} (h : StayK S w P) (hk : Kept S w w') : StayK S w' P := fun w'' h2 => h w'' (hk.trans h2)
theorem StayK.go {S : List Nat} {w w' : World} {P : World → Prop} (h : Hid (StayK S w P)) (hk : Below w.heap.size w w') : Hid (StayK S w' P) := StayK.step h ((Kept.refl _ _).below hk)
theorem StayK.goK {S : List Nat} {w w' : World} {P : World → Prop} (h : Hid (StayK S w P)) (hk : Kept S w w') : Hid (StayK S w' P) := StayK.step h hk
theorem StayK.allocE {S : List Nat} {w W : World} {P : World → Prop} {o : Obj} (h : Hid (StayK S w P)) (e : W = w.alloc o) : Hid (StayK S W P) := by subst e; exact StayK.step h ((Kept.refl _ _).alloc _)
theorem StayK.and {S : List Nat} {w : World} {P Q : World → Prop} (h : StayK S w P) (k : StayK S w Q) : StayK S w (fun U => P U ∧ Q U) := fun w' hb => ⟨h w' hb, k w' hb⟩
theorem Stay.toK {w W : World} {P : World → Prop} {o : Obj} (h : Stay w P) (e : W = w.alloc o) : StayK [w.heap.size] W P := by
  subst e
  intro w' hk
  refine h w' (((Below.refl _ w).alloc (Nat.le_refl _) o).trans ?_)
  exact hk.toBelow (by simp) (fun k hk => by simp at hk; omega)
theorem Kept.sameOn {S : List Nat} {X : Nat → Prop} {w w' : World} (h : Kept S w w') (hx : ∀ g, X g → g ∉ S) : SameOn X w w' := ⟨h.size, fun g hg hX => h.block g hg (hx g hX)⟩
theorem Blk.stayK {S : List Nat} {w : World} {b : Nat} {C : Array Value} {t : TypeId} (h : Blk w b C t) (hS : b ∉ S) : StayK S w (fun U => Blk U b C t) := fun _ hk => h.kept hk hS
theorem FrsIn.stayK {S : List Nat} {X : Nat → Prop} {w : World} {v : Value} {l : List Fr} (h : FrsIn X w v l) (hx : ∀ g, X g → g ∉ S) : StayK S w (fun U => FrsIn X U v l) := fun _ hk => h.to (hk.sameOn hx) fun _ _ h => h
theorem StrsIn.stayK {S : List Nat} {X : Nat → Prop} {w : World} {v : Value} {l : List ByteArray} (h : StrsIn X w v l) (hx : ∀ g, X g → g ∉ S) : StayK S w (fun U => StrsIn X U v l) := fun _ hk => h.to (hk.sameOn hx) fun _ _ h => h
theorem GrsIn.stayK {S : List Nat} {X : Nat → Prop} {w : World} {v : Value} {l : List (List Fr)} (h : GrsIn X w v l) (hx : ∀ g, X g → g ∉ S) : StayK S w (fun U => GrsIn X U v l) := fun _ hk => h.to (hk.sameOn hx) fun _ _ h => h
/-- three cells are put in three others' place -/
theorem Blk.put3 {w : World} {b : Nat} {x0 x1 x2 : Value} {t : TypeId} (h : Blk w b #[x0, x1, x2] t) (y0 y1 y2 : Value) : Blk (((w.setCell ⟨b, 0, none⟩ y0).setCell ⟨b, 1, none⟩ y1).setCell ⟨b, 2, none⟩ y2) b #[y0, y1, y2] t := ((h.set 0 y0).set 1 y1).set 2 y2
theorem Kept.put3 {S : List Nat} {a w : World} {b : Nat} (h : Kept S a w) (hb : b ∈ S) (y0 y1 y2 : Value) : Kept S a (((w.setCell ⟨b, 0, none⟩ y0).setCell ⟨b, 1, none⟩ y1).setCell ⟨b, 2, none⟩ y2) := ((h.setCell (p := ⟨b, 0, none⟩) hb y0).setCell (p := ⟨b, 1, none⟩) hb y1).setCell (p := ⟨b, 2, none⟩) hb y2

end Go.Proofs.YtnpaejknoipicagGreat

namespace Go.Proofs.YtnpaejknoipicagGreat
open Go.RowKit

set_option maxHeartbeats 8000000 in
set_option maxRecDepth 100000 in
theorem send_any (M : Nat) (l t s0 : Int) (f : Fr) (pa : Option Addr) (pc : Nat) (w : World) (hM : Blk w M #[.int .i64 l, .int .i64 t, .int .i64 s0] 150) (hp : StrsIn (fun g => g ≠ M) w (.slice pa f.parts.length pc) f.parts) (hf : f.chk = 0) (hs0 : -3000000 ≤ s0) (hs1 : s0 ≤ 3000000) (hl0 : 0 ≤ l) (hl1 : l ≤ 1000000000) :
    Calls Tryz.prog 98 #[.pointer (some ⟨M, 0, none⟩), .agg #[.int .i64 f.time, .bool f.key, .slice pa f.parts.length pc]] w fun e w' => ∃ v, e = .returned v ∧ w'.ownsRow (w.heap.size + 1) 63 6 v f.parts.length (pkCells (pksOf l (f.time + s0) f.key f.parts)) ∧ Blk w' M #[.int .i64 (l + f.parts.length), .int .i64 (f.time + s0), .int .i64 s0] 150 ∧ Kept [M] w w' := by
  obtain ⟨c1, c2, c3, c4, c5⟩ := chkF_zero hf
  obtain ⟨ft, hft⟩ : ∃ x, x = f.time := ⟨_, rfl⟩
  obtain ⟨fk, hfk⟩ : ∃ x, x = f.key := ⟨_, rfl⟩
  obtain ⟨ps, hps⟩ : ∃ x, x = f.parts := ⟨_, rfl⟩
  rw [← hps] at c3 c4 c5 hp
  rw [← hft] at c1 c2
  obtain ⟨n, hn⟩ : ∃ x, x = ps.length := ⟨_, rfl⟩
  rw [← hft, ← hfk, ← hps, ← hn]
  rw [← hn] at c3 c4 hp
  have HN : Hid (n = ps.length) := hn
  have HP8 : Hid (∀ s ∈ ps, s.size ≤ 8) := c5
  obtain ⟨T, hT⟩ : ∃ x, x = ft + s0 := ⟨_, rfl⟩
  have HT : Hid (T = ft + s0) := hT
  obtain ⟨base, hbase⟩ : ∃ x, x = w.heap.size + 1 := ⟨_, rfl⟩
  rw [← hT, ← hbase]
  obtain ⟨W0, hW0⟩ : ∃ W0, W0 = w.alloc (.cells #[.int .i64 ft, .bool fk, .slice pa n pc] 98) := ⟨_, rfl⟩
  have hMl0 := hM.lt
  have hM0 : Blk W0 M #[.int .i64 l, .int .i64 t, .int .i64 s0] 150 := by rw [hW0]; exact hM.alloc _
  have hF0 : Blk W0 w.heap.size #[.int .i64 ft, .bool fk, .slice pa n pc] 98 := Blk.newE hW0
  have hP0 : StrsIn (fun g => g ≠ M) W0 (.slice pa n pc) ps := by rw [hW0]; exact hp.alloc _
  have HS0 : Hid (StayK [M] W0 (fun U => Blk U w.heap.size #[.int .i64 ft, .bool fk, .slice pa n pc] 98 ∧ StrsIn (fun g => g ≠ M) U (.slice pa n pc) ps)) := (hF0.stayK (by simp; omega)).and (hP0.stayK (fun g hg => by simpa using hg))
  have HZ0 : Hid (W0.heap.size = base ∧ Below w.heap.size w W0) := ⟨by rw [hW0, hbase]; simp, by rw [hW0]; exact (Below.refl _ w).alloc (Nat.le_refl _) _⟩
  have HB0 : Hid (base = w.heap.size + 1) := hbase
  clear hft hfk hps hn hM hp hF0 hP0 hf c5 hT hbase
  obtain ⟨j0, j1, j2⟩ := HS0.out.now.1.three
  go_enter Tryz.func98, Tryz.ntmps98
  go_wp2_with fail
  rw [← hW0]
  refine (timeOf_any M l t s0 ft fk pa n pc W0 hM0 c1 c2 hs0 hs1).mono ?_
  rw [← HT.out]
  rintro e w1 ⟨rfl, b1⟩
  have hM1 := hM0.below b1 hM0.lt
  have fM := hM1.free 1
  obtain ⟨W2, hW2⟩ : ∃ W2, W2 = w1.setCell ⟨M, 1, none⟩ (.int .i64 T) := ⟨_, rfl⟩
  have HM2 : Hid (Blk W2 M #[.int .i64 (l + (0 : Nat)), .int .i64 T, .int .i64 s0] 150) := by
    have := hM1.set 1 (.int .i64 T)
    rw [hW2]; simpa [Hid] using this
  have HK2 : Hid (Kept [M] W0 W2) := by rw [hW2]; exact ((Kept.refl [M] W0).below b1).setCell (p := ⟨M, 1, none⟩) (by simp) _
  obtain ⟨q0, q1, q2⟩ := hM1.three
  have HS2 := StayK.goK HS0 HK2.out
  obtain ⟨p0, p1, p2⟩ := HS2.out.now.1.three
  clear b1 hM0 hM1 hW0 j0 j1 j2
  go_upto_region 3 with fail
  rw [← hW2]
  clear hW2 q0 q1 q2 fM
  go_wp2_with fail
  clear p0 p1 p2
  go_loopw [5, 18] (fun v i wr => ∃ k : Nat, k ≤ n ∧ i = .int .i64 k ∧ Hid (Blk wr M #[.int .i64 (l + k), .int .i64 T, .int .i64 s0] 150) ∧ Hid (wr.ownsRow base 63 6 v k (pkCells (pksK l T fk ps k))) ∧ Hid (Kept [M] W0 wr))
    (fun _ i _ => n - (intOf i).toNat)
  case atStart => exact ⟨0, Nat.zero_le _, rfl, HM2.out, World.ownsRow_nil _ _ _ _, HK2.out⟩
  case round =>
    obtain ⟨k, hk, rfl, HM, HO, HK⟩ := hrel
    clear HM2 HK2 HS2
    have HSr := StayK.goK HS0 HK.out
    by_cases hlt : k < n
    · have hlti : (k : Int) < (n : Int) := by omega
      obtain ⟨po, pcc, ep, hpc⟩ := HSr.out.now.2.1.parts
      rw [← HN.out] at ep
      injection ep with ep1 ep2 ep3
      clear ep2
      subst ep1 ep3
      obtain ⟨b, off, e1, hb, hcx⟩ := hpc k (by rw [← HN.out]; exact hlt)
      obtain ⟨x, hx⟩ : ∃ x, x = ps[k]?.getD ByteArray.empty := ⟨_, rfl⟩
      rw [← hx] at hcx
      have hx8 : x.size ≤ 8 := by
        rw [hx, List.getElem?_eq_getElem (by rw [← HN.out]; exact hlt), Option.getD_some]
        exact HP8.out _ (List.getElem_mem _)
      obtain ⟨lk, hlk⟩ : ∃ y, y = l + (k : Int) + 1 := ⟨_, rfl⟩
      obtain ⟨sq, hsq⟩ : ∃ y, y = lk % 65536 := ⟨_, rfl⟩
      obtain ⟨z, hz⟩ : ∃ y, y = ((k : Int) == 0) := ⟨_, rfl⟩
      obtain ⟨en, hen⟩ : ∃ y, y = ((k : Int) == (n : Int) - 1) := ⟨_, rfl⟩
      obtain ⟨PL, hPL⟩ : ∃ y, y = pksK l T fk ps k := ⟨_, rfl⟩
      have HPK : Hid (pksK l T fk ps (k + 1) = PL ++ [⟨sq, T, z, en, z && fk, x⟩]) := by
        show _ = _
        rw [pksK_succ, ← hPL]
        unfold pkAt
        rw [← hx, hsq, hlk, hz, hen, ← HN.out, show l + (k : Int) + 1 = l + 1 + k by omega]
        have e1 : (k == 0) = ((k : Int) == 0) := by rw [Bool.eq_iff_iff]; simp
        have e2 : (k == n - 1) = ((k : Int) == (n : Int) - 1) := by rw [Bool.eq_iff_iff]; simp; omega
        rw [e1, e2]
      have HLK : Hid (lk = l + ((k + 1 : Nat) : Int)) := by show _ = _; rw [hlk]; omega
      have HO' := HO.out
      rw [← hPL] at HO'
      obtain ⟨m0, m1, m2⟩ := HM.out.three
      have fM := HM.out.free 0
      obtain ⟨WR, hWR⟩ : ∃ W, W = wr.setCell ⟨M, 0, none⟩ (.int .i64 lk) := ⟨_, rfl⟩
      have KMR : Hid (Blk WR M #[.int .i64 lk, .int .i64 T, .int .i64 s0] 150) := by
        have := HM.out.set 0 (.int .i64 lk)
        rw [hWR]; simpa [Hid] using this
      have HKR : Hid (Kept [M] W0 WR) := by rw [hWR]; exact HK.out.setCell (p := ⟨M, 0, none⟩) (by simp) _
      have hbw := HB0.out
      have HOW : Hid (WR.ownsRow base 63 6 u5 k (pkCells PL)) := by rw [hWR]; exact ownsRow_setCell_below HO' (by show M < base; omega) _
      have hWRs : base ≤ WR.heap.size := by have := HKR.out.size; have := HZ0.out.1; omega
      obtain ⟨p0, p1, p2⟩ := (StayK.goK HS0 HKR.out).out.now.1.three
      obtain ⟨q0, q1, q2⟩ := KMR.out.three
      have hMl : M < WR.heap.size := KMR.out.lt
      have hFl : w.heap.size < WR.heap.size := (StayK.goK HS0 HKR.out).out.now.1.lt
      have hMu : some M ≠ u5.ownBlock := fun e => by have := (HOW.out.lt M e.symm).1; omega
      have hFu : some w.heap.size ≠ u5.ownBlock := fun e => by have := (HOW.out.lt _ e.symm).1; omega
      have hlks : l + (k : Int) + 1 = lk := hlk.symm
      subst e1
      clear hpc hb hx hPL HO' HO HM hlk
      go_upto_region 7 with fail
      rw [← hWR]
      clear hWR m0 m1 m2 fM hcx hlks
      have hrem : lk.tmod 65536 = sq := by
        rw [hsq, Int.tmod_eq_emod_of_nonneg]
        have := HLK.out; omega
      have hsub : IntKind.i64.wrap ((n : Int) - 1) = (n : Int) - 1 := by rw [IntKind.wrap_i64]; omega
      have hz' : ((k : Int) == 0) = z := hz.symm
      have hen' : ((k : Int) == (n : Int) - 1) = en := hen.symm
      clear hz hen hsq
      have hz := hz'
      have hen := hen'
      clear hz' hen'
      cases z
      case false =>
        refine region_chainG (by kernel_rfl) (by kernel_rfl) [.quiet (u5) 5, .quiet (.pointer (some ⟨M, 0, none⟩)) 5, .quiet (.pointer (some ⟨M, 0, none⟩)) 5, .quiet (.pointer (some ⟨M, 0, none⟩)) 5, .quiet (.pointer (some ⟨M, 0, none⟩)) 5, .quiet (.int .i64 lk) 5, .quiet (.int .i64 sq) 5, .quiet (.pointer (some ⟨M, 0, none⟩)) 5, .quiet (.pointer (some ⟨M, 0, none⟩)) 5, .quiet (.pointer (some ⟨M, 0, none⟩)) 5, .quiet (.pointer (some ⟨M, 1, none⟩)) 5, .quiet (.int .i64 T) 5, .quiet (.int .i64 k) 5, .quiet (.bool false) 5, .quiet (.int .i64 k) 5, .quiet (.pointer (some ⟨w.heap.size, 2, none⟩)) 5, .quiet (.slice (some ⟨b, off, none⟩) n pc) 5, .quiet (.int .i64 n) 5, .quiet (.int .i64 (n - 1)) 5, .quiet (.bool en) 5, .quiet (.int .i64 k) 5, .quiet (.bool false) 5, .quiet (.bool false) 5, .quiet (undef) 5, .quiet (undef) 5, .quiet (.bool false) 5, .quiet (.string x) 5, .step 0, .step 1, .step 2, .step 3, .step 4] [27, 28, 29, 30, 31] (by kernel_rfl)
          (fun s r w' => match s with
            | 0 => Below WR.heap.size WR w'
            | 1 => r 0 = .string x ∧ Below WR.heap.size WR w'
            | 2 => r 1 = (Pk.val ⟨sq, T, false, en, false, x⟩) ∧ Below WR.heap.size WR w'
            | 3 => ∃ V, Below WR.heap.size WR V ∧ w' = V.alloc (.cells (Pk.cells ⟨sq, T, false, en, false, x⟩) 63) ∧ r 2 = .slice (some ⟨V.heap.size, 0, none⟩) 1 1
            | 4 => ∃ V, Below WR.heap.size WR V ∧ w'.ownsRow base 63 6 (r 3) (k + 1) (pkCells (PL ++ [⟨sq, T, false, en, false, x⟩])) ∧ (V.alloc (.cells (Pk.cells ⟨sq, T, false, en, false, x⟩) 63)).grownBy w' u5.ownBlock
            | _ => ∃ V, Below WR.heap.size WR V ∧ w'.ownsRow base 63 6 (r 4) (k + 1) (pkCells (PL ++ [⟨sq, T, false, en, false, x⟩])) ∧ (V.alloc (.cells (Pk.cells ⟨sq, T, false, en, false, x⟩) 63)).grownBy w' u5.ownBlock
            ) ((Below.refl _ WR).drew) ?step ?fin
        case step =>
          intro i o ho a' w' s r hI hfree hvals
          have hcell : ∀ a : Addr, a.block < WR.heap.size → some a.block ≠ u5.ownBlock → w'.cell? a = WR.cell? a := fun a ha hne => by
            match s, hI with
            | 0, hI => exact Below.cell hI ha
            | 1, ⟨_, hI⟩ => exact Below.cell hI ha
            | 2, ⟨_, hI⟩ => exact Below.cell hI ha
            | 3, ⟨V, hI, hw, _⟩ => rw [hw]; exact Below.cell (hI.alloc hI.size _) ha
            | 4, ⟨V, hI, _, hg⟩ => exact (grown_cell hg (by simp; have := hI.size; omega) hne).trans (Below.cell (hI.alloc hI.size _) ha)
            | n + 5, ⟨V, hI, _, hg⟩ => exact (grown_cell hg (by simp; have := hI.size; omega) hne).trans (Below.cell (hI.alloc hI.size _) ha)
          have y0 := (hcell ⟨M, 0, none⟩ hMl hMu).trans q0
          have y1 := (hcell ⟨M, 1, none⟩ hMl hMu).trans q1
          have z1 := (hcell ⟨w.heap.size, 1, none⟩ hFl hFu).trans p1
          have z2 := (hcell ⟨w.heap.size, 2, none⟩ hFl hFu).trans p2
          clear hcell
          match i, ho with
          | 0, ho =>
            simp at ho; subst ho
            have e5 : a'.eval (.tmp 5) = u5 := (hfree 5 (by kernel_rfl)).trans rfl
            show s ≤ 5 → _
            intro hs
            refine .inl ⟨rfl, ?_⟩
            generalize a'.eval = ρ at *
            simp [execOp, go_sem, e5]
          | 1, ho =>
            simp at ho; subst ho
            have e0 : a'.eval (.tmp 0) = .pointer (some ⟨M, 0, none⟩) := (hfree 0 (by kernel_rfl)).trans rfl
            show s ≤ 5 → _
            intro hs
            refine .inl ⟨rfl, ?_⟩
            generalize a'.eval = ρ at *
            simp [execOp, go_sem, e0]
          | 2, ho =>
            simp at ho; subst ho
            have e33 : a'.eval (.tmp 33) = .pointer (some ⟨M, 0, none⟩) := hvals 1 _ _ (by kernel_rfl) rfl rfl
            show s ≤ 5 → _
            intro hs
            refine .inl ⟨rfl, ?_⟩
            generalize a'.eval = ρ at *
            simp [execOp, go_sem, e33]
          | 3, ho =>
            simp at ho; subst ho
            have e34 : a'.eval (.tmp 34) = .pointer (some ⟨M, 0, none⟩) := hvals 2 _ _ (by kernel_rfl) rfl rfl
            show s ≤ 5 → _
            intro hs
            refine .inl ⟨rfl, ?_⟩
            generalize a'.eval = ρ at *
            simp [execOp, go_sem, e34]
          | 4, ho =>
            simp at ho; subst ho
            have e35 : a'.eval (.tmp 35) = .pointer (some ⟨M, 0, none⟩) := hvals 3 _ _ (by kernel_rfl) rfl rfl
            show s ≤ 5 → _
            intro hs
            refine .inl ⟨rfl, ?_⟩
            generalize a'.eval = ρ at *
            simp [execOp, go_sem, e35]
          | 5, ho =>
            simp at ho; subst ho
            have e36 : a'.eval (.tmp 36) = .pointer (some ⟨M, 0, none⟩) := hvals 4 _ _ (by kernel_rfl) rfl rfl
            show s ≤ 5 → _
            intro hs
            refine .inl ⟨rfl, ?_⟩
            generalize a'.eval = ρ at *
            simp [execOp, go_sem, e36, y0]
          | 6, ho =>
            simp at ho; subst ho
            have e37 : a'.eval (.tmp 37) = .int .i64 lk := hvals 5 _ _ (by kernel_rfl) rfl rfl
            have ec0 : a'.eval (.const (.int .i64 65536)) = .int .i64 65536 := rfl
            show s ≤ 5 → _
            intro hs
            refine .inl ⟨rfl, ?_⟩
            generalize a'.eval = ρ at *
            simp [execOp, go_sem, e37, ec0, hrem]
          | 7, ho =>
            simp at ho; subst ho
            have e0 : a'.eval (.tmp 0) = .pointer (some ⟨M, 0, none⟩) := (hfree 0 (by kernel_rfl)).trans rfl
            show s ≤ 5 → _
            intro hs
            refine .inl ⟨rfl, ?_⟩
            generalize a'.eval = ρ at *
            simp [execOp, go_sem, e0]
          | 8, ho =>
            simp at ho; subst ho
            have e39 : a'.eval (.tmp 39) = .pointer (some ⟨M, 0, none⟩) := hvals 7 _ _ (by kernel_rfl) rfl rfl
            show s ≤ 5 → _
            intro hs
            refine .inl ⟨rfl, ?_⟩
            generalize a'.eval = ρ at *
            simp [execOp, go_sem, e39]
          | 9, ho =>
            simp at ho; subst ho
            have e40 : a'.eval (.tmp 40) = .pointer (some ⟨M, 0, none⟩) := hvals 8 _ _ (by kernel_rfl) rfl rfl
            show s ≤ 5 → _
            intro hs
            refine .inl ⟨rfl, ?_⟩
            generalize a'.eval = ρ at *
            simp [execOp, go_sem, e40]
          | 10, ho =>
            simp at ho; subst ho
            have e41 : a'.eval (.tmp 41) = .pointer (some ⟨M, 0, none⟩) := hvals 9 _ _ (by kernel_rfl) rfl rfl
            show s ≤ 5 → _
            intro hs
            refine .inl ⟨rfl, ?_⟩
            generalize a'.eval = ρ at *
            simp [execOp, go_sem, e41]
          | 11, ho =>
            simp at ho; subst ho
            have e42 : a'.eval (.tmp 42) = .pointer (some ⟨M, 1, none⟩) := hvals 10 _ _ (by kernel_rfl) rfl rfl
            show s ≤ 5 → _
            intro hs
            refine .inl ⟨rfl, ?_⟩
            generalize a'.eval = ρ at *
            simp [execOp, go_sem, e42, y1]
          | 12, ho =>
            simp at ho; subst ho
            have e6 : a'.eval (.tmp 6) = .int .i64 k := (hfree 6 (by kernel_rfl)).trans rfl
            show s ≤ 5 → _
            intro hs
            refine .inl ⟨rfl, ?_⟩
            generalize a'.eval = ρ at *
            simp [execOp, go_sem, e6]
          | 13, ho =>
            simp at ho; subst ho
            have e44 : a'.eval (.tmp 44) = .int .i64 k := hvals 12 _ _ (by kernel_rfl) rfl rfl
            have ec0 : a'.eval (.const (.int .i64 0)) = .int .i64 0 := rfl
            show s ≤ 5 → _
            intro hs
            refine .inl ⟨rfl, ?_⟩
            generalize a'.eval = ρ at *
            simp [execOp, go_sem, e44, ec0, hz]
          | 14, ho =>
            simp at ho; subst ho
            have e6 : a'.eval (.tmp 6) = .int .i64 k := (hfree 6 (by kernel_rfl)).trans rfl
            show s ≤ 5 → _
            intro hs
            refine .inl ⟨rfl, ?_⟩
            generalize a'.eval = ρ at *
            simp [execOp, go_sem, e6]
          | 15, ho =>
            simp at ho; subst ho
            have e3 : a'.eval (.tmp 3) = .pointer (some ⟨w.heap.size, 0, none⟩) := (hfree 3 (by kernel_rfl)).trans rfl
            show s ≤ 5 → _
            intro hs
            refine .inl ⟨rfl, ?_⟩
            generalize a'.eval = ρ at *
            simp [execOp, go_sem, e3]
          | 16, ho =>
            simp at ho; subst ho
            have e47 : a'.eval (.tmp 47) = .pointer (some ⟨w.heap.size, 2, none⟩) := hvals 15 _ _ (by kernel_rfl) rfl rfl
            show s ≤ 5 → _
            intro hs
            refine .inl ⟨rfl, ?_⟩
            generalize a'.eval = ρ at *
            simp [execOp, go_sem, e47, z2]
          | 17, ho =>
            simp at ho; subst ho
            have e48 : a'.eval (.tmp 48) = .slice (some ⟨b, off, none⟩) n pc := hvals 16 _ _ (by kernel_rfl) rfl rfl
            show s ≤ 5 → _
            intro hs
            refine .inl ⟨rfl, ?_⟩
            generalize a'.eval = ρ at *
            simp [go_sem, e48]
          | 18, ho =>
            simp at ho; subst ho
            have e49 : a'.eval (.tmp 49) = .int .i64 n := hvals 17 _ _ (by kernel_rfl) rfl rfl
            have ec0 : a'.eval (.const (.int .i64 1)) = .int .i64 1 := rfl
            show s ≤ 5 → _
            intro hs
            refine .inl ⟨rfl, ?_⟩
            generalize a'.eval = ρ at *
            simp [execOp, go_sem, e49, ec0, hsub]
          | 19, ho =>
            simp at ho; subst ho
            have e46 : a'.eval (.tmp 46) = .int .i64 k := hvals 14 _ _ (by kernel_rfl) rfl rfl
            have e50 : a'.eval (.tmp 50) = .int .i64 (n - 1) := hvals 18 _ _ (by kernel_rfl) rfl rfl
            show s ≤ 5 → _
            intro hs
            refine .inl ⟨rfl, ?_⟩
            generalize a'.eval = ρ at *
            simp [execOp, go_sem, e46, e50, hen]
          | 20, ho =>
            simp at ho; subst ho
            have e6 : a'.eval (.tmp 6) = .int .i64 k := (hfree 6 (by kernel_rfl)).trans rfl
            show s ≤ 5 → _
            intro hs
            refine .inl ⟨rfl, ?_⟩
            generalize a'.eval = ρ at *
            simp [execOp, go_sem, e6]
          | 21, ho =>
            simp at ho; subst ho
            have e52 : a'.eval (.tmp 52) = .int .i64 k := hvals 20 _ _ (by kernel_rfl) rfl rfl
            have ec0 : a'.eval (.const (.int .i64 0)) = .int .i64 0 := rfl
            show s ≤ 5 → _
            intro hs
            refine .inl ⟨rfl, ?_⟩
            generalize a'.eval = ρ at *
            simp [execOp, go_sem, e52, ec0, hz]
          | 22, ho =>
            simp at ho; subst ho
            have e53 : a'.eval (.tmp 53) = .bool false := hvals 21 _ _ (by kernel_rfl) rfl rfl
            show s ≤ 5 → _
            intro hs
            refine .inl ⟨rfl, ?_⟩
            generalize a'.eval = ρ at *
            simp [execOp, go_sem, e53]
          | 23, ho =>
            simp at ho; subst ho
            have e3 : a'.eval (.tmp 3) = .pointer (some ⟨w.heap.size, 0, none⟩) := (hfree 3 (by kernel_rfl)).trans rfl
            show s ≤ 5 → _
            intro hs
            have hg : a'.eval (.tmp 54) = .bool false := hvals 22 _ _ (by kernel_rfl) rfl rfl
            have hy := tmps_of hg
            exact .inr ⟨by simp [Region.wanted, yielded, hy], rfl⟩
          | 24, ho =>
            simp at ho; subst ho
            have e55 : a'.eval (.tmp 55) = undef := hvals 23 _ _ (by kernel_rfl) rfl rfl
            show s ≤ 5 → _
            intro hs
            have hg : a'.eval (.tmp 54) = .bool false := hvals 22 _ _ (by kernel_rfl) rfl rfl
            have hy := tmps_of hg
            exact .inr ⟨by simp [Region.wanted, yielded, hy], rfl⟩
          | 25, ho =>
            simp at ho; subst ho
            have e54 : a'.eval (.tmp 54) = .bool false := hvals 22 _ _ (by kernel_rfl) rfl rfl
            have e56 : a'.eval (.tmp 56) = undef := hvals 24 _ _ (by kernel_rfl) rfl rfl
            have ec0 : a'.eval (.const (.bool false)) = .bool false := rfl
            show s ≤ 5 → _
            intro hs
            refine .inl ⟨rfl, ?_⟩
            generalize a'.eval = ρ at *
            simp [execOp, go_sem, e54, e56, ec0]
          | 26, ho =>
            simp at ho; subst ho
            have e7 : a'.eval (.tmp 7) = .string x := (hfree 7 (by kernel_rfl)).trans rfl
            show s ≤ 5 → _
            intro hs
            refine .inl ⟨rfl, ?_⟩
            generalize a'.eval = ρ at *
            simp [execOp, go_sem, e7]
          | 27, ho =>
            simp at ho; subst ho
            have e58 : a'.eval (.tmp 58) = .string x := hvals 26 _ _ (by kernel_rfl) rfl rfl
            show s = 0 → _ ∧ Oper.wp _ _ _ _ _ _
            intro hs
            subst hs
            refine ⟨rfl, ?_⟩
            have ef : a'.eval (.func 120) = .func (.func 120) #[] #[] := rfl
            have hB : Below WR.heap.size WR w' := hI
            refine oper_wp_call (f := 120) (args := #[.string x]) ?_ ?_
            · generalize a'.eval = ρ at *
              simp [execOp, go_sem, e58, ef]
            · refine (stringsClone_any x w' hx8).mono ?_
              rintro e w'' ⟨rfl, hb1⟩
              exact ⟨_, rfl, _, rfl, updR_at _ _ _, hB.trans (hb1.mono hB.size)⟩
          | 28, ho =>
            simp at ho; subst ho
            have e38 : a'.eval (.tmp 38) = .int .i64 sq := hvals 6 _ _ (by kernel_rfl) rfl rfl
            have e43 : a'.eval (.tmp 43) = .int .i64 T := hvals 11 _ _ (by kernel_rfl) rfl rfl
            have e45 : a'.eval (.tmp 45) = .bool false := hvals 13 _ _ (by kernel_rfl) rfl rfl
            have e51 : a'.eval (.tmp 51) = .bool en := hvals 19 _ _ (by kernel_rfl) rfl rfl
            have e57 : a'.eval (.tmp 57) = .bool false := hvals 25 _ _ (by kernel_rfl) rfl rfl
            have e59 : a'.eval (.tmp 59) = r 0 := hvals 27 _ _ (by kernel_rfl) rfl rfl
            show s = 1 → _ ∧ Oper.wp _ _ _ _ _ _
            intro hs
            subst hs
            refine ⟨rfl, ?_⟩
            obtain ⟨hr0, hB⟩ := hI
            rw [hr0] at e59
            refine oper_wp_ok (v := Pk.val ⟨sq, T, false, en, false, x⟩) (w' := w') ?_ ⟨_, rfl, updR_at _ _ _, hB⟩
            generalize a'.eval = ρ at *
            simp [execOp, go_sem, e38, e43, e45, e51, e57, e59, Pk.val]
          | 29, ho =>
            simp at ho; subst ho
            have e60 : a'.eval (.tmp 60) = r 1 := hvals 28 _ _ (by kernel_rfl) rfl rfl
            show s = 2 → _ ∧ Oper.wp _ _ _ _ _ _
            intro hs
            subst hs
            refine ⟨rfl, ?_⟩
            obtain ⟨hr1, hB⟩ := hI
            rw [hr1] at e60
            refine oper_wp_ok (v := .slice (some ⟨w'.heap.size, 0, none⟩) 1 1) (w' := w'.alloc (.cells (Pk.cells ⟨sq, T, false, en, false, x⟩) 63)) ?_ ⟨_, rfl, w', hB, rfl, updR_at _ _ _⟩
            generalize a'.eval = ρ at *
            simp [execOp, go_sem, e60, Pk.val, Pk.cells]
          | 30, ho =>
            simp at ho; subst ho
            have e32 : a'.eval (.tmp 32) = u5 := hvals 0 _ _ (by kernel_rfl) rfl rfl
            have e61 : a'.eval (.tmp 61) = r 2 := hvals 29 _ _ (by kernel_rfl) rfl rfl
            show s = 3 → _ ∧ Oper.wp _ _ _ _ _ _
            intro hs
            subst hs
            refine ⟨rfl, ?_⟩
            obtain ⟨V, hB, hw, hr2⟩ := hI
            rw [hr2] at e61
            subst hw
            obtain ⟨v', w2, hrun, g2, g3⟩ := pk_snoc ⟨sq, T, false, en, false, x⟩ (owns_below HOW.out hB (Nat.le_refl _)) (by omega) (by have := hB.size; omega)
            refine oper_wp_ok (v := v') (w' := w2) ?_ ⟨_, rfl, V, hB, ?_, g3⟩
            · generalize a'.eval = ρ at *
              simp [execOp, resolve, invoke, builtin, e32, e61, hrun, Result.andThen]
            · rw [updR_at]; exact g2
          | 31, ho =>
            simp at ho; subst ho
            have e62 : a'.eval (.tmp 62) = r 3 := hvals 30 _ _ (by kernel_rfl) rfl rfl
            show s = 4 → _ ∧ Oper.wp _ _ _ _ _ _
            intro hs
            subst hs
            refine ⟨rfl, ?_⟩
            obtain ⟨V, hB, g2, g3⟩ := hI
            refine oper_wp_ok (v := r 3) (w' := w') ?_ ⟨_, rfl, V, hB, ?_, g3⟩
            · generalize a'.eval = ρ at *
              simp [execOp, go_sem, e62]
            · rw [updR_at]; exact g2
        case fin =>
          rintro r w7 ⟨V, hB, g2, g3⟩
          simp only [putC, Ck.out, Act.put, List.setIfInBounds_toArray, List.set_cons_succ, List.set_cons_zero]
          have hVs := hB.size
          have hM7 : Blk w7 M #[.int .i64 lk, .int .i64 T, .int .i64 s0] 150 := (g3.block M (by simp; omega) hMu).trans (((KMR.out.below hB KMR.out.lt)).alloc _)
          have h1 : Kept [M] W0 (V.alloc (.cells (Pk.cells ⟨sq, T, false, en, false, x⟩) 63)) := (HKR.out.below hB).alloc _
          have hK7 : Kept [M] W0 w7 := ⟨g3.os.trans h1.os, g3.tape.trans h1.tape, g3.output.trans h1.output, Nat.le_trans h1.size g3.size, fun j hj hn => (g3.block j (Nat.lt_of_lt_of_le hj h1.size) (fun e => by have := (HOW.out.lt j e.symm).1; have := HZ0.out.1; omega)).trans (h1.block j hj hn)⟩
          clear h1
          have HO7 : Hid (w7.ownsRow base 63 6 (r 4) (k + 1) (pkCells (pksK l T fk ps (k + 1)))) := by rw [HPK.out]; exact g2
          have HM7 : Hid (Blk w7 M #[.int .i64 lk, .int .i64 T, .int .i64 s0] 150) := hM7
          have HK7 : Hid (Kept [M] W0 w7) := hK7
          clear hM7 hK7 g2 g3 hB
          go_wp2_with fail
          go_roundw
          case rel => exact ⟨k + 1, by omega, by go_num, by rw [HLK.out] at HM7; exact HM7.out, HO7.out, HK7.out⟩
          case measure => simp [intOf]; omega
      case true =>
        refine region_chainG (by kernel_rfl) (by kernel_rfl) [.quiet (u5) 5, .quiet (.pointer (some ⟨M, 0, none⟩)) 5, .quiet (.pointer (some ⟨M, 0, none⟩)) 5, .quiet (.pointer (some ⟨M, 0, none⟩)) 5, .quiet (.pointer (some ⟨M, 0, none⟩)) 5, .quiet (.int .i64 lk) 5, .quiet (.int .i64 sq) 5, .quiet (.pointer (some ⟨M, 0, none⟩)) 5, .quiet (.pointer (some ⟨M, 0, none⟩)) 5, .quiet (.pointer (some ⟨M, 0, none⟩)) 5, .quiet (.pointer (some ⟨M, 1, none⟩)) 5, .quiet (.int .i64 T) 5, .quiet (.int .i64 k) 5, .quiet (.bool true) 5, .quiet (.int .i64 k) 5, .quiet (.pointer (some ⟨w.heap.size, 2, none⟩)) 5, .quiet (.slice (some ⟨b, off, none⟩) n pc) 5, .quiet (.int .i64 n) 5, .quiet (.int .i64 (n - 1)) 5, .quiet (.bool en) 5, .quiet (.int .i64 k) 5, .quiet (.bool true) 5, .quiet (.bool true) 5, .quiet (.pointer (some ⟨w.heap.size, 1, none⟩)) 5, .quiet (.bool fk) 5, .quiet (.bool fk) 5, .quiet (.string x) 5, .step 0, .step 1, .step 2, .step 3, .step 4] [27, 28, 29, 30, 31] (by kernel_rfl)
          (fun s r w' => match s with
            | 0 => Below WR.heap.size WR w'
            | 1 => r 0 = .string x ∧ Below WR.heap.size WR w'
            | 2 => r 1 = (Pk.val ⟨sq, T, true, en, fk, x⟩) ∧ Below WR.heap.size WR w'
            | 3 => ∃ V, Below WR.heap.size WR V ∧ w' = V.alloc (.cells (Pk.cells ⟨sq, T, true, en, fk, x⟩) 63) ∧ r 2 = .slice (some ⟨V.heap.size, 0, none⟩) 1 1
            | 4 => ∃ V, Below WR.heap.size WR V ∧ w'.ownsRow base 63 6 (r 3) (k + 1) (pkCells (PL ++ [⟨sq, T, true, en, fk, x⟩])) ∧ (V.alloc (.cells (Pk.cells ⟨sq, T, true, en, fk, x⟩) 63)).grownBy w' u5.ownBlock
            | _ => ∃ V, Below WR.heap.size WR V ∧ w'.ownsRow base 63 6 (r 4) (k + 1) (pkCells (PL ++ [⟨sq, T, true, en, fk, x⟩])) ∧ (V.alloc (.cells (Pk.cells ⟨sq, T, true, en, fk, x⟩) 63)).grownBy w' u5.ownBlock
            ) ((Below.refl _ WR).drew) ?step ?fin
        case step =>
          intro i o ho a' w' s r hI hfree hvals
          have hcell : ∀ a : Addr, a.block < WR.heap.size → some a.block ≠ u5.ownBlock → w'.cell? a = WR.cell? a := fun a ha hne => by
            match s, hI with
            | 0, hI => exact Below.cell hI ha
            | 1, ⟨_, hI⟩ => exact Below.cell hI ha
            | 2, ⟨_, hI⟩ => exact Below.cell hI ha
            | 3, ⟨V, hI, hw, _⟩ => rw [hw]; exact Below.cell (hI.alloc hI.size _) ha
            | 4, ⟨V, hI, _, hg⟩ => exact (grown_cell hg (by simp; have := hI.size; omega) hne).trans (Below.cell (hI.alloc hI.size _) ha)
            | n + 5, ⟨V, hI, _, hg⟩ => exact (grown_cell hg (by simp; have := hI.size; omega) hne).trans (Below.cell (hI.alloc hI.size _) ha)
          have y0 := (hcell ⟨M, 0, none⟩ hMl hMu).trans q0
          have y1 := (hcell ⟨M, 1, none⟩ hMl hMu).trans q1
          have z1 := (hcell ⟨w.heap.size, 1, none⟩ hFl hFu).trans p1
          have z2 := (hcell ⟨w.heap.size, 2, none⟩ hFl hFu).trans p2
          clear hcell
          match i, ho with
          | 0, ho =>
            simp at ho; subst ho
            have e5 : a'.eval (.tmp 5) = u5 := (hfree 5 (by kernel_rfl)).trans rfl
            show s ≤ 5 → _
            intro hs
            refine .inl ⟨rfl, ?_⟩
            generalize a'.eval = ρ at *
            simp [execOp, go_sem, e5]
          | 1, ho =>
            simp at ho; subst ho
            have e0 : a'.eval (.tmp 0) = .pointer (some ⟨M, 0, none⟩) := (hfree 0 (by kernel_rfl)).trans rfl
            show s ≤ 5 → _
            intro hs
            refine .inl ⟨rfl, ?_⟩
            generalize a'.eval = ρ at *
            simp [execOp, go_sem, e0]
          | 2, ho =>
            simp at ho; subst ho
            have e33 : a'.eval (.tmp 33) = .pointer (some ⟨M, 0, none⟩) := hvals 1 _ _ (by kernel_rfl) rfl rfl
            show s ≤ 5 → _
            intro hs
            refine .inl ⟨rfl, ?_⟩
            generalize a'.eval = ρ at *
            simp [execOp, go_sem, e33]
          | 3, ho =>
            simp at ho; subst ho
            have e34 : a'.eval (.tmp 34) = .pointer (some ⟨M, 0, none⟩) := hvals 2 _ _ (by kernel_rfl) rfl rfl
            show s ≤ 5 → _
            intro hs
            refine .inl ⟨rfl, ?_⟩
            generalize a'.eval = ρ at *
            simp [execOp, go_sem, e34]
          | 4, ho =>
            simp at ho; subst ho
            have e35 : a'.eval (.tmp 35) = .pointer (some ⟨M, 0, none⟩) := hvals 3 _ _ (by kernel_rfl) rfl rfl
            show s ≤ 5 → _
            intro hs
            refine .inl ⟨rfl, ?_⟩
            generalize a'.eval = ρ at *
            simp [execOp, go_sem, e35]
          | 5, ho =>
            simp at ho; subst ho
            have e36 : a'.eval (.tmp 36) = .pointer (some ⟨M, 0, none⟩) := hvals 4 _ _ (by kernel_rfl) rfl rfl
            show s ≤ 5 → _
            intro hs
            refine .inl ⟨rfl, ?_⟩
            generalize a'.eval = ρ at *
            simp [execOp, go_sem, e36, y0]
          | 6, ho =>
            simp at ho; subst ho
            have e37 : a'.eval (.tmp 37) = .int .i64 lk := hvals 5 _ _ (by kernel_rfl) rfl rfl
            have ec0 : a'.eval (.const (.int .i64 65536)) = .int .i64 65536 := rfl
            show s ≤ 5 → _
            intro hs
            refine .inl ⟨rfl, ?_⟩
            generalize a'.eval = ρ at *
            simp [execOp, go_sem, e37, ec0, hrem]
          | 7, ho =>
            simp at ho; subst ho
            have e0 : a'.eval (.tmp 0) = .pointer (some ⟨M, 0, none⟩) := (hfree 0 (by kernel_rfl)).trans rfl
            show s ≤ 5 → _
            intro hs
            refine .inl ⟨rfl, ?_⟩
            generalize a'.eval = ρ at *
            simp [execOp, go_sem, e0]
          | 8, ho =>
            simp at ho; subst ho
            have e39 : a'.eval (.tmp 39) = .pointer (some ⟨M, 0, none⟩) := hvals 7 _ _ (by kernel_rfl) rfl rfl
            show s ≤ 5 → _
            intro hs
            refine .inl ⟨rfl, ?_⟩
            generalize a'.eval = ρ at *
            simp [execOp, go_sem, e39]
          | 9, ho =>
            simp at ho; subst ho
            have e40 : a'.eval (.tmp 40) = .pointer (some ⟨M, 0, none⟩) := hvals 8 _ _ (by kernel_rfl) rfl rfl
            show s ≤ 5 → _
            intro hs
            refine .inl ⟨rfl, ?_⟩
            generalize a'.eval = ρ at *
            simp [execOp, go_sem, e40]
          | 10, ho =>
            simp at ho; subst ho
            have e41 : a'.eval (.tmp 41) = .pointer (some ⟨M, 0, none⟩) := hvals 9 _ _ (by kernel_rfl) rfl rfl
            show s ≤ 5 → _
            intro hs
            refine .inl ⟨rfl, ?_⟩
            generalize a'.eval = ρ at *
            simp [execOp, go_sem, e41]
          | 11, ho =>
            simp at ho; subst ho
            have e42 : a'.eval (.tmp 42) = .pointer (some ⟨M, 1, none⟩) := hvals 10 _ _ (by kernel_rfl) rfl rfl
            show s ≤ 5 → _
            intro hs
            refine .inl ⟨rfl, ?_⟩
            generalize a'.eval = ρ at *
            simp [execOp, go_sem, e42, y1]
          | 12, ho =>
            simp at ho; subst ho
            have e6 : a'.eval (.tmp 6) = .int .i64 k := (hfree 6 (by kernel_rfl)).trans rfl
            show s ≤ 5 → _
            intro hs
            refine .inl ⟨rfl, ?_⟩
            generalize a'.eval = ρ at *
            simp [execOp, go_sem, e6]
          | 13, ho =>
            simp at ho; subst ho
            have e44 : a'.eval (.tmp 44) = .int .i64 k := hvals 12 _ _ (by kernel_rfl) rfl rfl
            have ec0 : a'.eval (.const (.int .i64 0)) = .int .i64 0 := rfl
            show s ≤ 5 → _
            intro hs
            refine .inl ⟨rfl, ?_⟩
            generalize a'.eval = ρ at *
            simp [execOp, go_sem, e44, ec0, hz]
          | 14, ho =>
            simp at ho; subst ho
            have e6 : a'.eval (.tmp 6) = .int .i64 k := (hfree 6 (by kernel_rfl)).trans rfl
            show s ≤ 5 → _
            intro hs
            refine .inl ⟨rfl, ?_⟩
            generalize a'.eval = ρ at *
            simp [execOp, go_sem, e6]
          | 15, ho =>
            simp at ho; subst ho
            have e3 : a'.eval (.tmp 3) = .pointer (some ⟨w.heap.size, 0, none⟩) := (hfree 3 (by kernel_rfl)).trans rfl
            show s ≤ 5 → _
            intro hs
            refine .inl ⟨rfl, ?_⟩
            generalize a'.eval = ρ at *
            simp [execOp, go_sem, e3]
          | 16, ho =>
            simp at ho; subst ho
            have e47 : a'.eval (.tmp 47) = .pointer (some ⟨w.heap.size, 2, none⟩) := hvals 15 _ _ (by kernel_rfl) rfl rfl
            show s ≤ 5 → _
            intro hs
            refine .inl ⟨rfl, ?_⟩
            generalize a'.eval = ρ at *
            simp [execOp, go_sem, e47, z2]
          | 17, ho =>
            simp at ho; subst ho
            have e48 : a'.eval (.tmp 48) = .slice (some ⟨b, off, none⟩) n pc := hvals 16 _ _ (by kernel_rfl) rfl rfl
            show s ≤ 5 → _
            intro hs
            refine .inl ⟨rfl, ?_⟩
            generalize a'.eval = ρ at *
            simp [go_sem, e48]
          | 18, ho =>
            simp at ho; subst ho
            have e49 : a'.eval (.tmp 49) = .int .i64 n := hvals 17 _ _ (by kernel_rfl) rfl rfl
            have ec0 : a'.eval (.const (.int .i64 1)) = .int .i64 1 := rfl
            show s ≤ 5 → _
            intro hs
            refine .inl ⟨rfl, ?_⟩
            generalize a'.eval = ρ at *
            simp [execOp, go_sem, e49, ec0, hsub]
          | 19, ho =>
            simp at ho; subst ho
            have e46 : a'.eval (.tmp 46) = .int .i64 k := hvals 14 _ _ (by kernel_rfl) rfl rfl
            have e50 : a'.eval (.tmp 50) = .int .i64 (n - 1) := hvals 18 _ _ (by kernel_rfl) rfl rfl
            show s ≤ 5 → _
            intro hs
            refine .inl ⟨rfl, ?_⟩
            generalize a'.eval = ρ at *
            simp [execOp, go_sem, e46, e50, hen]
          | 20, ho =>
            simp at ho; subst ho
            have e6 : a'.eval (.tmp 6) = .int .i64 k := (hfree 6 (by kernel_rfl)).trans rfl
            show s ≤ 5 → _
            intro hs
            refine .inl ⟨rfl, ?_⟩
            generalize a'.eval = ρ at *
            simp [execOp, go_sem, e6]
          | 21, ho =>
            simp at ho; subst ho
            have e52 : a'.eval (.tmp 52) = .int .i64 k := hvals 20 _ _ (by kernel_rfl) rfl rfl
            have ec0 : a'.eval (.const (.int .i64 0)) = .int .i64 0 := rfl
            show s ≤ 5 → _
            intro hs
            refine .inl ⟨rfl, ?_⟩
            generalize a'.eval = ρ at *
            simp [execOp, go_sem, e52, ec0, hz]
          | 22, ho =>
            simp at ho; subst ho
            have e53 : a'.eval (.tmp 53) = .bool true := hvals 21 _ _ (by kernel_rfl) rfl rfl
            show s ≤ 5 → _
            intro hs
            refine .inl ⟨rfl, ?_⟩
            generalize a'.eval = ρ at *
            simp [execOp, go_sem, e53]
          | 23, ho =>
            simp at ho; subst ho
            have e3 : a'.eval (.tmp 3) = .pointer (some ⟨w.heap.size, 0, none⟩) := (hfree 3 (by kernel_rfl)).trans rfl
            show s ≤ 5 → _
            intro hs
            have hg : a'.eval (.tmp 54) = .bool true := hvals 22 _ _ (by kernel_rfl) rfl rfl
            have hy := tmps_of hg
            refine .inl ⟨by simp [Region.wanted, yielded, hy], ?_⟩
            generalize a'.eval = ρ at *
            simp [execOp, go_sem, e3]
          | 24, ho =>
            simp at ho; subst ho
            have e55 : a'.eval (.tmp 55) = .pointer (some ⟨w.heap.size, 1, none⟩) := hvals 23 _ _ (by kernel_rfl) rfl rfl
            show s ≤ 5 → _
            intro hs
            have hg : a'.eval (.tmp 54) = .bool true := hvals 22 _ _ (by kernel_rfl) rfl rfl
            have hy := tmps_of hg
            refine .inl ⟨by simp [Region.wanted, yielded, hy], ?_⟩
            generalize a'.eval = ρ at *
            simp [execOp, go_sem, e55, z1]
          | 25, ho =>
            simp at ho; subst ho
            have e54 : a'.eval (.tmp 54) = .bool true := hvals 22 _ _ (by kernel_rfl) rfl rfl
            have e56 : a'.eval (.tmp 56) = .bool fk := hvals 24 _ _ (by kernel_rfl) rfl rfl
            have ec0 : a'.eval (.const (.bool false)) = .bool false := rfl
            show s ≤ 5 → _
            intro hs
            refine .inl ⟨rfl, ?_⟩
            generalize a'.eval = ρ at *
            simp [execOp, go_sem, e54, e56, ec0]
          | 26, ho =>
            simp at ho; subst ho
            have e7 : a'.eval (.tmp 7) = .string x := (hfree 7 (by kernel_rfl)).trans rfl
            show s ≤ 5 → _
            intro hs
            refine .inl ⟨rfl, ?_⟩
            generalize a'.eval = ρ at *
            simp [execOp, go_sem, e7]
          | 27, ho =>
            simp at ho; subst ho
            have e58 : a'.eval (.tmp 58) = .string x := hvals 26 _ _ (by kernel_rfl) rfl rfl
            show s = 0 → _ ∧ Oper.wp _ _ _ _ _ _
            intro hs
            subst hs
            refine ⟨rfl, ?_⟩
            have ef : a'.eval (.func 120) = .func (.func 120) #[] #[] := rfl
            have hB : Below WR.heap.size WR w' := hI
            refine oper_wp_call (f := 120) (args := #[.string x]) ?_ ?_
            · generalize a'.eval = ρ at *
              simp [execOp, go_sem, e58, ef]
            · refine (stringsClone_any x w' hx8).mono ?_
              rintro e w'' ⟨rfl, hb1⟩
              exact ⟨_, rfl, _, rfl, updR_at _ _ _, hB.trans (hb1.mono hB.size)⟩
          | 28, ho =>
            simp at ho; subst ho
            have e38 : a'.eval (.tmp 38) = .int .i64 sq := hvals 6 _ _ (by kernel_rfl) rfl rfl
            have e43 : a'.eval (.tmp 43) = .int .i64 T := hvals 11 _ _ (by kernel_rfl) rfl rfl
            have e45 : a'.eval (.tmp 45) = .bool true := hvals 13 _ _ (by kernel_rfl) rfl rfl
            have e51 : a'.eval (.tmp 51) = .bool en := hvals 19 _ _ (by kernel_rfl) rfl rfl
            have e57 : a'.eval (.tmp 57) = .bool fk := hvals 25 _ _ (by kernel_rfl) rfl rfl
            have e59 : a'.eval (.tmp 59) = r 0 := hvals 27 _ _ (by kernel_rfl) rfl rfl
            show s = 1 → _ ∧ Oper.wp _ _ _ _ _ _
            intro hs
            subst hs
            refine ⟨rfl, ?_⟩
            obtain ⟨hr0, hB⟩ := hI
            rw [hr0] at e59
            refine oper_wp_ok (v := Pk.val ⟨sq, T, true, en, fk, x⟩) (w' := w') ?_ ⟨_, rfl, updR_at _ _ _, hB⟩
            generalize a'.eval = ρ at *
            simp [execOp, go_sem, e38, e43, e45, e51, e57, e59, Pk.val]
          | 29, ho =>
            simp at ho; subst ho
            have e60 : a'.eval (.tmp 60) = r 1 := hvals 28 _ _ (by kernel_rfl) rfl rfl
            show s = 2 → _ ∧ Oper.wp _ _ _ _ _ _
            intro hs
            subst hs
            refine ⟨rfl, ?_⟩
            obtain ⟨hr1, hB⟩ := hI
            rw [hr1] at e60
            refine oper_wp_ok (v := .slice (some ⟨w'.heap.size, 0, none⟩) 1 1) (w' := w'.alloc (.cells (Pk.cells ⟨sq, T, true, en, fk, x⟩) 63)) ?_ ⟨_, rfl, w', hB, rfl, updR_at _ _ _⟩
            generalize a'.eval = ρ at *
            simp [execOp, go_sem, e60, Pk.val, Pk.cells]
          | 30, ho =>
            simp at ho; subst ho
            have e32 : a'.eval (.tmp 32) = u5 := hvals 0 _ _ (by kernel_rfl) rfl rfl
            have e61 : a'.eval (.tmp 61) = r 2 := hvals 29 _ _ (by kernel_rfl) rfl rfl
            show s = 3 → _ ∧ Oper.wp _ _ _ _ _ _
            intro hs
            subst hs
            refine ⟨rfl, ?_⟩
            obtain ⟨V, hB, hw, hr2⟩ := hI
            rw [hr2] at e61
            subst hw
            obtain ⟨v', w2, hrun, g2, g3⟩ := pk_snoc ⟨sq, T, true, en, fk, x⟩ (owns_below HOW.out hB (Nat.le_refl _)) (by omega) (by have := hB.size; omega)
            refine oper_wp_ok (v := v') (w' := w2) ?_ ⟨_, rfl, V, hB, ?_, g3⟩
            · generalize a'.eval = ρ at *
              simp [execOp, resolve, invoke, builtin, e32, e61, hrun, Result.andThen]
            · rw [updR_at]; exact g2
          | 31, ho =>
            simp at ho; subst ho
            have e62 : a'.eval (.tmp 62) = r 3 := hvals 30 _ _ (by kernel_rfl) rfl rfl
            show s = 4 → _ ∧ Oper.wp _ _ _ _ _ _
            intro hs
            subst hs
            refine ⟨rfl, ?_⟩
            obtain ⟨V, hB, g2, g3⟩ := hI
            refine oper_wp_ok (v := r 3) (w' := w') ?_ ⟨_, rfl, V, hB, ?_, g3⟩
            · generalize a'.eval = ρ at *
              simp [execOp, go_sem, e62]
            · rw [updR_at]; exact g2
        case fin =>
          rintro r w7 ⟨V, hB, g2, g3⟩
          simp only [putC, Ck.out, Act.put, List.setIfInBounds_toArray, List.set_cons_succ, List.set_cons_zero]
          have hVs := hB.size
          have hM7 : Blk w7 M #[.int .i64 lk, .int .i64 T, .int .i64 s0] 150 := (g3.block M (by simp; omega) hMu).trans (((KMR.out.below hB KMR.out.lt)).alloc _)
          have h1 : Kept [M] W0 (V.alloc (.cells (Pk.cells ⟨sq, T, true, en, fk, x⟩) 63)) := (HKR.out.below hB).alloc _
          have hK7 : Kept [M] W0 w7 := ⟨g3.os.trans h1.os, g3.tape.trans h1.tape, g3.output.trans h1.output, Nat.le_trans h1.size g3.size, fun j hj hn => (g3.block j (Nat.lt_of_lt_of_le hj h1.size) (fun e => by have := (HOW.out.lt j e.symm).1; have := HZ0.out.1; omega)).trans (h1.block j hj hn)⟩
          clear h1
          have HO7 : Hid (w7.ownsRow base 63 6 (r 4) (k + 1) (pkCells (pksK l T fk ps (k + 1)))) := by rw [HPK.out]; exact g2
          have HM7 : Hid (Blk w7 M #[.int .i64 lk, .int .i64 T, .int .i64 s0] 150) := hM7
          have HK7 : Hid (Kept [M] W0 w7) := hK7
          clear hM7 hK7 g2 g3 hB
          go_wp2_with fail
          go_roundw
          case rel => exact ⟨k + 1, by omega, by go_num, by rw [HLK.out] at HM7; exact HM7.out, HO7.out, HK7.out⟩
          case measure => simp [intOf]; omega
    · have hkn : k = n := by omega
      subst hkn
      clear HSr
      go_wp2
      go_ret
      exact ⟨_, rfl, by rw [pksOf, ← HN.out]; exact HO.out, HM.out, ⟨by rw [HK.out.os, HZ0.out.2.os], by rw [HK.out.tape, HZ0.out.2.tape], by rw [HK.out.output, HZ0.out.2.output], Nat.le_trans HZ0.out.2.size HK.out.size, fun j hj hn => (HK.out.block j (Nat.lt_of_lt_of_le hj HZ0.out.2.size) hn).trans (HZ0.out.2.block j hj)⟩⟩

end Go.Proofs.YtnpaejknoipicagGreat

namespace Go.Proofs.YtnpaejknoipicagGreat
open Go.RowKit

def sdS (l t s ft : Int) (turn : Bool) : Int := if turn = true ∨ l = 0 then t + 10 - ft else s
def sdE (l t s : Int) (f : Fr) (turn : Bool) : Int := if outE l t s = 0 then (if f.chk = 0 then roomE l t (sdS l t s f.time turn) f.time f.parts.length else f.chk) else outE l t s
def sdP (l t s : Int) (f : Fr) (turn : Bool) : List Pk := if sdE l t s f turn = 0 then pksOf l (f.time + sdS l t s f.time turn) f.key f.parts else []
def sdO (l t s : Int) (f : Fr) (turn : Bool) : Int × Int × Int := if sdE l t s f turn = 0 then (l + f.parts.length, f.time + sdS l t s f.time turn, sdS l t s f.time turn) else (0, 0, 0)
theorem sdE_zero {l t s : Int} {f : Fr} {turn : Bool} : sdE l t s f turn = 0 ↔ outE l t s = 0 ∧ f.chk = 0 ∧ roomE l t (sdS l t s f.time turn) f.time f.parts.length = 0 := by
  unfold sdE
  by_cases h1 : outE l t s = 0
  · rw [if_pos h1]
    by_cases h2 : f.chk = 0
    · rw [if_pos h2]; exact ⟨fun h => ⟨h1, h2, h⟩, fun h => h.2.2⟩
    · rw [if_neg h2]; exact ⟨fun h => absurd h h2, fun h => absurd h.2.1 h2⟩
  · rw [if_neg h1]; exact ⟨fun h => absurd h h1, fun h => absurd h.1 h1⟩

theorem owns_le {w : World} {base base' : Nat} {e : TypeId} {size n : Nat} {v : Value} {xs : List Value} (h : w.ownsRow base e size v n xs) (hb : base' ≤ base) : w.ownsRow base' e size v n xs := by
  obtain ⟨h1, h2 | ⟨g, cap, cur, h3, h4, h5⟩⟩ := h
  · exact ⟨h1, .inl h2⟩
  · exact ⟨h1, .inr ⟨g, cap, cur, h3, Nat.le_trans hb h4, h5⟩⟩
theorem owns_slice6 {w : World} {base : Nat} {e : TypeId} {size n : Nat} {v : Value} {xs : List Value} (h : w.ownsRow base e size v n xs) : ∃ a c, v = .slice a n c := by
  obtain ⟨_, ⟨rfl, rfl⟩ | ⟨g, cap, cur, rfl, _⟩⟩ := h
  · exact ⟨_, _, rfl⟩
  · exact ⟨_, _, rfl⟩

set_option maxHeartbeats 8000000 in
set_option maxRecDepth 100000 in
theorem outSend_any (l t s : Int) (f : Fr) (pv : Value) (turn : Bool) (w : World) (hp : StrsIn (fun _ => True) w pv f.parts) :
    Calls Tryz.prog 54 #[.agg #[.int .i64 l, .int .i64 t, .int .i64 s], .agg #[.int .i64 f.time, .bool f.key, pv], .bool turn] w fun e w' => ∃ v, e = .returned (.tuple #[.agg #[.int .i64 (sdO l t s f turn).1, .int .i64 (sdO l t s f turn).2.1, .int .i64 (sdO l t s f turn).2.2], v, .int .i64 (sdE l t s f turn)]) ∧ w'.ownsRow w.heap.size 63 6 v (sdP l t s f turn).length (pkCells (sdP l t s f turn)) ∧ Below w.heap.size w w' := by
  obtain ⟨pa, pc, ep⟩ := hp.1.len
  obtain ⟨ft, hft⟩ : ∃ x, x = f.time := ⟨_, rfl⟩
  obtain ⟨fk, hfk⟩ : ∃ x, x = f.key := ⟨_, rfl⟩
  obtain ⟨n, hn⟩ : ∃ x, x = f.parts.length := ⟨_, rfl⟩
  obtain ⟨E, hE⟩ : ∃ E, E = sdE l t s f turn := ⟨_, rfl⟩
  obtain ⟨E1, hE1⟩ : ∃ E, E = outE l t s := ⟨_, rfl⟩
  obtain ⟨E2, hE2⟩ : ∃ E, E = f.chk := ⟨_, rfl⟩
  obtain ⟨S, hS⟩ : ∃ x, x = sdS l t s f.time turn := ⟨_, rfl⟩
  obtain ⟨E3, hE3⟩ : ∃ E, E = roomE l t S f.time f.parts.length := ⟨_, rfl⟩
  obtain ⟨O, hO⟩ : ∃ x, x = sdO l t s f turn := ⟨_, rfl⟩
  obtain ⟨P, hP⟩ : ∃ x, x = sdP l t s f turn := ⟨_, rfl⟩
  have hEE0 : E = if E1 = 0 then (if E2 = 0 then E3 else E2) else E1 := by rw [hE, hE1, hE2, hE3, hS]; rfl
  have HEA : Hid (¬ E1 = 0 → E = E1) := fun h => by rw [hEE0, if_neg h]
  have HEB : Hid (E1 = 0 → ¬ E2 = 0 → E = E2) := fun h h' => by rw [hEE0, if_pos h, if_neg h']
  have HEC : Hid (E1 = 0 → E2 = 0 → E = E3) := fun h h' => by rw [hEE0, if_pos h, if_pos h']
  clear hEE0
  have HBAD : Hid (¬ E = 0 → O = (0, 0, 0) ∧ P = []) := fun h => by
    rw [hE] at h
    rw [hO, hP]; exact ⟨if_neg h, if_neg h⟩
  have HGOOD : Hid (E = 0 → O = (l + n, ft + S, S) ∧ P = pksOf l (ft + S) fk f.parts ∧ P.length = n) := fun h => by
    rw [hE] at h
    have e : P = pksOf l (ft + S) fk f.parts := by rw [hP, hft, hfk, hS]; exact if_pos h
    refine ⟨by rw [hO, hft, hn, hS]; exact if_pos h, e, by rw [e, pksOf, pksK_len, hn]⟩
  have HZ1 : Hid (E1 = 0 → 0 ≤ l ∧ l ≤ 1000000000 ∧ 0 ≤ t ∧ t ≤ 1000000 ∧ -1000000 ≤ s ∧ s ≤ 1000000) := fun h => outE_zero.1 (by rw [← hE1]; exact h)
  have HZ2 : Hid (E2 = 0 → f.chk = 0 ∧ 0 ≤ ft ∧ ft ≤ 1000000 ∧ 0 < n ∧ n ≤ 4) := fun h => by
    rw [hE2] at h
    have := chkF_zero h
    rw [hft, hn]; exact ⟨h, this.1, this.2.1, this.2.2.1, this.2.2.2.1⟩
  have HSS : Hid (((turn = true ∨ l = 0) → S = t + 10 - ft) ∧ (¬ (turn = true ∨ l = 0) → S = s)) := by
    rw [hS, hft]; exact ⟨fun h => if_pos h, fun h => if_neg h⟩
  have HCF : Hid (∀ U : World, Below w.heap.size w U → Calls Tryz.prog 94 #[.agg #[.int .i64 ft, .bool fk, pv]] U fun e w' => e = .returned (.int .i64 E2) ∧ Below U.heap.size U w') := fun U hU => by
    rw [hft, hE2]; exact frameCheck_any _ _ _ _ _ (hp.below hU).1 hp.2.1
  have HE3 : Hid (E3 = roomE l t S ft n) := by show _ = _; rw [hE3, hft, hn]
  have HE1 : Hid (outE l t s = E1) := hE1.symm
  have HF : Hid (ft = f.time ∧ fk = f.key ∧ n = f.parts.length) := ⟨hft, hfk, hn⟩
  rw [← hn] at ep
  rw [← hE, ← hO, ← hP, ← hft, ← hfk]
  obtain ⟨W0, hW0⟩ : ∃ W0, W0 = ((w.alloc (.cells #[.int .i64 l, .int .i64 t, .int .i64 s] 38)).alloc (.cells #[.int .i64 ft, .bool fk, pv] 98)).alloc (.cells #[.int .i64 0, .int .i64 0, .int .i64 0] 38) := ⟨_, rfl⟩
  have HS0 : Hid (Stay W0 (fun U => (Blk U w.heap.size #[.int .i64 l, .int .i64 t, .int .i64 s] 38 ∧ Blk U (w.heap.size + 1) #[.int .i64 ft, .bool fk, pv] 98 ∧ Blk U (w.heap.size + 1 + 1) #[.int .i64 0, .int .i64 0, .int .i64 0] 38) ∧ StrsIn (fun g => g < w.heap.size) U pv f.parts ∧ Below w.heap.size w U)) := by
    rw [hW0]
    have h2 := Blk.new (w.alloc (.cells #[.int .i64 l, .int .i64 t, .int .i64 s] 38)) #[.int .i64 ft, .bool fk, pv] 98
    have h3 := Blk.new ((w.alloc (.cells #[.int .i64 l, .int .i64 t, .int .i64 s] 38)).alloc (.cells #[.int .i64 ft, .bool fk, pv] 98)) #[.int .i64 0, .int .i64 0, .int .i64 0] 38
    rw [World.size_alloc] at h2
    rw [World.size_alloc, World.size_alloc] at h3
    exact (((((Blk.new _ _ _).alloc _).alloc _).stay).and ((h2.alloc _).stay.and h3.stay)).and ((((hp.mono (S' := fun g => g < w.heap.size) fun g h _ => h).stay.and (below_stay0 w)).alloc _ |>.alloc _).alloc _)
  clear hft hfk hn hE hE1 hE2 hE3 hS hO hP hp
  subst ep
  go_enter Tryz.func54, Tryz.ntmps54
  go_wp2_with fail
  rw [← hW0]
  clear hW0
  refine (outCheck_any l t s W0).mono ?_
  have HOC : Hid (outE l t s = E1) := HE1
  rw [HOC.out]
  rintro e w1 ⟨rfl, b1⟩
  have HS1 := Stay.go HS0 b1
  clear b1 HS0 HOC
  -- an error: the result's cells are zero
  have HNO : Hid (∀ U : World, Blk U (w.heap.size + 1 + 1) #[.int .i64 0, .int .i64 0, .int .i64 0] 38 → Below w.heap.size w U → ∃ V, V = ((U.setCell ⟨w.heap.size + 1 + 1, 0, none⟩ (.int .i64 0)).setCell ⟨w.heap.size + 1 + 1, 1, none⟩ (.int .i64 0)).setCell ⟨w.heap.size + 1 + 1, 2, none⟩ (.int .i64 0) ∧ Blk V (w.heap.size + 1 + 1) #[.int .i64 0, .int .i64 0, .int .i64 0] 38 ∧ Below w.heap.size w V) := fun U hU hb => ⟨_, rfl, hU.put3 _ _ _, ((hb.setCell (p := ⟨w.heap.size + 1 + 1, 0, none⟩) (by show w.heap.size ≤ w.heap.size + 1 + 1; omega) _).setCell (p := ⟨w.heap.size + 1 + 1, 1, none⟩) (by show w.heap.size ≤ w.heap.size + 1 + 1; omega) _).setCell (p := ⟨w.heap.size + 1 + 1, 2, none⟩) (by show w.heap.size ≤ w.heap.size + 1 + 1; omega) _⟩
  by_cases h1 : E1 = 0
  case neg =>
    have hEE : E = E1 := HEA.out h1
    obtain ⟨hO0, hP0⟩ := HBAD.out (by rw [hEE]; exact h1)
    obtain ⟨V, hV, hVB, hVW⟩ := HNO.out w1 HS1.out.now.1.2.2 HS1.out.now.2.2
    obtain ⟨z0, z1, z2⟩ := HS1.out.now.1.2.2.three
    have f0 := HS1.out.now.1.2.2.free 0
    have f1 := HS1.out.now.1.2.2.free 1
    have f2 := HS1.out.now.1.2.2.free 2
    have HOP : Hid (O = (0, 0, 0) ∧ P = [] ∧ E = E1) := ⟨hO0, hP0, hEE⟩
    clear hO0 hP0
    clear HEA HEB HEC HBAD HGOOD HZ1 HZ2 HSS HCF HE3 HF hEE HS1 HNO
    go_wp2_with fail
    rw [← hV]
    obtain ⟨r0, r1, r2⟩ := hVB.three
    rw [HOP.out.1, HOP.out.2.1, HOP.out.2.2]
    exact bodyPost_ret (v := .tuple #[.agg #[.int .i64 0, .int .i64 0, .int .i64 0], .slice none 0 0, .int .i64 E1]) (by simp [results, Tryz.results54, go_sem, r0, r1, r2]) rfl ⟨_, rfl, World.ownsRow_nil _ _ _ _, hVW⟩
  obtain ⟨l0, l1, t0, t1, s0, s1⟩ := HZ1.out h1
  subst h1
  obtain ⟨j0, j1, j2⟩ := HS1.out.now.1.2.1.three
  go_wp2_with fail
  refine (HCF.out w1 HS1.out.now.2.2).mono ?_
  rintro e w2 ⟨rfl, b2⟩
  have HS2 := Stay.go HS1 b2
  clear b2 HS1 HCF j0 j1 j2
  by_cases h2 : E2 = 0
  case neg =>
    have hEE : E = E2 := HEB.out (by first | rfl | trivial) h2
    obtain ⟨hO0, hP0⟩ := HBAD.out (by rw [hEE]; exact h2)
    obtain ⟨V, hV, hVB, hVW⟩ := HNO.out w2 HS2.out.now.1.2.2 HS2.out.now.2.2
    obtain ⟨z0, z1, z2⟩ := HS2.out.now.1.2.2.three
    have f0 := HS2.out.now.1.2.2.free 0
    have f1 := HS2.out.now.1.2.2.free 1
    have f2 := HS2.out.now.1.2.2.free 2
    have HOP : Hid (O = (0, 0, 0) ∧ P = [] ∧ E = E2) := ⟨hO0, hP0, hEE⟩
    clear hO0 hP0
    clear HEA HEB HEC HBAD HGOOD HZ1 HZ2 HSS HE3 HF hEE HS2 HNO
    go_wp2_with fail
    rw [← hV]
    obtain ⟨r0, r1, r2⟩ := hVB.three
    rw [HOP.out.1, HOP.out.2.1, HOP.out.2.2]
    exact bodyPost_ret (v := .tuple #[.agg #[.int .i64 0, .int .i64 0, .int .i64 0], .slice none 0 0, .int .i64 E2]) (by simp [results, Tryz.results54, go_sem, r0, r1, r2]) rfl ⟨_, rfl, World.ownsRow_nil _ _ _ _, hVW⟩
  obtain ⟨hck, ft0, ft1, n0, n4⟩ := HZ2.out h2
  have HCKF : Hid (f.chk = 0) := hck
  have HEE2 : Hid (E = E3) := HEC.out (by first | rfl | trivial) h2
  subst h2
  obtain ⟨W3, hW3⟩ : ∃ W3, W3 = w2.alloc (.cells #[.int .i64 l, .int .i64 t, .int .i64 s] 150) := ⟨_, rfl⟩
  have hwm : w.heap.size + 1 + 1 < w2.heap.size := HS2.out.now.1.2.2.lt
  have HT3 : Hid (StayK [w2.heap.size] W3 _) := HS2.out.toK hW3
  have HM3 : Hid (Blk W3 w2.heap.size #[.int .i64 l, .int .i64 t, .int .i64 s] 150) := Blk.newE hW3
  obtain ⟨k0, k1, k2⟩ := HS2.out.now.1.1.three
  clear HEA HEB HEC HZ1 HZ2 hck HS2
  go_upto_region 8 with fail
  rw [← hW3]
  clear hW3 k0 k1 k2
  have hcase : turn = true ∨ (turn = false ∧ l = 0) ∨ (turn = false ∧ (l == 0) = false ∧ ¬ l = 0) := by
    cases turn
    · by_cases h : l = 0
      · exact .inr (.inl ⟨rfl, h⟩)
      · exact .inr (.inr ⟨rfl, by simpa using h, h⟩)
    · exact .inl rfl
  rcases hcase with h | ⟨h, h'⟩ | ⟨h, h', h''⟩
  · have hS := HSS.out.1 (.inl h)
    have hS0 : -3000000 ≤ S := by omega
    have hS1 : S ≤ 3000000 := by omega
    have HSE : Hid (S = t + 10 - ft) := hS
    clear hS
    subst h
    obtain ⟨j0, j1, j2⟩ := HT3.out.now.1.2.1.three
    go_wp2_with fail
    refine (turnTo_any w2.heap.size l t s ft fk pa n pc W3 HM3.out ft0 ft1 t0 t1).mono ?_
    rw [← HSE.out]
    rintro e W4 ⟨rfl, hM4, k4⟩
    have HM4 : Hid (Blk W4 w2.heap.size #[.int .i64 l, .int .i64 t, .int .i64 S] 150) := hM4
    have HT4 := StayK.goK HT3 k4
    clear hM4 k4 HT3 HM3 j0 j1 j2
    obtain ⟨j0, j1, j2⟩ := HT4.out.now.1.2.1.three
    go_wp2_with fail
    refine (checkRoom_any w2.heap.size l t S ft fk pa n pc W4 HM4.out ft0 ft1 hS0 hS1 l0 l1 n4).mono ?_
    rw [← HE3.out]
    rintro e w5 ⟨rfl, b5⟩
    have HT5 := StayK.go HT4 b5
    have HM5 : Hid (Blk w5 w2.heap.size #[.int .i64 l, .int .i64 t, .int .i64 S] 150) := HM4.out.below b5 HM4.out.lt
    clear b5 HT4 HM4 j0 j1 j2
    by_cases h3 : E3 = 0
    case neg =>
      obtain ⟨hO0, hP0⟩ := HBAD.out (by rw [HEE2.out]; exact h3)
      obtain ⟨V, hV, hVB, hVW⟩ := HNO.out w5 HT5.out.now.1.2.2 HT5.out.now.2.2
      obtain ⟨z0, z1, z2⟩ := HT5.out.now.1.2.2.three
      have f0 := HT5.out.now.1.2.2.free 0
      have f1 := HT5.out.now.1.2.2.free 1
      have f2 := HT5.out.now.1.2.2.free 2
      have HOP : Hid (O = (0, 0, 0) ∧ P = [] ∧ E = E3) := ⟨hO0, hP0, HEE2.out⟩
      clear hO0 hP0 HBAD HGOOD HSS HE3 HF HT5 HNO HM5
      go_wp2_with fail
      rw [← hV]
      obtain ⟨r0, r1, r2⟩ := hVB.three
      rw [HOP.out.1, HOP.out.2.1, HOP.out.2.2]
      exact bodyPost_ret (v := .tuple #[.agg #[.int .i64 0, .int .i64 0, .int .i64 0], .slice none 0 0, .int .i64 E3]) (by simp [results, Tryz.results54, go_sem, r0, r1, r2]) rfl ⟨_, rfl, World.ownsRow_nil _ _ _ _, hVW⟩
    obtain ⟨hO1, hP1, hP2⟩ := HGOOD.out (by rw [HEE2.out]; exact h3)
    have HOP : Hid (O = (l + n, ft + S, S) ∧ P = pksOf l (ft + S) fk f.parts ∧ P.length = n ∧ E = 0) := ⟨hO1, hP1, hP2, by rw [HEE2.out]; exact h3⟩
    clear hO1 hP1 hP2 HGOOD HBAD HSS HE3 HNO HEE2
    subst h3
    obtain ⟨j0, j1, j2⟩ := HT5.out.now.1.2.1.three
    have HSEND : Hid (Calls Tryz.prog 98 #[.pointer (some ⟨w2.heap.size, 0, none⟩), .agg #[.int .i64 ft, .bool fk, .slice pa n pc]] w5 fun e w' => ∃ v, e = .returned v ∧ w'.ownsRow (w5.heap.size + 1) 63 6 v n (pkCells (pksOf l (ft + S) fk f.parts)) ∧ Blk w' w2.heap.size #[.int .i64 (l + n), .int .i64 (ft + S), .int .i64 S] 150 ∧ Kept [w2.heap.size] w5 w') := by
      obtain ⟨q1, q2, q3⟩ := HF.out
      have hstr := HT5.out.now.2.1
      rw [q3] at hstr
      have := send_any w2.heap.size l t S f pa pc w5 HM5.out (hstr.mono (fun g _ hg => by omega)) HCKF.out hS0 hS1 l0 l1
      rw [← q1, ← q2, ← q3] at this
      exact this
    go_wp2_with fail
    refine HSEND.out.mono ?_
    rintro e w6 ⟨v, rfl, hrow, hM6, k6⟩
    have HT6 := StayK.goK HT5 k6
    obtain ⟨m0, m1, m2⟩ := hM6.three
    obtain ⟨z0, z1, z2⟩ := HT6.out.now.1.2.2.three
    have hZ := HT6.out.now.1.2.2
    have f0 := hZ.free 0
    have f1 := hZ.free 1
    have f2 := hZ.free 2
    obtain ⟨V, hV⟩ : ∃ V, V = ((w6.setCell ⟨w.heap.size + 1 + 1, 0, none⟩ (.int .i64 (l + n))).setCell ⟨w.heap.size + 1 + 1, 1, none⟩ (.int .i64 (ft + S))).setCell ⟨w.heap.size + 1 + 1, 2, none⟩ (.int .i64 S) := ⟨_, rfl⟩
    have hVB : Blk V (w.heap.size + 1 + 1) #[.int .i64 (l + n), .int .i64 (ft + S), .int .i64 S] 38 := by rw [hV]; exact hZ.put3 _ _ _
    have hVW : Below w.heap.size w V := by
      rw [hV]
      exact ((HT6.out.now.2.2.setCell (p := ⟨w.heap.size + 1 + 1, 0, none⟩) (by show w.heap.size ≤ w.heap.size + 1 + 1; omega) _).setCell (p := ⟨w.heap.size + 1 + 1, 1, none⟩) (by show w.heap.size ≤ w.heap.size + 1 + 1; omega) _).setCell (p := ⟨w.heap.size + 1 + 1, 2, none⟩) (by show w.heap.size ≤ w.heap.size + 1 + 1; omega) _
    have h52 := HM5.out.lt
    have hVR : V.ownsRow w.heap.size 63 6 v n (pkCells (pksOf l (ft + S) fk f.parts)) := by
      rw [hV]
      exact owns_le (ownsRow_setCell_below (ownsRow_setCell_below (ownsRow_setCell_below hrow (by show w.heap.size + 1 + 1 < _; omega) _) (by show w.heap.size + 1 + 1 < _; omega) _) (by show w.heap.size + 1 + 1 < _; omega) _) (by omega)
    obtain ⟨va, vc, ev⟩ := owns_slice6 hrow
    subst ev
    clear hrow hM6 k6 HT6 HT5 HM5 hZ h52 j0 j1 j2 HSEND HF
    go_wp2_with fail
    rw [← hV]
    obtain ⟨r0, r1, r2⟩ := hVB.three
    obtain ⟨o1, o2, o3, o4⟩ := HOP.out
    rw [o1, o4, o3, o2]
    exact bodyPost_ret (v := .tuple #[.agg #[.int .i64 (l + n), .int .i64 (ft + S), .int .i64 S], .slice va n vc, .int .i64 0]) (by simp [results, Tryz.results54, go_sem, r0, r1, r2]) rfl ⟨_, rfl, hVR, hVW⟩
  · have hS := HSS.out.1 (.inr h')
    have hS0 : -3000000 ≤ S := by omega
    have hS1 : S ≤ 3000000 := by omega
    have HSE : Hid (S = t + 10 - ft) := hS
    clear hS
    subst h
    have hlb : (l == 0) = true := by simpa using h'
    clear h'
    obtain ⟨j0, j1, j2⟩ := HT3.out.now.1.2.1.three
    go_wp2_with fail
    refine (isNew_any w2.heap.size l t s W3 HM3.out).mono ?_
    rw [hlb]
    rintro e w' ⟨rfl, rfl⟩
    clear hlb
    go_wp2_with fail
    refine (turnTo_any w2.heap.size l t s ft fk pa n pc W3 HM3.out ft0 ft1 t0 t1).mono ?_
    rw [← HSE.out]
    rintro e W4 ⟨rfl, hM4, k4⟩
    have HM4 : Hid (Blk W4 w2.heap.size #[.int .i64 l, .int .i64 t, .int .i64 S] 150) := hM4
    have HT4 := StayK.goK HT3 k4
    clear hM4 k4 HT3 HM3 j0 j1 j2
    obtain ⟨j0, j1, j2⟩ := HT4.out.now.1.2.1.three
    go_wp2_with fail
    refine (checkRoom_any w2.heap.size l t S ft fk pa n pc W4 HM4.out ft0 ft1 hS0 hS1 l0 l1 n4).mono ?_
    rw [← HE3.out]
    rintro e w5 ⟨rfl, b5⟩
    have HT5 := StayK.go HT4 b5
    have HM5 : Hid (Blk w5 w2.heap.size #[.int .i64 l, .int .i64 t, .int .i64 S] 150) := HM4.out.below b5 HM4.out.lt
    clear b5 HT4 HM4 j0 j1 j2
    by_cases h3 : E3 = 0
    case neg =>
      obtain ⟨hO0, hP0⟩ := HBAD.out (by rw [HEE2.out]; exact h3)
      obtain ⟨V, hV, hVB, hVW⟩ := HNO.out w5 HT5.out.now.1.2.2 HT5.out.now.2.2
      obtain ⟨z0, z1, z2⟩ := HT5.out.now.1.2.2.three
      have f0 := HT5.out.now.1.2.2.free 0
      have f1 := HT5.out.now.1.2.2.free 1
      have f2 := HT5.out.now.1.2.2.free 2
      have HOP : Hid (O = (0, 0, 0) ∧ P = [] ∧ E = E3) := ⟨hO0, hP0, HEE2.out⟩
      clear hO0 hP0 HBAD HGOOD HSS HE3 HF HT5 HNO HM5
      go_wp2_with fail
      rw [← hV]
      obtain ⟨r0, r1, r2⟩ := hVB.three
      rw [HOP.out.1, HOP.out.2.1, HOP.out.2.2]
      exact bodyPost_ret (v := .tuple #[.agg #[.int .i64 0, .int .i64 0, .int .i64 0], .slice none 0 0, .int .i64 E3]) (by simp [results, Tryz.results54, go_sem, r0, r1, r2]) rfl ⟨_, rfl, World.ownsRow_nil _ _ _ _, hVW⟩
    obtain ⟨hO1, hP1, hP2⟩ := HGOOD.out (by rw [HEE2.out]; exact h3)
    have HOP : Hid (O = (l + n, ft + S, S) ∧ P = pksOf l (ft + S) fk f.parts ∧ P.length = n ∧ E = 0) := ⟨hO1, hP1, hP2, by rw [HEE2.out]; exact h3⟩
    clear hO1 hP1 hP2 HGOOD HBAD HSS HE3 HNO HEE2
    subst h3
    obtain ⟨j0, j1, j2⟩ := HT5.out.now.1.2.1.three
    have HSEND : Hid (Calls Tryz.prog 98 #[.pointer (some ⟨w2.heap.size, 0, none⟩), .agg #[.int .i64 ft, .bool fk, .slice pa n pc]] w5 fun e w' => ∃ v, e = .returned v ∧ w'.ownsRow (w5.heap.size + 1) 63 6 v n (pkCells (pksOf l (ft + S) fk f.parts)) ∧ Blk w' w2.heap.size #[.int .i64 (l + n), .int .i64 (ft + S), .int .i64 S] 150 ∧ Kept [w2.heap.size] w5 w') := by
      obtain ⟨q1, q2, q3⟩ := HF.out
      have hstr := HT5.out.now.2.1
      rw [q3] at hstr
      have := send_any w2.heap.size l t S f pa pc w5 HM5.out (hstr.mono (fun g _ hg => by omega)) HCKF.out hS0 hS1 l0 l1
      rw [← q1, ← q2, ← q3] at this
      exact this
    go_wp2_with fail
    refine HSEND.out.mono ?_
    rintro e w6 ⟨v, rfl, hrow, hM6, k6⟩
    have HT6 := StayK.goK HT5 k6
    obtain ⟨m0, m1, m2⟩ := hM6.three
    obtain ⟨z0, z1, z2⟩ := HT6.out.now.1.2.2.three
    have hZ := HT6.out.now.1.2.2
    have f0 := hZ.free 0
    have f1 := hZ.free 1
    have f2 := hZ.free 2
    obtain ⟨V, hV⟩ : ∃ V, V = ((w6.setCell ⟨w.heap.size + 1 + 1, 0, none⟩ (.int .i64 (l + n))).setCell ⟨w.heap.size + 1 + 1, 1, none⟩ (.int .i64 (ft + S))).setCell ⟨w.heap.size + 1 + 1, 2, none⟩ (.int .i64 S) := ⟨_, rfl⟩
    have hVB : Blk V (w.heap.size + 1 + 1) #[.int .i64 (l + n), .int .i64 (ft + S), .int .i64 S] 38 := by rw [hV]; exact hZ.put3 _ _ _
    have hVW : Below w.heap.size w V := by
      rw [hV]
      exact ((HT6.out.now.2.2.setCell (p := ⟨w.heap.size + 1 + 1, 0, none⟩) (by show w.heap.size ≤ w.heap.size + 1 + 1; omega) _).setCell (p := ⟨w.heap.size + 1 + 1, 1, none⟩) (by show w.heap.size ≤ w.heap.size + 1 + 1; omega) _).setCell (p := ⟨w.heap.size + 1 + 1, 2, none⟩) (by show w.heap.size ≤ w.heap.size + 1 + 1; omega) _
    have h52 := HM5.out.lt
    have hVR : V.ownsRow w.heap.size 63 6 v n (pkCells (pksOf l (ft + S) fk f.parts)) := by
      rw [hV]
      exact owns_le (ownsRow_setCell_below (ownsRow_setCell_below (ownsRow_setCell_below hrow (by show w.heap.size + 1 + 1 < _; omega) _) (by show w.heap.size + 1 + 1 < _; omega) _) (by show w.heap.size + 1 + 1 < _; omega) _) (by omega)
    obtain ⟨va, vc, ev⟩ := owns_slice6 hrow
    subst ev
    clear hrow hM6 k6 HT6 HT5 HM5 hZ h52 j0 j1 j2 HSEND HF
    go_wp2_with fail
    rw [← hV]
    obtain ⟨r0, r1, r2⟩ := hVB.three
    obtain ⟨o1, o2, o3, o4⟩ := HOP.out
    rw [o1, o4, o3, o2]
    exact bodyPost_ret (v := .tuple #[.agg #[.int .i64 (l + n), .int .i64 (ft + S), .int .i64 S], .slice va n vc, .int .i64 0]) (by simp [results, Tryz.results54, go_sem, r0, r1, r2]) rfl ⟨_, rfl, hVR, hVW⟩
  · have hS := HSS.out.2 (by rw [h]; simpa using h'')
    subst h hS
    have hS0 : -3000000 ≤ S := by omega
    have hS1 : S ≤ 3000000 := by omega
    clear h''
    obtain ⟨j0, j1, j2⟩ := HT3.out.now.1.2.1.three
    go_wp2_with fail
    refine (isNew_any w2.heap.size l t S W3 HM3.out).mono ?_
    rw [h']
    rintro e w' ⟨rfl, rfl⟩
    have HM4 := HM3
    have HT4 := HT3
    obtain ⟨W4, hW4⟩ : ∃ x, x = W3 := ⟨_, rfl⟩
    subst hW4
    clear HM3 HT3
    go_wp2_with fail
    refine (checkRoom_any w2.heap.size l t S ft fk pa n pc W4 HM4.out ft0 ft1 hS0 hS1 l0 l1 n4).mono ?_
    rw [← HE3.out]
    rintro e w5 ⟨rfl, b5⟩
    have HT5 := StayK.go HT4 b5
    have HM5 : Hid (Blk w5 w2.heap.size #[.int .i64 l, .int .i64 t, .int .i64 S] 150) := HM4.out.below b5 HM4.out.lt
    clear b5 HT4 HM4 j0 j1 j2
    by_cases h3 : E3 = 0
    case neg =>
      obtain ⟨hO0, hP0⟩ := HBAD.out (by rw [HEE2.out]; exact h3)
      obtain ⟨V, hV, hVB, hVW⟩ := HNO.out w5 HT5.out.now.1.2.2 HT5.out.now.2.2
      obtain ⟨z0, z1, z2⟩ := HT5.out.now.1.2.2.three
      have f0 := HT5.out.now.1.2.2.free 0
      have f1 := HT5.out.now.1.2.2.free 1
      have f2 := HT5.out.now.1.2.2.free 2
      have HOP : Hid (O = (0, 0, 0) ∧ P = [] ∧ E = E3) := ⟨hO0, hP0, HEE2.out⟩
      clear hO0 hP0 HBAD HGOOD HSS HE3 HF HT5 HNO HM5
      go_wp2_with fail
      rw [← hV]
      obtain ⟨r0, r1, r2⟩ := hVB.three
      rw [HOP.out.1, HOP.out.2.1, HOP.out.2.2]
      exact bodyPost_ret (v := .tuple #[.agg #[.int .i64 0, .int .i64 0, .int .i64 0], .slice none 0 0, .int .i64 E3]) (by simp [results, Tryz.results54, go_sem, r0, r1, r2]) rfl ⟨_, rfl, World.ownsRow_nil _ _ _ _, hVW⟩
    obtain ⟨hO1, hP1, hP2⟩ := HGOOD.out (by rw [HEE2.out]; exact h3)
    have HOP : Hid (O = (l + n, ft + S, S) ∧ P = pksOf l (ft + S) fk f.parts ∧ P.length = n ∧ E = 0) := ⟨hO1, hP1, hP2, by rw [HEE2.out]; exact h3⟩
    clear hO1 hP1 hP2 HGOOD HBAD HSS HE3 HNO HEE2
    subst h3
    obtain ⟨j0, j1, j2⟩ := HT5.out.now.1.2.1.three
    have HSEND : Hid (Calls Tryz.prog 98 #[.pointer (some ⟨w2.heap.size, 0, none⟩), .agg #[.int .i64 ft, .bool fk, .slice pa n pc]] w5 fun e w' => ∃ v, e = .returned v ∧ w'.ownsRow (w5.heap.size + 1) 63 6 v n (pkCells (pksOf l (ft + S) fk f.parts)) ∧ Blk w' w2.heap.size #[.int .i64 (l + n), .int .i64 (ft + S), .int .i64 S] 150 ∧ Kept [w2.heap.size] w5 w') := by
      obtain ⟨q1, q2, q3⟩ := HF.out
      have hstr := HT5.out.now.2.1
      rw [q3] at hstr
      have := send_any w2.heap.size l t S f pa pc w5 HM5.out (hstr.mono (fun g _ hg => by omega)) HCKF.out hS0 hS1 l0 l1
      rw [← q1, ← q2, ← q3] at this
      exact this
    go_wp2_with fail
    refine HSEND.out.mono ?_
    rintro e w6 ⟨v, rfl, hrow, hM6, k6⟩
    have HT6 := StayK.goK HT5 k6
    obtain ⟨m0, m1, m2⟩ := hM6.three
    obtain ⟨z0, z1, z2⟩ := HT6.out.now.1.2.2.three
    have hZ := HT6.out.now.1.2.2
    have f0 := hZ.free 0
    have f1 := hZ.free 1
    have f2 := hZ.free 2
    obtain ⟨V, hV⟩ : ∃ V, V = ((w6.setCell ⟨w.heap.size + 1 + 1, 0, none⟩ (.int .i64 (l + n))).setCell ⟨w.heap.size + 1 + 1, 1, none⟩ (.int .i64 (ft + S))).setCell ⟨w.heap.size + 1 + 1, 2, none⟩ (.int .i64 S) := ⟨_, rfl⟩
    have hVB : Blk V (w.heap.size + 1 + 1) #[.int .i64 (l + n), .int .i64 (ft + S), .int .i64 S] 38 := by rw [hV]; exact hZ.put3 _ _ _
    have hVW : Below w.heap.size w V := by
      rw [hV]
      exact ((HT6.out.now.2.2.setCell (p := ⟨w.heap.size + 1 + 1, 0, none⟩) (by show w.heap.size ≤ w.heap.size + 1 + 1; omega) _).setCell (p := ⟨w.heap.size + 1 + 1, 1, none⟩) (by show w.heap.size ≤ w.heap.size + 1 + 1; omega) _).setCell (p := ⟨w.heap.size + 1 + 1, 2, none⟩) (by show w.heap.size ≤ w.heap.size + 1 + 1; omega) _
    have h52 := HM5.out.lt
    have hVR : V.ownsRow w.heap.size 63 6 v n (pkCells (pksOf l (ft + S) fk f.parts)) := by
      rw [hV]
      exact owns_le (ownsRow_setCell_below (ownsRow_setCell_below (ownsRow_setCell_below hrow (by show w.heap.size + 1 + 1 < _; omega) _) (by show w.heap.size + 1 + 1 < _; omega) _) (by show w.heap.size + 1 + 1 < _; omega) _) (by omega)
    obtain ⟨va, vc, ev⟩ := owns_slice6 hrow
    subst ev
    clear hrow hM6 k6 HT6 HT5 HM5 hZ h52 j0 j1 j2 HSEND HF
    go_wp2_with fail
    rw [← hV]
    obtain ⟨r0, r1, r2⟩ := hVB.three
    obtain ⟨o1, o2, o3, o4⟩ := HOP.out
    rw [o1, o4, o3, o2]
    exact bodyPost_ret (v := .tuple #[.agg #[.int .i64 (l + n), .int .i64 (ft + S), .int .i64 S], .slice va n vc, .int .i64 0]) (by simp [results, Tryz.results54, go_sem, r0, r1, r2]) rfl ⟨_, rfl, hVR, hVW⟩

end Go.Proofs.YtnpaejknoipicagGreat
