/-
  Contract: the maker's add.
-/
import Derived.Test.YtnpaejknoipicafGreatMaker1
namespace Go.Proofs.YtnpaejknoipicafGreat
open Go.RowKit

/-- did a frame come to its end? -/
def addW (l : List Sk) (x : Sk) : Bool := decide (0 < (takeF l x).length) && x.p.e
/-- what is open then -/
def addO (l : List Sk) (x : Sk) : List Sk := if addW l x then [] else if (takeF l x).length = 4 then [] else takeF l x
/-- the frame's time, Key, Parts -/
def addT (l : List Sk) (x : Sk) : Int := if addW l x then ((takeF l x)[0]?.getD Sk.zero).p.time else 0
def addK (l : List Sk) (x : Sk) : Bool := addW l x && ((takeF l x)[0]?.getD Sk.zero).p.k
def addP (l : List Sk) (x : Sk) : List ByteArray := if addW l x then texts (takeF l x) else []

theorem Sl.same {w w' : World} {v : Value} {n size : Nat} {xs : List Value} (h : Sl w v n size xs) (hs : w.heap.size ≤ w'.heap.size) (hb : ∀ g, v.ownBlock = some g → w'.heap[g]? = w.heap[g]?) : Sl w' v n size xs := by
  obtain ⟨hl, h | ⟨b, off, c, rfl, hlt, hc⟩⟩ := h
  · exact ⟨hl, .inl h⟩
  · exact ⟨hl, .inr ⟨b, off, c, rfl, by omega, fun j u hj => (World.cell?_of_block (hb b rfl)).trans (hc j u hj)⟩⟩

theorem takeF_len (l : List Sk) (x : Sk) : (takeF l x).length ≤ l.length + 1 := by
  unfold takeF
  split
  · simp
  · split <;> simp

set_option maxHeartbeats 2000000 in
set_option maxRecDepth 100000 in
theorem add_any (base M : Nat) (l : List Sk) (x : Sk) (w : World) (ov : Value) (hM : Blk w M #[ov] 143) (hown : w.ownsRow base 91 7 ov l.length (skCells l)) (hbM : base ≤ M) (hnums : ∀ y ∈ l, 65536 ≤ y.n ∧ y.n ≤ 1000000000) (hlen : l.length ≤ 49) :
    Calls Tryz.prog 93 #[.pointer (some ⟨M, 0, none⟩), x.val] w fun e w' => ∃ pv, e = .returned (.tuple #[.agg #[.int .i64 (addT l x), .bool (addK l x), pv], .bool (addW l x)]) ∧ Strs w' pv (addP l x) ∧ (∀ g, pv.ownBlock = some g → base ≤ g ∧ ∃ cur, Blk w' g cur 9) ∧ Make base M w' (addO l x) ∧ Below base w w' ∧ ∀ j, j < w.heap.size → j ≠ M → some j ≠ ov.ownBlock → w'.heap[j]? = w.heap[j]? := by
  have hMw := hM.lt
  obtain ⟨X, hX⟩ : ∃ X, X = x := ⟨_, rfl⟩
  have HXV : Hid (X.val = .agg #[.int .i64 x.n, .int .i64 x.p.seq, .int .i64 x.p.time, .bool x.p.f, .bool x.p.e, .bool x.p.k, .string x.p.t]) := by show X.val = _; rw [hX]; rfl
  have htk := take_any base M l X ((w.alloc (.cells #[.int .i64 x.n, .int .i64 x.p.seq, .int .i64 x.p.time, .bool x.p.f, .bool x.p.e, .bool x.p.k, .string x.p.t] 91)).alloc (.cells #[.int .i64 0, .bool false, .slice none 0 0] 30)) ov ((hM.alloc _).alloc _) ((hown.alloc _).alloc _) hbM hnums (by omega)
  rw [HXV.out] at htk
  have HXE : Hid (X = x) := hX
  have HOV : Hid (∀ g, ov.ownBlock = some g → g < w.heap.size) := fun g hg => (hown.lt g hg).2
  obtain ⟨T, hT⟩ : ∃ T, T = takeF l X := ⟨_, rfl⟩
  rw [← hT] at htk
  have HT : Hid (T = takeF l x) := by show T = _; rw [hT, hX]
  have HTL : Hid (T.length ≤ 50) := by show _ ≤ _; rw [HT.out]; have := takeF_len l x; omega
  obtain ⟨a, c, hov⟩ := (Sls.of_owns hown).len
  clear hX hM hown hT
  simp only [Sk.val]
  go_enter Tryz.func93, Tryz.ntmps93
  go_wp2_with fail
  refine htk.mono ?_
  rintro e w1 ⟨rfl, ⟨ov1, kM, kO⟩, bel, oth⟩
  have k0 : Blk w1 w.heap.size #[.int .i64 x.n, .int .i64 x.p.seq, .int .i64 x.p.time, .bool x.p.f, .bool x.p.e, .bool x.p.k, .string x.p.t] 91 := (oth _ (by simp; omega) (by omega) (fun e => by have := HOV.out _ e.symm; omega)).trans ((Blk.new w _ _).alloc _)
  have k1 : Blk w1 (w.heap.size + 1) #[.int .i64 0, .bool false, .slice none 0 0] 30 := (oth _ (by simp) (by omega) (fun e => by have := HOV.out _ e.symm; omega)).trans (by
    have := Blk.new (w.alloc (.cells #[.int .i64 x.n, .int .i64 x.p.seq, .int .i64 x.p.time, .bool x.p.f, .bool x.p.e, .bool x.p.k, .string x.p.t] 91)) #[.int .i64 0, .bool false, .slice none 0 0] 30
    simp only [World.size_alloc] at this
    exact this)
  have B1 : Hid (Below base w w1) := (((Below.refl base w).alloc (by omega) _).alloc (by simp; omega) _).trans bel
  have OT1 : Hid (∀ j, j < w.heap.size → j ≠ M → some j ≠ ov.ownBlock → w1.heap[j]? = w.heap[j]?) := fun j h1 h2 h3 => by rw [oth j (by simp; omega) h2 h3, Below.heap_alloc _ _ _ (by simp; omega), Below.heap_alloc _ _ _ h1]
  obtain ⟨a1, c1, e1⟩ := (Sls.of_owns kO).len
  obtain ⟨m, hm⟩ : ∃ m, m = T.length := ⟨_, rfl⟩
  have HM : Hid (m = T.length) := hm
  rw [← hm] at e1 kO
  subst e1
  have KM : Hid (Blk w1 M #[.slice a1 m c1] 143) := kM
  have KO : Hid (w1.ownsRow base 91 7 (.slice a1 m c1) m (skCells T)) := kO
  have K1 : Hid (Blk w1 (w.heap.size + 1) #[.int .i64 0, .bool false, .slice none 0 0] 30) := k1
  have d0 := kM.one
  have mf := kM.free 0
  have xe := k0.seven.2.2.2.2.1
  obtain ⟨z0, z1, z2⟩ := k1.three
  have zf := k1.free
  have hs1 := k1.lt
  have hMs := kM.lt
  clear htk bel oth k0 k1 kM kO hm
  have hne1 : ¬ M = w.heap.size + 1 := by omega
  have hne2 : ¬ w.heap.size + 1 = M := by omega
  by_cases hw : 0 < m ∧ x.p.e = true
  · obtain ⟨hm0, hxe⟩ := hw
    have HWF : Hid (addW l x = true) := by
      show addW l x = true
      unfold addW
      rw [← HT.out, ← HM.out, hxe, decide_eq_true hm0]; rfl
    have hd : decide (0 < m) = true := decide_eq_true hm0
    cases T with
    | nil => have := HM.out; simp at this; omega
    | cons y r =>
    have hfo := frameOf_any (.slice a1 m c1) y r w1 (Sls.of_owns (by rw [← HM.out]; exact KO.out)) (by have := HTL.out; omega)
    have HS : Hid (addT l x = y.p.time ∧ addK l x = y.p.k ∧ addP l x = texts (y :: r) ∧ addO l x = []) := by
      refine ⟨?_, ?_, ?_, ?_⟩
      · unfold addT; rw [HWF.out, ← HT.out]; rfl
      · unfold addK; rw [HWF.out, ← HT.out]; rfl
      · unfold addP; rw [HWF.out, ← HT.out]; rfl
      · unfold addO; rw [HWF.out]; rfl
    go_wp2_with fail
    refine hfo.mono ?_
    rintro e w2 ⟨pv, rfl, hst, hfr, hb2⟩
    have kM2 := Blk.below KM.out hb2 (Blk.lt KM.out)
    have k12 := Blk.below K1.out hb2 (Blk.lt K1.out)
    have m0 := kM2.one
    have mf2 := kM2.free 0
    obtain ⟨y0, y1, y2⟩ := k12.three
    have yf := k12.free
    have hs2 := k12.lt
    have hM2 := kM2.lt
    obtain ⟨ap, cp, epv⟩ := hst.len
    obtain ⟨np, hnp⟩ : ∃ np, np = (texts (y :: r)).length := ⟨_, rfl⟩
    rw [← hnp] at epv
    subst epv
    have hz : Hid (w1.heap.size ≤ w2.heap.size) := hb2.size
    have HST : Hid (Strs w2 (.slice ap np cp) (texts (y :: r))) := hst
    have HFR : Hid (∀ g, (Value.slice ap np cp).ownBlock = some g → w1.heap.size ≤ g ∧ g < w2.heap.size) := fun g hg => by obtain ⟨h1, cur, h2⟩ := hfr g hg; exact ⟨h1, h2.lt⟩
    have HFB : Hid (∀ g, (Value.slice ap np cp).ownBlock = some g → ∃ cur, Blk w2 g cur 9) := fun g hg => (hfr g hg).2
    have KM2 : Hid (Blk w2 M #[.slice a1 m c1] 143) := kM2
    have OT2 : Hid (∀ j, j < w.heap.size → j ≠ M → some j ≠ ov.ownBlock → w2.heap[j]? = w.heap[j]?) := fun j h1 h2 h3 => (hb2.block j (by omega)).trans (OT1.out j h1 h2 h3)
    have B2 : Hid (Below base w w2) := B1.out.trans (hb2.mono (by have := B1.out.size; omega))
    clear hst hfr hb2 kM2 k12 hfo d0 mf z0 z1 z2 zf hnp
    go_wp2
    refine bodyPost_ret (v := .tuple #[.agg #[.int .i64 y.p.time, .bool y.p.k, .slice ap np cp], .bool true]) (by simp [results, Tryz.results93, go_sem, World.cell?_alloc_past, hs2, y0, y1, y2]) rfl ?_
    rw [HS.out.1, HS.out.2.1, HS.out.2.2.1, HS.out.2.2.2, HWF.out]
    refine ⟨_, rfl, ?_, fun g hg => ?_, ⟨.slice none 0 0, ?_, World.ownsRow_nil _ _ _ _⟩, ?_, fun j h1 h2 h3 => ?_⟩
    · refine Sl.same HST.out (by simp) (fun g hg => ?_)
      have h1 := HFR.out g hg
      have h2 : g ≠ w.heap.size + 1 := by omega
      have h3 : g ≠ M := by omega
      rw [Below.heap_alloc _ _ _ (by simp; omega), Below.heap_setCell _ _ _ _ (by exact h2), Below.heap_setCell _ _ _ _ (by exact h2), Below.heap_setCell _ _ _ _ (by exact h2), Below.heap_setCell _ _ _ _ (by exact h3)]
    · have h1 := HFR.out g hg
      obtain ⟨cur, hc⟩ := HFB.out g hg
      have h2 : g ≠ w.heap.size + 1 := by omega
      have h3 : g ≠ M := by omega
      exact ⟨by omega, cur, ((((hc.other (by exact h3) _).other (by exact h2) _).other (by exact h2) _).other (by exact h2) _).alloc _⟩
    · exact ((((KM2.out.set 0 _).other (by simpa using hne1) _).other (by simpa using hne1) _).other (by simpa using hne1) _).alloc _
    · exact ((((B2.out.setCell (by exact hbM) _).setCell (by simp; omega) _).setCell (by simp; omega) _).setCell (by simp; omega) _).alloc (by simp; omega) _
    · have h4 : j ≠ w.heap.size + 1 := by omega
      rw [Below.heap_alloc _ _ _ (by simp; omega), Below.heap_setCell _ _ _ _ (by exact h4), Below.heap_setCell _ _ _ _ (by exact h4), Below.heap_setCell _ _ _ _ (by exact h4), Below.heap_setCell _ _ _ _ (by exact h2)]
      exact OT2.out j h1 h2 h3
  · have HWF : Hid (addW l x = false) := by
      show addW l x = false
      unfold addW
      rw [← HT.out, ← HM.out]
      cases h : x.p.e
      · simp
      · simp only [Bool.and_true, decide_eq_false_iff_not]; intro h0; exact hw ⟨h0, h⟩
    have HS : Hid (addT l x = 0 ∧ addK l x = false ∧ addP l x = []) := by
      refine ⟨?_, ?_, ?_⟩
      · unfold addT; rw [HWF.out]; rfl
      · unfold addK; rw [HWF.out]; rfl
      · unfold addP; rw [HWF.out]; rfl
    have HO0 : Hid (addO l x = if m = 4 then [] else T) := by show addO l x = _; unfold addO; rw [HWF.out, ← HT.out, ← HM.out]; rfl
    have hg : decide (0 < m) = false ∨ decide (0 < m) = true ∧ x.p.e = false := by
      by_cases h : 0 < m
      · right
        refine ⟨decide_eq_true h, ?_⟩
        cases he : x.p.e
        · rfl
        · exact absurd ⟨h, he⟩ hw
      · left; exact decide_eq_false h
    have KNE : Hid (∀ g, (Value.slice a1 m c1).ownBlock = some g → g ≠ w.heap.size + 1) := fun g hg e => by
      obtain ⟨_, cur, h3⟩ := owns_blk KO.out hg
      exact Apart_type K1.out h3 (by decide) e.symm
    clear hw
    rcases hg with hd | ⟨hd, hxe⟩
    all_goals
      by_cases h4 : m = 4
      · have h4i : ((m : Int) == 4) = true := by simp; omega
        have HO4 : Hid (addO l x = []) := by show _ = _; rw [HO0.out, if_pos h4]
        clear h4
        go_wp2
        refine bodyPost_ret (v := .tuple #[.agg #[.int .i64 0, .bool false, .slice none 0 0], .bool false]) (by simp [results, Tryz.results93, go_sem, z0, z1, z2]) rfl ?_
        rw [HS.out.1, HS.out.2.1, HS.out.2.2, HO4.out, HWF.out]
        exact ⟨_, rfl, Strs.nil _, fun g hg => by simp [Value.ownBlock] at hg, ⟨_, (((KM.out.set 0 _).other (by simpa using hne1) _).other (by simpa using hne1) _).other (by simpa using hne1) _, World.ownsRow_nil _ _ _ _⟩, (((B1.out.setCell (by exact hbM) _).setCell (by simp; omega) _).setCell (by simp; omega) _).setCell (by simp; omega) _, fun j h1 h2 h3 => by
          have h4 : j ≠ w.heap.size + 1 := by omega
          rw [Below.heap_setCell _ _ _ _ (by exact h4), Below.heap_setCell _ _ _ _ (by exact h4), Below.heap_setCell _ _ _ _ (by exact h4), Below.heap_setCell _ _ _ _ (by exact h2)]
          exact OT1.out j h1 h2 h3⟩
      · have h4i : ((m : Int) == 4) = false := by simp; omega
        have HO4 : Hid (addO l x = T) := by show _ = _; rw [HO0.out, if_neg h4]
        clear h4
        go_wp2
        refine bodyPost_ret (v := .tuple #[.agg #[.int .i64 0, .bool false, .slice none 0 0], .bool false]) (by simp [results, Tryz.results93, go_sem, z0, z1, z2]) rfl ?_
        rw [HS.out.1, HS.out.2.1, HS.out.2.2, HO4.out, HWF.out]
        refine ⟨_, rfl, Strs.nil _, fun g hg => by simp [Value.ownBlock] at hg, ⟨_, ((KM.out.other (by simpa using hne1) _).other (by simpa using hne1) _).other (by simpa using hne1) _, ?_⟩, ((B1.out.setCell (by simp; omega) _).setCell (by simp; omega) _).setCell (by simp; omega) _, fun j h1 h2 h3 => by
          have h4 : j ≠ w.heap.size + 1 := by omega
          rw [Below.heap_setCell _ _ _ _ (by exact h4), Below.heap_setCell _ _ _ _ (by exact h4), Below.heap_setCell _ _ _ _ (by exact h4)]
          exact OT1.out j h1 h2 h3⟩
        rw [← HM.out]
        exact owns_same KO.out fun g hg => by
          have := KNE.out g hg
          rw [Below.heap_setCell _ _ _ _ (by exact this), Below.heap_setCell _ _ _ _ (by exact this), Below.heap_setCell _ _ _ _ (by exact this)]

end Go.Proofs.YtnpaejknoipicafGreat
