/-
  Contracts: track.Check, checkBuilder.
-/
import Derived.Test.YtnpaejknoipicagGreatMgDeskSees10
import Derived.Test.YtnpaejknoipicagGreatMgDeskSees9
import Derived.Test.YtnpaejknoipicagGreatMgDeskSees2
import Derived.Test.YtnpaejknoipicagGreatMgDeskSees3
import Derived.Deep.Cut
import Derived.Deep.DeepCutAuto
import Derived.Test.YtnpaejknoipicagGreatMgDeskSees5
import Derived.Test.YtnpaejknoipicagGreatMgDeskSees7
import Derived.Test.YtnpaejknoipicagGreatMgDeskSees1
import Derived.Deep.QuietTactic
import Derived.Test.YtnpaejknoipicagGreatMgDeskSees4

namespace Go.Proofs.YtnpaejknoipicagGreat
open Go.RowKit

theorem SlsIn.kept {S : Nat → Prop} {K : List Nat} {w w' : World} {v : Value} {l : List Sk} (h : SlsIn S w v l) (hk : Kept K w w') (hS : ∀ g, S g → g ∉ K) : SlsIn S w' v l := h.to ⟨hk.size, fun g hg hs => hk.block g hg (hS g hs)⟩ (fun _ _ h => h)
theorem SlsIn.at {S : Nat → Prop} {w : World} {ao : Option Addr} {n c k : Nat} {l : List Sk} (h : SlsIn S w (.slice ao n c) l) (hk : k < l.length) : ∃ b off, ao = some ⟨b, off, none⟩ ∧ b < w.heap.size ∧ At7 w b (off + k * 7) (l[k]?.getD Sk.zero) := by
  obtain ⟨ao', c', e, hc⟩ := h.1.parts
  injection e with e1 _ _
  subst e1
  exact hc k hk
theorem tkN_drop {l : List Sk} {k : Nat} (hk : k < l.length) (s : Tr × Nat) : tkN (l.drop k) s = if (tk1 s.1 (l[k]?.getD Sk.zero)).2.2 = 0 then tkN (l.drop (k + 1)) ((tk1 s.1 (l[k]?.getD Sk.zero)).1, s.2 + (tk1 s.1 (l[k]?.getD Sk.zero)).2.1) else (Tr.zero, 0, (tk1 s.1 (l[k]?.getD Sk.zero)).2.2) := by
  rw [List.drop_eq_getElem_cons hk, List.getElem?_eq_getElem hk, Option.getD_some]
  rfl
theorem tk1_le (t : Tr) (x : Sk) : (tk1 t x).2.1 ≤ 1 := by
  unfold tk1
  cases addW t.o x
  · exact Nat.zero_le _
  · simp only [if_true]
    split <;> omega

set_option maxHeartbeats 8000000 in
set_option maxRecDepth 100000 in
theorem tkPass_any (S : Nat → Prop) (M : Nat) (t : Tr) (c : Nat) (next' : Int) (hv' v : Value) (h' l : List Sk) (w : World) (hT : TkB S M w t c) (hok : TkOk t) (hh : SlsIn (fun g => S g ∧ g ≠ M) w hv' h') (hv : SlsIn (fun g => g ≠ M) w v l) (hl : ∀ x ∈ l, x.chk = 0) (hlen : l.length ≤ 100) (hS : ∀ g, w.heap.size ≤ g → S g) (hc : c ≤ 1000) :
    Calls Tryz.prog 106 #[.pointer (some ⟨M, 0, none⟩), .agg #[.int .i64 next', hv'], v, .int .i64 0] w fun e w' => e = .returned (.int .i64 (tkN l (t.buf t.last next' h', c)).2.2) ∧ ((tkN l (t.buf t.last next' h', c)).2.2 = 0 → TkB S M w' (tkN l (t.buf t.last next' h', c)).1 ((tkN l (t.buf t.last next' h', c)).2.1 : Nat)) ∧ Kept [M] w w' := by
  obtain ⟨hv0, bv, gv, ov, hM, hr⟩ := hT
  obtain ⟨ha, hcc, ba, bc, ga, gc, oa, oc, eh, eb, eg, eo⟩ := hr.slices
  obtain ⟨na, nc, en⟩ := hh.len
  obtain ⟨va, vc, ev⟩ := hv.len
  obtain ⟨n, hn⟩ : ∃ x, x = l.length := ⟨_, rfl⟩
  obtain ⟨nh, hnh⟩ : ∃ x, x = h'.length := ⟨_, rfl⟩
  obtain ⟨last, hlast⟩ : ∃ x, x = t.last := ⟨_, rfl⟩
  obtain ⟨next, hnext⟩ : ∃ x, x = t.next := ⟨_, rfl⟩
  obtain ⟨first, hfirst⟩ : ∃ x, x = t.first := ⟨_, rfl⟩
  obtain ⟨hn0, hhn⟩ : ∃ x, x = t.h.length := ⟨_, rfl⟩
  obtain ⟨bn, hbn⟩ : ∃ x, x = t.o.length := ⟨_, rfl⟩
  obtain ⟨ln, hln⟩ : ∃ x, x = t.L.length := ⟨_, rfl⟩
  obtain ⟨lo, hlo⟩ : ∃ x, x = t.O.length := ⟨_, rfl⟩
  obtain ⟨R, hR⟩ : ∃ x, x = tkN l (t.buf t.last next' h', c) := ⟨_, rfl⟩
  rw [← hn] at ev hlen
  rw [← hnh] at en
  rw [← hlast, ← hnext, ← hfirst] at hM
  rw [← hhn] at eh
  rw [← hbn] at eb
  rw [← hln] at eg
  rw [← hlo] at eo
  have HN : Hid (n = l.length) := hn
  have HSU : Hid (∀ g, w.heap.size ≤ g → S g) := hS
  have HTT : Hid (last = t.last ∧ next = t.next ∧ first = t.first) := ⟨hlast, hnext, hfirst⟩
  have HRR : Hid (R = tkN (l.drop 0) (t.buf t.last next' h', c)) := by rw [List.drop_zero]; exact hR
  have HCH : Hid (∀ x ∈ l, x.chk = 0) := hl
  have HOK : Hid (TkOk t) := hok
  rw [← hR]
  clear hn hnh hlast hnext hfirst hhn hbn hln hlo hR hS hl hok
  subst eh eb eg eo en ev
  have HMw : Hid (Blk w M #[.int .i64 last, .int .i64 next, .slice ha hn0 hcc, .slice ba bn bc, .int .i64 first, .slice ga ln gc, .slice oa lo oc, .int .i64 c] 155) := hM
  have HRw : Hid (TrIn (fun g => S g ∧ g ≠ M) w (.slice ha hn0 hcc) (.slice ba bn bc) (.slice ga ln gc) (.slice oa lo oc) t) := hr
  have HHw : Hid (SlsIn (fun g => S g ∧ g ≠ M) w (.slice na nh nc) h') := hh
  have HVw : Hid (SlsIn (fun g => g ≠ M) w (.slice va n vc) l) := hv
  have hMw := hM.lt
  clear hM hr hh hv
  go_enter Tryz.func106, Tryz.ntmps106
  obtain ⟨y0, y1, y2, y3, y4, y5, y6, y7⟩ := HMw.out.eight
  have fM := HMw.out.free
  obtain ⟨V, hV⟩ : ∃ V, V = ((w.setCell ⟨M, 1, none⟩ (.int .i64 next')).setCell ⟨M, 2, none⟩ (.slice na nh nc)).alloc (.cells #[.int .i64 next', .slice na nh nc] 24) := ⟨_, rfl⟩
  have HKV : Hid (Kept [M] w V) := by
    rw [hV]; exact (((Kept.refl [M] w).setCell (p := ⟨M, 1, none⟩) (by simp) _).setCell (p := ⟨M, 2, none⟩) (by simp) _).alloc _
  have HTV : Hid (TkB S M V (t.buf t.last next' h') c) := by
    have hm := ((HMw.out.set 1 (.int .i64 next')).set 2 (.slice na nh nc)).alloc (.cells #[.int .i64 next', .slice na nh nc] 24)
    rw [← hV, HTT.out.1, HTT.out.2.2] at hm
    have so : SameOn (fun g => S g ∧ g ≠ M) w V := ⟨HKV.out.size, fun g hg h => HKV.out.block g hg (by simp; exact h.2)⟩
    exact ⟨_, _, _, _, by simpa [Tr.buf] using hm, HHw.out.to so (fun _ _ h => h), HRw.out.2.1.to so (fun _ _ h => h), HRw.out.2.2.1.to so (fun _ _ h => h), HRw.out.2.2.2.to so (fun _ _ h => h)⟩
  have HVV : Hid (SlsIn (fun g => g ≠ M) V (.slice va n vc) l) := HVw.out.kept HKV.out (fun g h => by simpa using h)
  have hsV : w.heap.size ≤ V.heap.size := HKV.out.size
  clear HMw HRw HHw HVw HTT
  go_wp2_with fail
  rw [← hV]
  clear hV y0 y1 y2 y3 y4 y5 y6 y7 fM hMw
  go_loopw [19] (fun i wr => ∃ (k : Nat) (tk : Tr) (ck : Nat), k ≤ n ∧ i = .int .i64 k ∧ Hid (TkB S M wr tk ck) ∧ Hid (TkOk tk) ∧ Hid (R = tkN (l.drop k) (tk, ck)) ∧ ck ≤ c + k ∧ Hid (Kept [M] V wr))
    (fun i _ => n - (intOf i).toNat)
  case atStart => exact ⟨0, _, c, Nat.zero_le _, rfl, HTV.out, HOK.out, HRR.out, by omega, Kept.refl _ _⟩
  case round =>
    obtain ⟨k, tk, ck, hk, rfl, HT, HO, HR, hck, HK⟩ := hrel
    clear HTV HRR HOK
    by_cases hlt : k < n
    · have hlti : (k : Int) < (n : Int) := by omega
      have hkl : k < l.length := by rw [← HN.out]; exact hlt
      have HVr : Hid (SlsIn (fun g => g ≠ M) wr (.slice va n vc) l) := HVV.out.kept HK.out (fun g h => by simpa using h)
      obtain ⟨b, off, e1, hb, d0, d1, d2, d3, d4, d5, d6⟩ := HVr.out.at hkl
      obtain ⟨x, hx⟩ : ∃ x, x = l[k]?.getD Sk.zero := ⟨_, rfl⟩
      rw [← hx] at d0 d1 d2 d3 d4 d5 d6
      have hxc : x.chk = 0 := by
        rw [hx, List.getElem?_eq_getElem hkl, Option.getD_some]; exact HCH.out _ (List.getElem_mem _)
      have hs9 : w.heap.size ≤ wr.heap.size := Nat.le_trans hsV HK.out.size
      obtain ⟨E, hE⟩ : ∃ e, e = (tk1 tk x).2.2 := ⟨_, rfl⟩
      have HRX : Hid (R = if E = 0 then tkN (l.drop (k + 1)) ((tk1 tk x).1, ck + (tk1 tk x).2.1) else (Tr.zero, 0, E)) := by
        show R = _
        rw [HR.out, tkN_drop hkl, ← hx, ← hE]
      have HADD : Hid (∀ W : World, Below wr.heap.size wr W → Calls Tryz.prog 141 #[.pointer (some ⟨M, 0, none⟩), .agg #[.int .i64 x.n, .int .i64 x.p.seq, .int .i64 x.p.time, .bool x.p.f, .bool x.p.e, .bool x.p.k, .string x.p.t]] W fun e w' => e = .returned (.int .i64 E) ∧ Hid (TkB S M w' (tk1 tk x).1 (ck + (tk1 tk x).2.1 : Nat)) ∧ Hid (Kept [M] V w')) := fun W hW => by
        have hsz := hW.size
        refine (tkAdd_any S M tk ck x W (HT.out.below hW) HO.out.1 hxc (fun g hg => HSU.out g (by omega)) (by omega) (by omega)).mono ?_
        rintro e w' ⟨rfl, h2, h3⟩
        rw [hE]
        exact ⟨rfl, by simpa [Hid] using h2, (HK.out.below hW).trans h3⟩
      have HO2 : Hid (E = 0 → TkOk (tk1 tk x).1) := fun h => by
        rcases tk1_ok HO.out hxc with ⟨_, h'⟩ | h'
        · exact h'
        · rw [← hE, h] at h'; cases h'
      have hle := tk1_le tk x
      subst e1
      clear hx hE HR HT HO hxc
      go_upto_region 5 with fail
      obtain ⟨W1, hW1⟩ : ∃ X, X = wr.alloc (.cells #[.int .i64 x.n, .int .i64 x.p.seq, .int .i64 x.p.time, .bool x.p.f, .bool x.p.e, .bool x.p.k, .string x.p.t] 106) := ⟨_, rfl⟩
      have HB1 : Hid (Below wr.heap.size wr W1) := by rw [hW1]; exact (Below.refl _ _).alloc (Nat.le_refl _) _
      have KX : Hid (Blk W1 wr.heap.size #[.int .i64 x.n, .int .i64 x.p.seq, .int .i64 x.p.time, .bool x.p.f, .bool x.p.e, .bool x.p.k, .string x.p.t] 106) := Blk.newE hW1
      rw [← hW1]
      clear hW1 d0 d1 d2 d3 d4 d5 d6 hb HVr
      obtain ⟨d0, d1, d2, d3, d4, d5, d6⟩ := KX.out.sevenc
      go_wp2_with fail
      refine (HADD.out W1 HB1.out).mono ?_
      rintro e w2 ⟨rfl, HT2, HK2⟩
      clear d0 d1 d2 d3 d4 d5 d6 KX HB1 HADD
      by_cases hE0 : E = 0
      · have HRX' : Hid (R = tkN (l.drop (k + 1)) ((tk1 tk x).1, ck + (tk1 tk x).2.1)) := by show R = _; rw [HRX.out, if_pos hE0]
        have HO3 : Hid (TkOk (tk1 tk x).1) := HO2.out hE0
        clear HRX HO2
        subst hE0
        go_wp2_with fail
        go_roundw
        case rel => exact ⟨k + 1, _, _, by omega, by go_num, HT2.out, HO3.out, HRX'.out, by omega, HK2.out⟩
        case measure => simp [intOf]; omega
      · have HRX' : Hid (R = (Tr.zero, 0, E)) := by show R = _; rw [HRX.out, if_neg hE0]
        clear HRX HO2
        go_wp2
        go_ret
        rw [HRX'.out]
        exact ⟨rfl, fun h => absurd h hE0, HKV.out.trans HK2.out⟩
    · have hkn : k = n := by omega
      subst hkn
      have HRX' : Hid (R = (tk, ck, 0)) := by
        show R = _
        rw [HR.out, HN.out, List.drop_length]; rfl
      clear HR
      go_wp2
      go_ret
      rw [HRX'.out]
      exact ⟨rfl, fun _ => HT.out, HKV.out.trans HK.out⟩

end Go.Proofs.YtnpaejknoipicagGreat

namespace Go.Proofs.YtnpaejknoipicagGreat
open Go.RowKit

/-- the law's own slot -/
def lsk (n time : Int) (f e k : Bool) : Sk := ⟨n, ⟨n % 65536, time, f, e, k, ⟨#[116]⟩⟩⟩

end Go.Proofs.YtnpaejknoipicagGreat

namespace Go.Proofs.YtnpaejknoipicagGreat
open Go.RowKit

/-- Put, whatever it is handed -/
theorem bufPut_any (next : Int) (v : Value) (l : List Sk) (x : Sk) (w : World) (hv : Sls w v l) (hlen : l.length ≤ 9223372036854775807) :
    Calls Tryz.prog 107 #[.agg #[.int .i64 next, v], x.val] w fun e w' => ∃ hv' ov', e = .returned (.tuple #[.agg #[.int .i64 (putR next l x).1, hv'], ov', .int .i64 (putE next l x)]) ∧
      Fresh w.heap.size w' hv' (putR next l x).2.1 ∧ Fresh w.heap.size w' ov' (putR next l x).2.2 ∧ Below w.heap.size w w' := by
  by_cases hE : putE next l x = 0
  · have hp : pchk next l = 0 := by
      unfold putE at hE
      by_cases h : pchk next l = 0
      · exact h
      · rw [if_neg h] at hE; exact absurd hE h
    have hx : x.chk = 0 := by unfold putE at hE; rw [if_pos hp] at hE; exact hE
    have hr : putR next l x = putF next l x := by unfold putR; rw [if_pos hE]
    rw [hE, hr]
    exact bufPut_ok next v l x w hv ((pchk_right next l).1 hp) hx
  · have hr : putR next l x = (0, [], []) := by unfold putR; rw [if_neg hE]
    rw [hr]
    refine (bufPut_no next v l x w hv hlen hE).mono ?_
    rintro e w' ⟨rfl, hb⟩
    exact ⟨_, _, rfl, Fresh.nil _ _, Fresh.nil _ _, hb⟩
abbrev bx (n : Int) : Sk := lsk n 1 true true true
end Go.Proofs.YtnpaejknoipicagGreat

namespace Go.Proofs.YtnpaejknoipicagGreat
open Go.RowKit

/-- an operation of such a region -/
inductive Cm where
  | quiet (v : Value) (lim : Nat)
  | step (s : Nat)
  | fin (t : Nat) (f : Value → Value)
  | box
def cmAt (ks : List Cm) (i : Nat) : Cm := (ks[i]?).getD (.quiet undef 0)
def Cm.out (r : Nat → Value) (b : Nat → Option Nat) (i : Nat) : Cm → Value
  | .quiet v _ => v
  | .step s => r s
  | .fin t f => f (r t)
  | .box => match b i with
    | some g => .pointer (some ⟨g, 0, none⟩)
    | none => undef
def Cm.isBox : Cm → Bool
  | .box => true
  | _ => false
def putM (r : Nat → Value) (b : Nat → Option Nat) : Nat → List Cm → List Oper → Act → Act
  | k, d :: ks, o :: l, a => putM r b (k + 1) ks l (a.put o.dst (d.out r b k))
  | _, _, _, a => a
def updO (b : Nat → Option Nat) (i : Nat) (g : Nat) : Nat → Option Nat := fun j => if j = i then some g else b j
/-- the steps' places; what waits for what -/
def boxesOk (ks : List Cm) (l : List Oper) (st : List Nat) (n : Nat) : Bool :=
  decide (ks.length = l.length) && (l.all fun o => match o.dst with | some k => decide (k < n) | none => true) &&
  ((List.range st.length).all fun s => match st[s]? with
    | some i => decide (i < l.length) && (match cmAt ks i with | .step t => t == s | _ => false) && (s == 0 || (match st[s - 1]? with | some j => waits l i j | none => false))
    | none => false) &&
  ((List.range l.length).all fun i => match cmAt ks i with
    | .quiet _ lim => decide (st.length ≤ lim) || (match st[lim]? with | some j => waits l j i | none => false)
    | .step t => st[t]? == some i
    | .fin t _ => (List.range l.length).any fun j => waits l i j && (match cmAt ks j with | .step t' => t' == t | .fin t' _ => t' == t | _ => false)
    | .box => true)

section
variable {P : Program} {Q : Exit → Act → World → Prop}

structure RBx (ks : List Cm) (l : List Oper) (n m : Nat) (I : Nat → (Nat → Value) → (Nat → Option Nat) → World → Prop) (ls : Nat → Bool) (vs : Nat → Value) (s : Nat) (r : Nat → Value) (b : Nat → Option Nat) (w' : World) : Prop where
  lt : ∀ i, ls i = true → i < n
  steps : ∀ i t, i < n → cmAt ks i = .step t → (ls i = true ↔ t < s)
  fins : ∀ i t f, ls i = true → cmAt ks i = .fin t f → t < s
  box : ∀ i, i < n → cmAt ks i = .box → (ls i = true ↔ (b i).isSome = true)
  vals : ∀ i, ls i = true → vs i = (cmAt ks i).out r b i
  inv : I s r b w'
  le : s ≤ m
  closed : ∀ i j, ls j = true → waits l j i = true → ls i = true

theorem putM_all (L : Array Bool) (vs : Nat → Value) (r : Nat → Value) (b : Nat → Option Nat) : ∀ (l : List Oper) (k : Nat) (ks : List Cm) (a : Act), ks.length = l.length → (∀ i, i < l.length → L.getD (k + i) false = true) → (∀ i, i < l.length → vs (k + i) = (cmAt ks i).out r b (k + i)) → putL L vs k l a = putM r b k ks l a
  | [], _, [], _, _, _, _ => rfl
  | o :: l, k, d :: ks, a, hl, hL, hv => by
    simp only [putL, putM]
    rw [if_pos (by simpa using hL 0 (by simp)), show vs k = d.out r b k by simpa [cmAt] using hv 0 (by simp)]
    refine putM_all L vs r b l (k + 1) ks _ (by simpa using hl) (fun i hi => ?_) (fun i hi => ?_)
    · have := hL (i + 1) (by simpa using hi)
      rw [show k + (i + 1) = k + 1 + i by omega] at this; exact this
    · have := hv (i + 1) (by simpa using hi)
      rw [show k + (i + 1) = k + 1 + i by omega] at this
      simpa [cmAt] using this

theorem region_boxes {id : Nat} {a : Act} {w : World} {l : List Oper} (hm : P.follows .mixedOrders = true) (hB : regOk l = true) (ks : List Cm) (st : List Nat) (hK : boxesOk ks l st a.tmps.size = true)
    (I : Nat → (Nat → Value) → (Nat → Option Nat) → World → Prop) (h0 : I 0 (fun _ => undef) (fun _ => none) { w with drawn := w.drawn + 1 })
    (hstep : ∀ i o, l[i]? = some o → ∀ (a' : Act) (w' : World) (s : Nat) (r : Nat → Value) (b : Nat → Option Nat), I s r b w' → (∀ s, (l.all fun o => o.dst != some s) = true → a'.eval (.tmp s) = a.eval (.tmp s)) → (∀ j oj k, waits l i j = true → l[j]? = some oj → oj.dst = some k → a'.eval (.tmp k) = (cmAt ks j).out r b j) → (∀ j, waits l i j = true → cmAt ks j = .box → (b j).isSome = true) →
      match cmAt ks i with
      | .quiet v lim => s ≤ lim → (execOp a'.eval o).run P w' = .ok (.value v) w'
      | .step t => s = t → o.wp P a' w' (fun a'' w'' => ∃ v, a'' = a'.put o.dst v ∧ I (t + 1) (updR r t v) b w'') Q
      | .fin t f => t < s → (execOp a'.eval o).run P w' = .ok (.value (f (r t))) w'
      | .box => b i = none → ∃ ob, (execOp a'.eval o).run P w' = .ok (.value (.pointer (some ⟨w'.heap.size, 0, none⟩))) (w'.alloc ob) ∧ I s r (updO b i w'.heap.size) (w'.alloc ob))
    (hend : ∀ (r : Nat → Value) (b : Nat → Option Nat) (w' : World), I st.length r b w' → (∀ i, i < l.length → cmAt ks i = .box → ∃ g, b i = some g) → Q .normal (putM r b 0 ks l a) w') :
    (Code.region id l.toArray true).wp P Q a w := by
  simp only [boxesOk, Bool.and_eq_true, decide_eq_true_eq] at hK
  obtain ⟨⟨⟨hlen, hdst⟩, hst⟩, hall⟩ := hK
  have hap : dstsApart l = true := by simp only [regOk, Bool.and_eq_true] at hB; exact hB.1.1
  have hal : ∀ i, i < l.length → _ := fun i hi => List.all_eq_true.1 hall i (List.mem_range.2 hi)
  have hsl : ∀ s, s < st.length → _ := fun s hs => List.all_eq_true.1 hst s (List.mem_range.2 hs)
  have hstp : ∀ s, s < st.length → ∃ i, st[s]? = some i ∧ i < l.length ∧ cmAt ks i = .step s ∧ (0 < s → ∃ j, st[s - 1]? = some j ∧ waits l i j = true) := fun s hs => by
    have h := hsl s hs
    have e : st[s]? = some st[s] := List.getElem?_eq_getElem hs
    rw [e] at h
    simp only [Bool.and_eq_true, decide_eq_true_eq, Bool.or_eq_true, beq_iff_eq] at h
    refine ⟨st[s], e, h.1.1, ?_, fun h0 => ?_⟩
    · have h2 := h.1.2
      cases hk : cmAt ks st[s] with
      | quiet v lim => rw [hk] at h2; cases h2
      | fin t f => rw [hk] at h2; cases h2
      | box => rw [hk] at h2; cases h2
      | step t => rw [hk] at h2; simp at h2; rw [h2]
    · have h3 := h.2
      rcases h3 with h3 | h3
      · omega
      · have e2 : st[s - 1]? = some st[s - 1] := List.getElem?_eq_getElem (by omega)
        rw [e2] at h3
        exact ⟨_, e2, h3⟩
  have hst2 : ∀ i t, i < l.length → cmAt ks i = .step t → st[t]? = some i := fun i t hi hk => by
    have h := hal i hi
    rw [hk] at h
    simpa using h
  refine wp_region_inv hm hB (fun L vs w' => ∃ s r b, RBx ks l l.length st.length I (fun j => L.getD j false) vs s r b w') ?_ ?_ ?_
  · have hno : ∀ j, ¬ (Array.replicate l.length false).getD j false = true := fun j => by
      simp [Array.getD_eq_getD_getElem?, Array.getElem?_replicate]; split <;> simp
    exact ⟨0, fun _ => undef, fun _ => none, fun i h => absurd h (hno i), fun i t _ _ => ⟨fun h => absurd h (hno i), fun h => absurd h (Nat.not_lt_zero _)⟩, fun i _ _ h => absurd h (hno i), fun i _ _ => ⟨fun h => absurd h (hno i), fun h => by cases h⟩, fun i h => absurd h (hno i), h0, Nat.zero_le _, fun _ j h => absurd h (hno j)⟩
  · rintro L vs w' ⟨s, r, b, F⟩ i o ho hL hr
    have hi : i < l.length := (List.getElem?_eq_some_iff.1 ho).1
    have ni : L.getD i false = false := by simpa using listed_no hL
    have hset := setfun hL
    have hwt : ∀ j, waits l i j = true → L.getD j false = true := fun j hw => waits_spec hw ho hr
    have hfree : ∀ s, (l.all fun o => o.dst != some s) = true → (putL L vs 0 l a).eval (.tmp s) = a.eval (.tmp s) := fun s hs => putL_other l 0 a (fun p hp t ht e => by
      injection e with e
      subst e
      have := List.all_eq_true.1 hs p hp
      rw [ht] at this
      simp at this)
    have hvals : ∀ j oj k, waits l i j = true → l[j]? = some oj → oj.dst = some k → (putL L vs 0 l a).eval (.tmp k) = (cmAt ks j).out r b j := fun j oj k hw hoj hk => by
      have h1 := hwt j hw
      have hk2 := List.all_eq_true.1 hdst oj (List.mem_of_getElem? hoj)
      rw [hk] at hk2
      rw [putL_at h1 l 0 a oj hap (Nat.zero_le _) (by simpa using hoj) hk (by simpa using hk2)]
      exact F.vals j h1
    have hs := hstep i o ho (putL L vs 0 l a) w' s r b F.inv hfree hvals (fun j hw hj => (F.box j (F.lt j (hwt j hw)) hj).1 (hwt j hw))
    rw [hset]
    obtain ⟨ls, hls⟩ : ∃ ls : Nat → Bool, ls = fun j => L.getD j false := ⟨_, rfl⟩
    have hlsj : ∀ j, L.getD j false = ls j := fun j => by rw [hls]
    simp only [hlsj] at F ni hwt ⊢
    have hlt' : ∀ j, (decide (j = i) || ls j) = true → j < l.length := fun j hj => by
      simp only [Bool.or_eq_true, decide_eq_true_eq] at hj
      rcases hj with rfl | hj
      · exact hi
      · exact F.lt j hj
    have hcl : ∀ p j, (decide (j = i) || ls j) = true → waits l j p = true → (decide (p = i) || ls p) = true := fun p j hj hw => by
      simp only [Bool.or_eq_true, decide_eq_true_eq] at hj ⊢
      rcases hj with rfl | hj
      · exact .inr (hwt p hw)
      · exact .inr (F.closed p j hj hw)
    have hbxs : ∀ k, cmAt ks i = k → k.isBox = false → ∀ j, j < l.length → cmAt ks j = .box → ((decide (j = i) || ls j) = true ↔ (b j).isSome = true) := fun k h1 h2 j hj hjk => by
      have e : j ≠ i := fun e => by subst e; rw [h1] at hjk; subst hjk; cases h2
      simpa [e] using F.box j hj hjk
    have plain : ∀ (k : Cm) (v : Value), cmAt ks i = k → k.isBox = false → (∀ t, k ≠ .step t) → (∀ t f, k = .fin t f → t < s) → k.out r b i = v → ∃ s r b, RBx ks l l.length st.length I (fun j => decide (j = i) || ls j) (upd vs i v) s r b w' := fun k v hk h1 h2 h3 h4 => by
      refine ⟨s, r, b, hlt', ?_, ?_, hbxs k hk h1, ?_, F.inv, F.le, hcl⟩
      · intro j t hj hjk
        have e : j ≠ i := fun e => by subst e; rw [hk] at hjk; exact h2 t hjk
        simpa [e] using F.steps j t hj hjk
      · intro j t f hj hjk
        by_cases e : j = i
        · subst e; rw [hk] at hjk; exact h3 t f hjk
        · exact F.fins j t f (by simpa [e] using hj) hjk
      · intro j hj
        by_cases e : j = i
        · subst e; rw [upd_at, hk, h4]
        · rw [upd_ne e]; exact F.vals j (by simpa [e] using hj)
    cases hk : cmAt ks i with
    | fin t f =>
      rw [hk] at hs
      have hts : t < s := by
        have h := hal i hi
        rw [hk] at h
        obtain ⟨j, hjm, hj⟩ := List.any_eq_true.1 h
        simp only [Bool.and_eq_true] at hj
        have hjl := hwt j hj.1
        have h2 := hj.2
        cases hkj : cmAt ks j with
        | quiet v lim => rw [hkj] at h2; cases h2
        | box => rw [hkj] at h2; cases h2
        | step t' => rw [hkj] at h2; simp at h2; subst h2; exact (F.steps j t' (F.lt j hjl) hkj).1 hjl
        | fin t' f' => rw [hkj] at h2; simp at h2; subst h2; exact F.fins j t' f' hjl hkj
      exact oper_wp_ok (hs hts) ⟨_, rfl, plain (.fin t f) _ hk rfl (fun _ e => by cases e) (fun t' f' e => by injection e with e1; omega) rfl⟩
    | box =>
      rw [hk] at hs
      have hb0 : b i = none := by
        cases hbi : b i with
        | none => rfl
        | some g => have := (F.box i hi hk).2 (by rw [hbi]; rfl); rw [this] at ni; cases ni
      obtain ⟨ob, h1, h2⟩ := hs hb0
      refine oper_wp_ok h1 ⟨_, rfl, s, r, updO b i w'.heap.size, hlt', ?_, ?_, ?_, ?_, h2, F.le, hcl⟩
      · intro j t hj hjk
        have e : j ≠ i := fun e => by subst e; rw [hk] at hjk; cases hjk
        simpa [e] using F.steps j t hj hjk
      · intro j t f hj hjk
        have e : j ≠ i := fun e => by subst e; rw [hk] at hjk; cases hjk
        exact F.fins j t f (by simpa [e] using hj) hjk
      · intro j hj hjk
        by_cases e : j = i
        · subst e; simp [updO]
        · simpa [e, updO] using F.box j hj hjk
      · intro j hj
        by_cases e : j = i
        · subst e; rw [upd_at, hk]; simp [Cm.out, updO]
        · have hlj : ls j = true := by simpa [e] using hj
          rw [upd_ne e, F.vals j hlj]
          cases hkj : cmAt ks j with
          | quiet v' lim' => rfl
          | step t' => rfl
          | fin t' f' => rfl
          | box => simp [Cm.out, updO, e]
    | quiet v lim =>
      rw [hk] at hs
      have hle : s ≤ lim := by
        have h := hal i hi
        rw [hk] at h
        simp only [Bool.or_eq_true, decide_eq_true_eq] at h
        rcases h with h | h
        · exact Nat.le_trans F.le h
        · by_cases hlt : s ≤ lim
          · exact hlt
          · exfalso
            have hll : lim < st.length := by have := F.le; omega
            obtain ⟨j, e1, e2, e3, _⟩ := hstp lim hll
            rw [e1] at h
            have hlj := (F.steps j lim e2 e3).2 (by omega)
            rw [F.closed i j hlj h] at ni
            cases ni
      exact oper_wp_ok (hs hle) ⟨v, rfl, plain (.quiet v lim) v hk rfl (fun _ e => by cases e) (fun _ _ e => by cases e) rfl⟩
    | step t =>
      rw [hk] at hs
      have hti := hst2 i t hi hk
      have htl : t < st.length := (List.getElem?_eq_some_iff.1 hti).1
      have hst' : s = t := by
        have h1 : ¬ t < s := fun h => by rw [(F.steps i t hi hk).2 h] at ni; cases ni
        by_cases h0 : t = 0
        · omega
        · obtain ⟨i', e1, e2, e3, e4⟩ := hstp t htl
          rw [hti] at e1
          injection e1 with e1
          subst e1
          obtain ⟨j, q1, q2⟩ := e4 (by omega)
          obtain ⟨j', r1, r2, r3, _⟩ := hstp (t - 1) (by omega)
          rw [q1] at r1
          injection r1 with r1
          subst r1
          have := (F.steps j (t - 1) r2 r3).1 (hwt j q2)
          omega
      subst hst'
      refine Oper.wp_mono ?_ (hs rfl)
      rintro a'' w'' ⟨v, h1, h2⟩
      refine ⟨v, h1, s + 1, updR r s v, b, hlt', ?_, ?_, hbxs _ hk rfl, ?_, h2, htl, hcl⟩
      · intro j t' hj hjk
        by_cases e : j = i
        · subst e
          rw [hk] at hjk
          injection hjk with hjk
          subst hjk
          simp
        · have h3 := F.steps j t' hj hjk
          have hne : t' ≠ s := fun e' => by
            subst e'
            have := hst2 j t' hj hjk
            rw [hti] at this
            injection this with this
            exact e this.symm
          simp only [e, decide_false, Bool.false_or]
          rw [h3]; omega
      · intro j t' f hj hjk
        have e : j ≠ i := fun e => by subst e; rw [hk] at hjk; cases hjk
        have := F.fins j t' f (by simpa [e] using hj) hjk
        omega
      · intro j hj
        by_cases e : j = i
        · subst e; rw [upd_at, hk]; exact (updR_at r s v).symm
        · have hlj : ls j = true := by simpa [e] using hj
          rw [upd_ne e, F.vals j hlj]
          cases hkj : cmAt ks j with
          | quiet v' lim' => rfl
          | box => rfl
          | fin t' f' =>
            have := F.fins j t' f' hlj hkj
            exact congrArg f' (updR_ne (by omega)).symm
          | step t' =>
            have := (F.steps j t' (F.lt j hlj) hkj).1 hlj
            exact (updR_ne (by omega)).symm
  · rintro L vs w' ⟨s, r, b, F⟩ hlst
    have hs : s = st.length := by
      by_cases h : s < st.length
      · obtain ⟨i, e1, e2, e3, _⟩ := hstp s h
        have := (F.steps i s e2 e3).1 (hlst i e2)
        omega
      · have := F.le; omega
    subst hs
    rw [putM_all L vs r b l 0 ks a hlen (fun i hi => by rw [Nat.zero_add]; exact hlst i hi) (fun i hi => by rw [Nat.zero_add]; exact F.vals i (hlst i hi))]
    exact hend r b w' F.inv (fun i hi hk => Option.isSome_iff_exists.1 ((F.box i hi hk).1 (hlst i hi)))
end
end Go.Proofs.YtnpaejknoipicagGreat

namespace Go.Proofs.YtnpaejknoipicagGreat
open Go.RowKit Go.Sort

set_option maxHeartbeats 8000000 in
set_option maxRecDepth 100000 in
theorem numberOf_any (S : Nat → Prop) (M : Nat) (t : Tr) (c : Int) (p : Pk) (w : World) (hT : TkB S M w t c) (hp : p.chk = 0) :
    Calls Tryz.prog 105 #[.pointer (some ⟨M, 0, none⟩), p.val] w fun e w' => e = .returned (.tuple #[.int .i64 (numN t.last p), .int .i64 (numE t.last p)]) ∧ Below w.heap.size w w' := by
  obtain ⟨hv, bv, gv, ov, hM, hr⟩ := hT
  obtain ⟨p1, p2, _⟩ := Pk.chk_ok hp
  have y0 : w.cell? ⟨M, 0, none⟩ = some (.int .i64 t.last) := hM.cell rfl
  have hMw := hM.lt
  obtain ⟨last, hlast⟩ : ∃ x, x = t.last := ⟨_, rfl⟩
  rw [← hlast] at y0 ⊢
  clear hlast hM hr hp
  obtain ⟨W, hW⟩ : ∃ W, W = w.alloc (.cells #[.int .i64 p.seq, .int .i64 p.time, .bool p.f, .bool p.e, .bool p.k, .string p.t] 63) := ⟨_, rfl⟩
  have HB : Hid (Below w.heap.size w W) := by rw [hW]; exact (Below.refl _ _).alloc (Nat.le_refl _) _
  simp only [Pk.val]
  go_enter Tryz.func105, Tryz.ntmps105
  by_cases h0 : last = 0
  · have e1 : Hid (numN last p = p.seq + 65536 ∧ numE last p = 0) := by unfold numN numE; rw [if_pos h0, if_pos h0]; exact ⟨rfl, rfl⟩
    subst h0
    go_wp2
    rw [← hW]
    go_ret2
    rw [e1.out.1, e1.out.2]
    exact ⟨rfl, HB.out⟩
  · have e1 : Hid (numN last p = Cn.uwN last p.seq ∧ numE last p = Cn.uwE last p.seq) := by unfold numN numE; rw [if_neg h0, if_neg h0]; exact ⟨rfl, rfl⟩
    have h0b : (last == 0) = false := by simpa using h0
    go_wp2_with fail
    go_quiet ((go_at_call 140; refine Calls.quiet_of_same ((unwrap_any _ _ _).mono fun e w9 h => ⟨h.1, h.2.symm⟩)))
    rw [← hW]
    go_wp2
    go_ret2
    rw [e1.out.1, e1.out.2]
    exact ⟨rfl, below_drewN HB.out _⟩

theorem Fresh.slsIn {base : Nat} {S : Nat → Prop} {w : World} {v : Value} {l : List Sk} (h : Fresh base w v l) (hl : l.length ≤ 9223372036854775807) (hS : ∀ g, base ≤ g → S g) : SlsIn S w v l := ⟨h.1, hl, fun g hg _ => ⟨hS g (h.2 g hg).1, (h.2 g hg).2⟩⟩
theorem rel_olen (most : Nat) : ∀ (h : List Sk) (next : Int) (o : List Sk), (relF most next h o).2.2.length ≤ h.length + o.length
  | [], next, o => by simp [relF]
  | x :: r, next, o => by
    simp only [relF]
    split
    · have := rel_olen most r (next + 1) (o ++ [x]); simp at this ⊢; omega
    · split
      · simp
      · have := rel_olen most r (x.n + 1) (o ++ [x]); simp at this ⊢; omega
theorem put_olen {next : Int} {l : List Sk} {x : Sk} (hR : Right next l) : (putF next l x).2.2.length ≤ 100 := by
  have h4 := hR.2.1
  have key : ∀ (n' : Int), (relF 4 n' (insF l x) []).2.2.length ≤ (insF l x).length + 0 := fun n' => rel_olen 4 (insF l x) n' []
  have hi : (insF l x).length = l.length + 1 := by
    unfold insF putAt
    rw [List.length_append, List.length_cons, List.length_take, List.length_drop]; omega
  unfold putF
  repeat' split
  all_goals first | (simp; done) | (refine Nat.le_trans (key _) ?_; omega)

theorem Blk.sixc {w : World} {b : Nat} {x0 x1 x2 x3 x4 x5 : Value} {t : TypeId} (h : Blk w b #[x0, x1, x2, x3, x4, x5] t) :
    w.cell? ⟨b, 0, none⟩ = some x0 ∧ w.cell? ⟨b, 1, none⟩ = some x1 ∧ w.cell? ⟨b, 2, none⟩ = some x2 ∧ w.cell? ⟨b, 3, none⟩ = some x3 ∧ w.cell? ⟨b, 4, none⟩ = some x4 ∧ w.cell? ⟨b, 5, none⟩ = some x5 :=
  ⟨h.cell rfl, h.cell rfl, h.cell rfl, h.cell rfl, h.cell rfl, h.cell rfl⟩

set_option maxHeartbeats 16000000 in
set_option maxRecDepth 100000 in
theorem tkFeed_any (S : Nat → Prop) (M : Nat) (t : Tr) (s : List UInt8) (w : World) (hT : TkB S M w t (0 : Nat)) (hcl : t.last = 0 ∨ Cn.isNB t.last = true) (hR : Right t.next t.h) (hok : TkOk t) (hS : ∀ g, w.heap.size ≤ g → S g) :
    Calls Tryz.prog 63 #[.pointer (some ⟨M, 0, none⟩), .string (ba s)] w fun e w' => e = .returned (.int .i64 (feedR t s).2.2) ∧ ((feedR t s).2.2 = 0 → TkB S M w' (feedR t s).1 ((feedR t s).2.1 : Nat)) ∧ Kept [M] w w' := by
  have hMw := hT.lt
  have HT : Hid (TkB S M w t (0 : Nat)) := hT
  obtain ⟨hv, bv, gv, ov, hM, hr⟩ := hT
  obtain ⟨ha, hc, ba', bc, ga, gc, oa, oc, eh, eb, eg, eo⟩ := hr.slices
  obtain ⟨p, hp⟩ : ∃ x, x = (Pk.dec s).1 := ⟨_, rfl⟩
  obtain ⟨D, hD⟩ : ∃ x, x = (Pk.dec s).2 := ⟨_, rfl⟩
  obtain ⟨n, hn⟩ : ∃ x, x = numN t.last p := ⟨_, rfl⟩
  obtain ⟨NE, hNE⟩ : ∃ x, x = numE t.last p := ⟨_, rfl⟩
  obtain ⟨last, hlast⟩ : ∃ x, x = t.last := ⟨_, rfl⟩
  obtain ⟨next, hnext⟩ : ∃ x, x = t.next := ⟨_, rfl⟩
  obtain ⟨first, hfirst⟩ : ∃ x, x = t.first := ⟨_, rfl⟩
  obtain ⟨R, hRR⟩ : ∃ x, x = feedP t n p := ⟨_, rfl⟩
  obtain ⟨F, hF⟩ : ∃ x, x = feedR t s := ⟨_, rfl⟩
  have HF1 : Hid (¬ D = 0 → F = (Tr.zero, 0, D)) := fun h => by rw [hF]; unfold feedR; rw [← hD, if_neg h]
  have HF2 : Hid (D = 0 → ¬ NE = 0 → F = (Tr.zero, 0, NE)) := fun h h2 => by rw [hF]; unfold feedR; rw [← hD, if_pos h, ← hp, ← hNE, if_neg h2]
  have HF3 : Hid (D = 0 → NE = 0 → F = R) := fun h h2 => by rw [hF]; unfold feedR; rw [← hD, if_pos h, ← hp, ← hNE, if_pos h2, ← hn, ← hRR]
  have HPC : Hid (D = 0 → p.chk = 0) := fun h => by
    rcases Pk.dec_or s with ⟨_, h2⟩ | ⟨_, h2, _⟩
    · rw [← hD, h] at h2; cases h2
    · rw [hp]; exact h2
  have HDEC : Hid (Calls Tryz.prog 104 #[.string (ba s)] w fun e w' => e = .returned (.tuple #[.agg #[.int .i64 p.seq, .int .i64 p.time, .bool p.f, .bool p.e, .bool p.k, .string p.t], .int .i64 D]) ∧ Below w.heap.size w w') := by
    rw [hp, hD]; exact decode_any s w
  have HNO : Hid (D = 0 → ∀ W : World, Below w.heap.size w W → Calls Tryz.prog 105 #[.pointer (some ⟨M, 0, none⟩), .agg #[.int .i64 p.seq, .int .i64 p.time, .bool p.f, .bool p.e, .bool p.k, .string p.t]] W fun e w' => e = .returned (.tuple #[.int .i64 n, .int .i64 NE]) ∧ Below W.heap.size W w') := fun h W hW => by
    rw [hn, hNE]; exact numberOf_any S M t _ p W (HT.out.below hW) (HPC.out h)
  -- what comes of Put and pass, the number known
  have HGO : Hid (D = 0 → NE = 0 → ∃ N1 h1 o1, R = tkN o1 (t.buf (max t.last n) N1 h1, 0) ∧ (∀ W : World, w.heap.size ≤ W.heap.size → M < w.heap.size → SlsIn (fun g => S g ∧ g ≠ M) W hv t.h → Calls Tryz.prog 107 #[.agg #[.int .i64 next, hv], .agg #[.int .i64 n, .int .i64 p.seq, .int .i64 p.time, .bool p.f, .bool p.e, .bool p.k, .string p.t]] W fun e w' => ∃ pa pn pc qa qn qc, e = .returned (.tuple #[.agg #[.int .i64 N1, .slice pa pn pc], .slice qa qn qc, .int .i64 0]) ∧ Hid (SlsIn (fun g => S g ∧ g ≠ M) w' (.slice pa pn pc) h1) ∧ Hid (SlsIn (fun g => g ≠ M) w' (.slice qa qn qc) o1) ∧ Below W.heap.size W w') ∧ (∀ (W : World) (pv qv : Value), w.heap.size ≤ W.heap.size → TkB S M W (t.buf (max t.last n) t.next t.h) (0 : Nat) → SlsIn (fun g => S g ∧ g ≠ M) W pv h1 → SlsIn (fun g => g ≠ M) W qv o1 → Calls Tryz.prog 106 #[.pointer (some ⟨M, 0, none⟩), .agg #[.int .i64 N1, pv], qv, .int .i64 0] W fun e w' => e = .returned (.int .i64 R.2.2) ∧ Hid (R.2.2 = 0 → TkB S M w' R.1 (R.2.1 : Nat)) ∧ Hid (Kept [M] W w'))) := fun h0 h2 => by
    have hpc := HPC.out h0
    have hx : (Sk.mk n p).chk = 0 := by rw [hn]; exact num_slot hpc hcl (by rw [← hNE]; exact h2)
    obtain ⟨i1, i2, i3, i4, i5, i6, i7⟩ := put_inv hR hx
    obtain ⟨N1, hN1⟩ : ∃ x, x = (putF t.next t.h ⟨n, p⟩).1 := ⟨_, rfl⟩
    obtain ⟨h1, hh1⟩ : ∃ x, x = (putF t.next t.h ⟨n, p⟩).2.1 := ⟨_, rfl⟩
    obtain ⟨o1, ho1⟩ : ∃ x, x = (putF t.next t.h ⟨n, p⟩).2.2 := ⟨_, rfl⟩
    have hR2 : R = tkN o1 (t.buf (max t.last n) N1 h1, 0) := by rw [hRR, ho1, hN1, hh1]; rfl
    have hlo : o1.length ≤ 100 := by rw [ho1]; exact put_olen hR
    have hlh : h1.length ≤ 4 := by rw [hh1]; exact i1.2.1
    have hoc : ∀ y ∈ o1, y.chk = 0 := fun y hy => by
      rw [ho1] at hy
      rcases (i3 y hy).1 with e | e
      · rw [e]; exact hx
      · exact hR.2.2.1 y e
    refine ⟨N1, h1, o1, hR2, fun W hsz hMl hsl => ?_, fun W pv qv hsz htk q1 q2 => ?_⟩
    · rw [hnext]
      refine (bufPut_any t.next hv t.h ⟨n, p⟩ W hsl.1 hsl.2.1).mono ?_
      rintro e w' ⟨hv', ov', rfl, f1, f2, f3⟩
      have hp0 : pchk t.next t.h = 0 := (bchk_right _ _).2 hR
      have e0 : putE t.next t.h ⟨n, p⟩ = 0 := by unfold putE; rw [if_pos hp0]; exact hx
      have e1 : putR t.next t.h ⟨n, p⟩ = putF t.next t.h ⟨n, p⟩ := by unfold putR; rw [if_pos e0]
      rw [e1] at f1 f2 ⊢
      rw [← hh1] at f1
      rw [← ho1] at f2
      obtain ⟨pa, pc, e2⟩ := f1.1.len
      obtain ⟨qa, qc, e3⟩ := f2.1.len
      subst e2 e3
      rw [e0, ← hN1]
      exact ⟨pa, _, pc, qa, _, qc, rfl, f1.slsIn (by omega) (fun g hg => ⟨hS g (by omega), by omega⟩), f2.slsIn (by omega) (fun g hg => by omega), f3⟩
    · refine (tkPass_any S M (t.buf (max t.last n) t.next t.h) 0 N1 pv qv h1 o1 W htk hok q1 q2 hoc hlo (fun g hg => hS g (by omega)) (by omega)).mono ?_
      rintro e w' ⟨rfl, a1, a2⟩
      have e9 : (t.buf (max t.last n) t.next t.h).buf (t.buf (max t.last n) t.next t.h).last N1 h1 = t.buf (max t.last n) N1 h1 := rfl
      rw [e9, ← hR2] at a1 ⊢
      exact ⟨rfl, a1, a2⟩
  have HSUS : Hid (∀ g, w.heap.size ≤ g → S g) := hS
  have HR0 : Hid (TrIn (fun g => S g ∧ g ≠ M) w hv bv gv ov t) := hr
  obtain ⟨hn', hhn⟩ : ∃ x, x = t.h.length := ⟨_, rfl⟩
  obtain ⟨bn, hbn⟩ : ∃ x, x = t.o.length := ⟨_, rfl⟩
  obtain ⟨ln, hln⟩ : ∃ x, x = t.L.length := ⟨_, rfl⟩
  obtain ⟨lo, hlo⟩ : ∃ x, x = t.O.length := ⟨_, rfl⟩
  rw [← hhn] at eh
  rw [← hbn] at eb
  rw [← hln] at eg
  rw [← hlo] at eo
  have HTT : Hid (last = t.last ∧ next = t.next ∧ first = t.first) := ⟨hlast, hnext, hfirst⟩
  have HMX : Hid (max t.last n = max last n) := by show _ = _; rw [hlast]
  rw [← hlast, ← hnext, ← hfirst] at hM
  have HM : Hid (Blk w M #[.int .i64 last, .int .i64 next, hv, bv, .int .i64 first, gv, ov, .int .i64 (0 : Nat)] 155) := hM
  rw [← hF]
  clear hhn hbn hln hlo hlast hnext hfirst hM hr hR hok hS hcl hp hD hn hNE hRR hF
  subst eh eb eg eo
  go_enter Tryz.func63, Tryz.ntmps63
  go_wp2_with fail
  refine HDEC.out.mono ?_
  rintro e w1 ⟨rfl, b1⟩
  obtain ⟨W1, hW1⟩ : ∃ X, X = w1.alloc (.cells #[.int .i64 p.seq, .int .i64 p.time, .bool p.f, .bool p.e, .bool p.k, .string p.t] 63) := ⟨_, rfl⟩
  have HB1 : Hid (Below w.heap.size w W1) := by rw [hW1]; exact b1.alloc b1.size _
  have HP1 : Hid (Blk W1 w1.heap.size #[.int .i64 p.seq, .int .i64 p.time, .bool p.f, .bool p.e, .bool p.k, .string p.t] 63) := Blk.newE hW1
  have hs1 : w.heap.size ≤ w1.heap.size := b1.size
  clear HDEC b1
  by_cases hD0 : D = 0
  case neg =>
    have HFX : Hid (F = (Tr.zero, 0, D)) := HF1.out hD0
    go_wp2
    rw [← hW1]
    go_ret
    rw [HFX.out]
    exact ⟨rfl, fun h => absurd h hD0, (Kept.refl [M] w).below HB1.out⟩
  have HNO' : Hid (∀ W : World, Below w.heap.size w W → Calls Tryz.prog 105 #[.pointer (some ⟨M, 0, none⟩), .agg #[.int .i64 p.seq, .int .i64 p.time, .bool p.f, .bool p.e, .bool p.k, .string p.t]] W fun e w' => e = .returned (.tuple #[.int .i64 n, .int .i64 NE]) ∧ Below W.heap.size W w') := HNO.out hD0
  have HG2 := HGO.out hD0
  have HG3 : Hid (NE = 0 → _) := HG2
  have HF2' : Hid (¬ NE = 0 → F = (Tr.zero, 0, NE)) := HF2.out hD0
  have HF3' : Hid (NE = 0 → F = R) := HF3.out hD0
  obtain ⟨j0, j1, j2, j3, j4, j5⟩ := HP1.out.sixc
  clear HG2 HGO HNO HF1 HF2 HF3
  subst hD0
  go_upto_region 4 with fail
  rw [← hW1]
  clear hW1
  go_wp2_with fail
  refine (HNO'.out W1 HB1.out).mono ?_
  rintro e w2 ⟨rfl, b2⟩
  have HB2 : Hid (Below w.heap.size w w2) := HB1.out.trans (b2.mono HB1.out.size)
  have HP2 : Hid (Blk w2 w1.heap.size #[.int .i64 p.seq, .int .i64 p.time, .bool p.f, .bool p.e, .bool p.k, .string p.t] 63) := HP1.out.below b2 HP1.out.lt
  clear b2 HB1 HP1 j0 j1 j2 j3 j4 j5 HNO'
  by_cases hN0 : NE = 0
  case neg =>
    have HFX : Hid (F = (Tr.zero, 0, NE)) := HF2'.out hN0
    go_wp2
    go_ret
    rw [HFX.out]
    exact ⟨rfl, fun h => absurd h hN0, (Kept.refl [M] w).below HB2.out⟩
  obtain ⟨N1, h1, o1, hR2, hput, hpass⟩ := HG3.out hN0
  have HRF : Hid (F = R) := HF3'.out hN0
  have HM2 := HM.out.below HB2.out hMw
  obtain ⟨y0, y1, y2, y3, y4, y5, y6, y7⟩ := HM2.eight
  have fM := HM2.free
  have lM := HM2.lt
  have hB5 : w1.heap.size ≠ M := by omega
  obtain ⟨W, hW⟩ : ∃ X, X = w2.setCell ⟨M, 0, none⟩ (.int .i64 (max last n)) := ⟨_, rfl⟩
  have HKW : Hid (Kept [M] w W) := by rw [hW]; exact ((Kept.refl [M] w).below HB2.out).setCell (p := ⟨M, 0, none⟩) (by simp) _
  have HPW : Hid (Blk W w1.heap.size #[.int .i64 p.seq, .int .i64 p.time, .bool p.f, .bool p.e, .bool p.k, .string p.t] 63) := by rw [hW]; exact HP2.out.other (a := ⟨M, 0, none⟩) hB5 _
  have HMW : Hid (Blk W M #[.int .i64 (max last n), .int .i64 next, .slice ha hn' hc, .slice ba' bn bc, .int .i64 first, .slice ga ln gc, .slice oa lo oc, .int .i64 (0 : Nat)] 155) := by
    have := HM2.set 0 (.int .i64 (max last n))
    rw [hW]; simpa [Hid] using this
  have HRW : Hid (TrIn (fun g => S g ∧ g ≠ M) W (.slice ha hn' hc) (.slice ba' bn bc) (.slice ga ln gc) (.slice oa lo oc) t) := by
    have h2 := HR0.out.below HB2.out
    exact h2.to ⟨by rw [hW]; simp, fun g _ h => by rw [hW, Below.heap_setCell _ _ _ _ (by exact h.2)]⟩ (fun _ _ h => h)
  have HTW : Hid (TkB S M W (t.buf (max t.last n) t.next t.h) (0 : Nat)) := by
    refine ⟨_, _, _, _, ?_, HRW.out⟩
    have := HMW.out
    rw [HTT.out.2.1, HTT.out.2.2, ← HMX.out] at this
    exact this
  have hsW : w.heap.size ≤ W.heap.size := HKW.out.size
  have HPUT : Hid (∀ w', Below W.heap.size W w' → Calls Tryz.prog 107 #[.agg #[.int .i64 next, .slice ha hn' hc], .agg #[.int .i64 n, .int .i64 p.seq, .int .i64 p.time, .bool p.f, .bool p.e, .bool p.k, .string p.t]] w' fun e w'' => ∃ pa pn pc qa qn qc, e = .returned (.tuple #[.agg #[.int .i64 N1, .slice pa pn pc], .slice qa qn qc, .int .i64 0]) ∧ Hid (SlsIn (fun g => S g ∧ g ≠ M) w'' (.slice pa pn pc) h1) ∧ Hid (SlsIn (fun g => g ≠ M) w'' (.slice qa qn qc) o1) ∧ Below w'.heap.size w' w'') := fun w' hb => hput w' (Nat.le_trans hsW hb.size) hMw (HRW.out.1.below hb)
  have HPASS : Hid (∀ (w' : World) (pv qv : Value), Below W.heap.size W w' → SlsIn (fun g => S g ∧ g ≠ M) w' pv h1 → SlsIn (fun g => g ≠ M) w' qv o1 → Calls Tryz.prog 106 #[.pointer (some ⟨M, 0, none⟩), .agg #[.int .i64 N1, pv], qv, .int .i64 0] w' fun e w'' => e = .returned (.int .i64 R.2.2) ∧ Hid (R.2.2 = 0 → TkB S M w'' R.1 (R.2.1 : Nat)) ∧ Hid (Kept [M] W w'')) := fun w' pv qv hb q1 q2 => by
    refine (hpass w' pv qv (Nat.le_trans hsW hb.size) (HTW.out.below hb) q1 q2).mono ?_
    rintro e w'' ⟨rfl, a1, a2⟩
    exact ⟨rfl, a1, ((Kept.refl [M] W).below hb).trans a2.out⟩
  clear hput hpass hR2 HG3 HF2' HF3' HM2 HRW HTW HR0 HP2 HB2 HM HT HTT HMX HSUS HPC
  subst hN0
  obtain ⟨B, hBe⟩ : ∃ x, x = w1.heap.size := ⟨_, rfl⟩
  rw [← hBe] at HPW
  go_upto_region 8 with fail
  have hmx : (if last < n then n else last) = max last n := by split <;> omega
  rw [hmx, ← hW, ← hBe]
  have hBM : B ≠ M := by omega
  clear hmx hW hBe y0 y1 y2 y3 y4 y5 y6 y7 fM lM hB5
  refine region_boxes (by kernel_rfl) (by kernel_rfl) [.quiet (.pointer (some ⟨M, 0, none⟩)) 3, .quiet (.pointer (some ⟨M, 0, none⟩)) 3, .quiet (.pointer (some ⟨M, 0, none⟩)) 3, .quiet (.pointer (some ⟨M, 0, none⟩)) 3, .quiet (.pointer (some ⟨M, 1, none⟩)) 3, .quiet (.agg #[.int .i64 next, .slice ha hn' hc]) 0, .quiet (.int .i64 n) 3, .quiet (.agg #[.int .i64 p.seq, .int .i64 p.time, .bool p.f, .bool p.e, .bool p.k, .string p.t]) 3, .quiet (.agg #[.int .i64 n, .int .i64 p.seq, .int .i64 p.time, .bool p.f, .bool p.e, .bool p.k, .string p.t]) 3, .step 0, .fin 0 (exT 0), .fin 0 (exT 1), .fin 0 (exT 2), .step 1, .step 2] [9, 13, 14] (by kernel_rfl)
    (fun s r _ w' => (0 < s → ∃ pa pn pc qa qn qc, r 0 = .tuple #[.agg #[.int .i64 N1, .slice pa pn pc], .slice qa qn qc, .int .i64 0]) ∧ (match s with
      | 0 => Below W.heap.size W w'
      | 1 => Below W.heap.size W w' ∧ ∃ pa pn pc qa qn qc, r 0 = .tuple #[.agg #[.int .i64 N1, .slice pa pn pc], .slice qa qn qc, .int .i64 0] ∧ SlsIn (fun g => S g ∧ g ≠ M) w' (.slice pa pn pc) h1 ∧ SlsIn (fun g => g ≠ M) w' (.slice qa qn qc) o1
      | 2 => Kept [M] W w' ∧ r 1 = .int .i64 R.2.2 ∧ (R.2.2 = 0 → TkB S M w' R.1 (R.2.1 : Nat))
      | _ => Kept [M] W w' ∧ r 2 = .int .i64 R.2.2 ∧ (R.2.2 = 0 → TkB S M w' R.1 (R.2.1 : Nat))
      )) ⟨fun h => absurd h (Nat.lt_irrefl _), (Below.refl _ W).drew⟩ ?step ?fin
  case step =>
    intro i o ho a' w' s r b ⟨hr0, hI⟩ hfree hvals hbx
    have f0 : a'.eval (.tmp 0) = .pointer (some ⟨M, 0, none⟩) := (hfree 0 (by kernel_rfl)).trans rfl
    have f7 : a'.eval (.tmp 7) = .int .i64 n := (hfree 7 (by kernel_rfl)).trans rfl
    have f5 : a'.eval (.tmp 5) = .pointer (some ⟨B, 0, none⟩) := (hfree 5 (by kernel_rfl)).trans rfl
    match i, ho with
    | 0, ho =>
      simp at ho; subst ho
      show s ≤ 3 → (execOp a'.eval _).run _ w' = .ok (.value _) w'
      intro hs
      generalize a'.eval = ρ at *
      simp [execOp, go_sem, f0]
    | 1, ho =>
      simp at ho; subst ho
      show s ≤ 3 → (execOp a'.eval _).run _ w' = .ok (.value _) w'
      intro hs
      generalize a'.eval = ρ at *
      simp [execOp, go_sem, f0]
    | 2, ho =>
      simp at ho; subst ho
      show s ≤ 3 → (execOp a'.eval _).run _ w' = .ok (.value _) w'
      intro hs
      have e37 : a'.eval (.tmp 37) = .pointer (some ⟨M, 0, none⟩) := hvals 1 _ _ (by kernel_rfl) rfl rfl
      generalize a'.eval = ρ at *
      simp [execOp, go_sem, e37]
    | 3, ho =>
      simp at ho; subst ho
      show s ≤ 3 → (execOp a'.eval _).run _ w' = .ok (.value _) w'
      intro hs
      have e38 : a'.eval (.tmp 38) = .pointer (some ⟨M, 0, none⟩) := hvals 2 _ _ (by kernel_rfl) rfl rfl
      generalize a'.eval = ρ at *
      simp [execOp, go_sem, e38]
    | 4, ho =>
      simp at ho; subst ho
      show s ≤ 3 → (execOp a'.eval _).run _ w' = .ok (.value _) w'
      intro hs
      have e39 : a'.eval (.tmp 39) = .pointer (some ⟨M, 0, none⟩) := hvals 3 _ _ (by kernel_rfl) rfl rfl
      generalize a'.eval = ρ at *
      simp [execOp, go_sem, e39]
    | 5, ho =>
      simp at ho; subst ho
      show s ≤ 0 → (execOp a'.eval _).run _ w' = .ok (.value _) w'
      intro hs
      have e40 : a'.eval (.tmp 40) = .pointer (some ⟨M, 1, none⟩) := hvals 4 _ _ (by kernel_rfl) rfl rfl
      obtain rfl : s = 0 := by omega
      have hB : Below W.heap.size W w' := hI
      obtain ⟨y0, y1, y2, y3, y4, y5, y6, y7⟩ := (HMW.out.below hB HMW.out.lt).eight
      generalize a'.eval = ρ at *
      simp [execOp, go_sem, e40, y1, y2]
    | 6, ho =>
      simp at ho; subst ho
      show s ≤ 3 → (execOp a'.eval _).run _ w' = .ok (.value _) w'
      intro hs
      generalize a'.eval = ρ at *
      simp [execOp, go_sem, f7]
    | 7, ho =>
      simp at ho; subst ho
      show s ≤ 3 → (execOp a'.eval _).run _ w' = .ok (.value _) w'
      intro hs
      have hPB : Blk w' B #[.int .i64 p.seq, .int .i64 p.time, .bool p.f, .bool p.e, .bool p.k, .string p.t] 63 := by
        match s, hI with
        | 0, hI => exact HPW.out.below hI HPW.out.lt
        | 1, hI => exact HPW.out.below hI.1 HPW.out.lt
        | 2, hI => exact HPW.out.kept hI.1 (by simpa using hBM)
        | n + 3, hI => exact HPW.out.kept hI.1 (by simpa using hBM)
      obtain ⟨j0, j1, j2, j3, j4, j5⟩ := hPB.sixc
      generalize a'.eval = ρ at *
      simp [execOp, go_sem, f5, j0, j1, j2, j3, j4, j5]
    | 8, ho =>
      simp at ho; subst ho
      show s ≤ 3 → (execOp a'.eval _).run _ w' = .ok (.value _) w'
      intro hs
      have e42 : a'.eval (.tmp 42) = .int .i64 n := hvals 6 _ _ (by kernel_rfl) rfl rfl
      have e43 : a'.eval (.tmp 43) = .agg #[.int .i64 p.seq, .int .i64 p.time, .bool p.f, .bool p.e, .bool p.k, .string p.t] := hvals 7 _ _ (by kernel_rfl) rfl rfl
      generalize a'.eval = ρ at *
      simp [execOp, go_sem, e42, e43]
    | 9, ho =>
      simp at ho; subst ho
      have e41 : a'.eval (.tmp 41) = .agg #[.int .i64 next, .slice ha hn' hc] := hvals 5 _ _ (by kernel_rfl) rfl rfl
      have e44 : a'.eval (.tmp 44) = .agg #[.int .i64 n, .int .i64 p.seq, .int .i64 p.time, .bool p.f, .bool p.e, .bool p.k, .string p.t] := hvals 8 _ _ (by kernel_rfl) rfl rfl
      show s = 0 → _
      intro hs
      subst hs
      have hB : Below W.heap.size W w' := hI
      have ef : a'.eval (.func 107) = .func (.func 107) #[] #[] := rfl
      refine oper_wp_call (f := 107) (args := #[.agg #[.int .i64 next, .slice ha hn' hc], .agg #[.int .i64 n, .int .i64 p.seq, .int .i64 p.time, .bool p.f, .bool p.e, .bool p.k, .string p.t]]) ?_ ((HPUT.out w' hB).mono ?_)
      · generalize a'.eval = ρ at *
        simp [execOp, go_sem, e41, e44, ef]
      · rintro e w'' ⟨pa, pn, pc, qa, qn, qc, rfl, q1, q2, b1⟩
        exact ⟨_, rfl, _, rfl, fun _ => ⟨pa, pn, pc, qa, qn, qc, updR_at _ _ _⟩, hB.trans (b1.mono hB.size), pa, pn, pc, qa, qn, qc, updR_at _ _ _, q1.out, q2.out⟩
    | 10, ho =>
      simp at ho; subst ho
      have e45 : a'.eval (.tmp 45) = r 0 := hvals 9 _ _ (by kernel_rfl) rfl rfl
      show 0 < s → (execOp a'.eval _).run _ w' = .ok (.value _) w'
      intro hs
      obtain ⟨pa, pn, pc, qa, qn, qc, er⟩ : ∃ pa pn pc qa qn qc, r 0 = .tuple #[.agg #[.int .i64 N1, .slice pa pn pc], .slice qa qn qc, .int .i64 0] := hr0 hs
      rw [er] at e45 ⊢
      simp only [exT] at e45 ⊢
      generalize a'.eval = ρ at *
      simp [execOp, go_sem, e45]
    | 11, ho =>
      simp at ho; subst ho
      have e45 : a'.eval (.tmp 45) = r 0 := hvals 9 _ _ (by kernel_rfl) rfl rfl
      show 0 < s → (execOp a'.eval _).run _ w' = .ok (.value _) w'
      intro hs
      obtain ⟨pa, pn, pc, qa, qn, qc, er⟩ : ∃ pa pn pc qa qn qc, r 0 = .tuple #[.agg #[.int .i64 N1, .slice pa pn pc], .slice qa qn qc, .int .i64 0] := hr0 hs
      rw [er] at e45 ⊢
      simp only [exT] at e45 ⊢
      generalize a'.eval = ρ at *
      simp [execOp, go_sem, e45]
    | 12, ho =>
      simp at ho; subst ho
      have e45 : a'.eval (.tmp 45) = r 0 := hvals 9 _ _ (by kernel_rfl) rfl rfl
      show 0 < s → (execOp a'.eval _).run _ w' = .ok (.value _) w'
      intro hs
      obtain ⟨pa, pn, pc, qa, qn, qc, er⟩ : ∃ pa pn pc qa qn qc, r 0 = .tuple #[.agg #[.int .i64 N1, .slice pa pn pc], .slice qa qn qc, .int .i64 0] := hr0 hs
      rw [er] at e45 ⊢
      simp only [exT] at e45 ⊢
      generalize a'.eval = ρ at *
      simp [execOp, go_sem, e45]
    | 13, ho =>
      simp at ho; subst ho
      show s = 1 → _
      intro hs
      subst hs
      obtain ⟨hB, pa, pn, pc, qa, qn, qc, er, q1, q2⟩ := hI
      have e36 : a'.eval (.tmp 36) = .pointer (some ⟨M, 0, none⟩) := hvals 0 _ _ (by kernel_rfl) rfl rfl
      have e46 : a'.eval (.tmp 46) = .agg #[.int .i64 N1, .slice pa pn pc] := (hvals 10 _ _ (by kernel_rfl) rfl rfl).trans (by show exT 0 (r 0) = _; rw [er]; rfl)
      have e47 : a'.eval (.tmp 47) = .slice qa qn qc := (hvals 11 _ _ (by kernel_rfl) rfl rfl).trans (by show exT 1 (r 0) = _; rw [er]; rfl)
      have e48 : a'.eval (.tmp 48) = .int .i64 0 := (hvals 12 _ _ (by kernel_rfl) rfl rfl).trans (by show exT 2 (r 0) = _; rw [er]; rfl)
      have ef : a'.eval (.func 106) = .func (.func 106) #[] #[] := rfl
      refine oper_wp_call (f := 106) (args := #[.pointer (some ⟨M, 0, none⟩), .agg #[.int .i64 N1, .slice pa pn pc], .slice qa qn qc, .int .i64 0]) ?_ ((HPASS.out w' _ _ hB q1 q2).mono ?_)
      · generalize a'.eval = ρ at *
        simp [execOp, go_sem, e36, e46, e47, e48, ef]
      · rintro e w'' ⟨rfl, a1, a2⟩
        exact ⟨_, rfl, _, rfl, fun _ => ⟨pa, pn, pc, qa, qn, qc, by rw [updR_ne (by omega)]; exact er⟩, a2.out, updR_at _ _ _, a1.out⟩
    | 14, ho =>
      simp at ho; subst ho
      show s = 2 → _
      intro hs
      subst hs
      obtain ⟨k1, er, k2⟩ := hI
      have e49 : a'.eval (.tmp 49) = .int .i64 R.2.2 := (hvals 13 _ _ (by kernel_rfl) rfl rfl).trans er
      obtain ⟨pa, pn, pc, qa, qn, qc, er0⟩ := hr0 (by omega)
      refine oper_wp_ok (v := .int .i64 R.2.2) (w' := w') ?_ ⟨_, rfl, fun _ => ⟨pa, pn, pc, qa, qn, qc, by rw [updR_ne (by omega)]; exact er0⟩, k1, updR_at _ _ _, k2⟩
      generalize a'.eval = ρ at *
      simp [execOp, go_sem, e49]
    | i + 15, ho => simp at ho
  case fin =>
    rintro r b w7 ⟨hr0, k1, er, k2⟩ _
    obtain ⟨pa, pn, pc, qa, qn, qc, er0⟩ := hr0 (by decide)
    simp only [putM, Cm.out, er, er0, exT, Act.put, List.setIfInBounds_toArray, List.set_cons_succ, List.set_cons_zero]
    have K1 : Hid (Kept [M] W w7) := k1
    have K2 : Hid (R.2.2 = 0 → TkB S M w7 R.1 (R.2.1 : Nat)) := k2
    clear k1 k2 er er0 hr0
    go_wp2
    go_ret
    rw [HRF.out]
    exact ⟨rfl, K2.out, HKW.out.trans K1.out⟩

end Go.Proofs.YtnpaejknoipicagGreat

namespace Go.Proofs.YtnpaejknoipicagGreat
open Go.RowKit

set_option maxHeartbeats 4000000 in
set_option maxRecDepth 100000 in
/-- of a group that may be empty, too -/
theorem cloneGroupO_any (S : Nat → Prop) (v : Value) (l : List Fr) (w : World) (hv : FrsIn S w v l) (h6 : l.length ≤ 6) (hck : ∀ k, k < l.length → (frAt l k).chk = 0) :
    Calls Tryz.prog 70 #[.agg #[v]] w fun e w' => ∃ a c, e = .returned (.agg #[.slice a l.length c]) ∧ FrsIn (fun g => w.heap.size ≤ g) w' (.slice a l.length c) l ∧ Below w.heap.size w w' := by
  obtain ⟨va, vc, ev, _, _⟩ := hv.len
  obtain ⟨n, hn⟩ : ∃ n, n = l.length := ⟨_, rfl⟩
  have HN : Hid (n = l.length) := hn
  have HV : Hid (FrsIn S w v l) := hv
  have HC : Hid (∀ U, Below w.heap.size w U → Calls Tryz.prog 111 #[v, .func (.func 112) #[] #[]] U fun e w' => ∃ a c, e = .returned (.slice a n c) ∧ Hid (FrsIn (fun g => U.heap.size ≤ g) w' (.slice a n c) l) ∧ Below U.heap.size U w') := fun U hU => by
    refine (cloneFrs_any S v l U (HV.out.below hU) h6 hck).mono ?_
    rintro e w' ⟨u, rfl, ho, hb⟩
    have hf : FrsIn (fun g => U.heap.size ≤ g) w' u l := ho.frsIn (fun g _ h => h.1) (fun g hg => (ho.lt g hg).1)
    obtain ⟨a, c, e, _, _⟩ := hf.len
    rw [← hn] at e
    subst e
    exact ⟨a, c, rfl, hf, hb⟩
  rw [← hn] at ev ⊢
  clear hv hck hn h6
  subst ev
  go_enter Tryz.func70, Tryz.ntmps70
  go_wp2_with fail
  have B1 : Hid (Below w.heap.size w ((w.alloc (.cells #[.slice va n vc] 30)).alloc (.cells #[.slice none 0 0] 30))) := ((Below.refl _ _).alloc (Nat.le_refl _) _).alloc (by simp) _
  have K1 : Hid (Blk ((w.alloc (.cells #[.slice va n vc] 30)).alloc (.cells #[.slice none 0 0] 30)) (w.heap.size + 1) #[.slice none 0 0] 30) := by
    have := Blk.new (w.alloc (.cells #[.slice va n vc] 30)) #[.slice none 0 0] 30
    simpa [Hid] using this
  refine (HC.out _ B1.out).mono ?_
  rintro e w2 ⟨a2, c2, rfl, HF, hb2⟩
  have B2 : Hid (Below w.heap.size w w2) := B1.out.trans (hb2.mono B1.out.size)
  have K2 := K1.out.below hb2 K1.out.lt
  have r0 := K2.one
  have r1 := K2.free 0
  have c9 : (w2.setCell ⟨w.heap.size + 1, 0, none⟩ (.slice a2 n c2)).cell? ⟨w.heap.size + 1, 0, none⟩ = some (.slice a2 n c2) := (K2.set 0 _).cell rfl
  have F9 : Hid (FrsIn (fun g => w.heap.size ≤ g) (w2.setCell ⟨w.heap.size + 1, 0, none⟩ (.slice a2 n c2)) (.slice a2 n c2) l) := HF.out.to (SameOn.setCell (fun g hg => by simp at hg ⊢; omega) _) (fun g _ hg => by simp at hg; omega)
  clear hb2 K1 B1 K2 HF
  go_wp2
  exact bodyPost_ret (v := .agg #[.slice a2 n c2]) (by simp [results, Tryz.results70, go_sem, c9]) rfl ⟨a2, c2, rfl, F9.out, B2.out.setCell (by simp) _⟩

/-- between the steps: the box with the cells C, the result's box, the rows that are copied -/
def ClT (w U : World) (C : Array Value) (hv bv gv ov : Value) (t : Tr) : Prop :=
  Below w.heap.size w U ∧ Blk U w.heap.size C 34 ∧
  Blk U (w.heap.size + 1) #[.int .i64 0, .int .i64 0, .slice none 0 0, .slice none 0 0, .int .i64 0, .slice none 0 0, .slice none 0 0] 34 ∧
  w.heap.size + 2 ≤ U.heap.size ∧ TrIn (fun g => g < w.heap.size) U hv bv gv ov t
theorem ClT.go {w U U' : World} {C : Array Value} {hv bv gv ov : Value} {t : Tr} (h : ClT w U C hv bv gv ov t) (hb : Below U.heap.size U U') : ClT w U' C hv bv gv ov t := by
  obtain ⟨h1, h2, h3, h4, h5⟩ := h
  exact ⟨h1.trans (hb.mono h1.size), h2.below hb h2.lt, h3.below hb h3.lt, Nat.le_trans h4 hb.size, h5.below hb⟩
theorem ClT.set {w U : World} {C : Array Value} {hv bv gv ov : Value} {t : Tr} (h : ClT w U C hv bv gv ov t) (i : Nat) (v : Value) : ClT w (U.setCell ⟨w.heap.size, i, none⟩ v) (C.setIfInBounds i v) hv bv gv ov t := by
  obtain ⟨h1, h2, h3, h4, h5⟩ := h
  exact ⟨h1.setCell (by simp) _, h2.set i v, h3.other (a := ⟨w.heap.size, i, none⟩) (by simp) v, by simpa using h4, h5.to (SameOn.setCell (fun g hg => by simp at hg ⊢; omega) _) (fun g _ hg => hg)⟩
theorem sls_set {w U : World} {v : Value} {l : List Sk} (h : SlsIn (fun g => w.heap.size + 2 ≤ g) U v l) (i : Nat) (u : Value) : SlsIn (fun g => w.heap.size + 2 ≤ g) (U.setCell ⟨w.heap.size, i, none⟩ u) v l :=
  h.to (SameOn.setCell (fun g hg => by simp at hg ⊢; omega) _) (fun g _ hg => hg)
theorem grs_set {w U : World} {v : Value} {l : List (List Fr)} (h : GrsIn (fun g => w.heap.size + 2 ≤ g) U v l) (i : Nat) (u : Value) : GrsIn (fun g => w.heap.size + 2 ≤ g) (U.setCell ⟨w.heap.size, i, none⟩ u) v l :=
  h.to (SameOn.setCell (fun g hg => by simp at hg ⊢; omega) _) (fun g _ hg => hg)
theorem frs_set {w U : World} {v : Value} {l : List Fr} (h : FrsIn (fun g => w.heap.size + 2 ≤ g) U v l) (i : Nat) (u : Value) : FrsIn (fun g => w.heap.size + 2 ≤ g) (U.setCell ⟨w.heap.size, i, none⟩ u) v l :=
  h.to (SameOn.setCell (fun g hg => by simp at hg ⊢; omega) _) (fun g _ hg => hg)
/-- what the result's box holds, written cell by cell -/
theorem seven_out {w : World} {A : Nat} {t : TypeId} (h : Blk w A #[.int .i64 0, .int .i64 0, .slice none 0 0, .slice none 0 0, .int .i64 0, .slice none 0 0, .slice none 0 0] t) (x0 x1 x2 x3 x4 x5 x6 : Value) :
    Blk (((((((w.setCell ⟨A, 0, none⟩ x0).setCell ⟨A, 1, none⟩ x1).setCell ⟨A, 2, none⟩ x2).setCell ⟨A, 3, none⟩ x3).setCell ⟨A, 4, none⟩ x4).setCell ⟨A, 5, none⟩ x5).setCell ⟨A, 6, none⟩ x6) A #[x0, x1, x2, x3, x4, x5, x6] t :=
  ((((((h.set 0 x0).set 1 x1).set 2 x2).set 3 x3).set 4 x4).set 5 x5).set 6 x6

set_option maxHeartbeats 8000000 in
set_option maxRecDepth 100000 in
theorem cloneTrack_any (S : Nat → Prop) (t : Tr) (hv bv gv ov : Value) (w : World) (hr : TrIn S w hv bv gv ov t) (hck : t.chk = 0) :
    Calls Tryz.prog 30 #[.agg #[.int .i64 t.last, .int .i64 t.next, hv, bv, .int .i64 t.first, gv, ov]] w fun e w' => ∃ hv' bv' gv' ov', e = .returned (.agg #[.int .i64 t.last, .int .i64 t.next, hv', bv', .int .i64 t.first, gv', ov']) ∧ TrIn (fun g => w.heap.size ≤ g) w' hv' bv' gv' ov' t ∧ Below w.heap.size w w' := by
  obtain ⟨_, hR, hO, hS, _⟩ := Tr.chk_zero.1 hck
  obtain ⟨_, hl4, hch, _⟩ := hR
  obtain ⟨ho3, _, hco⟩ := ochk_len hO
  obtain ⟨_, _, hL5, hLg, _, hOg⟩ := stchk_zero.1 hS
  have h6 : t.O.length ≤ 6 ∧ ∀ k, k < t.O.length → (frAt t.O k).chk = 0 := by
    rcases hOg with h | h
    · rw [h]; exact ⟨by simp, fun k hk => absurd hk (by simp)⟩
    · obtain ⟨_, h1, h2⟩ := gchk_zero.1 h
      exact ⟨h1, fun k hk => (h2 k hk).1⟩
  obtain ⟨ha, hc, ba', bc, ga, gc, oa, oc, eh, eb, eg, eo⟩ := hr.slices
  have hr' : TrIn (fun g => g < w.heap.size) w hv bv gv ov t := hr.mono fun g hg _ => hg
  obtain ⟨nh, hnh⟩ : ∃ n, n = t.h.length := ⟨_, rfl⟩
  obtain ⟨no, hno⟩ : ∃ n, n = t.o.length := ⟨_, rfl⟩
  obtain ⟨ng, hng⟩ : ∃ n, n = t.L.length := ⟨_, rfl⟩
  obtain ⟨nO, hnO⟩ : ∃ n, n = t.O.length := ⟨_, rfl⟩
  have H1 : Hid (∀ U C, ClT w U C hv bv gv ov t → Calls Tryz.prog 68 #[hv] U fun e w' => ∃ a c, e = .returned (.slice a nh c) ∧ Hid (SlsIn (fun g => w.heap.size + 2 ≤ g) w' (.slice a nh c) t.h) ∧ Below U.heap.size U w') := fun U C hU => by
    refine (copyAll_any hv t.h U hU.2.2.2.2.1.1 (by omega) (fun x hx => Sk.chk_short (hch x hx))).mono ?_
    rintro e w' ⟨u, rfl, ho, hb⟩
    have hf : SlsIn (fun g => w.heap.size + 2 ≤ g) w' u t.h := SlsIn.of (Sls.of_owns ho) (by omega) (fun g hg _ => Nat.le_trans hU.2.2.2.1 (owns_blk ho hg).1)
    obtain ⟨a, c, e⟩ := hf.len
    rw [← hnh] at e
    subst e
    exact ⟨a, c, rfl, hf, hb⟩
  have H2 : Hid (∀ U C, ClT w U C hv bv gv ov t → Calls Tryz.prog 68 #[bv] U fun e w' => ∃ a c, e = .returned (.slice a no c) ∧ Hid (SlsIn (fun g => w.heap.size + 2 ≤ g) w' (.slice a no c) t.o) ∧ Below U.heap.size U w') := fun U C hU => by
    refine (copyAll_any bv t.o U hU.2.2.2.2.2.1.1 (by omega) (fun x hx => Sk.chk_short (hco x hx))).mono ?_
    rintro e w' ⟨u, rfl, ho, hb⟩
    have hf : SlsIn (fun g => w.heap.size + 2 ≤ g) w' u t.o := SlsIn.of (Sls.of_owns ho) (by omega) (fun g hg _ => Nat.le_trans hU.2.2.2.1 (owns_blk ho hg).1)
    obtain ⟨a, c, e⟩ := hf.len
    rw [← hno] at e
    subst e
    exact ⟨a, c, rfl, hf, hb⟩
  have H3 : Hid (∀ U C, ClT w U C hv bv gv ov t → Calls Tryz.prog 69 #[gv] U fun e w' => ∃ a c, e = .returned (.slice a ng c) ∧ Hid (GrsIn (fun g => w.heap.size + 2 ≤ g) w' (.slice a ng c) t.L) ∧ Below U.heap.size U w') := fun U C hU => by
    refine (cloneGroups_any _ gv t.L U hU.2.2.2.2.2.2.1 (by omega) hLg).mono ?_
    rintro e w' ⟨u, rfl, ho, hb⟩
    have hf : GrsIn (fun g => w.heap.size + 2 ≤ g) w' u t.L := ho.grsIn (fun g _ h => Nat.le_trans hU.2.2.2.1 h.1) (fun g hg => Nat.le_trans hU.2.2.2.1 (ho.lt g hg).1)
    obtain ⟨a, c, e, _, _⟩ := hf.len
    rw [← hng] at e
    subst e
    exact ⟨a, c, rfl, hf, hb⟩
  have H4 : Hid (∀ U C, ClT w U C hv bv gv ov t → Calls Tryz.prog 70 #[.agg #[ov]] U fun e w' => ∃ a c, e = .returned (.agg #[.slice a nO c]) ∧ Hid (FrsIn (fun g => w.heap.size + 2 ≤ g) w' (.slice a nO c) t.O) ∧ Below U.heap.size U w') := fun U C hU => by
    refine (cloneGroupO_any _ ov t.O U hU.2.2.2.2.2.2.2 h6.1 h6.2).mono ?_
    rintro e w' ⟨a, c, rfl, hf, hb⟩
    rw [← hnO] at hf ⊢
    exact ⟨a, c, rfl, hf.mono fun g _ h => Nat.le_trans hU.2.2.2.1 h, hb⟩
  rw [← hnh] at eh
  rw [← hno] at eb
  rw [← hng] at eg
  rw [← hnO] at eo
  obtain ⟨last, hla⟩ : ∃ x, x = t.last := ⟨_, rfl⟩
  obtain ⟨next, hne⟩ : ∃ x, x = t.next := ⟨_, rfl⟩
  obtain ⟨first, hfi⟩ : ∃ x, x = t.first := ⟨_, rfl⟩
  rw [← hla, ← hne, ← hfi]
  have HI : Hid (ClT w ((w.alloc (.cells #[.int .i64 last, .int .i64 next, hv, bv, .int .i64 first, gv, ov] 34)).alloc (.cells #[.int .i64 0, .int .i64 0, .slice none 0 0, .slice none 0 0, .int .i64 0, .slice none 0 0, .slice none 0 0] 34)) #[.int .i64 last, .int .i64 next, hv, bv, .int .i64 first, gv, ov] hv bv gv ov t) := by
    have b1 : Below w.heap.size w (w.alloc (.cells #[.int .i64 last, .int .i64 next, hv, bv, .int .i64 first, gv, ov] 34)) := (Below.refl _ _).alloc (Nat.le_refl _) _
    have k1 := Blk.new w #[.int .i64 last, .int .i64 next, hv, bv, .int .i64 first, gv, ov] 34
    have k2 := Blk.new (w.alloc (.cells #[.int .i64 last, .int .i64 next, hv, bv, .int .i64 first, gv, ov] 34)) #[.int .i64 0, .int .i64 0, .slice none 0 0, .slice none 0 0, .int .i64 0, .slice none 0 0, .slice none 0 0] 34
    have b2 : Below w.heap.size w ((w.alloc (.cells #[.int .i64 last, .int .i64 next, hv, bv, .int .i64 first, gv, ov] 34)).alloc (.cells #[.int .i64 0, .int .i64 0, .slice none 0 0, .slice none 0 0, .int .i64 0, .slice none 0 0, .slice none 0 0] 34)) := b1.alloc (by simp) _
    exact ⟨b2, k1.below ((Below.refl _ _).alloc (Nat.le_refl _) _) k1.lt, by simpa using k2, by simp, hr'.below b2⟩
  clear hla hne hfi hr hr' hck hO hS hl4 hch ho3 hco hL5 hLg hOg h6 hnh hno hng hnO
  subst eh eb eg eo
  go_enter Tryz.func30, Tryz.ntmps30
  obtain ⟨W, hW⟩ : ∃ W, W = (w.alloc (.cells #[.int .i64 last, .int .i64 next, .slice ha nh hc, .slice ba' no bc, .int .i64 first, .slice ga ng gc, .slice oa nO oc] 34)).alloc (.cells #[.int .i64 0, .int .i64 0, .slice none 0 0, .slice none 0 0, .int .i64 0, .slice none 0 0, .slice none 0 0] 34) := ⟨_, rfl⟩
  rw [← hW] at HI
  go_wp2_with fail
  rw [← hW]
  clear hW
  refine (H1.out W _ HI.out).mono ?_
  rintro e w1 ⟨a1, c1, rfl, D1, b1⟩
  have HI1 := HI.out.go b1
  clear b1 HI H1
  have f := HI1.2.1.free 2
  obtain ⟨y0, y1, y2, y3, y4, y5, y6⟩ := HI1.2.1.sevenc
  have J1 : Hid (ClT w (w1.setCell ⟨w.heap.size, 2, none⟩ (.slice a1 nh c1)) #[.int .i64 last, .int .i64 next, .slice a1 nh c1, .slice ba' no bc, .int .i64 first, .slice ga ng gc, .slice oa nO oc] (.slice ha nh hc) (.slice ba' no bc) (.slice ga ng gc) (.slice oa nO oc) t) := HI1.set 2 (.slice a1 nh c1)
  have D1' : Hid (SlsIn (fun g => w.heap.size + 2 ≤ g) (w1.setCell ⟨w.heap.size, 2, none⟩ (.slice a1 nh c1)) (.slice a1 nh c1) t.h) := sls_set D1.out 2 _
  clear D1 HI1
  go_wp2_with fail
  refine (H2.out _ _ J1.out).mono ?_
  rintro e w2 ⟨a2, c2, rfl, D2, b1⟩
  clear f y0 y1 y2 y3 y4 y5 y6
  have HI2 := J1.out.go b1
  have D1 : Hid (SlsIn (fun g => w.heap.size + 2 ≤ g) w2 (.slice a1 nh c1) t.h) := D1'.out.below b1
  clear b1 J1 D1' H2
  have f := HI2.2.1.free 3
  obtain ⟨y0, y1, y2, y3, y4, y5, y6⟩ := HI2.2.1.sevenc
  have J2 : Hid (ClT w (w2.setCell ⟨w.heap.size, 3, none⟩ (.slice a2 no c2)) #[.int .i64 last, .int .i64 next, .slice a1 nh c1, .slice a2 no c2, .int .i64 first, .slice ga ng gc, .slice oa nO oc] (.slice ha nh hc) (.slice ba' no bc) (.slice ga ng gc) (.slice oa nO oc) t) := HI2.set 3 (.slice a2 no c2)
  have D1' : Hid (SlsIn (fun g => w.heap.size + 2 ≤ g) (w2.setCell ⟨w.heap.size, 3, none⟩ (.slice a2 no c2)) (.slice a1 nh c1) t.h) := sls_set D1.out 3 _
  have D2' : Hid (SlsIn (fun g => w.heap.size + 2 ≤ g) (w2.setCell ⟨w.heap.size, 3, none⟩ (.slice a2 no c2)) (.slice a2 no c2) t.o) := sls_set D2.out 3 _
  clear D1 D2 HI2
  go_wp2_with fail
  refine (H3.out _ _ J2.out).mono ?_
  rintro e w3 ⟨a3, c3, rfl, D3, b1⟩
  clear f y0 y1 y2 y3 y4 y5 y6
  have HI3 := J2.out.go b1
  have D1 : Hid (SlsIn (fun g => w.heap.size + 2 ≤ g) w3 (.slice a1 nh c1) t.h) := D1'.out.below b1
  have D2 : Hid (SlsIn (fun g => w.heap.size + 2 ≤ g) w3 (.slice a2 no c2) t.o) := D2'.out.below b1
  clear b1 J2 D1' D2' H3
  have f := HI3.2.1.free 5
  obtain ⟨y0, y1, y2, y3, y4, y5, y6⟩ := HI3.2.1.sevenc
  have J3 : Hid (ClT w (w3.setCell ⟨w.heap.size, 5, none⟩ (.slice a3 ng c3)) #[.int .i64 last, .int .i64 next, .slice a1 nh c1, .slice a2 no c2, .int .i64 first, .slice a3 ng c3, .slice oa nO oc] (.slice ha nh hc) (.slice ba' no bc) (.slice ga ng gc) (.slice oa nO oc) t) := HI3.set 5 (.slice a3 ng c3)
  have D1' : Hid (SlsIn (fun g => w.heap.size + 2 ≤ g) (w3.setCell ⟨w.heap.size, 5, none⟩ (.slice a3 ng c3)) (.slice a1 nh c1) t.h) := sls_set D1.out 5 _
  have D2' : Hid (SlsIn (fun g => w.heap.size + 2 ≤ g) (w3.setCell ⟨w.heap.size, 5, none⟩ (.slice a3 ng c3)) (.slice a2 no c2) t.o) := sls_set D2.out 5 _
  have D3' : Hid (GrsIn (fun g => w.heap.size + 2 ≤ g) (w3.setCell ⟨w.heap.size, 5, none⟩ (.slice a3 ng c3)) (.slice a3 ng c3) t.L) := grs_set D3.out 5 _
  clear D1 D2 D3 HI3
  go_wp2_with fail
  refine (H4.out _ _ J3.out).mono ?_
  rintro e w4 ⟨a4, c4, rfl, D4, b1⟩
  clear f y0 y1 y2 y3 y4 y5 y6
  have HI4 := J3.out.go b1
  have D1 : Hid (SlsIn (fun g => w.heap.size + 2 ≤ g) w4 (.slice a1 nh c1) t.h) := D1'.out.below b1
  have D2 : Hid (SlsIn (fun g => w.heap.size + 2 ≤ g) w4 (.slice a2 no c2) t.o) := D2'.out.below b1
  have D3 : Hid (GrsIn (fun g => w.heap.size + 2 ≤ g) w4 (.slice a3 ng c3) t.L) := D3'.out.below b1
  clear b1 J3 D1' D2' D3' H4
  have f := HI4.2.1.free 6
  obtain ⟨y0, y1, y2, y3, y4, y5, y6⟩ := HI4.2.1.sevenc
  obtain ⟨W, hW⟩ : ∃ W, W = w4.setCell ⟨w.heap.size, 6, none⟩ (.slice a4 nO c4) := ⟨_, rfl⟩
  have J4 : Hid (ClT w W #[.int .i64 last, .int .i64 next, .slice a1 nh c1, .slice a2 no c2, .int .i64 first, .slice a3 ng c3, .slice a4 nO c4] (.slice ha nh hc) (.slice ba' no bc) (.slice ga ng gc) (.slice oa nO oc) t) := by rw [hW]; exact HI4.set 6 (.slice a4 nO c4)
  have DD : Hid (TrIn (fun g => w.heap.size + 2 ≤ g) W (.slice a1 nh c1) (.slice a2 no c2) (.slice a3 ng c3) (.slice a4 nO c4) t) := by rw [hW]; exact ⟨sls_set D1.out 6 _, sls_set D2.out 6 _, grs_set D3.out 6 _, frs_set D4.out 6 _⟩
  obtain ⟨z0, z1, z2, z3, z4, z5, z6⟩ := HI4.2.2.1.sevenc
  have g0 := HI4.2.2.1.free 0
  have g1 := HI4.2.2.1.free 1
  have g2 := HI4.2.2.1.free 2
  have g3 := HI4.2.2.1.free 3
  have g4 := HI4.2.2.1.free 4
  have g5 := HI4.2.2.1.free 5
  have g6 := HI4.2.2.1.free 6
  clear D1 D2 D3 D4 HI4
  go_wp2_with fail
  clear f y0 y1 y2 y3 y4 y5 y6 z0 z1 z2 z3 z4 z5 z6 g0 g1 g2 g3 g4 g5 g6
  rw [← hW]
  clear hW
  have KZ := seven_out J4.out.2.2.1 (.int .i64 last) (.int .i64 next) (.slice a1 nh c1) (.slice a2 no c2) (.int .i64 first) (.slice a3 ng c3) (.slice a4 nO c4)
  have hsame : SameOn (fun g => w.heap.size + 2 ≤ g) W (((((((W.setCell ⟨w.heap.size + 1, 0, none⟩ (.int .i64 last)).setCell ⟨w.heap.size + 1, 1, none⟩ (.int .i64 next)).setCell ⟨w.heap.size + 1, 2, none⟩ (.slice a1 nh c1)).setCell ⟨w.heap.size + 1, 3, none⟩ (.slice a2 no c2)).setCell ⟨w.heap.size + 1, 4, none⟩ (.int .i64 first)).setCell ⟨w.heap.size + 1, 5, none⟩ (.slice a3 ng c3)).setCell ⟨w.heap.size + 1, 6, none⟩ (.slice a4 nO c4)) := by
    refine ⟨by simp, fun g _ hg => ?_⟩
    have hne : g ≠ w.heap.size + 1 := by omega
    iterate 6 refine (Below.heap_setCell _ _ _ _ (by exact hne)).trans ?_
    exact Below.heap_setCell _ _ _ _ (by exact hne)
  have RES := DD.out.to (S' := fun g => w.heap.size ≤ g) hsame (fun g _ hg => by omega)
  have BZ : Below w.heap.size w (((((((W.setCell ⟨w.heap.size + 1, 0, none⟩ (.int .i64 last)).setCell ⟨w.heap.size + 1, 1, none⟩ (.int .i64 next)).setCell ⟨w.heap.size + 1, 2, none⟩ (.slice a1 nh c1)).setCell ⟨w.heap.size + 1, 3, none⟩ (.slice a2 no c2)).setCell ⟨w.heap.size + 1, 4, none⟩ (.int .i64 first)).setCell ⟨w.heap.size + 1, 5, none⟩ (.slice a3 ng c3)).setCell ⟨w.heap.size + 1, 6, none⟩ (.slice a4 nO c4)) :=
    ((((((J4.out.1.setCell (by simp) _).setCell (by simp) _).setCell (by simp) _).setCell (by simp) _).setCell (by simp) _).setCell (by simp) _).setCell (by simp) _
  obtain ⟨Z, hZ⟩ : ∃ Z, Z = (((((((W.setCell ⟨w.heap.size + 1, 0, none⟩ (.int .i64 last)).setCell ⟨w.heap.size + 1, 1, none⟩ (.int .i64 next)).setCell ⟨w.heap.size + 1, 2, none⟩ (.slice a1 nh c1)).setCell ⟨w.heap.size + 1, 3, none⟩ (.slice a2 no c2)).setCell ⟨w.heap.size + 1, 4, none⟩ (.int .i64 first)).setCell ⟨w.heap.size + 1, 5, none⟩ (.slice a3 ng c3)).setCell ⟨w.heap.size + 1, 6, none⟩ (.slice a4 nO c4)) := ⟨_, rfl⟩
  rw [← hZ] at KZ RES BZ ⊢
  clear hZ hsame J4 DD
  obtain ⟨q0, q1, q2, q3, q4, q5, q6⟩ := KZ.sevenc
  exact bodyPost_ret (v := .agg #[.int .i64 last, .int .i64 next, .slice a1 nh c1, .slice a2 no c2, .int .i64 first, .slice a3 ng c3, .slice a4 nO c4]) (by simp [results, Tryz.results30, go_sem, q0, q1, q2, q3, q4, q5, q6]) rfl ⟨_, _, _, _, rfl, RES, BZ⟩

end Go.Proofs.YtnpaejknoipicagGreat

namespace Go.Proofs.YtnpaejknoipicagGreat
open Go.RowKit

set_option maxHeartbeats 4000000 in
set_option maxRecDepth 100000 in
theorem trkBuilder_any (v : Value) (l : List Sk) (w : World) (hv : Sls w v l) (hlen : l.length ≤ 9223372036854775807) :
    Calls Tryz.prog 102 #[.agg #[v]] w fun e w' => e = .returned (.int .i64 (ochk l)) ∧ Below w.heap.size w w' := by
  obtain ⟨a, c, ev⟩ := hv.len
  obtain ⟨n, hn⟩ : ∃ n, n = l.length := ⟨_, rfl⟩
  rw [← hn] at ev
  obtain ⟨E, hE⟩ : ∃ E, E = ochk l := ⟨_, rfl⟩
  have hx : (Sk.mk 65536 Pk.zero).chk = 0 := by decide
  have HADD : Hid (∀ W : World, Below w.heap.size w W → Calls Tryz.prog 133 #[.agg #[v], .agg #[.int .i64 65536, .int .i64 0, .int .i64 0, .bool false, .bool false, .bool false, .string ⟨#[]⟩]] W fun e w' => ∃ oa on oc pa pn pc T K B, e = .returned (.tuple #[.agg #[.slice oa on oc], .agg #[.int .i64 T, .bool K, .slice pa pn pc], .bool B, .int .i64 E]) ∧ Below W.heap.size W w') := fun W hW => by
    refine (frameAdd_any v l ⟨65536, Pk.zero⟩ W (hv.below hW) hlen).mono ?_
    rintro e w' ⟨ov, pv, rfl, ⟨h1, h2, _⟩, h5⟩
    have e0 : addE l ⟨65536, Pk.zero⟩ = E := by
      unfold addE; rw [hE]
      by_cases h : ochk l = 0
      · rw [if_pos h, hx, h]
      · rw [if_neg h]
    obtain ⟨oa, oc, e1⟩ := h1.len
    obtain ⟨pa, pc, e2⟩ := h2.len
    subst e1 e2
    rw [e0]
    exact ⟨oa, _, oc, pa, _, pc, _, _, _, rfl, h5⟩
  rw [← hE]
  clear hE hx hn hv
  subst ev
  obtain ⟨W, hW⟩ : ∃ W, W = w.alloc (.cells #[.slice a n c] 26) := ⟨_, rfl⟩
  have HB : Hid (Below w.heap.size w W) := by rw [hW]; exact (Below.refl _ _).alloc (Nat.le_refl _) _
  go_enter Tryz.func102, Tryz.ntmps102
  go_wp2_with fail
  rw [← hW]
  clear hW
  refine (HADD.out W HB.out).mono ?_
  rintro e w1 ⟨oa, on, oc, pa, pn, pc, T, K, B, rfl, b1⟩
  have B1 : Hid (Below w.heap.size w w1) := HB.out.trans (b1.mono HB.out.size)
  obtain ⟨W2, hW2⟩ : ∃ W, W = (w1.alloc (.cells #[.slice oa on oc] 26)).alloc (.cells #[.int .i64 T, .bool K, .slice pa pn pc] 98) := ⟨_, rfl⟩
  have B2 : Hid (Below w.heap.size w W2) := by
    rw [hW2]; exact (B1.out.alloc B1.out.size _).alloc (by have := B1.out.size; simp; omega) _
  clear b1 B1
  go_wp2
  rw [← hW2]
  go_ret
  exact ⟨rfl, B2.out⟩

set_option maxHeartbeats 8000000 in
set_option maxRecDepth 100000 in
theorem trkCheck_any (S : Nat → Prop) (t : Tr) (hv bv gv ov : Value) (w : World) (hr : TrIn S w hv bv gv ov t) :
    Calls Tryz.prog 59 #[.agg #[.int .i64 t.last, .int .i64 t.next, hv, bv, .int .i64 t.first, gv, ov]] w fun e w' => e = .returned (.int .i64 t.chk) ∧ Below w.heap.size w w' := by
  obtain ⟨ha, hc, ba', bc, ga, gc, oa, oc, eh, eb, eg, eo⟩ := hr.slices
  obtain ⟨last, hlast⟩ : ∃ x, x = t.last := ⟨_, rfl⟩
  obtain ⟨next, hnext⟩ : ∃ x, x = t.next := ⟨_, rfl⟩
  obtain ⟨first, hfirst⟩ : ∃ x, x = t.first := ⟨_, rfl⟩
  obtain ⟨hn, hhn⟩ : ∃ x, x = t.h.length := ⟨_, rfl⟩
  obtain ⟨bn, hbn⟩ : ∃ x, x = t.o.length := ⟨_, rfl⟩
  obtain ⟨ln, hln⟩ : ∃ x, x = t.L.length := ⟨_, rfl⟩
  obtain ⟨lo, hlo⟩ : ∃ x, x = t.O.length := ⟨_, rfl⟩
  rw [← hhn] at eh
  rw [← hbn] at eb
  rw [← hln] at eg
  rw [← hlo] at eo
  obtain ⟨NB, hNB⟩ : ∃ b, b = Cn.isNB last := ⟨_, rfl⟩
  obtain ⟨EW, hEW⟩ : ∃ e : Int, e = if NB then 0 else 3 := ⟨_, rfl⟩
  have HEW : Hid (EW = if NB then 0 else 3) := hEW
  obtain ⟨BE, hBE⟩ : ∃ b, b = bchk next t.h := ⟨_, rfl⟩
  obtain ⟨OE, hOE⟩ : ∃ b, b = ochk t.o := ⟨_, rfl⟩
  obtain ⟨SE, hSE⟩ : ∃ b, b = stchk first t.L t.O := ⟨_, rfl⟩
  obtain ⟨C, hC⟩ : ∃ b, b = t.chk := ⟨_, rfl⟩
  have HC : Hid (C = if ¬ last = 0 ∧ NB = false then 3 else if BE = 0 then (if OE = 0 then (if SE = 0 then (if (last == 0) = (next == 0) then 0 else 4) else SE) else OE) else BE) := by
    show C = _
    rw [hC, hNB, hBE, hOE, hSE, hlast, hnext, hfirst]; rfl
  have HWR : Hid (∀ W : World, Calls Tryz.prog 100 #[.int .i64 last] W fun e w' => ∃ x, e = .returned (.tuple #[.int .i64 x, .int .i64 EW]) ∧ W = w') := fun W => by
    refine (wrap_any last W).mono ?_
    rintro e w' ⟨rfl, rfl⟩
    exact ⟨Cn.wrN last, by rw [hEW, hNB]; rfl, rfl⟩
  have HBC : Hid (∀ W : World, Below w.heap.size w W → Calls Tryz.prog 101 #[.agg #[.int .i64 next, hv]] W fun e w' => e = .returned (.int .i64 BE) ∧ Below W.heap.size W w') := fun W hW => by
    rw [hBE]; exact bufCheck_any next hv t.h W (hr.1.below hW).1 hr.1.2.1
  have HOC : Hid (∀ W : World, Below w.heap.size w W → Calls Tryz.prog 102 #[.agg #[bv]] W fun e w' => e = .returned (.int .i64 OE) ∧ Below W.heap.size W w') := fun W hW => by
    rw [hOE]; exact trkBuilder_any bv t.o W (hr.2.1.below hW).1 hr.2.1.2.1
  have HSC : Hid (∀ W : World, Below w.heap.size w W → Calls Tryz.prog 103 #[.agg #[.int .i64 first, gv, ov]] W fun e w' => e = .returned (.int .i64 SE) ∧ Below W.heap.size W w') := fun W hW => by
    rw [hSE]; exact storeCheck_any S first gv ov t.L t.O W (hr.2.2.1.below hW) (hr.2.2.2.below hW)
  rw [← hlast, ← hnext, ← hfirst, ← hC]
  clear hlast hnext hfirst hhn hbn hln hlo hNB hBE hOE hSE hC hr hEW
  subst eh eb eg eo
  obtain ⟨W0, hW0⟩ : ∃ W, W = w.alloc (.cells #[.int .i64 last, .int .i64 next, .slice ha hn hc, .slice ba' bn bc, .int .i64 first, .slice ga ln gc, .slice oa lo oc] 34) := ⟨_, rfl⟩
  have HS0 : Hid (Stay W0 (fun U => Blk U w.heap.size #[.int .i64 last, .int .i64 next, .slice ha hn hc, .slice ba' bn bc, .int .i64 first, .slice ga ln gc, .slice oa lo oc] 34 ∧ Below w.heap.size w U)) := by
    have hb : Below w.heap.size w W0 := by rw [hW0]; exact (Below.refl _ _).alloc (Nat.le_refl _) _
    exact (Blk.newE hW0).stay.and (below_stay hb hb.size)
  obtain ⟨y0, y1, y2, y3, y4, y5, y6⟩ := HS0.out.now.1.sevenc
  go_enter Tryz.func59, Tryz.ntmps59
  go_wp2_with fail
  rw [← hW0]
  clear hW0
  refine (HWR.out W0).mono ?_
  rintro e w1 ⟨x, rfl, rfl⟩
  have BW : Hid (Below w.heap.size w W0) := HS0.out.now.2
  by_cases h1 : ¬ last = 0 ∧ NB = false
  · have hc3 : Hid (C = 3) := by show C = _; rw [HC.out, if_pos h1]
    obtain ⟨h1a, h1b⟩ := h1
    have he3 : EW = 3 := by rw [HEW.out, h1b]; rfl
    subst he3
    clear HS0
    go_wp2
    go_ret
    rw [hc3.out]
    exact ⟨rfl, BW.out⟩
  have HC2 : Hid (C = if BE = 0 then (if OE = 0 then (if SE = 0 then (if (last == 0) = (next == 0) then 0 else 4) else SE) else OE) else BE) := by show C = _; rw [HC.out, if_neg h1]
  have hcond : (EW = 0) ∨ (EW = 3 ∧ last = 0) := by
    cases hb : NB
    · right
      refine ⟨by rw [HEW.out, hb]; rfl, ?_⟩
      by_cases h : last = 0
      · exact h
      · exact absurd ⟨h, hb⟩ h1
    · left; rw [HEW.out, hb]; rfl
  clear HC h1 HEW
  go_upto_region 2 with fail
  go_cut [20] (fun s20 wc => s20 = .bool false ∧ wc = W0)
  case first =>
    rcases hcond with h | ⟨h, h'⟩
    · subst h
      go_wp2_with fail
      go_meet
      case rel => exact ⟨rfl, rfl⟩
    · subst h h'
      go_wp2_with fail
      go_meet
      case rel => exact ⟨rfl, rfl⟩
  case rest =>
    obtain ⟨rfl, rfl⟩ := hcut
    clear hcond HWR
    go_wp2_with fail
    refine (HBC.out _ BW.out).mono ?_
    rintro e w1 ⟨rfl, b1⟩
    have HS1 := Stay.go HS0 b1
    clear b1 HS0 BW y0 y1 y2 y3 y4 y5 y6
    have BW : Hid (Below w.heap.size w w1) := HS1.out.now.2
    by_cases h1 : BE = 0
    case neg =>
      have hc3 : Hid (C = BE) := by show C = _; rw [HC2.out, if_neg h1]
      clear HS1
      go_wp2
      go_ret
      rw [hc3.out]
      exact ⟨rfl, BW.out⟩
    have HC3 : Hid (C = if OE = 0 then (if SE = 0 then (if (last == 0) = (next == 0) then 0 else 4) else SE) else OE) := by show C = _; rw [HC2.out, if_pos h1]
    subst h1
    clear HC2
    obtain ⟨y0, y1, y2, y3, y4, y5, y6⟩ := HS1.out.now.1.sevenc
    go_wp2_with fail
    refine (HOC.out _ BW.out).mono ?_
    rintro e w2 ⟨rfl, b1⟩
    have HS2 := Stay.go HS1 b1
    clear b1 HS1 BW y0 y1 y2 y3 y4 y5 y6
    have BW : Hid (Below w.heap.size w w2) := HS2.out.now.2
    by_cases h1 : OE = 0
    case neg =>
      have hc3 : Hid (C = OE) := by show C = _; rw [HC3.out, if_neg h1]
      clear HS2
      go_wp2
      go_ret
      rw [hc3.out]
      exact ⟨rfl, BW.out⟩
    have HC4 : Hid (C = if SE = 0 then (if (last == 0) = (next == 0) then 0 else 4) else SE) := by show C = _; rw [HC3.out, if_pos h1]
    subst h1
    clear HC3
    obtain ⟨y0, y1, y2, y3, y4, y5, y6⟩ := HS2.out.now.1.sevenc
    go_wp2_with fail
    refine (HSC.out _ BW.out).mono ?_
    rintro e w3 ⟨rfl, b1⟩
    have HS3 := Stay.go HS2 b1
    clear b1 HS2 BW y0 y1 y2 y3 y4 y5 y6
    have BW : Hid (Below w.heap.size w w3) := HS3.out.now.2
    by_cases h1 : SE = 0
    case neg =>
      have hc3 : Hid (C = SE) := by show C = _; rw [HC4.out, if_neg h1]
      clear HS3
      go_wp2
      go_ret
      rw [hc3.out]
      exact ⟨rfl, BW.out⟩
    have HC5 : Hid (C = if (last == 0) = (next == 0) then 0 else 4) := by show C = _; rw [HC4.out, if_pos h1]
    subst h1
    clear HC4
    obtain ⟨y0, y1, y2, y3, y4, y5, y6⟩ := HS3.out.now.1.sevenc
    clear HS3
    cases hl : (last == 0) <;> cases hx : (next == 0)
    · have hc3 : Hid (C = 0) := by show C = _; rw [HC5.out, hl, hx]; rfl
      go_wp2
      go_ret
      rw [hc3.out]
      exact ⟨rfl, BW.out⟩
    · have hc3 : Hid (C = 4) := by show C = _; rw [HC5.out, hl, hx]; rfl
      go_wp2
      go_ret
      rw [hc3.out]
      exact ⟨rfl, BW.out⟩
    · have hc3 : Hid (C = 4) := by show C = _; rw [HC5.out, hl, hx]; rfl
      go_wp2
      go_ret
      rw [hc3.out]
      exact ⟨rfl, BW.out⟩
    · have hc3 : Hid (C = 0) := by show C = _; rw [HC5.out, hl, hx]; rfl
      go_wp2
      go_ret
      rw [hc3.out]
      exact ⟨rfl, BW.out⟩

end Go.Proofs.YtnpaejknoipicagGreat
