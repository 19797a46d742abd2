/-
 Contract: the first region of the store keeper's add: what the frames of the open group and one more make.
-/
import Derived.Test.YtnpaejknoipicagGreatMgDeskPaused5
import Derived.Lib.AppendZeros
import Derived.Test.YtnpaejknoipicagGreatMgDeskPaused3
import Derived.BigQuiet
import Derived.Test.YtnpaejknoipicagGreatMgDeskPaused4
import Derived.Deep.Cut
import Derived.Deep.DeepCutAuto
namespace Go.Proofs.YtnpaejknoipicagGreat
open Go.RowKit
def trimD : List (List Fr) → Nat
 | [] => 0
 | g :: r => if fullB (g :: r) then trimD r + 1 else 0
theorem fullB_nil : fullB [] = false := by simp [fullB, tooB]
theorem trimD_no {L : List (List Fr)} (h : fullB L = false) : trimD L = 0 := by
 cases L with
 | nil => rfl
 | cons g r => simp [trimD, h]
theorem trimD_yes {L : List (List Fr)} (h : fullB L = true) : trimD L = trimD L.tail + 1 := by
 cases L with
 | nil => rw [fullB_nil] at h; cases h
 | cons g r => simp [trimD, h]
theorem trimD_drop (L : List (List Fr)) : ∀ k, (∀ j, j < k → fullB (L.drop j) = true) → trimD L = k + trimD (L.drop k)
 | 0, _ => by simp
 | k + 1, h => by
  rw [trimD_drop L k (fun j hj => h j (by omega)), trimD_yes (h k (by omega)), List.tail_drop]
  omega
theorem fullB_len {L : List (List Fr)} (h : fullB L = true) : 1 < L.length := by
 simp only [fullB, tooB, Bool.or_eq_true, Bool.and_eq_true, decide_eq_true_eq] at h
 omega
theorem GrsIn.tail {S : Nat → Prop} {w : World} {ao : Option Addr} {n c : Nat} {L : List (List Fr)} (h : GrsIn S w (.slice ao n c) L) (h1 : 1 < L.length) : ∃ b off, ao = some ⟨b, off, none⟩ ∧ n = L.length ∧ L.length ≤ c ∧ GrsIn S w (.slice (some ⟨b, off + 1, none⟩) (L.length - 1) (c - 1)) L.tail := by
 obtain ⟨ao', c', e, hc1, hc2, hc⟩ := h
 injection e with e1 e2 e3
 subst e1 e2 e3
 obtain ⟨b, off, e, _⟩ := hc 0 (by omega)
 subst e
 refine ⟨b, off, rfl, rfl, hc1, some ⟨b, off + 1, none⟩, c - 1, by rw [List.length_tail], by rw [List.length_tail]; omega, by omega, fun k hk => ?_⟩
 rw [List.length_tail] at hk
 obtain ⟨b', off', e, hb, hS, sv, h1, h2⟩ := hc (k + 1) (by omega)
 injection e with e
 injection e with e1 e2
 subst e1 e2
 refine ⟨b, off + 1, rfl, hb, hS, sv, by rw [show off + 1 + k = off + (k + 1) by omega]; exact h1, ?_⟩
 rw [List.getElem?_tail]; exact h2
set_option maxHeartbeats 4000000 in
set_option maxRecDepth 100000 in
theorem letGo_any (M : Nat) (first : Int) (gv ov : Value) (L : List (List Fr)) (S : Nat → Prop) (w : World) (hM : Blk w M #[.int .i64 first, gv, ov] 221) (hg : GrsIn S w gv L) (hS : ∀ g, S g → g ≠ M) (hL : L.length ≤ 1000) (hf0 : 0 ≤ first) (hf1 : first ≤ 1000000) :
  Calls Tryz.prog 185 #[.pointer (some ⟨M, 0, none⟩)] w fun e w' => e = .returned (.tuple #[]) ∧ ∃ gv', Blk w' M #[.int .i64 (first + trimD L), gv', ov] 221 ∧ GrsIn S w' gv' (L.drop (trimD L)) ∧ Kept [M] w w' := by
 have HL : Hid (L.length ≤ 1000) := hL
 obtain ⟨n, hn⟩ : ∃ n, n = L.length := ⟨_, rfl⟩
 have HN : Hid (n = L.length) := hn
 have hn1 : n ≤ 1000 := by omega
 have HS : Hid (∀ g, S g → g ≠ M) := hS
 have HG : Hid (GrsIn S w gv L) := hg
 have HM : Hid (Blk w M #[.int .i64 first, gv, ov] 221) := hM
 clear hn hL hg hM hS
 go_enter Tryz.func185, Tryz.ntmps185
 go_wp2_with fail
 go_loopw [] (fun wr => ∃ (k : Nat) (gk : Value), k ≤ n ∧ Hid (∀ j, j < k → fullB (L.drop j) = true) ∧ Hid (Blk wr M #[.int .i64 (first + k), gk, ov] 221) ∧ Hid (GrsIn S wr gk (L.drop k)) ∧ Hid (Kept [M] w wr))
  (fun wr => n - (intOf ((wr.cell? ⟨M, 0, none⟩).getD undef) - first).toNat)
 case atStart => exact ⟨0, gv, Nat.zero_le _, (show ∀ j, _ → _ from fun j hj => absurd hj (Nat.not_lt_zero _)), by simpa [Hid] using HM.out, by simpa [Hid] using HG.out, Kept.refl _ _⟩
 case round =>
  obtain ⟨k, gk, hk, HF, KB, GK, KP⟩ := hrel
  obtain ⟨N, hN⟩ : ∃ N, N = L.drop k := ⟨_, rfl⟩
  have HNK : Hid (N = L.drop k) := hN
  rw [← hN] at GK
  obtain ⟨q, hq⟩ : ∃ q, q = N.length := ⟨_, rfl⟩
  have HQ : Hid (q = N.length) := hq
  have hql : q ≤ 1000 := by rw [hq, hN, List.length_drop]; have := HL.out; omega
  have HQN : Hid (q = n - k) := by show _ = _; rw [hq, hN, List.length_drop, HN.out]
  obtain ⟨ga, gc, eg, hgl, hg63⟩ := GK.out.len
  rw [← hq] at eg hgl hg63
  clear hN hq
  subst eg
  obtain ⟨k0, k1, k2⟩ := KB.out.three
  have f0 := KB.out.free 0
  have f1 := KB.out.free 1
  have hms : (intOf ((wr.cell? ⟨M, 0, none⟩).getD undef) - first).toNat = k := by rw [k0]; simp [intOf]; omega
  have GO : Hid (fullB N = true → ∃ b off, ga = some ⟨b, off, none⟩ ∧ 1 < q ∧ q ≤ gc ∧ ∀ V : World, Blk V M #[.int .i64 (first + k), .slice ga q gc, ov] 221 → GrsIn S V (.slice ga q gc) N → Kept [M] w V → Hid (Blk ((V.setCell ⟨M, 1, none⟩ (.slice (some ⟨b, off + 1, none⟩) (q - 1) (gc - 1))).setCell ⟨M, 0, none⟩ (.int .i64 (first + k + 1))) M #[.int .i64 (first + (k + 1 : Nat)), .slice (some ⟨b, off + 1, none⟩) (q - 1) (gc - 1), ov] 221) ∧ Hid (GrsIn S ((V.setCell ⟨M, 1, none⟩ (.slice (some ⟨b, off + 1, none⟩) (q - 1) (gc - 1))).setCell ⟨M, 0, none⟩ (.int .i64 (first + k + 1))) (.slice (some ⟨b, off + 1, none⟩) (q - 1) (gc - 1)) (L.drop (k + 1))) ∧ Hid (Kept [M] w ((V.setCell ⟨M, 1, none⟩ (.slice (some ⟨b, off + 1, none⟩) (q - 1) (gc - 1))).setCell ⟨M, 0, none⟩ (.int .i64 (first + k + 1)))) ∧ Hid (∀ j, j < k + 1 → fullB (L.drop j) = true)) := fun hf => by
   have h1 := fullB_len hf
   obtain ⟨b, off, e1, _, h3, _⟩ := GK.out.tail h1
   refine ⟨b, off, e1, by rw [HQ.out]; exact h1, by rw [HQ.out]; exact h3, fun V h4 h5 h6 => ?_⟩
   obtain ⟨b', off', e2, _, _, h7⟩ := h5.tail h1
   rw [e1] at e2
   injection e2 with e2
   injection e2 with e2 e3
   subst e2 e3
   have hd : L.drop (k + 1) = N.tail := by rw [HNK.out, List.tail_drop]
   refine ⟨?_, ?_, (h6.setCell (by simp) _).setCell (by simp) _, fun j hj => ?_⟩
   ·have := (h4.set 1 (.slice (some ⟨b, off + 1, none⟩) (q - 1) (gc - 1))).set 0 (.int .i64 (first + k + 1))
    rw [show first + ((k + 1 : Nat) : Int) = first + k + 1 by omega]
    simpa [Hid] using this
   ·show GrsIn _ _ _ _
    rw [hd, HQ.out]
    exact h7.to ((SameOn.setCell (fun g hg => HS.out g hg) _).trans (SameOn.setCell (fun g hg => HS.out g hg) _)) (fun _ _ h => h)
   ·by_cases e : j = k
    ·subst e; rw [← HNK.out]; exact hf
    ·exact HF.out j (by omega)
  have END : Hid (fullB N = false → ∀ V : World, Blk V M #[.int .i64 (first + k), .slice ga q gc, ov] 221 → GrsIn S V (.slice ga q gc) N → Kept [M] w V → ∃ gv', Blk V M #[.int .i64 (first + trimD L), gv', ov] 221 ∧ GrsIn S V gv' (L.drop (trimD L)) ∧ Kept [M] w V) := fun hf V h1 h2 h3 => by
   have ht : trimD L = k := by rw [trimD_drop L k HF.out, ← HNK.out, trimD_no hf]; omega
   rw [ht]
   exact ⟨_, h1, by rw [← HNK.out]; exact h2, h3⟩
  by_cases h5 : 5 < q
  ·have h5i : (5 : Int) < (q : Int) := by omega
   have hfull : fullB N = true := by unfold fullB; rw [← HQ.out]; simp [h5]
   obtain ⟨b, off, e1, h1q, hqc, hgo⟩ := GO.out hfull
   obtain ⟨r1, r2, r3, r4⟩ := hgo wr KB.out GK.out KP.out
   subst e1
   have h1i : (1 : Int) ≤ (q : Int) := by omega
   have hqci : (q : Int) ≤ (gc : Int) := by omega
   have c1 : (wr.setCell ⟨M, 1, none⟩ (.slice (some ⟨b, off + 1, none⟩) (q - 1) (gc - 1))).cell? ⟨M, 0, none⟩ = some (.int .i64 (first + k)) := (KB.out.set 1 _).cell rfl
   clear hfull hgo GO END HF
   go_wp2_with fail
   go_roundw
   case rel => exact ⟨k + 1, _, by have := HQN.out; omega, r4, r1, r2, r3⟩
   case measure =>
    have c2 := r1.out.cell (j := 0) rfl
    rw [hms, c2]
    simp [intOf]
    have := HQN.out
    omega
  ·have h5i : ¬ (5 : Int) < (q : Int) := by omega
   obtain ⟨T, hT⟩ : ∃ T, T = tooB N := ⟨_, rfl⟩
   have HTG : Hid (Calls Tryz.prog 135 #[.slice ga q gc] wr fun e' w'' => e' = .returned (.bool T) ∧ Below wr.heap.size wr w'') := by
    show Calls _ _ _ _ _
    rw [hT]; exact areTooGreat_any S _ N wr GK.out (by rw [← HQ.out]; omega)
   have HFB : Hid (fullB N = T) := by show _ = _; unfold fullB; rw [← HQ.out, ← hT]; simp; omega
   clear hT
   go_wp2_with fail
   refine HTG.out.mono ?_
   rintro e' w2 ⟨rfl, hb2⟩
   have KB2 : Hid (Blk w2 M #[.int .i64 (first + k), .slice ga q gc, ov] 221) := KB.out.below hb2 KB.out.lt
   have GK2 : Hid (GrsIn S w2 (.slice ga q gc) N) := GK.out.below hb2
   have KP2 : Hid (Kept [M] w w2) := KP.out.below hb2
   clear hb2 HTG k0 k1 k2 f0 f1
   obtain ⟨k0, k1, k2⟩ := KB2.out.three
   have f0 := KB2.out.free 0
   have f1 := KB2.out.free 1
   cases T
   case true =>
    obtain ⟨b, off, e1, h1q, hqc, hgo⟩ := GO.out HFB.out
    obtain ⟨r1, r2, r3, r4⟩ := hgo w2 KB2.out GK2.out KP2.out
    subst e1
    have h1i : (1 : Int) ≤ (q : Int) := by omega
    have hqci : (q : Int) ≤ (gc : Int) := by omega
    have c1 : (w2.setCell ⟨M, 1, none⟩ (.slice (some ⟨b, off + 1, none⟩) (q - 1) (gc - 1))).cell? ⟨M, 0, none⟩ = some (.int .i64 (first + k)) := (KB2.out.set 1 _).cell rfl
    clear hgo GO END HF
    go_wp2_with fail
    go_roundw
    case rel => exact ⟨k + 1, _, by have := HQN.out; omega, r4, r1, r2, r3⟩
    case measure =>
     have c2 := r1.out.cell (j := 0) rfl
     rw [hms, c2]
     simp [intOf]
     have := HQN.out
     omega
   case false =>
    have HEND : Hid (∃ gv', Blk w2 M #[.int .i64 (first + trimD L), gv', ov] 221 ∧ GrsIn S w2 gv' (L.drop (trimD L)) ∧ Kept [M] w w2) := END.out HFB.out w2 KB2.out GK2.out KP2.out
    clear GO END HF
    go_wp2
    go_end0
    exact ⟨rfl, HEND.out⟩
theorem zeroCells_len (z : Array Value) (n : Nat) : (Builtin.zeroCells z n).size = n * z.size := by simp [Builtin.zeroCells]
section
variable {P : Program}
theorem grow_run (w : World) (T tn ty E : TypeId) (i : TypeInfo) (z : Value) (size bytes : Nat) (ht : P.underlying T = some (.slice E)) (htn : P.underlying tn = some (.int .i64)) (hi : P.info? E = some i) (hz : i.zero = some z) (hsize : i.size = size) (hby : i.bytes = bytes) (hzs : z.cells.size = size) (hsz : 0 < size)
  (n : Nat) (h0 : 0 < n) (hn : n ≤ 1000) (hb : bytes ≤ 1000) :
  ∃ cap w', (Builtin.append_ #[T, tn] ty #[.slice none 0 0, .int .i64 n]).run P w = .ok (.slice (some ⟨w.heap.size, 0, none⟩) n cap) w' ∧ n ≤ cap ∧ w'.ownsRow w.heap.size E size (.slice (some ⟨w.heap.size, 0, none⟩) 0 cap) 0 [] ∧ Below w.heap.size w w' := by
 have hnb : n * i.bytes ≤ 1000 * 1000 := by rw [hby]; exact Nat.mul_le_mul hn hb
 have r := Lib.run_append_nil_zeros (P := P) w T tn ty E i z .i64 .i64 ht htn hi hz n h0 (by omega) (by omega) (by omega)
 have hg := grownCap_ge w n 0 E
 refine ⟨_, _, r, hg, ⟨by simp, .inr ⟨w.heap.size, _, _, rfl, Nat.le_refl _, heap_alloc_new w.drew _, Nat.zero_le _, grownCap_le_maxLen w n 0 E (by unfold maxLen; omega), ?_, by simp⟩⟩, (Below.refl _ w).drew.alloc (Nat.le_refl _) _⟩
 rw [Array.size_append, zeroCells_len, zeroCells_len, hzs, ← Nat.add_mul]
 congr 1; omega
end
theorem appFrs {base : Nat} {S : Nat → Prop} {w : World} {v u : Value} {l m : List Fr} (hv : OwnFrs base S w v l) (hu : FrsIn S w u m) (hS : ∀ g, S g → g < base) (hb : l.length + m.length ≤ 1000) (hbase : base ≤ w.heap.size) :
  ∃ v' w', (Builtin.append_ #[28, 28] 28 #[v, u]).run Tryz.prog w = .ok v' w' ∧ OwnFrs base S w' v' (l ++ m) ∧ Below base w w' := by
 obtain ⟨i0, hi, hz0, hz1, hz2⟩ := info_parts Tryz.infoFrm
 obtain ⟨ps, p1, p2, p3⟩ := hv
 obtain ⟨qs, q1, q2, q3⟩ := hu.sl
 have hps : ps.length = l.length := by rw [← p1, List.length_map]
 have hqs : qs.length = m.length := by rw [← q1, List.length_map]
 obtain ⟨v', w', r, o, g, _⟩ := run_append_any (P := Tryz.prog) w base 28 28 98 i0 _ 3 40 Tryz.underlying28 hi hz0 hz1 hz2 rfl (by decide) v ps.length (frCells ps) p2 qs.length (frCells qs) u q2 (fr_one2 q3) (by unfold maxLen; omega) (by omega) hbase
 have hs : SameOn S w w' := SameOn.grown g (fun g hg e => by have := (p2.lt g e.symm).1; have := hS g hg; omega)
 refine ⟨v', w', r, ⟨ps ++ qs, by rw [List.map_append, p1, q1], by rw [List.length_append, frCells_append]; exact o, fun p hp => ?_⟩, (Below.refl base w).grown g hbase (fun j hj => (p2.lt j hj).1)⟩
 rcases List.mem_append.1 hp with hp | hp
 ·exact (p3 p hp).to hs (fun _ _ h => h)
 ·exact (q3 p hp).to hs (fun _ _ h => h)
theorem appGrs {base : Nat} {S : Nat → Prop} {w : World} {v u : Value} {l m : List (List Fr)} (hv : OwnGrs base S w v l) (hu : GrsIn S w u m) (hS : ∀ g, S g → g < base) (hb : l.length + m.length ≤ 1000) (hbase : base ≤ w.heap.size) :
  ∃ v' w', (Builtin.append_ #[27, 27] 27 #[v, u]).run Tryz.prog w = .ok v' w' ∧ OwnGrs base S w' v' (l ++ m) ∧ Below base w w' := by
 obtain ⟨qs, q1, q2, q3⟩ := hu.sl
 obtain ⟨v', w', r, o, g, _⟩ := groups_app hv q1 q2 q3 (fun g hg e => by have := (hv.lt g e.symm).1; have := hS g hg; omega) hb hbase
 exact ⟨v', w', r, o, (Below.refl base w).grown g hbase (fun j hj => (hv.lt j hj).1)⟩
set_option maxHeartbeats 2000000 in
set_option maxRecDepth 100000 in
theorem growFrs_any (n : Nat) (w : World) (hn : n ≤ 1000) :
  Calls Tryz.prog 189 #[.slice none 0 0, .int .i64 n] w fun e w' => ∃ u, e = .returned u ∧ w'.ownsRow w.heap.size 98 3 u 0 [] ∧ Below w.heap.size w w' := by
 by_cases h0 : n = 0
 ·subst h0
  go_enter Tryz.func189, Tryz.ntmps189
  go_wp2
  go_ret
  exact ⟨_, rfl, World.ownsRow_nil _ _ _ _, Below.refl _ _⟩
 ·obtain ⟨i0, hi, hz0, hz1, hz2⟩ := info_parts Tryz.infoFrm
  obtain ⟨cap, w', r, hc, ho, hb⟩ := grow_run (P := Tryz.prog) w 28 3 28 98 i0 _ 3 40 Tryz.underlying28 Tryz.underlying3 hi hz0 hz1 hz2 rfl (by decide) n (by omega) hn (by decide)
  have HO : Hid (w'.ownsRow w.heap.size 98 3 (.slice (some ⟨w.heap.size, 0, none⟩) 0 cap) 0 []) := ho
  have HB : Hid (Below w.heap.size w w') := hb
  have h0i : (0 : Int) < (n : Int) := by omega
  have hw : IntKind.i64.wrap (n : Int) = (n : Int) := by rw [IntKind.wrap_i64]; omega
  clear ho hb hi hz0 hz1 hz2
  go_enter Tryz.func189, Tryz.ntmps189
  go_wp2_with (at_builtin; refine wpList_append_run rfl (.tmp 20) (.tmp 21) 28 3 rfl _ _ rfl rfl r ?_)
  go_ret
  exact ⟨_, rfl, HO.out, HB.out⟩
set_option maxHeartbeats 4000000 in
set_option maxRecDepth 100000 in
theorem concatFrs_any (S : Nat → Prop) (q : Nat) (av bv : Value) (l m : List Fr) (w : World) (hq0 : w.cell? ⟨q, 0, none⟩ = some av) (hq1 : w.cell? ⟨q, 1, none⟩ = some bv) (ha : FrsIn S w av l) (hb : FrsIn S w bv m) (hlen : l.length + m.length ≤ 1000) :
  Calls Tryz.prog 184 #[.slice (some ⟨q, 0, none⟩) 2 2] w fun e w' => ∃ u, e = .returned u ∧ OwnFrs w.heap.size (fun g => S g ∧ g < w.heap.size) w' u (l ++ m) ∧ Below w.heap.size w w' := by
 have hqw : q < w.heap.size := block_lt_of_cell hq0
 have HA : Hid (FrsIn (fun g => S g ∧ g < w.heap.size) w av l) := ha.mono fun g hg hs => ⟨hs, hg⟩
 have HB' : Hid (FrsIn (fun g => S g ∧ g < w.heap.size) w bv m) := hb.mono fun g hg hs => ⟨hs, hg⟩
 obtain ⟨aa, ac, ea, _, _⟩ := ha.len
 obtain ⟨ba, bc, eb, _, _⟩ := hb.len
 obtain ⟨la, hla⟩ : ∃ n, n = l.length := ⟨_, rfl⟩
 obtain ⟨lb, hlb⟩ : ∃ n, n = m.length := ⟨_, rfl⟩
 have HLA : Hid (la = l.length) := hla
 have HLB : Hid (lb = m.length) := hlb
 rw [← hla] at ea hlen
 rw [← hlb] at eb hlen
 clear ha hb hla hlb
 subst ea eb
 go_enter Tryz.func184, Tryz.ntmps184
 go_wp2_with fail
 go_loopw [3, 11] (fun s i wr => ∃ k y : Nat, ((k = 0 ∧ y = 0) ∨ (k = 1 ∧ y = la) ∨ (k = 2 ∧ y = la + lb)) ∧ i = .int .i64 k ∧ s = .int .i64 y ∧ w = wr)
  (fun _ i _ => 2 - (intOf i).toNat)
 case atStart => exact ⟨0, 0, .inl ⟨rfl, rfl⟩, rfl, rfl, rfl⟩
 case round =>
  obtain ⟨k, y, hk, rfl, rfl, rfl⟩ := hrel
  rcases hk with ⟨rfl, rfl⟩ | ⟨rfl, rfl⟩ | ⟨rfl, rfl⟩
  ·go_wp2_with fail
   go_roundw
   case rel => exact ⟨1, la, .inr (.inl ⟨rfl, rfl⟩), by go_num, by go_num, by first | rfl | trivial⟩
   case measure => simp [intOf]
  ·go_wp2_with fail
   go_roundw
   case rel => exact ⟨2, y + lb, .inr (.inr ⟨rfl, rfl⟩), by go_num, by go_num, by first | rfl | trivial⟩
   case measure => simp [intOf]
  ·have HG : Hid (∀ U : World, Calls Tryz.prog 189 #[.slice none 0 0, .int .i64 ((la : Int) + (lb : Int))] U fun e w' => ∃ u, e = .returned u ∧ Hid (w'.ownsRow U.heap.size 98 3 u 0 []) ∧ Below U.heap.size U w') := fun U => by
    have := growFrs_any (la + lb) U hlen
    rw [show ((la + lb : Nat) : Int) = (la : Int) + (lb : Int) by omega] at this
    exact this
   go_wp2_with fail
   refine (HG.out _).mono ?_
   rintro e w1 ⟨u1, rfl, HO1, hb1⟩
   have B1 : Hid (Below w.heap.size w w1) := hb1
   have O1 : Hid (OwnFrs w.heap.size (fun g => S g ∧ g < w.heap.size) w1 u1 []) := ⟨[], rfl, HO1.out, fun _ hp => absurd hp List.not_mem_nil⟩
   have CQ : Hid (∀ U, Below w.heap.size w U → U.cell? ⟨q, 0, none⟩ = some (.slice aa la ac) ∧ U.cell? ⟨q, 1, none⟩ = some (.slice ba lb bc)) := fun U hU => ⟨(hU.cell (p := ⟨q, 0, none⟩) hqw).trans hq0, (hU.cell (p := ⟨q, 1, none⟩) hqw).trans hq1⟩
   clear hb1 HO1 HG hq0 hq1
   go_wp2_with fail
   go_loopw [6, 27] (fun u i w2 => ∃ k : Nat, k ≤ 2 ∧ i = .int .i64 k ∧ Hid (OwnFrs w.heap.size (fun g => S g ∧ g < w.heap.size) w2 u (if k = 0 then [] else if k = 1 then l else l ++ m)) ∧ Hid (Below w.heap.size w w2))
    (fun _ i _ => 2 - (intOf i).toNat)
   case atStart => exact ⟨0, by omega, rfl, O1, B1⟩
   case round =>
    obtain ⟨k, hk, rfl, HO, HB⟩ := hrel
    have hk3 : k = 0 ∨ k = 1 ∨ k = 2 := by omega
    obtain ⟨c0, c1⟩ := CQ.out _ HB.out
    rcases hk3 with rfl | rfl | rfl
    ·have ho : OwnFrs w.heap.size (fun g => S g ∧ g < w.heap.size) wr u6 [] := HO.out
     obtain ⟨v', w3, r3, o3, b3⟩ := appFrs ho (HA.out.below HB.out) (fun g hg => hg.2) (by rw [← HLA.out]; simp; omega) HB.out.size
     have O3 : Hid (OwnFrs w.heap.size (fun g => S g ∧ g < w.heap.size) w3 v' l) := by simpa [Hid] using o3
     have B3 : Hid (Below w.heap.size w w3) := HB.out.trans b3
     clear o3 b3 ho HO HB
     go_wp2_with (at_builtin; refine wpList_append_run rfl (.tmp 31) (.tmp 32) 28 28 rfl _ _ rfl rfl r3 ?_)
     go_roundw
     case rel => exact ⟨1, by omega, by go_num, O3, B3⟩
     case measure => simp [intOf]
    ·have ho : OwnFrs w.heap.size (fun g => S g ∧ g < w.heap.size) wr u6 l := HO.out
     obtain ⟨v', w3, r3, o3, b3⟩ := appFrs ho (HB'.out.below HB.out) (fun g hg => hg.2) (by rw [← HLA.out, ← HLB.out]; omega) HB.out.size
     have O3 : Hid (OwnFrs w.heap.size (fun g => S g ∧ g < w.heap.size) w3 v' (l ++ m)) := o3
     have B3 : Hid (Below w.heap.size w w3) := HB.out.trans b3
     clear o3 b3 ho HO HB
     go_wp2_with (at_builtin; refine wpList_append_run rfl (.tmp 31) (.tmp 32) 28 28 rfl _ _ rfl rfl r3 ?_)
     go_roundw
     case rel => exact ⟨2, by omega, by go_num, O3, B3⟩
     case measure => simp [intOf]
    ·have ho : OwnFrs w.heap.size (fun g => S g ∧ g < w.heap.size) wr u6 (l ++ m) := HO.out
     go_wp2
     go_ret
     exact ⟨_, rfl, ho, HB.out⟩
set_option maxHeartbeats 2000000 in
set_option maxRecDepth 100000 in
theorem growGrs_any (n : Nat) (w : World) (hn : n ≤ 1000) :
  Calls Tryz.prog 182 #[.slice none 0 0, .int .i64 n] w fun e w' => ∃ u, e = .returned u ∧ w'.ownsRow w.heap.size 30 1 u 0 [] ∧ Below w.heap.size w w' := by
 by_cases h0 : n = 0
 ·subst h0
  go_enter Tryz.func182, Tryz.ntmps182
  go_wp2
  go_ret
  exact ⟨_, rfl, World.ownsRow_nil _ _ _ _, Below.refl _ _⟩
 ·obtain ⟨i0, hi, hz0, hz1, hz2⟩ := info_parts Tryz.infoGrp
  obtain ⟨cap, w', r, hc, ho, hb⟩ := grow_run (P := Tryz.prog) w 27 3 27 30 i0 _ 1 24 Tryz.underlying27 Tryz.underlying3 hi hz0 hz1 hz2 rfl (by decide) n (by omega) hn (by decide)
  have HO : Hid (w'.ownsRow w.heap.size 30 1 (.slice (some ⟨w.heap.size, 0, none⟩) 0 cap) 0 []) := ho
  have HB : Hid (Below w.heap.size w w') := hb
  have h0i : (0 : Int) < (n : Int) := by omega
  have hw : IntKind.i64.wrap (n : Int) = (n : Int) := by rw [IntKind.wrap_i64]; omega
  clear ho hb hi hz0 hz1 hz2
  go_enter Tryz.func182, Tryz.ntmps182
  go_wp2_with (at_builtin; refine wpList_append_run rfl (.tmp 20) (.tmp 21) 27 3 rfl _ _ rfl rfl r ?_)
  go_ret
  exact ⟨_, rfl, HO.out, HB.out⟩
set_option maxHeartbeats 4000000 in
set_option maxRecDepth 100000 in
theorem concatGrs_any (S : Nat → Prop) (q : Nat) (av bv : Value) (l m : List (List Fr)) (w : World) (hq0 : w.cell? ⟨q, 0, none⟩ = some av) (hq1 : w.cell? ⟨q, 1, none⟩ = some bv) (ha : GrsIn S w av l) (hb : GrsIn S w bv m) (hlen : l.length + m.length ≤ 1000) :
  Calls Tryz.prog 178 #[.slice (some ⟨q, 0, none⟩) 2 2] w fun e w' => ∃ u, e = .returned u ∧ OwnGrs w.heap.size (fun g => S g ∧ g < w.heap.size) w' u (l ++ m) ∧ Below w.heap.size w w' := by
 have hqw : q < w.heap.size := block_lt_of_cell hq0
 have HA : Hid (GrsIn (fun g => S g ∧ g < w.heap.size) w av l) := ha.mono fun g hg hs => ⟨hs, hg⟩
 have HB' : Hid (GrsIn (fun g => S g ∧ g < w.heap.size) w bv m) := hb.mono fun g hg hs => ⟨hs, hg⟩
 obtain ⟨aa, ac, ea, _, _⟩ := ha.len
 obtain ⟨ba, bc, eb, _, _⟩ := hb.len
 obtain ⟨la, hla⟩ : ∃ n, n = l.length := ⟨_, rfl⟩
 obtain ⟨lb, hlb⟩ : ∃ n, n = m.length := ⟨_, rfl⟩
 have HLA : Hid (la = l.length) := hla
 have HLB : Hid (lb = m.length) := hlb
 rw [← hla] at ea hlen
 rw [← hlb] at eb hlen
 clear ha hb hla hlb
 subst ea eb
 go_enter Tryz.func178, Tryz.ntmps178
 go_wp2_with fail
 go_loopw [3, 11] (fun s i wr => ∃ k y : Nat, ((k = 0 ∧ y = 0) ∨ (k = 1 ∧ y = la) ∨ (k = 2 ∧ y = la + lb)) ∧ i = .int .i64 k ∧ s = .int .i64 y ∧ w = wr)
  (fun _ i _ => 2 - (intOf i).toNat)
 case atStart => exact ⟨0, 0, .inl ⟨rfl, rfl⟩, rfl, rfl, rfl⟩
 case round =>
  obtain ⟨k, y, hk, rfl, rfl, rfl⟩ := hrel
  rcases hk with ⟨rfl, rfl⟩ | ⟨rfl, rfl⟩ | ⟨rfl, rfl⟩
  ·go_wp2_with fail
   go_roundw
   case rel => exact ⟨1, la, .inr (.inl ⟨rfl, rfl⟩), by go_num, by go_num, by first | rfl | trivial⟩
   case measure => simp [intOf]
  ·go_wp2_with fail
   go_roundw
   case rel => exact ⟨2, y + lb, .inr (.inr ⟨rfl, rfl⟩), by go_num, by go_num, by first | rfl | trivial⟩
   case measure => simp [intOf]
  ·have HG : Hid (∀ U : World, Calls Tryz.prog 182 #[.slice none 0 0, .int .i64 ((la : Int) + (lb : Int))] U fun e w' => ∃ u, e = .returned u ∧ Hid (w'.ownsRow U.heap.size 30 1 u 0 []) ∧ Below U.heap.size U w') := fun U => by
    have := growGrs_any (la + lb) U hlen
    rw [show ((la + lb : Nat) : Int) = (la : Int) + (lb : Int) by omega] at this
    exact this
   go_wp2_with fail
   refine (HG.out _).mono ?_
   rintro e w1 ⟨u1, rfl, HO1, hb1⟩
   have B1 : Hid (Below w.heap.size w w1) := hb1
   have O1 : Hid (OwnGrs w.heap.size (fun g => S g ∧ g < w.heap.size) w1 u1 []) := ⟨[], rfl, HO1.out, fun _ hp => absurd hp List.not_mem_nil⟩
   have CQ : Hid (∀ U, Below w.heap.size w U → U.cell? ⟨q, 0, none⟩ = some (.slice aa la ac) ∧ U.cell? ⟨q, 1, none⟩ = some (.slice ba lb bc)) := fun U hU => ⟨(hU.cell (p := ⟨q, 0, none⟩) hqw).trans hq0, (hU.cell (p := ⟨q, 1, none⟩) hqw).trans hq1⟩
   clear hb1 HO1 HG hq0 hq1
   go_wp2_with fail
   go_loopw [6, 27] (fun u i w2 => ∃ k : Nat, k ≤ 2 ∧ i = .int .i64 k ∧ Hid (OwnGrs w.heap.size (fun g => S g ∧ g < w.heap.size) w2 u (if k = 0 then [] else if k = 1 then l else l ++ m)) ∧ Hid (Below w.heap.size w w2))
    (fun _ i _ => 2 - (intOf i).toNat)
   case atStart => exact ⟨0, by omega, rfl, O1, B1⟩
   case round =>
    obtain ⟨k, hk, rfl, HO, HB⟩ := hrel
    have hk3 : k = 0 ∨ k = 1 ∨ k = 2 := by omega
    obtain ⟨c0, c1⟩ := CQ.out _ HB.out
    rcases hk3 with rfl | rfl | rfl
    ·have ho : OwnGrs w.heap.size (fun g => S g ∧ g < w.heap.size) wr u6 [] := HO.out
     obtain ⟨v', w3, r3, o3, b3⟩ := appGrs ho (HA.out.below HB.out) (fun g hg => hg.2) (by rw [← HLA.out]; simp; omega) HB.out.size
     have O3 : Hid (OwnGrs w.heap.size (fun g => S g ∧ g < w.heap.size) w3 v' l) := by simpa [Hid] using o3
     have B3 : Hid (Below w.heap.size w w3) := HB.out.trans b3
     clear o3 b3 ho HO HB
     go_wp2_with (at_builtin; refine wpList_append_run rfl (.tmp 31) (.tmp 32) 27 27 rfl _ _ rfl rfl r3 ?_)
     go_roundw
     case rel => exact ⟨1, by omega, by go_num, O3, B3⟩
     case measure => simp [intOf]
    ·have ho : OwnGrs w.heap.size (fun g => S g ∧ g < w.heap.size) wr u6 l := HO.out
     obtain ⟨v', w3, r3, o3, b3⟩ := appGrs ho (HB'.out.below HB.out) (fun g hg => hg.2) (by rw [← HLA.out, ← HLB.out]; omega) HB.out.size
     have O3 : Hid (OwnGrs w.heap.size (fun g => S g ∧ g < w.heap.size) w3 v' (l ++ m)) := o3
     have B3 : Hid (Below w.heap.size w w3) := HB.out.trans b3
     clear o3 b3 ho HO HB
     go_wp2_with (at_builtin; refine wpList_append_run rfl (.tmp 31) (.tmp 32) 27 27 rfl _ _ rfl rfl r3 ?_)
     go_roundw
     case rel => exact ⟨2, by omega, by go_num, O3, B3⟩
     case measure => simp [intOf]
    ·have ho : OwnGrs w.heap.size (fun g => S g ∧ g < w.heap.size) wr u6 (l ++ m) := HO.out
     go_wp2
     go_ret
     exact ⟨_, rfl, ho, HB.out⟩
end Go.Proofs.YtnpaejknoipicagGreat
namespace Go.Proofs.YtnpaejknoipicagGreat
open Go.RowKit
def allG (L : List (List Fr)) (O : List Fr) : List (List Fr) := if 0 < O.length then L ++ [O] else L
theorem GrsIn.one {S : Nat → Prop} {w : World} {b : Nat} {O : List Fr} {ov : Value} (hb : Blk w b #[ov] 30) (hS : S b) (ho : FrsIn S w ov O) : GrsIn S w (.slice (some ⟨b, 0, none⟩) 1 1) [O] := by
 refine ⟨some ⟨b, 0, none⟩, 1, rfl, Nat.le_refl _, by omega, fun k hk => ⟨b, 0, rfl, hb.lt, hS, ov, ?_⟩⟩
 have : k = 0 := by simpa using hk
 subst this
 exact ⟨hb.one, ho⟩
set_option maxHeartbeats 4000000 in
set_option maxRecDepth 100000 in
theorem keeperAll_any (M : Nat) (first : Int) (gv ov : Value) (L : List (List Fr)) (O : List Fr) (w : World) (hM : Blk w M #[.int .i64 first, gv, ov] 221) (hg : GrsIn (fun _ => True) w gv L) (ho : FrsIn (fun _ => True) w ov O) (hL : L.length ≤ 100) :
  Calls Tryz.prog 165 #[.pointer (some ⟨M, 0, none⟩)] w fun e w' => ∃ u, e = .returned u ∧ GrsIn (fun _ => True) w' u (allG L O) ∧ Below w.heap.size w w' := by
 obtain ⟨ga, gc, eg, _, _⟩ := hg.len
 obtain ⟨oa, oc, eo, _, hol⟩ := ho.len
 obtain ⟨n, hn⟩ : ∃ n, n = L.length := ⟨_, rfl⟩
 obtain ⟨m, hm⟩ : ∃ m, m = O.length := ⟨_, rfl⟩
 rw [← hn] at eg hL
 rw [← hm] at eo hol
 have HG : Hid (GrsIn (fun _ => True) w gv L) := hg
 have HO : Hid (FrsIn (fun _ => True) w ov O) := ho
 have HN : Hid (n = L.length) := hn
 have HK : Hid (Blk w M #[.int .i64 first, gv, ov] 221) := hM
 obtain ⟨k0, k1, k2⟩ := hM.three
 obtain ⟨A, hA⟩ : ∃ A, A = allG L O := ⟨_, rfl⟩
 have HA : Hid (A = if 0 < m then L ++ [O] else L) := by show _ = _; rw [hA, hm]; rfl
 rw [← hA]
 clear hg ho hn hm hM hA
 subst eg eo
 by_cases h0 : m = 0
 ·have HAA : Hid (A = L) := by show _ = _; rw [HA.out, if_neg (by omega)]
  subst h0
  go_enter Tryz.func165, Tryz.ntmps165
  go_wp2
  go_ret
  exact ⟨_, rfl, by rw [HAA.out]; exact HG.out, Below.refl _ _⟩
 have HAA : Hid (A = L ++ [O]) := by show _ = _; rw [HA.out, if_pos (by omega)]
 have h0i : ((m : Int) == 0) = false := by simp; omega
 have hMw : M < w.heap.size := HK.out.lt
 clear h0
 go_enter Tryz.func165, Tryz.ntmps165
 go_wp2_with fail
 refine region_chain (by kernel_rfl) (by kernel_rfl) [.quiet (.pointer (some ⟨M, 0, none⟩)) 4, .quiet (.pointer (some ⟨M, 0, none⟩)) 4, .quiet (.pointer (some ⟨M, 0, none⟩)) 4, .quiet (.pointer (some ⟨M, 1, none⟩)) 4, .quiet (.slice ga n gc) 4, .quiet (.pointer (some ⟨M, 0, none⟩)) 4, .quiet (.pointer (some ⟨M, 0, none⟩)) 4, .quiet (.pointer (some ⟨M, 0, none⟩)) 4, .quiet (.pointer (some ⟨M, 2, none⟩)) 4, .quiet (.agg #[.slice oa m oc]) 4, .step 0, .step 1, .step 2, .step 3] [10, 11, 12, 13] (by kernel_rfl)
  (fun s r w' => match s with
   | 0 => Below w.heap.size w w'
   | 1 => ∃ V, Below w.heap.size w V ∧ w' = V.alloc (.cells #[.slice oa m oc] 30) ∧ r 0 = .slice (some ⟨V.heap.size, 0, none⟩) 1 1
   | 2 => ∃ V, Below w.heap.size w V ∧ w' = (V.alloc (.cells #[.slice oa m oc] 30)).alloc (.cells #[.slice ga n gc, .slice (some ⟨V.heap.size, 0, none⟩) 1 1] 27) ∧ r 1 = .slice (some ⟨V.heap.size + 1, 0, none⟩) 2 2
   | 3 => GrsIn (fun _ => True) w' (r 2) (L ++ [O]) ∧ Below w.heap.size w w'
   | _ => GrsIn (fun _ => True) w' (r 3) (L ++ [O]) ∧ Below w.heap.size w w') ?i0 ?step ?fin
 case i0 => exact ⟨rfl, rfl, rfl, Nat.le_refl _, fun _ _ => rfl⟩
 case step =>
  intro i o ho a' w' s r hI hfree hvals
  have f0 : a'.eval (.tmp 0) = .pointer (some ⟨M, 0, none⟩) := (hfree 0 (by kernel_rfl)).trans rfl
  have hBw : Below w.heap.size w w' := by
   match s, hI with
   | 0, h => exact h
   | 1, ⟨V, h1, h2, _⟩ => rw [h2]; exact h1.alloc h1.size _
   | 2, ⟨V, h1, h2, _⟩ => rw [h2]; exact (h1.alloc h1.size _).alloc (by have := h1.size; simp; omega) _
   | 3, h => exact h.2
   | _ + 4, h => exact h.2
  have y1 := (hBw.cell (p := ⟨M, 1, none⟩) hMw).trans k1
  have y2 := (hBw.cell (p := ⟨M, 2, none⟩) hMw).trans k2
  match i, ho with
  | 0, ho | 5, ho =>
   simp at ho; subst ho
   show s ≤ 4 → (execOp a'.eval _).run _ w' = .ok (.value _) w'
   intro _
   generalize a'.eval = ρ at *
   simp [execOp, go_sem, f0]
  | 1, ho =>
   simp at ho; subst ho
   have e1 : a'.eval (.tmp 16) = .pointer (some ⟨M, 0, none⟩) := hvals 0 _ _ (by kernel_rfl) rfl rfl
   show s ≤ 4 → (execOp a'.eval _).run _ w' = .ok (.value _) w'
   intro _
   generalize a'.eval = ρ at *
   simp [execOp, go_sem, e1]
  | 2, ho =>
   simp at ho; subst ho
   have e1 : a'.eval (.tmp 17) = .pointer (some ⟨M, 0, none⟩) := hvals 1 _ _ (by kernel_rfl) rfl rfl
   show s ≤ 4 → (execOp a'.eval _).run _ w' = .ok (.value _) w'
   intro _
   generalize a'.eval = ρ at *
   simp [execOp, go_sem, e1]
  | 3, ho =>
   simp at ho; subst ho
   have e1 : a'.eval (.tmp 18) = .pointer (some ⟨M, 0, none⟩) := hvals 2 _ _ (by kernel_rfl) rfl rfl
   show s ≤ 4 → (execOp a'.eval _).run _ w' = .ok (.value _) w'
   intro _
   generalize a'.eval = ρ at *
   simp [execOp, go_sem, e1]
  | 4, ho =>
   simp at ho; subst ho
   have e1 : a'.eval (.tmp 19) = .pointer (some ⟨M, 1, none⟩) := hvals 3 _ _ (by kernel_rfl) rfl rfl
   show s ≤ 4 → (execOp a'.eval _).run _ w' = .ok (.value _) w'
   intro _
   generalize a'.eval = ρ at *
   simp [execOp, go_sem, e1, y1]
  | 6, ho =>
   simp at ho; subst ho
   have e1 : a'.eval (.tmp 21) = .pointer (some ⟨M, 0, none⟩) := hvals 5 _ _ (by kernel_rfl) rfl rfl
   show s ≤ 4 → (execOp a'.eval _).run _ w' = .ok (.value _) w'
   intro _
   generalize a'.eval = ρ at *
   simp [execOp, go_sem, e1]
  | 7, ho =>
   simp at ho; subst ho
   have e1 : a'.eval (.tmp 22) = .pointer (some ⟨M, 0, none⟩) := hvals 6 _ _ (by kernel_rfl) rfl rfl
   show s ≤ 4 → (execOp a'.eval _).run _ w' = .ok (.value _) w'
   intro _
   generalize a'.eval = ρ at *
   simp [execOp, go_sem, e1]
  | 8, ho =>
   simp at ho; subst ho
   have e1 : a'.eval (.tmp 23) = .pointer (some ⟨M, 0, none⟩) := hvals 7 _ _ (by kernel_rfl) rfl rfl
   show s ≤ 4 → (execOp a'.eval _).run _ w' = .ok (.value _) w'
   intro _
   generalize a'.eval = ρ at *
   simp [execOp, go_sem, e1]
  | 9, ho =>
   simp at ho; subst ho
   have e1 : a'.eval (.tmp 24) = .pointer (some ⟨M, 2, none⟩) := hvals 8 _ _ (by kernel_rfl) rfl rfl
   show s ≤ 4 → (execOp a'.eval _).run _ w' = .ok (.value _) w'
   intro _
   generalize a'.eval = ρ at *
   simp [execOp, go_sem, e1, y2]
  | 10, ho =>
   simp at ho; subst ho
   have e1 : a'.eval (.tmp 25) = .agg #[.slice oa m oc] := hvals 9 _ _ (by kernel_rfl) rfl rfl
   show s = 0 → _
   intro hs
   subst hs
   refine oper_wp_ok (v := .slice (some ⟨w'.heap.size, 0, none⟩) 1 1) (w' := w'.alloc (.cells #[.slice oa m oc] 30)) ?_ ⟨_, rfl, ?_⟩
   ·generalize a'.eval = ρ at *
    simp [execOp, go_sem, e1]
   ·exact ⟨w', hBw, rfl, updR_at _ _ _⟩
  | 11, ho =>
   simp at ho; subst ho
   show s = 1 → _
   intro hs
   subst hs
   obtain ⟨V, h1, h2, h3⟩ := hI
   have e1 : a'.eval (.tmp 20) = .slice ga n gc := hvals 4 _ _ (by kernel_rfl) rfl rfl
   have e2 : a'.eval (.tmp 26) = .slice (some ⟨V.heap.size, 0, none⟩) 1 1 := (hvals 10 _ _ (by kernel_rfl) rfl rfl).trans h3
   refine oper_wp_ok (v := .slice (some ⟨V.heap.size + 1, 0, none⟩) 2 2) (w' := w'.alloc (.cells #[.slice ga n gc, .slice (some ⟨V.heap.size, 0, none⟩) 1 1] 27)) ?_ ⟨_, rfl, ?_⟩
   ·generalize a'.eval = ρ at *
    rw [h2]
    simp [execOp, go_sem, e1, e2]
   ·exact ⟨V, h1, by rw [h2], updR_at _ _ _⟩
  | 12, ho =>
   simp at ho; subst ho
   show s = 2 → _
   intro hs
   subst hs
   obtain ⟨V, h1, h2, h3⟩ := hI
   have e1 : a'.eval (.tmp 27) = .slice (some ⟨V.heap.size + 1, 0, none⟩) 2 2 := (hvals 11 _ _ (by kernel_rfl) rfl rfl).trans h3
   have ef : a'.eval (.func 178) = .func (.func 178) #[] #[] := rfl
   have KV : Blk w' (V.heap.size + 1) #[.slice ga n gc, .slice (some ⟨V.heap.size, 0, none⟩) 1 1] 27 := by
    have := Blk.new (V.alloc (.cells #[.slice oa m oc] 30)) #[.slice ga n gc, .slice (some ⟨V.heap.size, 0, none⟩) 1 1] 27
    rw [h2]; simpa using this
   have KO : Blk w' V.heap.size #[.slice oa m oc] 30 := by rw [h2]; exact (Blk.new V _ _).alloc _
   obtain ⟨z0, z1⟩ := KV.two
   have hc := concatGrs_any (fun _ => True) (V.heap.size + 1) (.slice ga n gc) (.slice (some ⟨V.heap.size, 0, none⟩) 1 1) L [O] w' z0 z1 (HG.out.below hBw) (GrsIn.one KO trivial (HO.out.below hBw)) (by rw [← HN.out]; simp; omega)
   refine oper_wp_call (f := 178) (args := #[.slice (some ⟨V.heap.size + 1, 0, none⟩) 2 2]) ?_ (hc.mono ?_)
   ·generalize a'.eval = ρ at *
    simp [execOp, go_sem, e1, ef]
   ·rintro e w'' ⟨u, rfl, o1, b1⟩
    exact ⟨u, rfl, u, rfl, by rw [updR_at]; exact o1.grsIn (fun _ _ _ => trivial) (fun _ _ => trivial), hBw.trans (b1.mono hBw.size)⟩
  | 13, ho =>
   simp at ho; subst ho
   show s = 3 → _
   intro hs
   subst hs
   have e1 : a'.eval (.tmp 28) = r 2 := hvals 12 _ _ (by kernel_rfl) rfl rfl
   refine oper_wp_ok (v := r 2) (w' := w') ?_ ⟨_, rfl, ?_⟩
   ·generalize a'.eval = ρ at *
    simp [execOp, go_sem, e1]
   ·exact ⟨by rw [updR_at]; exact hI.1, hI.2⟩
  | i + 14, ho => simp at ho
 case fin =>
  rintro r W ⟨h1, h2⟩
  have H1 : Hid (GrsIn (fun _ => True) W (r 3) A ∧ Below w.heap.size w W) := ⟨by rw [HAA.out]; exact h1, h2⟩
  clear h1 h2 k0 k1 k2 h0i hMw HG HO HN HK HA HAA
  simp only [putC, Ck.out]
  go_wp2_with fail
  exact bodyPost_ret (v := r 3) (by simp [results, Tryz.results165, go_sem]) rfl ⟨_, rfl, H1.out⟩
section
variable {P : Program} {Q : Exit → Act → World → Prop}
def tl (P : Program) (Q : Exit → Act → World → Prop) : List Oper → Act → World → Prop
 | [], a, w => Q .normal a w
 | o :: r, a, w => o.wp P a w (fun a' w' => tl P Q r a' w') Q
end
end Go.Proofs.YtnpaejknoipicagGreat
namespace Go.Proofs.YtnpaejknoipicagGreat
open Go.RowKit
section
variable {P : Program} {Q : Exit → Act → World → Prop}
end
end Go.Proofs.YtnpaejknoipicagGreat
namespace Go.Proofs.YtnpaejknoipicagGreat
open Go.RowKit
def skipB (ops : Array Oper) : List Oper → Act → Bool
 | [], _ => true
 | o :: r, a => !(Region.wanted o (yielded ops a.tmps)) && skipB ops r (a.put o.dst undef)
def putU : List Oper → Act → Act
 | [], a => a
 | o :: r, a => putU r (a.put o.dst undef)
theorem wpQuiet_jump {P : Program} {ops : Array Oper} {C : World → Prop} {Q : Act → Prop} (n : Nat) : ∀ {l : List Oper} {a : Act}, skipB ops (l.take n) a = true → (∀ b, b = putU (l.take n) a → wpQuiet P ops C Q (l.drop n) b) → wpQuiet P ops C Q l a := by
 induction n with
 | zero => intro l a _ h; simpa using h a rfl
 | succ n ih =>
  intro l a hs h
  cases l with
  | nil => simpa using h a rfl
  | cons o r =>
   simp only [List.take_succ_cons, skipB, Bool.and_eq_true, Bool.not_eq_true'] at hs
   refine BigFrame.wpQuiet_skip hs.1 (ih hs.2 (fun b hb => ?_))
   have := h b (by rw [List.take_succ_cons]; exact hb)
   simpa using this
theorem Blk.drewN {w : World} {b : Nat} {C : Array Value} {t : TypeId} (h : Blk w b C t) (k : Nat) : Blk (w.drewN k) b C t := h
theorem FrsIn.one {S : Nat → Prop} {w : World} {b : Nat} {f : Fr} {pv : Value} (hb : Blk w b #[.int .i64 f.time, .bool f.key, pv] 98) (hS : S b) (hp : StrsIn S w pv f.parts) : FrsIn S w (.slice (some ⟨b, 0, none⟩) 1 1) [f] := by
 refine ⟨some ⟨b, 0, none⟩, 1, rfl, Nat.le_refl _, by omega, fun k hk => ⟨b, 0, rfl, hb.lt, hS, pv, ?_⟩⟩
 have : k = 0 := by simpa using hk
 subst this
 obtain ⟨c0, c1, c2⟩ := hb.three
 exact ⟨c0, c1, c2, hp⟩
inductive Cb where
 | quiet (v : Value) (lim : Nat)
 | step (s : Nat)
 | fin (t : Nat) (f : Value → Value)
 | box
def cbAt (ks : List Cb) (i : Nat) : Cb := (ks[i]?).getD (.quiet undef 0)
def Cb.out (r : Nat → Value) (b : Option Nat) : Cb → Value
 | .quiet v _ => v
 | .step s => r s
 | .fin t f => f (r t)
 | .box => match b with
  | some g => .pointer (some ⟨g, 0, none⟩)
  | none => undef
def Cb.isBox : Cb → Bool
 | .box => true
 | _ => false
def putB (r : Nat → Value) (b : Option Nat) : List Cb → List Oper → Act → Act
 | d :: ks, o :: l, a => putB r b ks l (a.put o.dst (d.out r b))
 | _, _, a => a
def boxOk (ks : List Cb) (l : List Oper) (st : List Nat) (bx n : Nat) : Bool :=
 decide (ks.length = l.length) && (l.all fun o => match o.dst with | some k => decide (k < n) | none => true) &&
 ((List.range st.length).all fun s => match st[s]? with
  | some i => decide (i < l.length) && (match cbAt ks i with | .step t => t == s | _ => false) && (s == 0 || (match st[s - 1]? with | some j => waits l i j | none => false))
  | none => false) &&
 ((List.range l.length).all fun i => match cbAt ks i with
  | .quiet _ lim => decide (st.length ≤ lim) || (match st[lim]? with | some j => waits l j i | none => false)
  | .step t => st[t]? == some i
  | .fin t _ => (List.range l.length).any fun j => waits l i j && (match cbAt ks j with | .step t' => t' == t | .fin t' _ => t' == t | _ => false)
  | .box => i == bx) && decide (bx < l.length) && (cbAt ks bx).isBox
section
variable {P : Program} {Q : Exit → Act → World → Prop}
structure RB (ks : List Cb) (l : List Oper) (n m bx : Nat) (I : Nat → (Nat → Value) → Option Nat → World → Prop) (ls : Nat → Bool) (vs : Nat → Value) (s : Nat) (r : Nat → Value) (b : Option Nat) (w' : World) : Prop where
 lt : ∀ i, ls i = true → i < n
 steps : ∀ i t, i < n → cbAt ks i = .step t → (ls i = true ↔ t < s)
 fins : ∀ i t f, ls i = true → cbAt ks i = .fin t f → t < s
 box : ls bx = true ↔ b.isSome = true
 vals : ∀ i, ls i = true → vs i = (cbAt ks i).out r b
 inv : I s r b w'
 le : s ≤ m
 closed : ∀ i j, ls j = true → waits l j i = true → ls i = true
theorem putB_all (L : Array Bool) (vs : Nat → Value) (r : Nat → Value) (b : Option Nat) : ∀ (l : List Oper) (k : Nat) (ks : List Cb) (a : Act), ks.length = l.length → (∀ i, i < l.length → L.getD (k + i) false = true) → (∀ i, i < l.length → vs (k + i) = (cbAt ks i).out r b) → putL L vs k l a = putB r b ks l a
 | [], _, [], _, _, _, _ => rfl
 | o :: l, k, d :: ks, a, hl, hL, hv => by
  simp only [putL, putB]
  rw [if_pos (by simpa using hL 0 (by simp)), show vs k = d.out r b by simpa [cbAt] using hv 0 (by simp)]
  refine putB_all L vs r b l (k + 1) ks _ (by simpa using hl) (fun i hi => ?_) (fun i hi => ?_)
  ·have := hL (i + 1) (by simpa using hi)
   rw [show k + (i + 1) = k + 1 + i by omega] at this; exact this
  ·have := hv (i + 1) (by simpa using hi)
   rw [show k + (i + 1) = k + 1 + i by omega] at this
   simpa [cbAt] using this
theorem region_box {id : Nat} {a : Act} {w : World} {l : List Oper} (hm : P.follows .mixedOrders = true) (hB : regOk l = true) (ks : List Cb) (st : List Nat) (bx : Nat) (hK : boxOk ks l st bx a.tmps.size = true)
  (I : Nat → (Nat → Value) → Option Nat → World → Prop) (h0 : I 0 (fun _ => undef) none { w with drawn := w.drawn + 1 })
  (hstep : ∀ i o, l[i]? = some o → ∀ (a' : Act) (w' : World) (s : Nat) (r : Nat → Value) (b : Option Nat), I s r b w' → (∀ s, (l.all fun o => o.dst != some s) = true → a'.eval (.tmp s) = a.eval (.tmp s)) → (∀ j oj k, waits l i j = true → l[j]? = some oj → oj.dst = some k → a'.eval (.tmp k) = (cbAt ks j).out r b) → (waits l i bx = true → b.isSome = true) →
   match cbAt ks i with
   | .quiet v lim => s ≤ lim → (execOp a'.eval o).run P w' = .ok (.value v) w'
   | .step t => s = t → o.wp P a' w' (fun a'' w'' => ∃ v, a'' = a'.put o.dst v ∧ I (t + 1) (updR r t v) b w'') Q
   | .fin t f => t < s → (execOp a'.eval o).run P w' = .ok (.value (f (r t))) w'
   | .box => b = none → ∃ ob, (execOp a'.eval o).run P w' = .ok (.value (.pointer (some ⟨w'.heap.size, 0, none⟩))) (w'.alloc ob) ∧ I s r (some w'.heap.size) (w'.alloc ob))
  (hend : ∀ (r : Nat → Value) (g : Nat) (w' : World), I st.length r (some g) w' → Q .normal (putB r (some g) ks l a) w') :
  (Code.region id l.toArray true).wp P Q a w := by
 simp only [boxOk, Bool.and_eq_true, decide_eq_true_eq] at hK
 obtain ⟨⟨⟨⟨⟨hlen, hdst⟩, hst⟩, hall⟩, hbl⟩, hbb⟩ := hK
 have hbk : cbAt ks bx = .box := by cases h : cbAt ks bx <;> rw [h] at hbb <;> first | rfl | cases hbb
 have hap : dstsApart l = true := by simp only [regOk, Bool.and_eq_true] at hB; exact hB.1.1
 have hal : ∀ i, i < l.length → _ := fun i hi => List.all_eq_true.1 hall i (List.mem_range.2 hi)
 have hsl : ∀ s, s < st.length → _ := fun s hs => List.all_eq_true.1 hst s (List.mem_range.2 hs)
 have hstp : ∀ s, s < st.length → ∃ i, st[s]? = some i ∧ i < l.length ∧ cbAt ks i = .step s ∧ (0 < s → ∃ j, st[s - 1]? = some j ∧ waits l i j = true) := fun s hs => by
  have h := hsl s hs
  have e : st[s]? = some st[s] := List.getElem?_eq_getElem hs
  rw [e] at h
  simp only [Bool.and_eq_true, decide_eq_true_eq, Bool.or_eq_true, beq_iff_eq] at h
  refine ⟨st[s], e, h.1.1, ?_, fun h0 => ?_⟩
  ·have h2 := h.1.2
   cases hk : cbAt ks st[s] with
   | quiet v lim => rw [hk] at h2; cases h2
   | fin t f => rw [hk] at h2; cases h2
   | box => rw [hk] at h2; cases h2
   | step t => rw [hk] at h2; simp at h2; rw [h2]
  ·have h3 := h.2
   rcases h3 with h3 | h3
   ·omega
   ·have e2 : st[s - 1]? = some st[s - 1] := List.getElem?_eq_getElem (by omega)
    rw [e2] at h3
    exact ⟨_, e2, h3⟩
 have hst2 : ∀ i t, i < l.length → cbAt ks i = .step t → st[t]? = some i := fun i t hi hk => by
  have h := hal i hi
  rw [hk] at h
  simpa using h
 refine wp_region_inv hm hB (fun L vs w' => ∃ s r b, RB ks l l.length st.length bx I (fun j => L.getD j false) vs s r b w') ?_ ?_ ?_
 ·have hno : ∀ j, ¬ (Array.replicate l.length false).getD j false = true := fun j => by
   simp [Array.getD_eq_getD_getElem?, Array.getElem?_replicate]; split <;> simp
  exact ⟨0, fun _ => undef, none, fun i h => absurd h (hno i), fun i t _ _ => ⟨fun h => absurd h (hno i), fun h => absurd h (Nat.not_lt_zero _)⟩, fun i _ _ h => absurd h (hno i), ⟨fun h => absurd h (hno bx), fun h => by cases h⟩, fun i h => absurd h (hno i), h0, Nat.zero_le _, fun _ j h => absurd h (hno j)⟩
 ·rintro L vs w' ⟨s, r, b, F⟩ i o ho hL hr
  have hi : i < l.length := (List.getElem?_eq_some_iff.1 ho).1
  have ni : L.getD i false = false := by simpa using listed_no hL
  have hset := setfun hL
  have hwt : ∀ j, waits l i j = true → L.getD j false = true := fun j hw => waits_spec hw ho hr
  have hfree : ∀ s, (l.all fun o => o.dst != some s) = true → (putL L vs 0 l a).eval (.tmp s) = a.eval (.tmp s) := fun s hs => putL_other l 0 a (fun p hp t ht e => by
   injection e with e
   subst e
   have := List.all_eq_true.1 hs p hp
   rw [ht] at this
   simp at this)
  have hvals : ∀ j oj k, waits l i j = true → l[j]? = some oj → oj.dst = some k → (putL L vs 0 l a).eval (.tmp k) = (cbAt ks j).out r b := fun j oj k hw hoj hk => by
   have h1 := hwt j hw
   have hk2 := List.all_eq_true.1 hdst oj (List.mem_of_getElem? hoj)
   rw [hk] at hk2
   rw [putL_at h1 l 0 a oj hap (Nat.zero_le _) (by simpa using hoj) hk (by simpa using hk2)]
   exact F.vals j h1
  have hs := hstep i o ho (putL L vs 0 l a) w' s r b F.inv hfree hvals (fun hw => F.box.1 (hwt bx hw))
  rw [hset]
  obtain ⟨ls, hls⟩ : ∃ ls : Nat → Bool, ls = fun j => L.getD j false := ⟨_, rfl⟩
  have hlsj : ∀ j, L.getD j false = ls j := fun j => by rw [hls]
  simp only [hlsj] at F ni hwt ⊢
  have hlt' : ∀ j, (decide (j = i) || ls j) = true → j < l.length := fun j hj => by
   simp only [Bool.or_eq_true, decide_eq_true_eq] at hj
   rcases hj with rfl | hj
   ·exact hi
   ·exact F.lt j hj
  have hcl : ∀ p j, (decide (j = i) || ls j) = true → waits l j p = true → (decide (p = i) || ls p) = true := fun p j hj hw => by
   simp only [Bool.or_eq_true, decide_eq_true_eq] at hj ⊢
   rcases hj with rfl | hj
   ·exact .inr (hwt p hw)
   ·exact .inr (F.closed p j hj hw)
  have hbne : ∀ k, cbAt ks i = k → k.isBox = false → bx ≠ i := fun k h1 h2 e => by subst e; rw [hbk] at h1; subst h1; cases h2
  have hbxs : ∀ k, cbAt ks i = k → k.isBox = false → ((decide (bx = i) || ls bx) = true ↔ b.isSome = true) := fun k h1 h2 => by
   have := hbne k h1 h2
   simpa [this] using F.box
  have plain : ∀ (k : Cb) (v : Value), cbAt ks i = k → k.isBox = false → (∀ t, k ≠ .step t) → (∀ t f, k = .fin t f → t < s) → k.out r b = v → ∃ s r b, RB ks l l.length st.length bx I (fun j => decide (j = i) || ls j) (upd vs i v) s r b w' := fun k v hk h1 h2 h3 h4 => by
   refine ⟨s, r, b, hlt', ?_, ?_, hbxs k hk h1, ?_, F.inv, F.le, hcl⟩
   ·intro j t hj hjk
    have e : j ≠ i := fun e => by subst e; rw [hk] at hjk; exact h2 t hjk
    simpa [e] using F.steps j t hj hjk
   ·intro j t f hj hjk
    by_cases e : j = i
    ·subst e; rw [hk] at hjk; exact h3 t f hjk
    ·exact F.fins j t f (by simpa [e] using hj) hjk
   ·intro j hj
    by_cases e : j = i
    ·subst e; rw [upd_at, hk, h4]
    ·rw [upd_ne e]; exact F.vals j (by simpa [e] using hj)
  cases hk : cbAt ks i with
  | fin t f =>
   rw [hk] at hs
   have hts : t < s := by
    have h := hal i hi
    rw [hk] at h
    obtain ⟨j, hjm, hj⟩ := List.any_eq_true.1 h
    simp only [Bool.and_eq_true] at hj
    have hjl := hwt j hj.1
    have h2 := hj.2
    cases hkj : cbAt ks j with
    | quiet v lim => rw [hkj] at h2; cases h2
    | box => rw [hkj] at h2; cases h2
    | step t' => rw [hkj] at h2; simp at h2; subst h2; exact (F.steps j t' (F.lt j hjl) hkj).1 hjl
    | fin t' f' => rw [hkj] at h2; simp at h2; subst h2; exact F.fins j t' f' hjl hkj
   exact oper_wp_ok (hs hts) ⟨_, rfl, plain (.fin t f) _ hk rfl (fun _ e => by cases e) (fun t' f' e => by injection e with e1; omega) rfl⟩
  | box =>
   rw [hk] at hs
   have hib : i = bx := by
    have h := hal i hi
    rw [hk] at h
    simpa using h
   subst hib
   have hb0 : b = none := by
    cases b with
    | none => rfl
    | some g => have := F.box.2 rfl; rw [this] at ni; cases ni
   subst hb0
   obtain ⟨ob, h1, h2⟩ := hs rfl
   refine oper_wp_ok h1 ⟨_, rfl, s, r, some w'.heap.size, hlt', ?_, ?_, ⟨fun _ => rfl, fun _ => by simp⟩, ?_, h2, F.le, hcl⟩
   ·intro j t hj hjk
    have e : j ≠ i := fun e => by subst e; rw [hk] at hjk; cases hjk
    simpa [e] using F.steps j t hj hjk
   ·intro j t f hj hjk
    have e : j ≠ i := fun e => by subst e; rw [hk] at hjk; cases hjk
    exact F.fins j t f (by simpa [e] using hj) hjk
   ·intro j hj
    by_cases e : j = i
    ·subst e; rw [upd_at, hk]; rfl
    ·have hlj : ls j = true := by simpa [e] using hj
     rw [upd_ne e, F.vals j hlj]
     have hjb : cbAt ks j ≠ .box := fun e' => by
      have h := hal j (F.lt j hlj)
      rw [e'] at h
      exact e (by simpa using h)
     cases hkj : cbAt ks j with
     | quiet v' lim' => rfl
     | step t' => rfl
     | fin t' f' => rfl
     | box => exact absurd hkj hjb
  | quiet v lim =>
   rw [hk] at hs
   have hle : s ≤ lim := by
    have h := hal i hi
    rw [hk] at h
    simp only [Bool.or_eq_true, decide_eq_true_eq] at h
    rcases h with h | h
    ·exact Nat.le_trans F.le h
    ·by_cases hlt : s ≤ lim
     ·exact hlt
     ·exfalso
      have hll : lim < st.length := by have := F.le; omega
      obtain ⟨j, e1, e2, e3, _⟩ := hstp lim hll
      rw [e1] at h
      have hlj := (F.steps j lim e2 e3).2 (by omega)
      rw [F.closed i j hlj h] at ni
      cases ni
   exact oper_wp_ok (hs hle) ⟨v, rfl, plain (.quiet v lim) v hk rfl (fun _ e => by cases e) (fun _ _ e => by cases e) rfl⟩
  | step t =>
   rw [hk] at hs
   have hti := hst2 i t hi hk
   have htl : t < st.length := (List.getElem?_eq_some_iff.1 hti).1
   have hst' : s = t := by
    have h1 : ¬ t < s := fun h => by rw [(F.steps i t hi hk).2 h] at ni; cases ni
    by_cases h0 : t = 0
    ·omega
    ·obtain ⟨i', e1, e2, e3, e4⟩ := hstp t htl
     rw [hti] at e1
     injection e1 with e1
     subst e1
     obtain ⟨j, q1, q2⟩ := e4 (by omega)
     obtain ⟨j', r1, r2, r3, _⟩ := hstp (t - 1) (by omega)
     rw [q1] at r1
     injection r1 with r1
     subst r1
     have := (F.steps j (t - 1) r2 r3).1 (hwt j q2)
     omega
   subst hst'
   refine Oper.wp_mono ?_ (hs rfl)
   rintro a'' w'' ⟨v, h1, h2⟩
   refine ⟨v, h1, s + 1, updR r s v, b, hlt', ?_, ?_, hbxs _ hk rfl, ?_, h2, htl, hcl⟩
   ·intro j t' hj hjk
    by_cases e : j = i
    ·subst e
     rw [hk] at hjk
     injection hjk with hjk
     subst hjk
     simp
    ·have h3 := F.steps j t' hj hjk
     have hne : t' ≠ s := fun e' => by
      subst e'
      have := hst2 j t' hj hjk
      rw [hti] at this
      injection this with this
      exact e this.symm
     simp only [e, decide_false, Bool.false_or]
     rw [h3]; omega
   ·intro j t' f hj hjk
    have e : j ≠ i := fun e => by subst e; rw [hk] at hjk; cases hjk
    have := F.fins j t' f (by simpa [e] using hj) hjk
    omega
   ·intro j hj
    by_cases e : j = i
    ·subst e; rw [upd_at, hk]; exact (updR_at r s v).symm
    ·have hlj : ls j = true := by simpa [e] using hj
     rw [upd_ne e, F.vals j hlj]
     cases hkj : cbAt ks j with
     | quiet v' lim' => rfl
     | box => rfl
     | fin t' f' =>
      have := F.fins j t' f' hlj hkj
      exact congrArg f' (updR_ne (by omega)).symm
     | step t' =>
      have := (F.steps j t' (F.lt j hlj) hkj).1 hlj
      exact (updR_ne (by omega)).symm
 ·rintro L vs w' ⟨s, r, b, F⟩ hlst
  have hs : s = st.length := by
   by_cases h : s < st.length
   ·obtain ⟨i, e1, e2, e3, _⟩ := hstp s h
    have := (F.steps i s e2 e3).1 (hlst i e2)
    omega
   ·have := F.le; omega
  subst hs
  obtain ⟨g, hg⟩ : ∃ g, b = some g := Option.isSome_iff_exists.1 (F.box.1 (hlst bx hbl))
  subst hg
  rw [putB_all L vs r (some g) l 0 ks a hlen (fun i hi => by rw [Nat.zero_add]; exact hlst i hi) (fun i hi => by rw [Nat.zero_add]; exact F.vals i (hlst i hi))]
  exact hend r g w' F.inv
end
end Go.Proofs.YtnpaejknoipicagGreat
namespace Go.Proofs.YtnpaejknoipicagGreat
open Go.RowKit
def gon (o : List Fr) (f : Fr) : Bool := decide (0 < o.length) && decide (o.length < 6) && decide ((frAt o (o.length - 1)).time ≤ f.time)
theorem gon_grow {o : List Fr} {f : Fr} (hk : f.key = false) : growG o f = if gon o f then o ++ [f] else o := by
 unfold growG gon
 rw [if_neg (by simp [hk])]
 by_cases h : o.length = 0 ∨ 6 ≤ o.length ∨ f.time < (frAt o (o.length - 1)).time
 ·rw [if_pos h, if_neg]
  simp only [Bool.and_eq_true, decide_eq_true_eq]
  omega
 ·rw [if_neg h, if_pos]
  simp only [Bool.and_eq_true, decide_eq_true_eq]
  omega
set_option maxHeartbeats 2000000 in
theorem goesOn_any (base M : Nat) (fv cv : Value) (o : List Fr) (cl : List (List Fr)) (f : Fr) (pa : Option Addr) (pn pc : Nat) (w : World) (hM : GMk base M w fv cv o cl) :
  Calls Tryz.prog 192 #[.pointer (some ⟨M, 0, none⟩), .agg #[.int .i64 f.time, .bool f.key, .slice pa pn pc]] w fun e w' => e = .returned (.bool (gon o f)) ∧ Below w.heap.size w w' := by
 obtain ⟨kM, hF, _⟩ := hM
 obtain ⟨ao, c, efv, h1, h2, hc⟩ := hF.frsIn (S' := fun _ => True) (fun _ _ _ => trivial) (fun _ _ => trivial)
 obtain ⟨n, hn⟩ : ∃ n, n = o.length := ⟨_, rfl⟩
 rw [← hn] at efv h1
 have k0 := kM.two.1
 have hMw := kM.lt
 have hMw1 : M < w.heap.size + 1 := by omega
 rw [efv] at k0
 unfold gon
 rw [← hn]
 obtain ⟨t, k, ps⟩ := f
 simp only
 by_cases h0 : n = 0
 ·have hd : decide (0 < n) = false := decide_eq_false (by omega)
  rw [hd]
  subst h0
  clear hn hc efv kM hF
  go_enter Tryz.func192, Tryz.ntmps192
  go_wp2_with fail
  go_quiet (fail)
  go_wp2
  go_ret
  exact ⟨by simp, below_drewN ((Below.refl _ w).alloc (Nat.le_refl _) _) _⟩
 ·have hd : decide (0 < n) = true := decide_eq_true (by omega)
  rw [hd, Bool.true_and]
  by_cases h6 : n < 6
  ·have hd6 : decide (n < 6) = true := decide_eq_true h6
   rw [hd6, Bool.true_and]
   obtain ⟨b, off, e1, hb, _, pv, c0, _⟩ := hc (n - 1) (by omega)
   obtain ⟨n1, hn1⟩ : ∃ n1, n1 = n - 1 := ⟨_, rfl⟩
   rw [← hn1] at c0 ⊢
   obtain ⟨t', ht'⟩ : ∃ t', t' = (frAt o n1).time := ⟨_, rfl⟩
   rw [show (o[n1]?.getD Fr.zero).time = t' from ht'.symm] at c0
   rw [← ht']
   subst e1
   have hn1i : (n : Int) - 1 = (n1 : Int) := by omega
   have hn1l : (n1 : Int) < (n : Int) := by omega
   have hn1w : IntKind.i64.wrap (n1 : Int) = (n1 : Int) := by rw [IntKind.wrap_i64]; omega
   have hn6i : (n : Int) < 6 := by omega
   have hb1 : b < w.heap.size + 1 := by omega
   clear hn hc efv kM hF ht' hn1
   go_enter Tryz.func192, Tryz.ntmps192
   go_wp2_with fail
   go_quiet (fail)
   go_wp2
   go_ret
   exact ⟨by simp, below_drewN ((Below.refl _ w).alloc (Nat.le_refl _) _) _⟩
  ·have hd6 : decide (n < 6) = false := decide_eq_false h6
   rw [hd6, Bool.false_and]
   have hn6i : ¬ (n : Int) < 6 := by omega
   have hd6i : decide ((n : Int) < 6) = false := decide_eq_false hn6i
   clear hn hc efv kM hF
   go_enter Tryz.func192, Tryz.ntmps192
   go_wp2_with fail
   go_quiet (fail)
   go_wp2
   go_ret
   exact ⟨by simp, below_drewN ((Below.refl _ w).alloc (Nat.le_refl _) _) _⟩
set_option maxHeartbeats 4000000 in
set_option maxRecDepth 100000 in
theorem groupTake_any (base M : Nat) (fv cv : Value) (o : List Fr) (cl : List (List Fr)) (f : Fr) (pv : Value) (w : World) (hM : GMk base M w fv cv o cl) (hbM : base ≤ M) (ho : o.length ≤ 6) (hcl : cl.length ≤ 1000) (hp : StrsIn (fun g => g < base) w pv f.parts) (hf : f.chk = 0) :
  Calls Tryz.prog 188 #[.pointer (some ⟨M, 0, none⟩), .agg #[.int .i64 f.time, .bool f.key, pv]] w fun e w' => e = .returned (.tuple #[]) ∧ GMake base M w' (growG o f) (if f.key && decide (0 < o.length) then cl ++ [o] else cl) ∧ Below base w w' := by
 obtain ⟨i0, hi, hz0, hz1, hz2⟩ := info_parts Tryz.infoFrm
 obtain ⟨pa, pc, ep⟩ := hp.1.len
 have HP : Hid (StrsIn (fun g => g < base) w pv f.parts) := hp
 obtain ⟨R, hR⟩ : ∃ R, R = growG o f := ⟨_, rfl⟩
 obtain ⟨C, hC⟩ : ∃ C, C = if f.key && decide (0 < o.length) then cl ++ [o] else cl := ⟨_, rfl⟩
 obtain ⟨o', ho'⟩ : ∃ o', o' = if f.key then [] else o := ⟨_, rfl⟩
 have HKEY : Hid (f.key = true → R = o' ++ [f] ∧ C = (if 0 < o.length then cl ++ [o] else cl) ∧ o' = []) := fun h => by
  refine ⟨?_, ?_, by rw [ho', if_pos h]⟩
  ·rw [hR, ho', if_pos h]; unfold growG; rw [if_pos h]; rfl
  ·rw [hC, h, Bool.true_and]
   by_cases h0 : 0 < o.length
   ·rw [if_pos (decide_eq_true h0), if_pos h0]
   ·rw [if_neg (by rw [decide_eq_true_eq]; exact h0), if_neg h0]
 have HNK : Hid (f.key = false → C = cl ∧ o' = o ∧ (gon o f = true → R = o' ++ [f]) ∧ (gon o f = false → R = o)) := fun h => by
  have e : o' = o := by rw [ho', h]; rfl
  refine ⟨by rw [hC, h]; rfl, e, fun h2 => ?_, fun h2 => ?_⟩
  ·rw [hR, gon_grow h, h2, if_pos rfl, e]
  ·rw [hR, gon_grow h, h2]; rfl
 have HO7 : Hid (o'.length ≤ 6) := by
  show _ ≤ _
  rw [ho']
  split
  ·simp
  ·exact ho
 have HGO : Hid (∀ w' : World, GMk base M w' fv cv o cl → Calls Tryz.prog 192 #[.pointer (some ⟨M, 0, none⟩), .agg #[.int .i64 f.time, .bool f.key, .slice pa f.parts.length pc]] w' fun e w'' => e = .returned (.bool (gon o f)) ∧ Below w'.heap.size w' w'') := fun w' h => goesOn_any base M fv cv o cl f _ _ _ w' h
 have HCL : Hid (∀ w' : World, GMk base M w' fv cv o cl → Calls Tryz.prog 191 #[.pointer (some ⟨M, 0, none⟩)] w' fun e w'' => e = .returned (.tuple #[]) ∧ (∃ cv', GMk base M w'' (.slice none 0 0) cv' [] (if 0 < o.length then cl ++ [o] else cl)) ∧ Below base w' w'' ∧ ∀ j, j < w'.heap.size → j ≠ M → some j ≠ cv.ownBlock → w''.heap[j]? = w'.heap[j]?) := fun w' h => groupClose_any base M fv cv o cl w' h hbM ho hcl
 have HCF : Hid (∀ w' : World, StrsIn (fun g => g < base) w' pv f.parts → Calls Tryz.prog 112 #[.agg #[.int .i64 f.time, .bool f.key, pv]] w' fun e w'' => ∃ a c, e = .returned (.agg #[.int .i64 f.time, .bool f.key, .slice a f.parts.length c]) ∧ StrsIn (fun g => w'.heap.size ≤ g) w'' (.slice a f.parts.length c) f.parts ∧ Below w'.heap.size w' w'') := fun w' h => cloneFrame_any _ f pv w' h hf
 have HMK : Hid (GMk base M w fv cv o cl) := hM
 have hMw := hM.1.lt
 obtain ⟨gg, hgg⟩ : ∃ gg, gg = gon o f := ⟨_, rfl⟩
 rw [← hgg] at HGO HNK
 rw [← hR, ← hC]
 obtain ⟨t, k, parts⟩ := f
 simp only at ep HP HGO HCF HKEY HNK ⊢
 obtain ⟨pn, hpn⟩ : ∃ pn, pn = parts.length := ⟨_, rfl⟩
 have HPN : Hid (pn = parts.length) := hpn
 rw [← hpn] at ep HGO HCF
 clear hM hp hf hR hC ho' hgg hpn ho hcl
 have HEP : Hid (pv = .slice pa pn pc) := ep
 subst ep
 go_enter Tryz.func188, Tryz.ntmps188
 go_upto_if 5 with fail
 go_cut [] (fun wc => ∃ fv' cv', Hid (GMk base M wc fv' cv' o' C) ∧ Hid (R = o' ++ [⟨t, k, parts⟩]) ∧ Hid (Blk wc w.heap.size #[.int .i64 t, .bool k, .slice pa pn pc] 98) ∧ Hid (∀ g, fv'.ownBlock = some g → g ≠ w.heap.size) ∧ Hid (StrsIn (fun g => g < base) wc (.slice pa pn pc) parts) ∧ Hid (Below base w wc))
 case first =>
  have MK1 : Hid (GMk base M (w.alloc (.cells #[.int .i64 t, .bool k, .slice pa pn pc] 98)) fv cv o cl) := HMK.out.below ((Below.refl _ w).alloc (Nat.le_refl _) _)
  cases k
  ·have hnk := HNK.out rfl
   have HNK2 : Hid (C = cl ∧ o' = o ∧ (gg = true → R = o' ++ [⟨t, false, parts⟩]) ∧ (gg = false → R = o)) := hnk
   clear hnk
   go_wp2_with fail
   refine (HGO.out _ MK1.out).mono ?_
   rintro e w1 ⟨rfl, hb1⟩
   have B1 : Hid (Below w.heap.size w w1) := ((Below.refl _ w).alloc (Nat.le_refl _) _).trans (hb1.mono (by simp))
   have MK2 : Hid (GMk base M w1 fv cv o C) := by rw [HNK2.out.1]; exact MK1.out.below hb1
   have KF : Hid (Blk w1 w.heap.size #[.int .i64 t, .bool false, .slice pa pn pc] 98) := (Blk.new w _ _).below hb1 (by simp)
   have SP : Hid (StrsIn (fun g => g < base) w1 (.slice pa pn pc) parts) := HP.out.below B1.out
   clear hb1
   cases gg
   ·have HRO : Hid (R = o) := HNK2.out.2.2.2 rfl
    go_wp2
    refine bodyPost_ret (v := .tuple #[]) (results_none rfl _ _ _) rfl ?_
    exact ⟨rfl, ⟨fv, cv, by rw [HRO.out]; exact MK2.out⟩, B1.out.mono (by omega)⟩
   ·have HRO : Hid (R = o' ++ [⟨t, false, parts⟩]) := HNK2.out.2.2.1 rfl
    go_wp2_with fail
    go_meet
    case rel => exact ⟨fv, cv, (show GMk base M w1 fv cv o' C by rw [HNK2.out.2.1]; exact MK2.out), HRO, KF, (show ∀ g, _ → _ from fun g hg e => by have := (HMK.out.2.1.lt g hg).2; omega), SP, (show Below base w w1 from B1.out.mono (by omega))⟩
  ·have hk := HKEY.out rfl
   have HK2 : Hid (R = o' ++ [⟨t, true, parts⟩] ∧ C = (if 0 < o.length then cl ++ [o] else cl) ∧ o' = []) := hk
   clear hk
   go_wp2_with fail
   refine (HCL.out _ MK1.out).mono ?_
   rintro e w1 ⟨rfl, ⟨cv', hmk⟩, hb1, oth⟩
   have B1 : Hid (Below base w w1) := ((Below.refl base w).alloc (by omega) _).trans hb1
   have KF : Hid (Blk w1 w.heap.size #[.int .i64 t, .bool true, .slice pa pn pc] 98) := (oth w.heap.size (by simp) (by omega) (fun e => by have := (HMK.out.2.2.lt _ e.symm).2; omega)).trans (Blk.new w _ _)
   have MK2 : Hid (GMk base M w1 (.slice none 0 0) cv' o' C) := by rw [HK2.out.2.1, HK2.out.2.2]; exact hmk
   have SP : Hid (StrsIn (fun g => g < base) w1 (.slice pa pn pc) parts) := HP.out.to ⟨B1.out.size, fun g _ h => B1.out.block g h⟩ (fun _ _ h => h)
   have HRO : Hid (R = o' ++ [⟨t, true, parts⟩]) := HK2.out.1
   clear hmk hb1 oth
   go_wp2_with fail
   go_meet
   case rel => exact ⟨.slice none 0 0, cv', MK2, HRO, KF, (show ∀ g, _ → _ from fun g hg => by simp [Value.ownBlock] at hg), SP, B1⟩
 case rest =>
  obtain ⟨fv', cv', MK, HR, KF, NF, SP, BC⟩ := hcut
  have hmk := MK.out
  obtain ⟨kM, hF, hCl⟩ := hmk
  obtain ⟨qs, fq1, fq2, fq3⟩ := hF
  obtain ⟨fa, fc, efv, hfc, _⟩ := owns_cap fq2
  have hql : qs.length = o'.length := by rw [← fq1, List.length_map]
  obtain ⟨n, hn⟩ : ∃ n, n = o'.length := ⟨_, rfl⟩
  have HN : Hid (n = o'.length) := hn
  have hn6 : n ≤ 6 := by rw [hn]; exact HO7.out
  rw [hql, ← hn] at efv hfc fq2
  have HE1 : Hid (fv' = .slice fa n fc) := efv
  have k0 := kM.two.1
  rw [efv] at k0
  have FQ1 : Hid (qs.map Prod.fst = o') := fq1
  have FQ2 : Hid (wc.ownsRow base 98 3 fv' n (frCells qs)) := fq2
  have FQ3 : Hid (∀ p ∈ qs, StrsIn (GS base M fv' cv') wc p.2 p.1.parts) := fq3
  have HQL : Hid (qs.length = n) := by show _ = _; rw [hql, hn]
  have hMc := kM.lt
  have hKl := KF.out.lt
  obtain ⟨y0, y1, y2⟩ := KF.out.three
  clear kM hCl fq1 fq2 fq3 efv hql hn
  go_wp2_with fail
  refine region_chain (by kernel_rfl) (by kernel_rfl) [.quiet (.pointer (some ⟨M, 0, none⟩)) 4, .quiet (.pointer (some ⟨M, 0, none⟩)) 4, .quiet (.pointer (some ⟨M, 0, none⟩)) 4, .quiet (.pointer (some ⟨M, 0, none⟩)) 4, .quiet (.pointer (some ⟨M, 0, none⟩)) 4, .quiet (.slice fa n fc) 2, .quiet (.agg #[.int .i64 t, .bool k, .slice pa pn pc]) 0, .step 0, .step 1, .step 2, .quiet (.pointer (some ⟨M, 0, none⟩)) 4, .quiet (.pointer (some ⟨M, 0, none⟩)) 4, .quiet (.pointer (some ⟨M, 0, none⟩)) 4, .step 3] [7, 8, 9, 13] (by kernel_rfl)
   (fun s r w' => match s with
    | 0 => Below wc.heap.size wc w'
    | 1 => ∃ a c, r 0 = .agg #[.int .i64 t, .bool k, .slice a pn c] ∧ StrsIn (fun g => wc.heap.size ≤ g) w' (.slice a pn c) parts ∧ Below wc.heap.size wc w'
    | 2 => ∃ a c V, StrsIn (fun g => wc.heap.size ≤ g) V (.slice a pn c) parts ∧ Below wc.heap.size wc V ∧ w' = V.alloc (.cells #[.int .i64 t, .bool k, .slice a pn c] 98) ∧ r 1 = .slice (some ⟨V.heap.size, 0, none⟩) 1 1
    | 3 => ∃ a c V, StrsIn (fun g => wc.heap.size ≤ g) V (.slice a pn c) parts ∧ Below wc.heap.size wc V ∧ w'.ownsRow base 98 3 (r 2) (n + 1) (frCells qs ++ [.int .i64 t, .bool k, .slice a pn c]) ∧ (V.alloc (.cells #[.int .i64 t, .bool k, .slice a pn c] 98)).grownBy w' fv'.ownBlock ∧ ((r 2).ownBlock = fv'.ownBlock ∨ ∀ g, (r 2).ownBlock = some g → (V.alloc (.cells #[.int .i64 t, .bool k, .slice a pn c] 98)).heap.size ≤ g)
    | _ => ∃ a c V w2 v', StrsIn (fun g => wc.heap.size ≤ g) V (.slice a pn c) parts ∧ Below wc.heap.size wc V ∧ w2.ownsRow base 98 3 v' (n + 1) (frCells qs ++ [.int .i64 t, .bool k, .slice a pn c]) ∧ (V.alloc (.cells #[.int .i64 t, .bool k, .slice a pn c] 98)).grownBy w2 fv'.ownBlock ∧ (v'.ownBlock = fv'.ownBlock ∨ ∀ g, v'.ownBlock = some g → (V.alloc (.cells #[.int .i64 t, .bool k, .slice a pn c] 98)).heap.size ≤ g) ∧ w' = w2.setCell ⟨M, 0, none⟩ v') ((Below.refl _ wc).drew) ?step ?fin
  case step =>
   intro i o ho a' w' s r hI hfree hvals
   have f0 : a'.eval (.tmp 0) = .pointer (some ⟨M, 0, none⟩) := (hfree 0 (by kernel_rfl)).trans rfl
   have f3 : a'.eval (.tmp 3) = .pointer (some ⟨w.heap.size, 0, none⟩) := (hfree 3 (by kernel_rfl)).trans rfl
   match i, ho with
   | 0, ho | 1, ho =>
    simp at ho; subst ho
    show s ≤ 4 → (execOp a'.eval _).run _ w' = .ok (.value _) w'
    intro _
    generalize a'.eval = ρ at *
    simp [execOp, go_sem, f0]
   | 2, ho =>
    simp at ho; subst ho
    have e1 : a'.eval (.tmp 13) = .pointer (some ⟨M, 0, none⟩) := hvals 1 _ _ (by kernel_rfl) rfl rfl
    show s ≤ 4 → (execOp a'.eval _).run _ w' = .ok (.value _) w'
    intro _
    generalize a'.eval = ρ at *
    simp [execOp, go_sem, e1]
   | 3, ho =>
    simp at ho; subst ho
    have e1 : a'.eval (.tmp 14) = .pointer (some ⟨M, 0, none⟩) := hvals 2 _ _ (by kernel_rfl) rfl rfl
    show s ≤ 4 → (execOp a'.eval _).run _ w' = .ok (.value _) w'
    intro _
    generalize a'.eval = ρ at *
    simp [execOp, go_sem, e1]
   | 4, ho =>
    simp at ho; subst ho
    have e1 : a'.eval (.tmp 15) = .pointer (some ⟨M, 0, none⟩) := hvals 3 _ _ (by kernel_rfl) rfl rfl
    show s ≤ 4 → (execOp a'.eval _).run _ w' = .ok (.value _) w'
    intro _
    generalize a'.eval = ρ at *
    simp [execOp, go_sem, e1]
   | 5, ho =>
    simp at ho; subst ho
    have e1 : a'.eval (.tmp 16) = .pointer (some ⟨M, 0, none⟩) := hvals 4 _ _ (by kernel_rfl) rfl rfl
    show s ≤ 2 → (execOp a'.eval _).run _ w' = .ok (.value _) w'
    intro hs
    have hc : w'.cell? ⟨M, 0, none⟩ = some (.slice fa n fc) := by
     match s, hs, hI with
     | 0, _, hI => exact (Below.cell hI (p := ⟨M, 0, none⟩) hMc).trans k0
     | 1, _, ⟨_, _, _, _, hI⟩ => exact (Below.cell hI (p := ⟨M, 0, none⟩) hMc).trans k0
     | 2, _, ⟨_, _, V, _, hI, hw, _⟩ => rw [hw]; exact (World.cell?_alloc_past _ _ _ (Nat.lt_of_lt_of_le hMc hI.size)).trans ((Below.cell hI (p := ⟨M, 0, none⟩) hMc).trans k0)
    generalize a'.eval = ρ at *
    simp [execOp, go_sem, e1, hc]
   | 6, ho =>
    simp at ho; subst ho
    show s ≤ 0 → (execOp a'.eval _).run _ w' = .ok (.value _) w'
    intro hs
    have hB : Below wc.heap.size wc w' := by
     match s, hs, hI with
     | 0, _, hI => exact hI
    have z0 := (hB.cell (p := ⟨w.heap.size, 0, none⟩) hKl).trans y0
    have z1 := (hB.cell (p := ⟨w.heap.size, 1, none⟩) hKl).trans y1
    have z2 := (hB.cell (p := ⟨w.heap.size, 2, none⟩) hKl).trans y2
    generalize a'.eval = ρ at *
    simp [execOp, go_sem, f3, z0, z1, z2]
   | 7, ho =>
    simp at ho; subst ho
    have e1 : a'.eval (.tmp 18) = .agg #[.int .i64 t, .bool k, .slice pa pn pc] := hvals 6 _ _ (by kernel_rfl) rfl rfl
    have ef : a'.eval (.func 112) = .func (.func 112) #[] #[] := rfl
    show s = 0 → Oper.wp _ _ _ _ _ _
    intro hs
    subst hs
    have hB : Below wc.heap.size wc w' := hI
    refine oper_wp_call (f := 112) (args := #[.agg #[.int .i64 t, .bool k, .slice pa pn pc]]) ?_ ?_
    ·generalize a'.eval = ρ at *
     simp [execOp, go_sem, e1, ef]
    ·refine (HCF.out w' (SP.out.below hB)).mono ?_
     rintro e w'' ⟨a, c, rfl, hs1, hb1⟩
     refine ⟨_, rfl, _, rfl, a, c, updR_at _ _ _, hs1.mono (fun g _ hg => Nat.le_trans hB.size hg), hB.trans (hb1.mono hB.size)⟩
   | 8, ho =>
    simp at ho; subst ho
    have e1 : a'.eval (.tmp 19) = r 0 := hvals 7 _ _ (by kernel_rfl) rfl rfl
    show s = 1 → Oper.wp _ _ _ _ _ _
    intro hs
    subst hs
    obtain ⟨a, c, hr0, h1, h2⟩ := hI
    rw [hr0] at e1
    refine oper_wp_ok (v := .slice (some ⟨w'.heap.size, 0, none⟩) 1 1) (w' := w'.alloc (.cells #[.int .i64 t, .bool k, .slice a pn c] 98)) ?_ ⟨_, rfl, a, c, w', h1, h2, rfl, updR_at _ _ _⟩
    generalize a'.eval = ρ at *
    simp [execOp, go_sem, e1]
   | 9, ho =>
    simp at ho; subst ho
    have e1 : a'.eval (.tmp 17) = .slice fa n fc := hvals 5 _ _ (by kernel_rfl) rfl rfl
    have e2 : a'.eval (.tmp 20) = r 1 := hvals 8 _ _ (by kernel_rfl) rfl rfl
    show s = 2 → Oper.wp _ _ _ _ _ _
    intro hs
    subst hs
    obtain ⟨a, c, V, h1, h2, hw, hr1⟩ := hI
    rw [hr1] at e2
    subst hw
    have hV := h2.size
    have hown : (V.alloc (.cells #[.int .i64 t, .bool k, .slice a pn c] 98)).ownsRow base 98 3 fv' n (frCells qs) := (owns_below FQ2.out h2 (Nat.le_refl _)).alloc _
    obtain ⟨v', w2, hrun, g2, g3, g4⟩ := run_append_own2 (P := Tryz.prog) (V.alloc (.cells #[.int .i64 t, .bool k, .slice a pn c] 98)) base 28 28 98 i0 _ 3 40 Tryz.underlying28 hi hz0 hz1 hz2 rfl (by decide) fv' n (frCells qs) hown ⟨V.heap.size, 0, none⟩ 1 1 [.int .i64 t, .bool k, .slice a pn c] rfl (fun j u hj => by
      rw [Addr.add_lit, Nat.zero_add]
      exact (Blk.new V #[.int .i64 t, .bool k, .slice a pn c] 98).cell (by simpa using hj)) (fun u hu => by simp at hu; rcases hu with rfl | rfl | rfl <;> rfl) (by unfold maxLen; omega) (by omega) (by simp; omega)
    rw [HE1.out] at hrun
    refine oper_wp_ok (v := v') (w' := w2) ?_ ⟨_, rfl, a, c, V, h1, h2, ?_⟩
    ·generalize a'.eval = ρ at *
     simp [execOp, resolve, invoke, builtin, e1, e2, hrun, Result.andThen]
    ·rw [updR_at]
     exact ⟨g2, g3, g4⟩
   | 10, ho =>
    simp at ho; subst ho
    have e1 : a'.eval (.tmp 12) = .pointer (some ⟨M, 0, none⟩) := hvals 0 _ _ (by kernel_rfl) rfl rfl
    show s ≤ 4 → (execOp a'.eval _).run _ w' = .ok (.value _) w'
    intro _
    generalize a'.eval = ρ at *
    simp [execOp, go_sem, e1]
   | 11, ho =>
    simp at ho; subst ho
    have e1 : a'.eval (.tmp 22) = .pointer (some ⟨M, 0, none⟩) := hvals 10 _ _ (by kernel_rfl) rfl rfl
    show s ≤ 4 → (execOp a'.eval _).run _ w' = .ok (.value _) w'
    intro _
    generalize a'.eval = ρ at *
    simp [execOp, go_sem, e1]
   | 12, ho =>
    simp at ho; subst ho
    have e1 : a'.eval (.tmp 23) = .pointer (some ⟨M, 0, none⟩) := hvals 11 _ _ (by kernel_rfl) rfl rfl
    show s ≤ 4 → (execOp a'.eval _).run _ w' = .ok (.value _) w'
    intro _
    generalize a'.eval = ρ at *
    simp [execOp, go_sem, e1]
   | 13, ho =>
    simp at ho; subst ho
    have e1 : a'.eval (.tmp 24) = .pointer (some ⟨M, 0, none⟩) := hvals 12 _ _ (by kernel_rfl) rfl rfl
    have e2 : a'.eval (.tmp 21) = r 2 := hvals 9 _ _ (by kernel_rfl) rfl rfl
    show s = 3 → Oper.wp _ _ _ _ _ _
    intro hs
    subst hs
    obtain ⟨a, c, V, h1, h2, g2, g3, g4⟩ := hI
    obtain ⟨va, vc, ev, _⟩ := owns_cap g2
    have hV := h2.size
    have kM2 : Blk w' M #[fv', cv'] 245 := (g3.block M (by simp; omega) (fun e => MK.out.fneM e.symm)).trans ((MK.out.1.below h2 hMc).alloc _)
    have z0 := kM2.two.1
    have z1 := kM2.free 0
    refine oper_wp_skip (w' := w'.setCell ⟨M, 0, none⟩ (r 2)) ?_ ⟨_, rfl, a, c, V, w', r 2, h1, h2, g2, g3, g4, rfl⟩
    rw [ev] at e2 ⊢
    generalize a'.eval = ρ at *
    simp [execOp, go_sem, e1, e2, z0, z1]
   | i + 14, ho => simp at ho
  case fin =>
   rintro r w' ⟨a, c, V, w2, v', h1, h2, g2, g3, g4, hw⟩
   have hmk := MK.out
   have hV := h2.size
   have hsz2 := g3.size
   simp only [World.size_alloc] at hsz2
   have kM2 : Blk w2 M #[fv', cv'] 245 := (g3.block M (by simp; omega) (fun e => hmk.fneM e.symm)).trans ((hmk.1.below h2 hMc).alloc _)
   have hvM : v'.ownBlock ≠ some M := fun e => by
    rcases g4 with g4 | g4
    ·rw [g4] at e; exact hmk.fneM e
    ·have := g4 M e; simp at this; omega
   have hnew : ∀ g, g < V.heap.size → some g ≠ fv'.ownBlock → some g ≠ v'.ownBlock := fun g hg h1 e => by
    rcases g4 with g4 | g4
    ·rw [g4] at e; exact h1 e
    ·have := g4 g e.symm; simp at this; omega
   have hsm : SameOn (fun g => g < V.heap.size ∧ some g ≠ fv'.ownBlock) V w2 := ⟨by omega, fun g hg h2 => by
    rw [g3.block g (by simp; omega) h2.2]
    exact Below.heap_alloc V _ g hg⟩
   have hsm2 : SameOn (GS base M fv' cv') wc w2 := (SameOn.of_below h2).trans (hsm.mono' (fun g hg hs => ⟨hg, hs.2.2.1⟩))
   have hSS : ∀ g, g < wc.heap.size → GS base M fv' cv' g → GS base M v' cv' g := fun g hg hs => ⟨hs.1, hs.2.1, hnew g (by omega) hs.2.2.1, hs.2.2.2⟩
   have hcb : ∀ g, cv'.ownBlock = some g → w2.heap[g]? = wc.heap[g]? := fun g hg => by
    have h3 := (hmk.2.2.lt g hg).2
    rw [hsm.2 g (by omega) ⟨by omega, fun e => hmk.fnec g e.symm hg⟩]
    exact h2.block g h3
   have hp2 : StrsIn (GS base M v' cv') w2 (.slice a pn c) parts := by
    refine (h1.mono (S' := fun g => wc.heap.size ≤ g ∧ g < V.heap.size) (fun g hg h => ⟨h, hg⟩)).to (hsm.mono (fun g hg => ⟨hg.2, fun e => by have := (hmk.2.1.lt g e.symm).2; omega⟩)) (fun g hg hs => ⟨?_, ?_, ?_, ?_⟩)
    ·have := hmk.1.lt; omega
    ·omega
    ·exact hnew g hs.2 (fun e => by have := (hmk.2.1.lt g e.symm).2; omega)
    ·exact fun e => by have := (hmk.2.2.lt g e.symm).2; omega
   have hof : OwnFrs base (GS base M v' cv') w2 v' (o' ++ [⟨t, k, parts⟩]) := by
    refine ⟨qs ++ [(⟨t, k, parts⟩, .slice a pn c)], by rw [List.map_append, FQ1.out]; rfl, by rw [List.length_append, frCells_append, HQL.out]; exact g2, fun p hp => ?_⟩
    rcases List.mem_append.1 hp with hp | hp
    ·exact (FQ3.out p hp).to hsm2 hSS
    ·simp at hp; subst hp; exact hp2
   have hoc : OwnGrs base (GS base M v' cv') w2 cv' C := hmk.2.2.to hsm2 hSS hcb
   have set0 : SameOn (GS base M v' cv') w2 (w2.setCell ⟨M, 0, none⟩ v') := SameOn.setCell (fun g hg => hg.2.1) _
   have FIN : Hid (GMake base M (w2.setCell ⟨M, 0, none⟩ v') R C) := ⟨v', cv', kM2.set 0 _, by
     rw [HR.out]
     exact hof.to set0 (fun _ _ h => h) (fun g hg => Below.heap_setCell _ _ _ _ (fun e => hvM (by rw [hg]; exact congrArg some e))),
    hoc.to set0 (fun _ _ h => h) (fun g hg => Below.heap_setCell _ _ _ _ (fun e => hmk.cneM (by rw [hg]; exact congrArg some e)))⟩
   have BEL : Hid (Below base w (w2.setCell ⟨M, 0, none⟩ v')) := (((BC.out.trans (h2.mono (by have := hmk.1.lt; omega))).alloc (by have := hmk.1.lt; omega) _).grown g3 (by have := hmk.1.lt; simp; omega) (fun j hj => (hmk.2.1.lt j hj).1)).setCell (by exact hbM) _
   subst hw
   simp only [putC, Ck.out]
   clear hof hoc hp2 hSS hsm2 hcb hsm hnew g2 g3 g4 kM2 k0 y0 y1 y2 set0
   go_wp2
   go_end0
   exact ⟨rfl, FIN.out, BEL.out⟩
def eachE (l : List Fr) : Int := goN (fun k => (frAt l k).chk) l.length 0
set_option maxHeartbeats 4000000 in
set_option maxRecDepth 100000 in
theorem groupEach_any (base M : Nat) (v : Value) (l : List Fr) (w : World) (hM : GMk base M w (.slice none 0 0) (.slice none 0 0) [] []) (hbM : base ≤ M) (hv : FrsIn (fun g => g < base) w v l) (hl : l.length ≤ 100) :
  Calls Tryz.prog 187 #[v, .func (.func 188) #[.pointer (some ⟨M, 0, none⟩)] #[]] w fun e w' => e = .returned (.int .i64 (eachE l)) ∧ (eachE l = 0 → GMake base M w' (upG l l.length).2 (upG l l.length).1) ∧ Below base w w' := by
 have HV : Hid (FrsIn (fun g => g < base) w v l) := hv
 obtain ⟨ao, c, hva, h1, h2, hc⟩ := hv
 have HC : Hid (∀ k, k < l.length → ∃ b off, ao = some ⟨b, off, none⟩ ∧ b < w.heap.size ∧ b < base ∧ At3In (fun g => g < base) w b (off + k * 3) (l[k]?.getD Fr.zero)) := hc
 obtain ⟨n, hn⟩ : ∃ n, n = l.length := ⟨_, rfl⟩
 have HN : Hid (n = l.length) := hn
 have hbw : base ≤ w.heap.size := by have := hM.1.lt; omega
 obtain ⟨E, hE⟩ : ∃ E, E = eachE l := ⟨_, rfl⟩
 have HE : Hid (E = goN (fun k => (frAt l k).chk) n 0) := by show _ = _; rw [hE, hn]; rfl
 have HMK : Hid (GMk base M w (.slice none 0 0) (.slice none 0 0) [] []) := hM
 have eg : Enters Tryz.prog 188 := enters_of Tryz.func188 (by kernel_rfl) rfl
 have eg' : ∀ (args : Array Value) (w : World), (callFunc 188 args).run Tryz.prog w = .ok (.enter 188 args) w := eg
 rw [← hn] at hva h1 hl
 rw [← hE, ← hn]
 clear hc hn hE hM eg
 subst hva
 go_enter Tryz.func187, Tryz.ntmps187
 go_wp2_with fail
 go_loopw [10] (fun i wr => ∃ k : Nat, k ≤ n ∧ i = .int .i64 k ∧ Hid (∀ j, j < k → (frAt l j).chk = 0) ∧ Hid (GMake base M wr (upG l k).2 (upG l k).1) ∧ Hid (Below base w wr))
  (fun i _ => n - (intOf i).toNat)
 case atStart => exact ⟨0, Nat.zero_le _, rfl, (show ∀ j, j < 0 → _ from fun j hj => absurd hj (Nat.not_lt_zero _)), ⟨_, _, HMK.out⟩, Below.refl _ _⟩
 case round =>
  obtain ⟨k, hk, rfl, HK, MK, HB⟩ := hrel
  by_cases hlt : k < n
  ·obtain ⟨b, off, hao, hb, hbb, pv, c0, c1, c2, hp⟩ := HC.out k (by rw [← HN.out]; exact hlt)
   have d0 := (HB.out.cell (p := ⟨b, off + k * 3, none⟩) hbb).trans c0
   have d1 := (HB.out.cell (p := ⟨b, off + k * 3 + 1, none⟩) hbb).trans c1
   have d2 := (HB.out.cell (p := ⟨b, off + k * 3 + 2, none⟩) hbb).trans c2
   have hpr : StrsIn (fun g => g < base) wr pv (l[k]?.getD Fr.zero).parts := hp.to ⟨HB.out.size, fun g _ h => HB.out.block g h⟩ (fun _ _ h => h)
   obtain ⟨f, hf⟩ : ∃ f, f = frAt l k := ⟨_, rfl⟩
   rw [show (l[k]?.getD Fr.zero) = f from hf.symm] at d0 d1 hpr
   obtain ⟨pa, pc, ep⟩ := hpr.1.len
   obtain ⟨fv, cv, mk⟩ := MK.out
   have hlens := upG_len l k (by rw [← HN.out]; omega)
   have HUP : Hid (upG l (k + 1) = stepG (upG l k) f) := by show _ = _; rw [hf]; exact upG_succ l k (by rw [← HN.out]; exact hlt)
   have HFC : Hid (frAt l k = f) := hf.symm
   obtain ⟨cl, o, hco⟩ : ∃ cl o, upG l k = (cl, o) := ⟨_, _, rfl⟩
   rw [hco] at mk hlens HUP
   simp only at mk hlens
   have HM1 : Hid (GMk base M wr fv cv o cl) := mk
   have HTK : Hid (f.chk = 0 → ∀ w' : World, GMk base M w' fv cv o cl → StrsIn (fun g => g < base) w' pv f.parts → Calls Tryz.prog 188 #[.pointer (some ⟨M, 0, none⟩), .agg #[.int .i64 f.time, .bool f.key, pv]] w' fun e w'' => e = .returned (.tuple #[]) ∧ GMake base M w'' (growG o f) (if f.key && decide (0 < o.length) then cl ++ [o] else cl) ∧ Below base w' w'') := fun h w' h1 h2 => groupTake_any base M fv cv o cl f pv w' h1 hbM hlens.1 (by have := hlens.2; omega) h2 h
   obtain ⟨ck, hck⟩ : ∃ ck, ck = f.chk := ⟨_, rfl⟩
   have HCF : Hid (∀ w' : World, Strs w' pv f.parts → Calls Tryz.prog 94 #[.agg #[.int .i64 f.time, .bool f.key, pv]] w' fun e w'' => e = .returned (.int .i64 ck) ∧ Below w'.heap.size w' w'') := fun w' hs => by rw [hck]; exact frameCheck_any f.time f.key _ f.parts w' hs hpr.2.1
   have HP : Hid (StrsIn (fun g => g < base) wr pv f.parts) := hpr
   have HCK : Hid (ck = f.chk) := hck
   rw [← hck] at HTK
   obtain ⟨R, hR⟩ : ∃ R, R = growG o f := ⟨_, rfl⟩
   obtain ⟨C, hC⟩ : ∃ C, C = (if f.key && decide (0 < o.length) then cl ++ [o] else cl) := ⟨_, rfl⟩
   have HUP2 : Hid (upG l (k + 1) = (C, R)) := by show _ = _; rw [HUP.out, hR, hC]; rfl
   rw [← hR, ← hC] at HTK
   obtain ⟨pn, hpn⟩ : ∃ pn, pn = f.parts.length := ⟨_, rfl⟩
   rw [← hpn] at ep
   subst ep
   subst hao
   have hlti : (k : Int) < (n : Int) := by omega
   obtain ⟨ft, fk, fp⟩ := f
   simp only at d0 d1 HP HCF HTK
   clear c0 c1 c2 hp hpr hf hck hpn hco mk hlens hR hC MK HUP
   go_wp2_with fail
   refine (HCF.out _ (HP.out.1.below ((Below.refl _ wr).alloc (Nat.le_refl _) _))).mono ?_
   rintro e w1 ⟨rfl, hb1⟩
   have B1 : Hid (Below wr.heap.size wr w1) := ((Below.refl _ wr).alloc (Nat.le_refl _) _).trans (hb1.mono (by simp))
   have BB1 : Hid (Below base w w1) := HB.out.trans (B1.out.mono (by have := HB.out.size; omega))
   obtain ⟨y0, y1, y2⟩ := ((Blk.new wr #[.int .i64 ft, .bool fk, .slice pa pn pc] 98).below hb1 (by simp)).three
   clear hb1 d0 d1 d2
   by_cases hc0 : ck = 0
   ·have MK1 : Hid (GMk base M w1 fv cv o cl) := HM1.out.below B1.out
    have SP1 : Hid (StrsIn (fun g => g < base) w1 (.slice pa pn pc) fp) := HP.out.below B1.out
    have HCK0 : Hid ((frAt l k).chk = 0) := by show _ = _; rw [HFC.out, ← HCK.out, hc0]
    have HT2 : Hid (∀ w' : World, GMk base M w' fv cv o cl → StrsIn (fun g => g < base) w' (.slice pa pn pc) fp → Calls Tryz.prog 188 #[.pointer (some ⟨M, 0, none⟩), .agg #[.int .i64 ft, .bool fk, .slice pa pn pc]] w' fun e w'' => e = .returned (.tuple #[]) ∧ GMake base M w'' R C ∧ Below base w' w'') := HTK.out hc0
    subst hc0
    clear HTK HCK
    go_wp2_with (go_at_fn 188; refine (HT2.out _ MK1.out SP1.out).mono ?_; rintro e w2 ⟨rfl, mk2, hb2⟩)
    have MK3 : Hid (GMake base M w2 (upG l (k + 1)).2 (upG l (k + 1)).1) := by show GMake _ _ _ _ _; rw [HUP2.out]; exact mk2
    have BB2 : Hid (Below base w w2) := BB1.out.trans hb2
    clear mk2 hb2 y0 y1 y2
    go_roundw
    case rel => exact ⟨k + 1, by omega, by go_num, (show ∀ j, j < k + 1 → _ from fun j hj => by
     by_cases e : j = k
     ·subst e; exact HCK0.out
     ·exact HK.out j (by omega)), MK3, BB2⟩
    case measure => simp [intOf]; omega
   ·have HEE : Hid (E = ck) := by
     show _ = _
     rw [HE.out, goN_hit n 0 k (Nat.zero_le _) (by omega) (fun j _ hj => HK.out j hj) (by rw [HFC.out, ← HCK.out]; exact hc0), HFC.out, ← HCK.out]
    go_wp2
    go_ret
    exact ⟨by rw [HEE.out]; rfl, fun h => absurd (HEE.out.symm.trans h) hc0, BB1.out⟩
  ·have hkl : k = n := by omega
   subst hkl
   have HEE : Hid (E = 0) := by show _ = _; rw [HE.out]; exact goN_all _ _ (fun j _ hj => HK.out j (by omega))
   go_wp2
   go_ret
   exact ⟨by rw [HEE.out]; rfl, fun _ => MK.out, HB.out⟩
set_option maxHeartbeats 4000000 in
set_option maxRecDepth 100000 in
theorem groupAll_any (v : Value) (l : List Fr) (w : World) (S : Nat → Prop) (hv : FrsIn S w v l) :
  Calls Tryz.prog 183 #[v] w fun e w' => ∃ ca cc fa fc, e = .returned (.tuple #[.slice ca (groupsR l).1.length cc, .agg #[.slice fa (groupsR l).2.length fc], .int .i64 (groupsE l)]) ∧ GrsIn (fun g => w.heap.size ≤ g) w' (.slice ca (groupsR l).1.length cc) (groupsR l).1 ∧ FrsIn (fun g => w.heap.size ≤ g) w' (.slice fa (groupsR l).2.length fc) (groupsR l).2 ∧ Below w.heap.size w w' := by
 obtain ⟨a, c, hva, _, hl⟩ := hv.len
 have HV : Hid (FrsIn S w v l) := hv
 obtain ⟨n, hn⟩ : ∃ n, n = l.length := ⟨_, rfl⟩
 have HN : Hid (n = l.length) := hn
 obtain ⟨E, hE⟩ : ∃ E, E = groupsE l := ⟨_, rfl⟩
 obtain ⟨R, hR⟩ : ∃ R, R = groupsR l := ⟨_, rfl⟩
 have HE : Hid (E = if 100 < n then 2 else eachE l) := by show _ = _; rw [hE, hn]; rfl
 have HR : Hid (R = if E = 0 then upG l n else ([], [])) := by show _ = _; rw [hR, hE, hn]; rfl
 rw [← hn] at hva hl
 rw [← hE, ← hR]
 clear hv hn hE hR
 subst hva
 by_cases h1 : 100 < n
 ·have hE2 : E = 2 := by rw [HE.out, if_pos h1]
  have hR2 : R = ([], []) := by rw [HR.out, hE2]; rfl
  rw [hE2, hR2]
  have hr := Blk.new w #[.slice none 0 0] 30
  have r0 := hr.one
  have r1 := hr.free 0
  have HBl : Hid (Below w.heap.size w (w.alloc (.cells #[.slice none 0 0] 30))) := (Below.refl _ w).alloc (Nat.le_refl _) _
  clear hr
  go_enter Tryz.func183, Tryz.ntmps183
  go_wp2
  exact bodyPost_ret (v := .tuple #[.slice none 0 0, .agg #[.slice none 0 0], .int .i64 2]) (by simp [results, Tryz.results183, go_sem]) rfl ⟨none, 0, none, 0, rfl, GrsIn.nil _ _, FrsIn.nil _ _, HBl.out⟩
 have hn100 : n ≤ 100 := by omega
 have HE2 : Hid (E = eachE l) := by show _ = _; rw [HE.out, if_neg h1]
 have HEA : Hid (∀ w' : World, GMk (w.heap.size + 1) (w.heap.size + 1) w' (.slice none 0 0) (.slice none 0 0) [] [] → FrsIn (fun g => g < w.heap.size + 1) w' (.slice a n c) l → Calls Tryz.prog 187 #[.slice a n c, .func (.func 188) #[.pointer (some ⟨w.heap.size + 1, 0, none⟩)] #[]] w' fun e w'' => e = .returned (.int .i64 E) ∧ (E = 0 → GMake (w.heap.size + 1) (w.heap.size + 1) w'' (upG l n).2 (upG l n).1) ∧ Below (w.heap.size + 1) w' w'') := fun w' h1 h2 => by
  have := groupEach_any (w.heap.size + 1) (w.heap.size + 1) (.slice a n c) l w' h1 (Nat.le_refl _) h2 (by rw [← HN.out]; exact hn100)
  rw [← HE2.out, ← HN.out] at this
  exact this
 clear HE h1
 go_enter Tryz.func183, Tryz.ntmps183
 have HM0 : Hid (GMk (w.heap.size + 1) (w.heap.size + 1) ((w.alloc (.cells #[.slice none 0 0] 30)).alloc (.cells #[.slice none 0 0, .slice none 0 0] 245)) (.slice none 0 0) (.slice none 0 0) [] []) := by
  refine ⟨?_, OwnFrs.nil _ _ _, OwnGrs.nil _ _ _⟩
  have := Blk.new (w.alloc (.cells #[.slice none 0 0] 30)) #[.slice none 0 0, .slice none 0 0] 245
  simp only [World.size_alloc] at this
  exact this
 have HV0 : Hid (FrsIn (fun g => g < w.heap.size + 1) ((w.alloc (.cells #[.slice none 0 0] 30)).alloc (.cells #[.slice none 0 0, .slice none 0 0] 245)) (.slice a n c) l) := ((HV.out.mono (S' := fun g => g < w.heap.size + 1) (fun g hg _ => by show g < _; omega)).alloc _).alloc _
 go_wp2_with fail
 refine (HEA.out _ HM0.out HV0.out).mono ?_
 rintro e w1 ⟨rfl, hmk, hb1⟩
 have kR : Blk w1 w.heap.size #[.slice none 0 0] 30 := ((Blk.new w #[.slice none 0 0] 30).alloc (.cells #[.slice none 0 0, .slice none 0 0] 245)).below hb1 (by omega)
 have B1 : Hid (Below w.heap.size w w1) := (((Below.refl _ w).alloc (Nat.le_refl _) _).alloc (by simp) _).trans (hb1.mono (by omega))
 have r0 := kR.one
 have r1 := kR.free 0
 by_cases hE0 : E = 0
 ·obtain ⟨fv, cv, mk⟩ := hmk hE0
  have hR2 : R = upG l n := by rw [HR.out, if_pos hE0]
  rw [← hR2] at mk
  obtain ⟨kM, hF, hC⟩ := mk
  have GF : FrsIn (fun g => w.heap.size + 1 ≤ g) w1 fv R.2 := hF.frsIn (fun g _ h => h.1) (fun g hg => (hF.lt g hg).1)
  have GC : GrsIn (fun g => w.heap.size + 1 ≤ g) w1 cv R.1 := hC.grsIn (fun g _ h => h.1) (fun g hg => (hC.lt g hg).1)
  obtain ⟨fa, fc, efv, _⟩ := GF.len
  obtain ⟨ca, cc, ecv, _⟩ := GC.len
  obtain ⟨k0, k1⟩ := kM.two
  rw [efv] at GF k0
  rw [ecv] at GC k1
  have HGF : Hid (FrsIn (fun g => w.heap.size + 1 ≤ g) w1 (.slice fa R.2.length fc) R.2) := GF
  have HGC : Hid (GrsIn (fun g => w.heap.size + 1 ≤ g) w1 (.slice ca R.1.length cc) R.1) := GC
  obtain ⟨nF, hnF⟩ : ∃ nF, nF = R.2.length := ⟨_, rfl⟩
  obtain ⟨nC, hnC⟩ : ∃ nC, nC = R.1.length := ⟨_, rfl⟩
  rw [← hnF] at HGF k0
  rw [← hnC] at HGC k1
  have HNF : Hid (nF = R.2.length) := hnF
  have HNC : Hid (nC = R.1.length) := hnC
  have hne : ¬ w.heap.size + 1 = w.heap.size := by omega
  have hMl := kM.lt
  subst hE0
  clear hmk hb1 kR kM hF hC efv ecv GF GC hR2 hnF hnC
  go_wp2_with fail
  go_region
  all_goals
   go_wp2
   refine bodyPost_ret (v := .tuple #[.slice ca nC cc, .agg #[.slice fa nF fc], .int .i64 0]) (by simp [results, Tryz.results183, go_sem, r0]) rfl ⟨ca, cc, fa, fc, by rw [HNC.out, HNF.out], ?_, ?_, ?_⟩
   ·rw [← HNC.out]
    exact HGC.out.to (SameOn.setCell (fun g (hg : w.heap.size + 1 ≤ g) => by show g ≠ w.heap.size; omega) _) (fun g _ hg => by omega)
   ·rw [← HNF.out]
    exact HGF.out.to (SameOn.setCell (fun g (hg : w.heap.size + 1 ≤ g) => by show g ≠ w.heap.size; omega) _) (fun g _ hg => by omega)
   ·exact (B1.out.setCell (by simp) _).drew
 ·have hR2 : R = ([], []) := by rw [HR.out, if_neg hE0]
  have HR2 : Hid (R = ([], [])) := hR2
  clear hmk hb1 kR hR2
  go_wp2
  refine bodyPost_ret (v := .tuple #[.slice none 0 0, .agg #[.slice none 0 0], .int .i64 E]) (by simp [results, Tryz.results183, go_sem, r0]) rfl ?_
  rw [HR2.out]
  exact ⟨none, 0, none, 0, rfl, GrsIn.nil _ _, FrsIn.nil _ _, B1.out.setCell (by simp) _⟩
theorem FrsIn.two {S : Nat → Prop} {w : World} {b : Nat} {f : Fr} {pv : Value} (hb : Blk w b #[.int .i64 f.time, .bool f.key, pv] 98) (hS : S b) (hp : StrsIn S w pv f.parts) : FrsIn S w (.slice (some ⟨b, 0, none⟩) 1 1) [f] := FrsIn.one hb hS hp
def AddI (w1 : World) (f : Fr) (pa : Option Addr) (pn pc : Nat) (oa : Option Addr) (lo oc : Nat) (X : List Fr) (C : List (List Fr)) (R : List Fr) (E : Int) (s : Nat) (r : Nat → Value) (b : Option Nat) (w' : World) : Prop :=
 Below w1.heap.size w1 w' ∧ (s ≤ 4 → ∀ g, b = some g → w1.heap.size ≤ g ∧ Blk w' g #[.slice none 0 0] 30) ∧ match s with
  | 0 => True
  | 1 => ∃ g1, r 0 = .slice (some ⟨g1, 0, none⟩) 1 1 ∧ Blk w' g1 #[.int .i64 f.time, .bool f.key, .slice pa pn pc] 98
  | 2 => ∃ g1 g2, r 1 = .slice (some ⟨g2, 0, none⟩) 2 2 ∧ Blk w' g1 #[.int .i64 f.time, .bool f.key, .slice pa pn pc] 98 ∧ Blk w' g2 #[.slice oa lo oc, .slice (some ⟨g1, 0, none⟩) 1 1] 28
  | 3 => FrsIn (fun _ => True) w' (r 2) X
  | 4 => ∃ ca cc fa fc, r 3 = .tuple #[.slice ca C.length cc, .agg #[.slice fa R.length fc], .int .i64 E] ∧ GrsIn (fun x => b ≠ some x ∧ w1.heap.size ≤ x) w' (.slice ca C.length cc) C ∧ FrsIn (fun x => b ≠ some x ∧ w1.heap.size ≤ x) w' (.slice fa R.length fc) R
  | _ => ∃ g ca cc fa fc, b = some g ∧ w1.heap.size ≤ g ∧ r 3 = .tuple #[.slice ca C.length cc, .agg #[.slice fa R.length fc], .int .i64 E] ∧ GrsIn (fun x => b ≠ some x ∧ w1.heap.size ≤ x) w' (.slice ca C.length cc) C ∧ FrsIn (fun x => b ≠ some x ∧ w1.heap.size ≤ x) w' (.slice fa R.length fc) R ∧ Blk w' g #[.slice fa R.length fc] 30
theorem AddI.box {w1 : World} {f : Fr} {pa : Option Addr} {pn pc : Nat} {oa : Option Addr} {lo oc : Nat} {X : List Fr} {C : List (List Fr)} {R : List Fr} {E : Int} {s : Nat} {r : Nat → Value} {w' : World} (h : AddI w1 f pa pn pc oa lo oc X C R E s r none w') : AddI w1 f pa pn pc oa lo oc X C R E s r (some w'.heap.size) (w'.alloc (.cells #[.slice none 0 0] 30)) := by
 obtain ⟨h1, _, h3⟩ := h
 refine ⟨h1.alloc h1.size _, fun _ g hg => by injection hg with hg; subst hg; exact ⟨h1.size, Blk.new _ _ _⟩, ?_⟩
 match s, h3 with
 | 0, _ => trivial
 | 1, ⟨g1, e1, e2⟩ => exact ⟨g1, e1, e2.alloc _⟩
 | 2, ⟨g1, g2, e1, e2, e3⟩ => exact ⟨g1, g2, e1, e2.alloc _, e3.alloc _⟩
 | 3, h => exact FrsIn.alloc h _
 | 4, ⟨ca, cc, fa, fc, e1, e2, e3⟩ => exact ⟨ca, cc, fa, fc, e1, (e2.mono fun g hg h => ⟨fun e => (by injection e with e; omega), h.2⟩).alloc _, (e3.mono fun g hg h => ⟨fun e => (by injection e with e; omega), h.2⟩).alloc _⟩
 | _ + 5, ⟨g, _, _, _, _, e, _⟩ => cases e
end Go.Proofs.YtnpaejknoipicagGreat
