/-
 Contracts: clone.all of frames and of groups, clone.Group, clone.Groups.
-/
import Derived.Test.YtnpaejknoipicagGreatMgDeskPaused4
import Derived.Test.YtnpaejknoipicagGreatMgDeskPaused2
import Derived.Test.YtnpaejknoipicagGreatMgDeskPaused1
import Derived.Test.YtnpaejknoipicagGreatMgDeskPaused3
import Derived.Deep.Slices
namespace Go.Proofs.YtnpaejknoipicagGreat
open Go.RowKit
set_option maxHeartbeats 4000000 in
theorem areTooGreat_any (S : Nat → Prop) (v : Value) (L : List (List Fr)) (w : World) (hv : GrsIn S w v L) (hL : L.length ≤ 1000) :
  Calls Tryz.prog 135 #[v] w fun e w' => e = .returned (.bool (tooB L)) ∧ Below w.heap.size w w' := by
 obtain ⟨ao, c, hva, h1, h2, hc⟩ := hv
 obtain ⟨n, hn⟩ : ∃ n, n = L.length := ⟨_, rfl⟩
 have HN : Hid (n = L.length) := hn
 have HC : Hid (∀ k, k < L.length → ∃ b off, ao = some ⟨b, off, none⟩ ∧ b < w.heap.size ∧ S b ∧ ∃ sv, w.cell? ⟨b, off + k, none⟩ = some sv ∧ FrsIn S w sv (L[k]?.getD [])) := hc
 rw [← hn] at hva h1 hL
 obtain ⟨T, hT⟩ : ∃ T, T = tooB L := ⟨_, rfl⟩
 have HT : Hid (T = tooB L) := hT
 rw [← hT]
 clear hc hn hT
 subst hva
 go_enter Tryz.func135, Tryz.ntmps135
 go_wp2_with fail
 go_loopw [3, 10] (fun s i wr => ∃ k y : Nat, k ≤ n ∧ i = .int .i64 k ∧ s = .int .i64 y ∧ Hid (y = sumG (L.take k)) ∧ Hid (y ≤ k * 192) ∧ Hid (Below w.heap.size w wr))
  (fun _ i _ => n - (intOf i).toNat)
 case atStart => exact ⟨0, 0, Nat.zero_le _, rfl, rfl, (show 0 = sumG [] from rfl), (show 0 ≤ 0 from Nat.le_refl _), Below.refl _ _⟩
 case round =>
  obtain ⟨k, y, hk, rfl, rfl, HY, HYL, HB⟩ := hrel
  by_cases hlt : k < n
  ·obtain ⟨b, off, rfl, hb, _, sv, c0, hs⟩ := HC.out k (by rw [← HN.out]; exact hlt)
   obtain ⟨g, hg⟩ : ∃ g, g = L[k]?.getD [] := ⟨_, rfl⟩
   rw [← hg] at hs
   have c1 := (HB.out.cell (p := ⟨b, off + k, none⟩) hb).trans c0
   obtain ⟨sa, sc, esv, _, _⟩ := hs.len
   obtain ⟨gn, hgn⟩ : ∃ gn, gn = g.length := ⟨_, rfl⟩
   rw [← hgn] at esv
   obtain ⟨z, hz⟩ : ∃ z : Nat, z = gsize g := ⟨_, rfl⟩
   obtain ⟨e, he⟩ : ∃ e, e = gchk g := ⟨_, rfl⟩
   have HS : Hid (∀ U, Below w.heap.size w U → Calls Tryz.prog 158 #[.agg #[sv]] U fun e' w'' => e' = .returned (.tuple #[.int .i64 z, .int .i64 e]) ∧ Below U.heap.size U w'') := fun U hU => by
    rw [hz, he]; exact groupSize_any S sv g U (hs.below hU)
   have HY2 : Hid (y + z = sumG (L.take (k + 1))) := by show _ = _; rw [sumG_take L k (by rw [← HN.out]; exact hlt), HY.out, hz, hg]
   have hz2 : z ≤ 192 := by rw [hz]; exact gsize_le g
   have hyl := HYL.out
   have hlti : (k : Int) < (n : Int) := by omega
   clear hs hg hgn hz he c0
   subst esv
   go_wp2_with fail
   have B1 : Hid (Below w.heap.size w (wr.alloc (.cells #[.slice sa gn sc] 30))) := HB.out.alloc HB.out.size _
   refine (HS.out _ B1.out).mono ?_
   rintro e' w2 ⟨rfl, hb2⟩
   have B2 : Hid (Below w.heap.size w w2) := B1.out.trans (hb2.mono B1.out.size)
   clear hb2 c1
   go_wp2_with fail
   go_roundw
   case rel => exact ⟨k + 1, y + z, by omega, by go_num, by go_num, HY2, (show _ ≤ _ by omega), B2⟩
   case measure => simp [intOf]; omega
  ·have hkl : k = n := by omega
   subst hkl
   have hy : y = sumG L := by rw [HY.out, HN.out, List.take_length]
   have hT : T = (decide (1 < k) && decide (100 < y)) := by rw [HT.out, hy]; unfold tooB; rw [← HN.out]
   clear hy
   by_cases h1 : 1 < k
   ·have h1i : (1 : Int) < (k : Int) := by omega
    by_cases h2 : 100 < y
    ·have h2i : (100 : Int) < (y : Int) := by omega
     have hT2 : T = true := by rw [hT]; simp [h1, h2]
     go_wp2
     go_ret
     exact ⟨by first | rfl | (rw [hT2]; rfl), HB.out⟩
    ·have h2i : ¬ (100 : Int) < (y : Int) := by omega
     have hT2 : T = false := by rw [hT]; simp [h1, h2]
     go_wp2
     go_ret
     exact ⟨by first | rfl | (rw [hT2]; rfl), HB.out⟩
   ·have h1i : ¬ (1 : Int) < (k : Int) := by omega
    have hT2 : T = false := by rw [hT]; simp [h1]
    go_wp2
    go_ret
    exact ⟨by first | rfl | (rw [hT2]; rfl), HB.out⟩
set_option maxHeartbeats 4000000 in
theorem storeCheck_any (S : Nat → Prop) (first : Int) (gv ov : Value) (L : List (List Fr)) (O : List Fr) (w : World) (hg : GrsIn S w gv L) (ho : FrsIn S w ov O) :
  Calls Tryz.prog 103 #[.agg #[.int .i64 first, gv, ov]] w fun e w' => e = .returned (.int .i64 (stchk first L O)) ∧ Below w.heap.size w w' := by
 have HG : Hid (GrsIn S w gv L) := hg
 have HO : Hid (FrsIn S w ov O) := ho
 obtain ⟨ao, c, hva, h1, h2, hc⟩ := hg
 obtain ⟨oa, oc, eo, _, hol⟩ := ho.len
 obtain ⟨n, hn⟩ : ∃ n, n = L.length := ⟨_, rfl⟩
 obtain ⟨m, hm⟩ : ∃ m, m = O.length := ⟨_, rfl⟩
 have HN : Hid (n = L.length) := hn
 have HC : Hid (∀ k, k < L.length → ∃ b off, ao = some ⟨b, off, none⟩ ∧ b < w.heap.size ∧ S b ∧ ∃ sv, w.cell? ⟨b, off + k, none⟩ = some sv ∧ FrsIn S w sv (L[k]?.getD [])) := hc
 rw [← hn] at hva h1
 rw [← hm] at eo hol
 obtain ⟨E, hE⟩ : ∃ E, E = stchk first L O := ⟨_, rfl⟩
 have HE : Hid (E = if first < 0 then 3 else if 100000 < first then 3 else if 5 < n then 2 else
  if goN (fun k => gchk (grAt L k)) n 0 = 0 then (if tooB L then 2 else if 0 < m then gchk O else 0) else goN (fun k => gchk (grAt L k)) n 0) := by show _ = _; rw [hE, hn, hm]; rfl
 rw [← hE]
 clear hc hn hm hE ho
 subst hva eo
 by_cases f1 : first < 0
 ·have e : E = 3 := by rw [HE.out, if_pos f1]
  rw [e]
  go_enter Tryz.func103, Tryz.ntmps103
  go_wp2
  go_ret
  exact ⟨rfl, (Below.refl _ _).alloc (Nat.le_refl _) _⟩
 by_cases f2 : 100000 < first
 ·have e : E = 3 := by rw [HE.out, if_neg f1, if_pos f2]
  rw [e]
  go_enter Tryz.func103, Tryz.ntmps103
  go_wp2
  go_ret
  exact ⟨rfl, (Below.refl _ _).alloc (Nat.le_refl _) _⟩
 by_cases f3 : 5 < n
 ·have e : E = 2 := by rw [HE.out, if_neg f1, if_neg f2, if_pos f3]
  have f3i : (5 : Int) < (n : Int) := by omega
  rw [e]
  go_enter Tryz.func103, Tryz.ntmps103
  go_wp2
  go_ret
  exact ⟨rfl, (Below.refl _ _).alloc (Nat.le_refl _) _⟩
 have f3i : ¬ (5 : Int) < (n : Int) := by omega
 have HE2 : Hid (E = if goN (fun k => gchk (grAt L k)) n 0 = 0 then (if tooB L then 2 else if 0 < m then gchk O else 0) else goN (fun k => gchk (grAt L k)) n 0) := by show _ = _; rw [HE.out, if_neg f1, if_neg f2, if_neg f3]
 clear HE
 go_enter Tryz.func103, Tryz.ntmps103
 go_wp2_with fail
 go_loopw [21] (fun i wr => ∃ k : Nat, k ≤ n ∧ i = .int .i64 k ∧ Hid (∀ j, j < k → gchk (grAt L j) = 0) ∧ Hid (Blk wr w.heap.size #[.int .i64 first, .slice ao n c, .slice oa m oc] 32) ∧ Hid (Below w.heap.size w wr))
  (fun i _ => n - (intOf i).toNat)
 case atStart => exact ⟨0, Nat.zero_le _, rfl, (show ∀ j, _ → _ from fun j hj => absurd hj (Nat.not_lt_zero _)), Blk.new _ _ _, (Below.refl _ _).alloc (Nat.le_refl _) _⟩
 case round =>
  obtain ⟨k, hk, rfl, HK, KB, HB⟩ := hrel
  by_cases hlt : k < n
  ·obtain ⟨b, off, rfl, hb, _, sv, c0, hs⟩ := HC.out k (by rw [← HN.out]; exact hlt)
   obtain ⟨g, hg⟩ : ∃ g, g = grAt L k := ⟨_, rfl⟩
   rw [show L[k]?.getD [] = g from hg.symm] at hs
   have c1 := (HB.out.cell (p := ⟨b, off + k, none⟩) hb).trans c0
   obtain ⟨sa, sc, esv, _, _⟩ := hs.len
   obtain ⟨gn, hgn⟩ : ∃ gn, gn = g.length := ⟨_, rfl⟩
   rw [← hgn] at esv
   obtain ⟨e, he⟩ : ∃ e, e = gchk g := ⟨_, rfl⟩
   have HS : Hid (∀ U, Below w.heap.size w U → Calls Tryz.prog 134 #[.agg #[sv]] U fun e' w'' => e' = .returned (.int .i64 e) ∧ Below U.heap.size U w'') := fun U hU => by
    rw [he]; exact groupCheck_any S sv g U (hs.below hU)
   have hlti : (k : Int) < (n : Int) := by omega
   have HGE : Hid (e = gchk (grAt L k)) := by show _ = _; rw [he, hg]
   clear hs hg hgn he c0
   subst esv
   go_wp2_with fail
   have B1 : Hid (Below w.heap.size w (wr.alloc (.cells #[.slice sa gn sc] 30))) := HB.out.alloc HB.out.size _
   have K1 : Hid (Blk (wr.alloc (.cells #[.slice sa gn sc] 30)) w.heap.size #[.int .i64 first, .slice (some ⟨b, off, none⟩) n c, .slice oa m oc] 32) := KB.out.alloc _
   refine (HS.out _ B1.out).mono ?_
   rintro e' w2 ⟨rfl, hb2⟩
   have B2 : Hid (Below w.heap.size w w2) := B1.out.trans (hb2.mono B1.out.size)
   have K2 : Hid (Blk w2 w.heap.size #[.int .i64 first, .slice (some ⟨b, off, none⟩) n c, .slice oa m oc] 32) := K1.out.below hb2 K1.out.lt
   clear hb2 c1 K1 B1 KB HB
   by_cases he0 : e = 0
   ·have HK2 : Hid (∀ j, j < k + 1 → gchk (grAt L j) = 0) := fun j hj => by
     by_cases e' : j = k
     ·subst e'; rw [← HGE.out]; exact he0
     ·exact HK.out j (by omega)
    clear HGE
    subst he0
    go_wp2_with fail
    go_roundw
    case rel => exact ⟨k + 1, by omega, by go_num, HK2, K2, B2⟩
    case measure => simp [intOf]; omega
   ·have hE : E = e := by
     have hh := goN_hit (e := fun k => gchk (grAt L k)) n 0 k (Nat.zero_le _) (by omega) (fun j _ hj => HK.out j hj) (by show ¬ gchk (grAt L k) = 0; rw [← HGE.out]; exact he0)
     change goN (fun k => gchk (grAt L k)) n 0 = gchk (grAt L k) at hh
     rw [← HGE.out] at hh
     rw [HE2.out, hh, if_neg he0]
    have HEE : Hid (E = e) := hE
    clear hE
    go_wp2
    go_ret
    exact ⟨by rw [HEE.out]; rfl, B2.out⟩
  ·have hkl : k = n := by omega
   subst hkl
   have hz : goN (fun k => gchk (grAt L k)) k 0 = 0 := goN_all _ _ (fun j _ hj => HK.out j (by omega))
   have HE3 : Hid (E = if tooB L then 2 else if 0 < m then gchk O else 0) := by show _ = _; rw [HE2.out, if_pos hz]
   obtain ⟨T, hT⟩ : ∃ T, T = tooB L := ⟨_, rfl⟩
   have HTG : Hid (∀ U, Below w.heap.size w U → Calls Tryz.prog 135 #[.slice ao k c] U fun e' w'' => e' = .returned (.bool T) ∧ Below U.heap.size U w'') := fun U hU => by
    rw [hT]; exact areTooGreat_any S _ L U (HG.out.below hU) (by rw [← HN.out]; omega)
   have HE4 : Hid (E = if T then 2 else if 0 < m then gchk O else 0) := by show _ = _; rw [hT]; exact HE3.out
   clear hz hT HE3 HE2
   obtain ⟨k0, k1, k2⟩ := KB.out.three
   go_wp2_with fail
   refine (HTG.out _ HB.out).mono ?_
   rintro e' w2 ⟨rfl, hb2⟩
   have B2 : Hid (Below w.heap.size w w2) := HB.out.trans (hb2.mono HB.out.size)
   obtain ⟨j0, j1, j2⟩ := (KB.out.below hb2 KB.out.lt).three
   clear hb2 k0 k1 k2
   cases T
   case true =>
    have HEE : Hid (E = 2) := HE4.out
    go_wp2
    go_ret
    exact ⟨by rw [HEE.out]; rfl, B2.out⟩
   case false =>
    by_cases hm0 : 0 < m
    ·have hm0i : (0 : Int) < (m : Int) := by omega
     have HEO : Hid (E = gchk O) := by show _ = _; rw [HE4.out]; simp [hm0]
     go_wp2_with fail
     refine (groupCheck_any S _ O _ (HO.out.below B2.out)).mono ?_
     rintro e' w3 ⟨rfl, hb3⟩
     rw [← HEO.out]
     have B3 : Hid (Below w.heap.size w w3) := B2.out.trans (hb3.mono B2.out.size)
     clear hb3 j0 j1 j2
     go_wp2
     go_ret
     exact ⟨rfl, B3.out⟩
    ·have hm0i : ¬ (0 : Int) < (m : Int) := by omega
     have HEE : Hid (E = 0) := by show _ = _; rw [HE4.out]; simp [hm0]
     go_wp2
     go_ret
     exact ⟨by rw [HEE.out]; rfl, B2.out⟩
set_option maxHeartbeats 2000000 in
set_option maxRecDepth 100000 in
theorem cloneStrs_any (v : Value) (l : List ByteArray) (w : World) (hv : Strs w v l) (hlen : l.length ≤ 4) (h8 : ∀ s ∈ l, s.size ≤ 8) :
  Calls Tryz.prog 145 #[v, .func (.func 120) #[] #[]] w fun e w' => ∃ u, e = .returned u ∧ w'.ownsRow w.heap.size 9 1 u l.length (l.map Value.string) ∧ Below w.heap.size w w' := by
 obtain ⟨i0, hi, hz0, hz1, hz2⟩ := info_parts Tryz.infoStr
 obtain ⟨ao, c, hva, hc⟩ := hv.parts
 obtain ⟨n, hn⟩ : ∃ n, n = l.length := ⟨_, rfl⟩
 have HN : Hid (n = l.length) := hn
 have HC : Hid (∀ k, k < l.length → ∃ b off, ao = some ⟨b, off, none⟩ ∧ b < w.heap.size ∧ w.cell? ⟨b, off + k, none⟩ = some (.string (l[k]?.getD ByteArray.empty))) := hc
 have H8 : Hid (∀ k, k < l.length → (l[k]?.getD ByteArray.empty).size ≤ 8) := fun k hk => h8 _ (by rw [List.getElem?_eq_getElem hk]; exact List.getElem_mem hk)
 have eg : Enters Tryz.prog 120 := enters_of Tryz.func120 (by kernel_rfl) rfl
 have eg' : ∀ (args : Array Value) (w : World), (callFunc 120 args).run Tryz.prog w = .ok (.enter 120 args) w := eg
 rw [← hn] at hva hlen ⊢
 clear hc hv hn h8 eg
 subst hva
 go_enter Tryz.func145, Tryz.ntmps145
 go_wp2_with fail
 go_loopw [5, 10] (fun u i wr => ∃ k : Nat, k ≤ n ∧ i = .int .i64 k ∧ Hid (wr.ownsRow w.heap.size 9 1 u k ((l.take k).map Value.string)) ∧ Hid (Below w.heap.size w wr))
  (fun _ i _ => n - (intOf i).toNat)
 case atStart => exact ⟨0, Nat.zero_le _, rfl, (show World.ownsRow _ _ _ _ _ _ _ from World.ownsRow_nil _ _ _ _), Below.refl _ _⟩
 case round =>
  obtain ⟨k, hk, rfl, HO, HB⟩ := hrel
  by_cases hlt : k < n
  ·obtain ⟨b, off, rfl, hb, hat⟩ := HC.out k (by rw [← HN.out]; exact hlt)
   have h8 := H8.out k (by rw [← HN.out]; exact hlt)
   have c0 := (HB.out.cell (p := ⟨b, off + k, none⟩) hb).trans hat
   obtain ⟨s, hs⟩ : ∃ s, s = l[k]?.getD ByteArray.empty := ⟨_, rfl⟩
   have HS : Hid (s = l[k]?.getD ByteArray.empty) := hs
   rw [← hs] at c0 h8
   have hcl : ∀ w : World, Calls Tryz.prog 120 #[.string s] w fun e w' => e = .returned (.string s) ∧ Below w.heap.size w w' := fun w => stringsClone_any s w h8
   have hlti : (k : Int) < (n : Int) := by omega
   clear hs hat
   go_wp2_with (first
    | (go_at_fn 120; refine (hcl _).mono ?_; rintro e w1 ⟨rfl, hbw⟩)
    | (at_builtin; refine wpList_append_own _ rfl _ _ 96 rfl w.heap.size 9 i0 _ 1 16 Tryz.underlying96 hi hz0 hz1 hz2 rfl (by decide) _ k ((l.take k).map Value.string) rfl ?c0 ⟨w1.heap.size, 0, none⟩ 1 1 [.string s] rfl rfl ?c1 ?c2 ?c3 ?c4 ?c5 ?_))
   case c0 => exact (owns_below HO.out hbw (Nat.le_refl _)).alloc _
   case c1 => exact news1 rfl
   case c2 => intro u hu; simp at hu; subst hu; rfl
   case c3 => unfold maxLen; omega
   case c4 => omega
   case c5 => have h1 := HB.out.size; have h2 := hbw.size; simp; omega
   ·intro v' w2 hown' hgrow _
    have hb1 : Below w.heap.size w w1 := HB.out.trans (hbw.mono HB.out.size)
    have R1 : Hid (Below w.heap.size w w2) := (hb1.alloc hb1.size _).grown hgrow (by have := hb1.size; simp; omega) (fun j hj => (HO.out.lt j hj).1)
    have R2 : Hid (w2.ownsRow w.heap.size 9 1 v' (k + 1) ((l.take (k + 1)).map Value.string)) := by
     show World.ownsRow _ _ _ _ _ _ _
     rw [take_one (by rw [← HN.out]; exact hlt) ByteArray.empty, List.map_append, List.map_take, ← HS.out]
     exact hown'
    clear hown' hgrow c0 hbw hb1 HO HS
    go_wp2
    go_roundw
    case rel => exact ⟨k + 1, by omega, by go_num, R2, R1⟩
    case measure => simp [intOf]; omega
  ·have hkl : k = n := by omega
   subst hkl
   go_wp2
   go_ret
   have ho := HO.out
   rw [HN.out, List.take_length, ← HN.out] at ho
   exact ⟨_, rfl, ho, HB.out⟩
theorem StrsIn.of_owns {base : Nat} {w : World} {v : Value} {l : List ByteArray} (h : w.ownsRow base 9 1 v l.length (l.map Value.string)) (hl : l.length ≤ 9223372036854775807) : StrsIn (fun g => base ≤ g) w v l :=
 ⟨Sl.of_owns h, hl, fun g hg _ => h.lt g hg⟩
set_option maxHeartbeats 2000000 in
theorem cloneFrame_any (S : Nat → Prop) (f : Fr) (pv : Value) (w : World) (hv : StrsIn S w pv f.parts) (hf : f.chk = 0) :
  Calls Tryz.prog 112 #[.agg #[.int .i64 f.time, .bool f.key, pv]] w fun e w' => ∃ a c, e = .returned (.agg #[.int .i64 f.time, .bool f.key, .slice a f.parts.length c]) ∧ StrsIn (fun g => w.heap.size ≤ g) w' (.slice a f.parts.length c) f.parts ∧ Below w.heap.size w w' := by
 obtain ⟨_, _, _, h4, h5⟩ := chkF_zero hf
 obtain ⟨pa, pc, ep⟩ := hv.1.len
 have HCS : Hid (∀ w' : World, Strs w' pv f.parts → Calls Tryz.prog 145 #[pv, .func (.func 120) #[] #[]] w' fun e w'' => ∃ u, e = .returned u ∧ w''.ownsRow w'.heap.size 9 1 u f.parts.length (f.parts.map Value.string) ∧ Below w'.heap.size w' w'') := fun w' hs => cloneStrs_any pv f.parts w' hs h4 h5
 have HV : Hid (Strs w pv f.parts) := hv.1
 obtain ⟨t, k, ps⟩ := f
 simp only at ep HCS HV h4 ⊢
 obtain ⟨n, hn⟩ : ∃ n, n = ps.length := ⟨_, rfl⟩
 have HN : Hid (n = ps.length) := hn
 rw [← hn] at ep HCS h4 ⊢
 clear hn hv hf h5
 subst ep
 go_enter Tryz.func112, Tryz.ntmps112
 go_wp2_with fail
 refine (HCS.out _ ((HV.out.alloc _).alloc _)).mono ?_
 rintro e w1 ⟨u, rfl, ho, hb1⟩
 obtain ⟨k1, k2, bb, hs⟩ := blocks2 hb1
 obtain ⟨a, c, eu⟩ := Sl.len (Sl.of_owns ho)
 subst eu
 obtain ⟨c0, c1, c2⟩ := k1.three
 obtain ⟨d0, d1, d2⟩ := k2.three
 have f1 := k1.free
 have f2 := k2.free
 have HO : Hid (w1.ownsRow (w.heap.size + 1 + 1) 9 1 (.slice a n c) n (ps.map Value.string)) := by
  have := ho
  simp only [World.size_alloc] at this
  exact this
 have BB : Hid (Below w.heap.size w w1) := bb
 clear hb1 k1 k2 bb ho HCS
 go_wp2
 refine bodyPost_ret (v := .agg #[.int .i64 t, .bool k, .slice a n c]) (by simp [results, Tryz.results112, go_sem, d0, d1, d2]) rfl ⟨a, c, rfl, ?_, ?_⟩
 ·have h := ownsRow_setCell_below (ownsRow_setCell_below (ownsRow_setCell_below (ownsRow_setCell_below HO.out (a := ⟨w.heap.size, 2, none⟩) (by show w.heap.size < _; omega) (.slice a n c)) (a := ⟨w.heap.size + 1, 0, none⟩) (by show w.heap.size + 1 < _; omega) (.int .i64 t)) (a := ⟨w.heap.size + 1, 1, none⟩) (by show w.heap.size + 1 < _; omega) (.bool k)) (a := ⟨w.heap.size + 1, 2, none⟩) (by show w.heap.size + 1 < _; omega) (.slice a n c)
  rw [HN.out] at h ⊢
  exact (StrsIn.of_owns h (by rw [← HN.out]; omega)).mono (fun g _ hg => by omega)
 ·exact (((BB.out.setCell (by simp) _).setCell (by simp) _).setCell (by simp) _).setCell (by simp) _
inductive Kd where
 | quiet (v : Value)
 | qcall (v : Value)
 | main
 | fin (f : Value → Value)
 | box (t : TypeId) (z : Array Value)
 | put (b : Nat) (f : Value → Array Value)
namespace Kd
def val (r : Value) : Kd → Option Value
 | quiet v => some v
 | qcall v => some v
 | main => some r
 | fin f => some (f r)
 | _ => none
def out (r : Value) (g : Nat) : Kd → Value
 | quiet v => v
 | qcall v => v
 | main => r
 | fin f => f r
 | box _ _ => .pointer (some ⟨g, 0, none⟩)
 | put _ _ => undef
def isRes : Kd → Bool
 | main => true
 | fin _ => true
 | _ => false
def isMain : Kd → Bool
 | main => true
 | _ => false
def isBox : Kd → Bool
 | box _ _ => true
 | _ => false
def to : Kd → Option Nat
 | put b _ => some b
 | _ => none
end Kd
def kdAt (ks : List Kd) (i : Nat) : Kd := (ks[i]?).getD (.quiet undef)
def dstOf (l : List Oper) (j : Nat) : Nat := match l[j]? with
 | some o => o.dst.getD 0
 | none => 0
def putK (r : Value) (gs : Nat → Nat) : Nat → List Kd → List Oper → Act → Act
 | k, d :: ks, o :: l, a => putK r gs (k + 1) ks l (a.put o.dst (d.out r (gs k)))
 | _, _, _, a => a
def mainOk (ks : List Kd) (l : List Oper) (c n : Nat) : Bool :=
 decide (ks.length = l.length) && decide (c < l.length) && (kdAt ks c).isMain && (l.all fun o => match o.dst with | some k => decide (k < n) | none => true) &&
 ((List.range l.length).all fun i => (i == c || !(kdAt ks i).isMain) && (match kdAt ks i with
  | .fin _ => (List.range l.length).any fun j => waits l i j && (kdAt ks j).isRes
  | .put b _ => waits l i b && (kdAt ks b).isBox && decide (b < l.length) && ((List.range l.length).any fun j => waits l i j && (kdAt ks j).isRes) && ((List.range l.length).all fun j => i == j || (kdAt ks j).to != some b)
  | _ => true) && (match kdAt ks i with | .put _ _ => (l[i]?.map fun o => o.dst) == some none | _ => (l[i]?.map fun o => o.dst.isSome) == some true))
section
variable {P : Program} {Q : Exit → Act → World → Prop}
structure RM (w : World) (ks : List Kd) (n c : Nat) (Pm : (Nat → Prop) → Value → World → Prop) (ls : Nat → Bool) (vs : Nat → Value) (w' : World) : Prop where
 below : Below w.heap.size w w'
 lt : ∀ i, ls i = true → i < n
 val : ∀ i v, ls i = true → (kdAt ks i).val (vs c) = some v → vs i = v
 res : ∀ i, ls i = true → (kdAt ks i).isRes = true → ls c = true
 put : ∀ i b f, ls i = true → kdAt ks i = .put b f → ls c = true ∧ ls b = true ∧ vs i = undef
 main : ls c = true → ∃ S, Pm S (vs c) w' ∧ (∀ g, S g → g < w'.heap.size) ∧ ∀ i t z g, ls i = true → kdAt ks i = .box t z → vs i = .pointer (some ⟨g, 0, none⟩) → ¬ S g
 box : ∀ i t z, ls i = true → kdAt ks i = .box t z → ∃ g C, vs i = .pointer (some ⟨g, 0, none⟩) ∧ w.heap.size ≤ g ∧ Blk w' g C t ∧ C.size = z.size ∧ ∀ j f, kdAt ks j = .put i f → ls j = true → C = f (vs c)
 apart : ∀ i j t z t' z', ls i = true → ls j = true → i ≠ j → kdAt ks i = .box t z → kdAt ks j = .box t' z' → vs i ≠ vs j
theorem putL_all (L : Array Bool) (vs : Nat → Value) (r : Value) (gs : Nat → Nat) : ∀ (l : List Oper) (k : Nat) (ks : List Kd) (a : Act), ks.length = l.length → (∀ i, i < l.length → L.getD (k + i) false = true) → (∀ i, i < l.length → vs (k + i) = (kdAt ks i).out r (gs (k + i))) → putL L vs k l a = putK r gs k ks l a
 | [], _, [], _, _, _, _ => rfl
 | o :: l, k, d :: ks, a, hl, hL, hv => by
  simp only [putL, putK]
  rw [if_pos (by simpa using hL 0 (by simp)), show vs k = d.out r (gs k) by simpa [kdAt] using hv 0 (by simp)]
  refine putL_all L vs r gs l (k + 1) ks _ (by simpa using hl) (fun i hi => ?_) (fun i hi => ?_)
  ·have := hL (i + 1) (by simpa using hi)
   rw [show k + (i + 1) = k + 1 + i by omega] at this; exact this
  ·have := hv (i + 1) (by simpa using hi)
   rw [show k + (i + 1) = k + 1 + i by omega] at this
   simpa [kdAt] using this
theorem region_main {id : Nat} {a : Act} {w : World} {l : List Oper} (hm : P.follows .mixedOrders = true) (hB : regOk l = true) (ks : List Kd) (c : Nat) (hK : mainOk ks l c a.tmps.size = true)
  (Pm : (Nat → Prop) → Value → World → Prop)
  (hloc : ∀ S r w1 w2, Pm S r w1 → w1.heap.size ≤ w2.heap.size → (∀ g, S g → g < w1.heap.size → w2.heap[g]? = w1.heap[g]?) → Pm S r w2)
  (hstep : ∀ i o, l[i]? = some o → ∀ (a' : Act) (w' : World) (r : Value), Below w.heap.size w w' → (∀ s, (l.all fun o => o.dst != some s) = true → a'.eval (.tmp s) = a.eval (.tmp s)) → (∀ j v, waits l i j = true → (kdAt ks j).val r = some v → a'.eval (.tmp (dstOf l j)) = v) →
   match kdAt ks i with
   | .quiet v => (execOp a'.eval o).run P w' = .ok (.value v) w'
   | .qcall v => ∃ f args, (execOp a'.eval o).run P w' = .ok (.enter f args) w' ∧ Calls P f args w' fun e w'' => e = .returned v ∧ Below w'.heap.size w' w''
   | .main => ∃ f args, (execOp a'.eval o).run P w' = .ok (.enter f args) w' ∧ Calls P f args w' fun e w'' => ∃ r, e = .returned r ∧ Pm (fun g => g < w''.heap.size ∧ (g < w.heap.size ∨ w'.heap.size ≤ g)) r w'' ∧ Below w'.heap.size w' w''
   | .fin f => ∀ S, Pm S r w' → (execOp a'.eval o).run P w' = .ok (.value (f r)) w'
   | .box t z => (execOp a'.eval o).run P w' = .ok (.value (.pointer (some ⟨w'.heap.size, 0, none⟩))) (w'.alloc (.cells z t))
   | .put b f => ∀ S, Pm S r w' → ∀ t z g C, kdAt ks b = .box t z → Blk w' g C t → C.size = z.size → a'.eval (.tmp (dstOf l b)) = .pointer (some ⟨g, 0, none⟩) → ∃ w'', (execOp a'.eval o).run P w' = .ok .skip w'' ∧ w''.heap.size = w'.heap.size ∧ Blk w'' g (f r) t ∧ (f r).size = z.size ∧ (∀ j, j ≠ g → w''.heap[j]? = w'.heap[j]?) ∧ w''.os = w'.os ∧ w''.tape = w'.tape ∧ w''.output = w'.output)
  (hend : ∀ (r : Value) (gs : Nat → Nat) (S : Nat → Prop) (w' : World), Below w.heap.size w w' → Pm S r w' → (∀ g, S g → g < w'.heap.size) →
   (∀ b t z, b < l.length → kdAt ks b = .box t z → w.heap.size ≤ gs b ∧ ¬ S (gs b) ∧ ∃ C, Blk w' (gs b) C t ∧ ∀ j f, j < l.length → kdAt ks j = .put b f → C = f r) →
   (∀ b b' t z t' z', b < l.length → b' < l.length → b ≠ b' → kdAt ks b = .box t z → kdAt ks b' = .box t' z' → gs b ≠ gs b') → Q .normal (putK r gs 0 ks l a) w') :
  (Code.region id l.toArray true).wp P Q a w := by
 simp only [mainOk, Bool.and_eq_true, decide_eq_true_eq] at hK
 obtain ⟨⟨⟨⟨hlen, hcl⟩, hcm⟩, hdst⟩, hall⟩ := hK
 have hkc : kdAt ks c = .main := by cases h : kdAt ks c <;> rw [h] at hcm <;> first | rfl | cases hcm
 have hap : dstsApart l = true := by simp only [regOk, Bool.and_eq_true] at hB; exact hB.1.1
 have hal : ∀ i, i < l.length → _ := fun i hi => List.all_eq_true.1 hall i (List.mem_range.2 hi)
 have hmu : ∀ i, i < l.length → kdAt ks i = .main → i = c := fun i hi hk => by
  have h := hal i hi
  simp only [Bool.and_eq_true] at h
  have h1 := h.1.1
  rw [hk] at h1
  simpa [Kd.isMain] using h1
 have hval : ∀ (L : Array Bool) (vs : Nat → Value) (i j : Nat) (o : Oper), l[i]? = some o → (∀ e ∈ o.after, Region.binds .any e = true → L.getD e.on false = true) → waits l i j = true → L.getD j false = true ∧ ∀ oj k, l[j]? = some oj → oj.dst = some k → (putL L vs 0 l a).eval (.tmp k) = vs j := fun L vs i j o ho hr hw => by
  have h1 := waits_spec hw ho hr
  refine ⟨h1, fun oj k hoj hk => putL_at h1 l 0 a oj hap (Nat.zero_le _) (by simpa using hoj) hk ?_⟩
  have := List.all_eq_true.1 hdst oj (List.mem_of_getElem? hoj)
  rw [hk] at this
  simpa using this
 refine wp_region_inv hm hB (fun L vs w' => RM w ks l.length c Pm (fun j => L.getD j false) vs w') ?_ ?_ ?_
 ·have hno : ∀ j, ¬ (Array.replicate l.length false).getD j false = true := fun j => by
   simp [Array.getD_eq_getD_getElem?, Array.getElem?_replicate]; split <;> simp
  exact ⟨⟨rfl, rfl, rfl, Nat.le_refl _, fun _ _ => rfl⟩, fun i h => absurd h (hno i), fun i _ h => absurd h (hno i), fun i h => absurd h (hno i), fun i _ _ h => absurd h (hno i), fun h => absurd h (hno c), fun i _ _ h => absurd h (hno i), fun i _ _ _ _ _ h => absurd h (hno i)⟩
 ·intro L vs w' F i o ho hL hr
  have hi : i < l.length := (List.getElem?_eq_some_iff.1 ho).1
  have ni : L.getD i false = false := by simpa using listed_no hL
  have hset := setfun hL
  have hwt := fun j => hval L vs i j o ho hr
  have hfree : ∀ s, (l.all fun o => o.dst != some s) = true → (putL L vs 0 l a).eval (.tmp s) = a.eval (.tmp s) := fun s hs => putL_other l 0 a (fun p hp t ht e => by
   injection e with e
   subst e
   have := List.all_eq_true.1 hs p hp
   rw [ht] at this
   simp at this)
  have hvals : ∀ j v, waits l i j = true → (kdAt ks j).val (vs c) = some v → (putL L vs 0 l a).eval (.tmp (dstOf l j)) = v := fun j v hw hv => by
   obtain ⟨h1, h2⟩ := hwt j hw
   have hjl : j < l.length := F.lt j h1
   have hoj : l[j]? = some l[j] := List.getElem?_eq_getElem hjl
   have h3 := hal j hjl
   simp only [Bool.and_eq_true] at h3
   have h4 := h3.2
   cases hd : l[j].dst with
   | none =>
    have : (l[j]?.map fun o => o.dst.isSome) = some false := by rw [hoj]; simp [hd]
    cases hk : kdAt ks j <;> rw [hk] at hv h4 <;> simp [Kd.val, this] at hv h4
   | some k =>
    rw [show dstOf l j = k by simp [dstOf, hoj, hd], h2 _ k hoj hd]
    exact F.val j v h1 hv
  have hs := hstep i o ho (putL L vs 0 l a) w' (vs c) F.below hfree hvals
  have hdeps := hal i hi
  simp only [Bool.and_eq_true] at hdeps
  rw [hset]
  obtain ⟨ls, hls⟩ : ∃ ls : Nat → Bool, ls = fun j => L.getD j false := ⟨_, rfl⟩
  have hlsj : ∀ j, L.getD j false = ls j := fun j => by rw [hls]
  simp only [hlsj] at F ni hwt ⊢
  have hcne : ∀ k, kdAt ks i = k → k.isMain = false → c ≠ i := fun k h1 h2 e => by subst e; rw [hkc] at h1; subst h1; cases h2
  have hupc : ∀ k v, kdAt ks i = k → k.isMain = false → upd vs i v c = vs c := fun k v h1 h2 => upd_ne (hcne k h1 h2)
  have hlt' : ∀ j, (decide (j = i) || ls j) = true → j < l.length := fun j hj => by
   simp only [Bool.or_eq_true, decide_eq_true_eq] at hj
   rcases hj with rfl | hj
   ·exact hi
   ·exact F.lt j hj
  have hres : ∀ j, waits l i j = true → (kdAt ks j).isRes = true → ls c = true := fun j hw hk => F.res j (hwt j hw).1 hk
  have plain : ∀ (k : Kd) (v : Value) (w'' : World), kdAt ks i = k → k.isMain = false → k.isBox = false → k.to = none → Below w'.heap.size w' w'' → (k.val (vs c) = some v) → (k.isRes = true → ls c = true) → RM w ks l.length c Pm (fun j => decide (j = i) || ls j) (upd vs i v) w'' := fun k v w'' hk h1 h2 h3 hb hv hrs => by
   have hsame : ∀ g, g < w'.heap.size → w''.heap[g]? = w'.heap[g]? := hb.block
   refine ⟨F.below.trans (hb.mono F.below.size), hlt', ?_, ?_, ?_, ?_, ?_, ?_⟩
   ·intro j u hj hu
    rw [hupc k v hk h1] at hu
    by_cases e : j = i
    ·subst e; rw [upd_at]; rw [hk, hv] at hu; injection hu
    ·rw [upd_ne e]; exact F.val j u (by simpa [e] using hj) hu
   ·intro j hj hjr
    by_cases e : j = i
    ·subst e; rw [hk] at hjr; simp [hrs hjr]
    ·simp [F.res j (by simpa [e] using hj) hjr]
   ·intro j b f hj hjk
    by_cases e : j = i
    ·subst e; rw [hk] at hjk; subst hjk; cases h3
    ·obtain ⟨e1, e2, e3⟩ := F.put j b f (by simpa [e] using hj) hjk
     rw [upd_ne e]; exact ⟨by simp [e1], by simp [e2], e3⟩
   ·intro hc
    have hc' : ls c = true := by simpa [hcne k hk h1] using hc
    obtain ⟨S, e1, e2, e3⟩ := F.main hc'
    rw [hupc k v hk h1]
    refine ⟨S, hloc S _ w' w'' e1 hb.size (fun g _ h => hsame g h), fun g hg => Nat.lt_of_lt_of_le (e2 g hg) hb.size, fun j t z g hj hjk hjv => ?_⟩
    by_cases e : j = i
    ·subst e; rw [hk] at hjk; subst hjk; cases h2
    ·rw [upd_ne e] at hjv; exact e3 j t z g (by simpa [e] using hj) hjk hjv
   ·intro j t z hj hjk
    by_cases e : j = i
    ·subst e; rw [hk] at hjk; subst hjk; cases h2
    ·obtain ⟨g, C, e1, e2, e3, e4, e5⟩ := F.box j t z (by simpa [e] using hj) hjk
     refine ⟨g, C, by rw [upd_ne e]; exact e1, e2, (hsame g e3.lt).trans e3, e4, fun q f hq hlq => ?_⟩
     rw [hupc k v hk h1]
     by_cases e' : q = i
     ·subst e'; rw [hk] at hq; subst hq; cases h3
     ·exact e5 q f hq (by simpa [e'] using hlq)
   ·intro p q t z t' z' hp hq hpq hpk hqk
    have e1 : p ≠ i := fun e => by subst e; rw [hk] at hpk; subst hpk; cases h2
    have e2 : q ≠ i := fun e => by subst e; rw [hk] at hqk; subst hqk; cases h2
    rw [upd_ne e1, upd_ne e2]
    exact F.apart p q t z t' z' (by simpa [e1] using hp) (by simpa [e2] using hq) hpq hpk hqk
  cases hk : kdAt ks i with
  | quiet v =>
   rw [hk] at hs
   exact oper_wp_ok hs ⟨v, rfl, plain _ v w' hk rfl rfl rfl (Below.refl _ _) rfl (fun h => by cases h)⟩
  | fin f =>
   rw [hk] at hs
   have h := hdeps.1.2
   rw [hk] at h
   obtain ⟨j, _, hj⟩ := List.any_eq_true.1 h
   simp only [Bool.and_eq_true] at hj
   have hlc := hres j hj.1 hj.2
   obtain ⟨S, p1, _⟩ := F.main hlc
   exact oper_wp_ok (hs S p1) ⟨_, rfl, plain _ _ w' hk rfl rfl rfl (Below.refl _ _) rfl (fun _ => hlc)⟩
  | qcall v =>
   rw [hk] at hs
   obtain ⟨f, args, h1, h2⟩ := hs
   unfold Oper.wp
   rw [h1, Oper.upon_enter]
   refine h2.mono ?_
   rintro e w'' ⟨rfl, hb⟩
   exact ⟨v, rfl, plain _ v w'' hk rfl rfl rfl hb rfl (fun h => by cases h)⟩
  | main =>
   rw [hk] at hs
   obtain ⟨f, args, h1, h2⟩ := hs
   have hic : i = c := hmu i hi hk
   subst hic
   unfold Oper.wp
   rw [h1, Oper.upon_enter]
   refine h2.mono ?_
   rintro e w'' ⟨r, rfl, hP, hb⟩
   refine ⟨r, rfl, F.below.trans (hb.mono F.below.size), hlt', ?_, fun _ _ _ => by simp, ?_, ?_, ?_, ?_⟩
   ·intro j u hj hu
    rw [upd_at] at hu
    by_cases e : j = i
    ·subst e; rw [upd_at]; rw [hk] at hu; simpa [Kd.val] using hu
    ·rw [upd_ne e]
     have hlj : ls j = true := by simpa [e] using hj
     have hnr : ¬ (kdAt ks j).isRes = true := fun h => by rw [F.res j hlj h] at ni; cases ni
     refine F.val j u hlj ?_
     cases hkj : kdAt ks j <;> rw [hkj] at hu hnr <;> simp [Kd.val, Kd.isRes] at hu hnr ⊢ <;> exact hu
   ·intro j b f hj hjk
    by_cases e : j = i
    ·subst e; rw [hk] at hjk; cases hjk
    ·have := (F.put j b f (by simpa [e] using hj) hjk).1
     rw [this] at ni; cases ni
   ·intro _
    rw [upd_at]
    refine ⟨_, hP, fun g hg => hg.1, fun j t z g hj hjk hjv hg => ?_⟩
    by_cases e : j = i
    ·subst e; rw [hk] at hjk; cases hjk
    ·rw [upd_ne e] at hjv
     obtain ⟨g', C, e1, e2, e3, _⟩ := F.box j t z (by simpa [e] using hj) hjk
     rw [hjv] at e1
     injection e1 with e1; injection e1 with e1; injection e1 with e1
     have := e3.lt
     rcases hg.2 with h | h <;> omega
   ·intro j t z hj hjk
    by_cases e : j = i
    ·subst e; rw [hk] at hjk; cases hjk
    ·obtain ⟨g, C, e1, e2, e3, e4, e5⟩ := F.box j t z (by simpa [e] using hj) hjk
     refine ⟨g, C, by rw [upd_ne e]; exact e1, e2, (hb.block g e3.lt).trans e3, e4, fun q f hq hlq => ?_⟩
     by_cases e' : q = i
     ·subst e'; rw [hk] at hq; cases hq
     ·have := (F.put q j f (by simpa [e'] using hlq) hq).1
      rw [this] at ni; cases ni
   ·intro p q t z t' z' hp hq hpq hpk hqk
    have e1 : p ≠ i := fun e => by subst e; rw [hk] at hpk; cases hpk
    have e2 : q ≠ i := fun e => by subst e; rw [hk] at hqk; cases hqk
    rw [upd_ne e1, upd_ne e2]
    exact F.apart p q t z t' z' (by simpa [e1] using hp) (by simpa [e2] using hq) hpq hpk hqk
  | box t z =>
   rw [hk] at hs
   refine oper_wp_ok hs ⟨_, rfl, ?_⟩
   have hb : Below w'.heap.size w' (w'.alloc (.cells z t)) := (Below.refl _ _).alloc (Nat.le_refl _) _
   have hnew : ∀ j t' z', ls j = true → kdAt ks j = .box t' z' → vs j ≠ .pointer (some ⟨w'.heap.size, 0, none⟩) := fun j t' z' hj hjk e => by
    obtain ⟨g, C, e1, _, e3, _⟩ := F.box j t' z' hj hjk
    rw [e] at e1
    injection e1 with e1; injection e1 with e1; injection e1 with e1
    have := e3.lt; omega
   refine ⟨F.below.trans (hb.mono F.below.size), hlt', ?_, ?_, ?_, ?_, ?_, ?_⟩
   ·intro j u hj hu
    rw [hupc _ _ hk rfl] at hu
    by_cases e : j = i
    ·subst e; rw [hk] at hu; cases hu
    ·rw [upd_ne e]; exact F.val j u (by simpa [e] using hj) hu
   ·intro j hj hjr
    by_cases e : j = i
    ·subst e; rw [hk] at hjr; cases hjr
    ·simp [F.res j (by simpa [e] using hj) hjr]
   ·intro j b f hj hjk
    by_cases e : j = i
    ·subst e; rw [hk] at hjk; cases hjk
    ·obtain ⟨e1, e2, e3⟩ := F.put j b f (by simpa [e] using hj) hjk
     rw [upd_ne e]; exact ⟨by simp [e1], by simp [e2], e3⟩
   ·intro hc
    have hc' : ls c = true := by simpa [hcne _ hk rfl] using hc
    obtain ⟨S, e1, e2, e3⟩ := F.main hc'
    rw [hupc _ _ hk rfl]
    refine ⟨S, hloc S _ w' _ e1 hb.size (fun g _ h => hb.block g h), fun g hg => Nat.lt_of_lt_of_le (e2 g hg) hb.size, fun j t z g hj hjk hjv => ?_⟩
    by_cases e : j = i
    ·subst e
     rw [upd_at] at hjv
     injection hjv with hjv; injection hjv with hjv; injection hjv with hjv
     intro hg
     have := e2 g hg; omega
    ·rw [upd_ne e] at hjv; exact e3 j t z g (by simpa [e] using hj) hjk hjv
   ·intro j t' z' hj hjk
    by_cases e : j = i
    ·subst e
     rw [hk] at hjk
     injection hjk with h1 h2
     subst h1; subst h2
     refine ⟨w'.heap.size, z, by rw [upd_at], F.below.size, Blk.new _ _ _, rfl, fun q f hq hlq => ?_⟩
     have e' : q ≠ j := fun e' => by subst e'; rw [hk] at hq; cases hq
     have := (F.put q j f (by simpa [e'] using hlq) hq).2.1
     rw [this] at ni; cases ni
    ·obtain ⟨g, C, e1, e2, e3, e4, e5⟩ := F.box j t' z' (by simpa [e] using hj) hjk
     refine ⟨g, C, by rw [upd_ne e]; exact e1, e2, (hb.block g e3.lt).trans e3, e4, fun q f hq hlq => ?_⟩
     rw [hupc _ _ hk rfl]
     have e' : q ≠ i := fun e' => by subst e'; rw [hk] at hq; cases hq
     exact e5 q f hq (by simpa [e'] using hlq)
   ·intro p q t1 z1 t2 z2 hp hq hpq hpk hqk
    by_cases e1 : p = i
    ·have e2 : q ≠ i := fun e => hpq (e1.trans e.symm)
     subst e1
     rw [upd_at, upd_ne e2]
     exact fun e => hnew q _ _ (by simpa [e2] using hq) hqk e.symm
    ·by_cases e2 : q = i
     ·subst e2
      rw [upd_at, upd_ne e1]
      exact hnew p _ _ (by simpa [e1] using hp) hpk
     ·rw [upd_ne e1, upd_ne e2]
      exact F.apart p q _ _ _ _ (by simpa [e1] using hp) (by simpa [e2] using hq) hpq hpk hqk
  | put b f =>
   rw [hk] at hs
   have h := hdeps.1.2
   rw [hk] at h
   simp only [Bool.and_eq_true, decide_eq_true_eq] at h
   obtain ⟨⟨⟨⟨hwb, hbb⟩, hbl⟩, hany⟩, huniq⟩ := h
   obtain ⟨t, z, hkb⟩ : ∃ t z, kdAt ks b = .box t z := by
    cases h : kdAt ks b <;> rw [h] at hbb <;> first | exact ⟨_, _, rfl⟩ | cases hbb
   obtain ⟨hlb, hev⟩ := hwt b hwb
   obtain ⟨g, C, e1, e2, e3, e4, e5⟩ := F.box b t z hlb hkb
   have hob : l[b]? = some l[b] := List.getElem?_eq_getElem hbl
   have hdb : ∃ k, l[b].dst = some k := by
    have h3 := hal b hbl
    simp only [Bool.and_eq_true] at h3
    have h4 := h3.2
    rw [hkb, hob] at h4
    simp at h4
    exact Option.isSome_iff_exists.1 h4
   obtain ⟨k, hdb⟩ := hdb
   have hevb : (putL L vs 0 l a).eval (.tmp (dstOf l b)) = .pointer (some ⟨g, 0, none⟩) := by
    rw [show dstOf l b = k by simp [dstOf, hob, hdb], hev _ k hob hdb, e1]
   have hlc : ls c = true := by
    obtain ⟨j, _, hj⟩ := List.any_eq_true.1 hany
    simp only [Bool.and_eq_true] at hj
    exact hres j hj.1 hj.2
   obtain ⟨S, p1, p2, p3⟩ := F.main hlc
   obtain ⟨w'', hrun, hsz, hblk, hfs, hoth, h1, h2, h3⟩ := hs S p1 t z g C hkb e3 e4 hevb
   have hdn : o.dst = none := by
    have h4 := hdeps.2
    rw [hk, ho] at h4
    simpa using h4
   unfold Oper.wp
   rw [hrun, Oper.upon_skip]
   have hbel : Below w.heap.size w w'' := ⟨h1.trans F.below.os, h2.trans F.below.tape, h3.trans F.below.output, by rw [hsz]; exact F.below.size, fun j hj => by rw [hoth j (by omega)]; exact F.below.block j hj⟩
   refine ⟨undef, rfl, hbel, hlt', ?_, ?_, ?_, ?_, ?_, ?_⟩
   ·intro j u hj hu
    rw [hupc _ _ hk rfl] at hu
    by_cases e : j = i
    ·subst e; rw [hk] at hu; cases hu
    ·rw [upd_ne e]; exact F.val j u (by simpa [e] using hj) hu
   ·intro j hj hjr
    simp [hlc]
   ·intro j b' f' hj hjk
    by_cases e : j = i
    ·subst e
     rw [hk] at hjk
     injection hjk with q1 q2
     subst q1
     exact ⟨by simp [hlc], by simp [hlb], by rw [upd_at]⟩
    ·obtain ⟨e1, e2, e3⟩ := F.put j b' f' (by simpa [e] using hj) hjk
     rw [upd_ne e]; exact ⟨by simp [e1], by simp [e2], e3⟩
   ·intro _
    rw [hupc _ _ hk rfl]
    refine ⟨S, hloc S _ w' w'' p1 (by omega) (fun g' hg' _ => hoth g' (fun e => p3 b t z g hlb hkb e1 (e ▸ hg'))), fun g' hg' => by have := p2 g' hg'; omega, fun j t' z' g' hj hjk hjv => ?_⟩
    have e : j ≠ i := fun e => by subst e; rw [hk] at hjk; cases hjk
    rw [upd_ne e] at hjv
    exact p3 j t' z' g' (by simpa [e] using hj) hjk hjv
   ·intro j t' z' hj hjk
    have e : j ≠ i := fun e => by subst e; rw [hk] at hjk; cases hjk
    have hlj : ls j = true := by simpa [e] using hj
    by_cases ejb : j = b
    ·subst ejb
     rw [hkb] at hjk
     injection hjk with q1 q2
     subst q1; subst q2
     refine ⟨g, f (vs c), by rw [upd_ne e]; exact e1, e2, hblk, hfs, fun q f' hq hlq => ?_⟩
     rw [hupc _ _ hk rfl]
     by_cases eq : q = i
     ·subst eq
      rw [hk] at hq
      injection hq with _ q2
      rw [q2]
     ·have hql : q < l.length := hlt' q hlq
      have h5 := List.all_eq_true.1 huniq q (List.mem_range.2 hql)
      simp [hq, Kd.to, Ne.symm eq] at h5
    ·obtain ⟨g', C', p1, p2, p3, p4, p5⟩ := F.box j t' z' hlj hjk
     have hne : g' ≠ g := fun e => F.apart j b t' z' t z hlj hlb ejb hjk hkb (by rw [p1, e1, e])
     refine ⟨g', C', by rw [upd_ne e]; exact p1, p2, (hoth g' hne).trans p3, p4, fun q f' hq hlq => ?_⟩
     rw [hupc _ _ hk rfl]
     by_cases eq : q = i
     ·subst eq
      rw [hk] at hq
      injection hq with q1 _
      exact absurd q1.symm ejb
     ·exact p5 q f' hq (by simpa [eq] using hlq)
   ·intro p q t1 z1 t2 z2 hp hq hpq hpk hqk
    have e1 : p ≠ i := fun e => by subst e; rw [hk] at hpk; cases hpk
    have e2 : q ≠ i := fun e => by subst e; rw [hk] at hqk; cases hqk
    rw [upd_ne e1, upd_ne e2]
    exact F.apart p q _ _ _ _ (by simpa [e1] using hp) (by simpa [e2] using hq) hpq hpk hqk
 ·intro L vs w' F hlst
  have hc := hlst c hcl
  obtain ⟨S, p1, p2, p3⟩ := F.main hc
  have hgs : ∃ gs : Nat → Nat, ∀ i t z, i < l.length → kdAt ks i = .box t z → vs i = .pointer (some ⟨gs i, 0, none⟩) := by
   refine ⟨fun i => match vs i with | .pointer (some ad) => ad.block | _ => 0, fun i t z hi hk => ?_⟩
   obtain ⟨g, C, e1, _⟩ := F.box i t z (hlst i hi) hk
   simp [e1]
  obtain ⟨gs, hgs⟩ := hgs
  rw [putL_all L vs (vs c) gs l 0 ks a hlen (fun i hi => by rw [Nat.zero_add]; exact hlst i hi) (fun i hi => ?_)]
  ·refine hend (vs c) gs S w' F.below p1 p2 (fun b t z hb hk => ?_) (fun b b' t z t' z' hb hb' hne hk hk' e => ?_)
   ·obtain ⟨g, C, e1, e2, e3, e4, e5⟩ := F.box b t z (hlst b hb) hk
    have e6 := hgs b t z hb hk
    rw [e6] at e1
    injection e1 with e1; injection e1 with e1; injection e1 with e1
    rw [e1]
    refine ⟨e2, ?_, C, e3, fun j f hj hjk => e5 j f hjk (hlst j hj)⟩
    rw [← e1]
    exact p3 b t z (gs b) (hlst b hb) hk e6
   ·exact F.apart b b' t z t' z' (hlst b hb) (hlst b' hb') hne hk hk' (by rw [hgs b t z hb hk, hgs b' t' z' hb' hk', e])
  ·rw [Nat.zero_add]
   cases hk : kdAt ks i with
   | box t z => exact hgs i t z hi hk
   | put b f => exact (F.put i b f (hlst i hi) hk).2.2
   | quiet v => exact F.val i _ (hlst i hi) (by rw [hk]; rfl)
   | qcall v => exact F.val i _ (hlst i hi) (by rw [hk]; rfl)
   | main => exact F.val i _ (hlst i hi) (by rw [hk]; rfl)
   | fin f => exact F.val i _ (hlst i hi) (by rw [hk]; rfl)
end
def exT (i : Nat) (r : Value) : Value := match r with
 | .tuple vs => vs[i]?.getD undef
 | _ => undef
def aggC (r : Value) : Array Value := match r with
 | .agg vs => vs
 | _ => #[]
theorem set1 {w : World} {g : Nat} {C : Array Value} {t : TypeId} (h : Blk w g C t) (hs : C.size = 1) (v0 : Value) :
  (w.setCell ⟨g, 0, none⟩ v0).heap.size = w.heap.size ∧ Blk (w.setCell ⟨g, 0, none⟩ v0) g #[v0] t ∧ ∀ j, j ≠ g → (w.setCell ⟨g, 0, none⟩ v0).heap[j]? = w.heap[j]? := by
 obtain ⟨l⟩ := C
 obtain ⟨c0, rfl⟩ := List.length_eq_one_iff.1 hs
 exact ⟨by simp, h.set 0 v0, fun j hj => Below.heap_setCell _ _ _ _ hj⟩
theorem set3 {w : World} {g : Nat} {C : Array Value} {t : TypeId} (h : Blk w g C t) (hs : C.size = 3) (v0 v1 v2 : Value) :
  (((w.setCell ⟨g, 0, none⟩ v0).setCell ⟨g, 1, none⟩ v1).setCell ⟨g, 2, none⟩ v2).heap.size = w.heap.size ∧ Blk (((w.setCell ⟨g, 0, none⟩ v0).setCell ⟨g, 1, none⟩ v1).setCell ⟨g, 2, none⟩ v2) g #[v0, v1, v2] t ∧ ∀ j, j ≠ g → (((w.setCell ⟨g, 0, none⟩ v0).setCell ⟨g, 1, none⟩ v1).setCell ⟨g, 2, none⟩ v2).heap[j]? = w.heap[j]? := by
 obtain ⟨l⟩ := C
 match l, hs with
 | [c0, c1, c2], _ => exact ⟨by simp, ((h.set 0 v0).set 1 v1).set 2 v2, fun j hj => by rw [Below.heap_setCell _ _ _ _ (by exact hj), Below.heap_setCell _ _ _ _ (by exact hj), Below.heap_setCell _ _ _ _ (by exact hj)]⟩
theorem cells1 {w : World} {g : Nat} {C : Array Value} {t : TypeId} (h : Blk w g C t) (hs : C.size = 1) : ∃ c0, w.cell? ⟨g, 0, none⟩ = some c0 := by
 obtain ⟨l⟩ := C
 match l, hs with
 | [c0], _ => exact ⟨c0, h.cell rfl⟩
theorem cells3 {w : World} {g : Nat} {C : Array Value} {t : TypeId} (h : Blk w g C t) (hs : C.size = 3) : ∃ c0 c1 c2, w.cell? ⟨g, 0, none⟩ = some c0 ∧ w.cell? ⟨g, 1, none⟩ = some c1 ∧ w.cell? ⟨g, 2, none⟩ = some c2 := by
 obtain ⟨l⟩ := C
 match l, hs with
 | [c0, c1, c2], _ => exact ⟨c0, c1, c2, h.cell rfl, h.cell rfl, h.cell rfl⟩
end Go.Proofs.YtnpaejknoipicagGreat
namespace Go.Proofs.YtnpaejknoipicagGreat
open Go.RowKit
inductive Ck where
 | quiet (v : Value) (lim : Nat)
 | step (s : Nat)
def ckAt (ks : List Ck) (i : Nat) : Ck := (ks[i]?).getD (.quiet undef 0)
def Ck.out (r : Nat → Value) : Ck → Value
 | .quiet v _ => v
 | .step s => r s
def putC (r : Nat → Value) : List Ck → List Oper → Act → Act
 | d :: ks, o :: l, a => putC r ks l (a.put o.dst (d.out r))
 | _, _, a => a
def updR (r : Nat → Value) (s : Nat) (v : Value) : Nat → Value := fun t => if t = s then v else r t
theorem updR_at (r : Nat → Value) (s : Nat) (v : Value) : updR r s v s = v := by simp [updR]
theorem updR_ne {r : Nat → Value} {s t : Nat} {v : Value} (h : t ≠ s) : updR r s v t = r t := by simp [updR, h]
def chainOk (ks : List Ck) (l : List Oper) (st : List Nat) (n : Nat) : Bool :=
 decide (ks.length = l.length) && (l.all fun o => match o.dst with | some k => decide (k < n) | none => true) &&
 ((List.range st.length).all fun s => match st[s]? with
  | some i => decide (i < l.length) && (match ckAt ks i with | .step t => t == s | _ => false) && (s == 0 || (match st[s - 1]? with | some j => waits l i j | none => false))
  | none => false) &&
 ((List.range l.length).all fun i => match ckAt ks i with
  | .quiet _ lim => decide (st.length ≤ lim) || (match st[lim]? with | some j => waits l j i | none => false)
  | .step t => st[t]? == some i)
section
variable {P : Program} {Q : Exit → Act → World → Prop}
theorem oper_wp_skip {o : Oper} {a : Act} {w w' : World} {K : Act → World → Prop} (h : (execOp a.eval o).run P w = .ok .skip w') (hk : K (a.put o.dst undef) w') : o.wp P a w K Q := by
 unfold Oper.wp; rw [h]; exact hk
theorem oper_wp_call {o : Oper} {a : Act} {w : World} {f : FuncId} {args : Array Value} {K : Act → World → Prop} (h : (execOp a.eval o).run P w = .ok (.enter f args) w) (hc : Calls P f args w fun e w'' => ∃ v, e = .returned v ∧ K (a.put o.dst v) w'') : o.wp P a w K Q := by
 unfold Oper.wp; rw [h, Oper.upon_enter]
 refine hc.mono ?_
 rintro e w'' ⟨v, rfl, hk⟩
 exact hk
structure RC (ks : List Ck) (l : List Oper) (n m : Nat) (I : Nat → (Nat → Value) → World → Prop) (ls : Nat → Bool) (vs : Nat → Value) (s : Nat) (r : Nat → Value) (w' : World) : Prop where
 lt : ∀ i, ls i = true → i < n
 steps : ∀ i t, i < n → ckAt ks i = .step t → (ls i = true ↔ t < s)
 vals : ∀ i, ls i = true → vs i = (ckAt ks i).out r
 inv : I s r w'
 le : s ≤ m
 closed : ∀ i j, ls j = true → waits l j i = true → ls i = true
theorem putC_all (L : Array Bool) (vs : Nat → Value) (r : Nat → Value) : ∀ (l : List Oper) (k : Nat) (ks : List Ck) (a : Act), ks.length = l.length → (∀ i, i < l.length → L.getD (k + i) false = true) → (∀ i, i < l.length → vs (k + i) = (ckAt ks i).out r) → putL L vs k l a = putC r ks l a
 | [], _, [], _, _, _, _ => rfl
 | o :: l, k, d :: ks, a, hl, hL, hv => by
  simp only [putL, putC]
  rw [if_pos (by simpa using hL 0 (by simp)), show vs k = d.out r by simpa [ckAt] using hv 0 (by simp)]
  refine putC_all L vs r l (k + 1) ks _ (by simpa using hl) (fun i hi => ?_) (fun i hi => ?_)
  ·have := hL (i + 1) (by simpa using hi)
   rw [show k + (i + 1) = k + 1 + i by omega] at this; exact this
  ·have := hv (i + 1) (by simpa using hi)
   rw [show k + (i + 1) = k + 1 + i by omega] at this
   simpa [ckAt] using this
theorem region_chain {id : Nat} {a : Act} {w : World} {l : List Oper} (hm : P.follows .mixedOrders = true) (hB : regOk l = true) (ks : List Ck) (st : List Nat) (hK : chainOk ks l st a.tmps.size = true)
  (I : Nat → (Nat → Value) → World → Prop) (h0 : I 0 (fun _ => undef) { w with drawn := w.drawn + 1 })
  (hstep : ∀ i o, l[i]? = some o → ∀ (a' : Act) (w' : World) (s : Nat) (r : Nat → Value), I s r w' → (∀ s, (l.all fun o => o.dst != some s) = true → a'.eval (.tmp s) = a.eval (.tmp s)) → (∀ j oj k, waits l i j = true → l[j]? = some oj → oj.dst = some k → a'.eval (.tmp k) = (ckAt ks j).out r) →
   match ckAt ks i with
   | .quiet v lim => s ≤ lim → (execOp a'.eval o).run P w' = .ok (.value v) w'
   | .step t => s = t → o.wp P a' w' (fun a'' w'' => ∃ v, a'' = a'.put o.dst v ∧ I (t + 1) (updR r t v) w'') Q)
  (hend : ∀ (r : Nat → Value) (w' : World), I st.length r w' → Q .normal (putC r ks l a) w') :
  (Code.region id l.toArray true).wp P Q a w := by
 simp only [chainOk, Bool.and_eq_true, decide_eq_true_eq] at hK
 obtain ⟨⟨⟨hlen, hdst⟩, hst⟩, hall⟩ := hK
 have hap : dstsApart l = true := by simp only [regOk, Bool.and_eq_true] at hB; exact hB.1.1
 have hal : ∀ i, i < l.length → _ := fun i hi => List.all_eq_true.1 hall i (List.mem_range.2 hi)
 have hsl : ∀ s, s < st.length → _ := fun s hs => List.all_eq_true.1 hst s (List.mem_range.2 hs)
 have hstp : ∀ s, s < st.length → ∃ i, st[s]? = some i ∧ i < l.length ∧ ckAt ks i = .step s ∧ (0 < s → ∃ j, st[s - 1]? = some j ∧ waits l i j = true) := fun s hs => by
  have h := hsl s hs
  have e : st[s]? = some st[s] := List.getElem?_eq_getElem hs
  rw [e] at h
  simp only [Bool.and_eq_true, decide_eq_true_eq, Bool.or_eq_true, beq_iff_eq] at h
  refine ⟨st[s], e, h.1.1, ?_, fun h0 => ?_⟩
  ·have h2 := h.1.2
   cases hk : ckAt ks st[s] with
   | quiet v lim => rw [hk] at h2; cases h2
   | step t => rw [hk] at h2; simp at h2; rw [h2]
  ·have h3 := h.2
   rcases h3 with h3 | h3
   ·omega
   ·have e2 : st[s - 1]? = some st[s - 1] := List.getElem?_eq_getElem (by omega)
    rw [e2] at h3
    exact ⟨_, e2, h3⟩
 have hst2 : ∀ i t, i < l.length → ckAt ks i = .step t → st[t]? = some i := fun i t hi hk => by
  have h := hal i hi
  rw [hk] at h
  simpa using h
 refine wp_region_inv hm hB (fun L vs w' => ∃ s r, RC ks l l.length st.length I (fun j => L.getD j false) vs s r w') ?_ ?_ ?_
 ·have hno : ∀ j, ¬ (Array.replicate l.length false).getD j false = true := fun j => by
   simp [Array.getD_eq_getD_getElem?, Array.getElem?_replicate]; split <;> simp
  exact ⟨0, fun _ => undef, fun i h => absurd h (hno i), fun i t _ _ => ⟨fun h => absurd h (hno i), fun h => absurd h (Nat.not_lt_zero _)⟩, fun i h => absurd h (hno i), h0, Nat.zero_le _, fun _ j h => absurd h (hno j)⟩
 ·rintro L vs w' ⟨s, r, F⟩ i o ho hL hr
  have hi : i < l.length := (List.getElem?_eq_some_iff.1 ho).1
  have ni : L.getD i false = false := by simpa using listed_no hL
  have hset := setfun hL
  have hwt : ∀ j, waits l i j = true → L.getD j false = true := fun j hw => waits_spec hw ho hr
  have hfree : ∀ s, (l.all fun o => o.dst != some s) = true → (putL L vs 0 l a).eval (.tmp s) = a.eval (.tmp s) := fun s hs => putL_other l 0 a (fun p hp t ht e => by
   injection e with e
   subst e
   have := List.all_eq_true.1 hs p hp
   rw [ht] at this
   simp at this)
  have hvals : ∀ j oj k, waits l i j = true → l[j]? = some oj → oj.dst = some k → (putL L vs 0 l a).eval (.tmp k) = (ckAt ks j).out r := fun j oj k hw hoj hk => by
   have h1 := hwt j hw
   have hk2 := List.all_eq_true.1 hdst oj (List.mem_of_getElem? hoj)
   rw [hk] at hk2
   rw [putL_at h1 l 0 a oj hap (Nat.zero_le _) (by simpa using hoj) hk (by simpa using hk2)]
   exact F.vals j h1
  have hs := hstep i o ho (putL L vs 0 l a) w' s r F.inv hfree hvals
  rw [hset]
  obtain ⟨ls, hls⟩ : ∃ ls : Nat → Bool, ls = fun j => L.getD j false := ⟨_, rfl⟩
  have hlsj : ∀ j, L.getD j false = ls j := fun j => by rw [hls]
  simp only [hlsj] at F ni hwt ⊢
  have hlt' : ∀ j, (decide (j = i) || ls j) = true → j < l.length := fun j hj => by
   simp only [Bool.or_eq_true, decide_eq_true_eq] at hj
   rcases hj with rfl | hj
   ·exact hi
   ·exact F.lt j hj
  have hcl : ∀ p j, (decide (j = i) || ls j) = true → waits l j p = true → (decide (p = i) || ls p) = true := fun p j hj hw => by
   simp only [Bool.or_eq_true, decide_eq_true_eq] at hj ⊢
   rcases hj with rfl | hj
   ·exact .inr (hwt p hw)
   ·exact .inr (F.closed p j hj hw)
  cases hk : ckAt ks i with
  | quiet v lim =>
   rw [hk] at hs
   have hle : s ≤ lim := by
    have h := hal i hi
    rw [hk] at h
    simp only [Bool.or_eq_true, decide_eq_true_eq] at h
    rcases h with h | h
    ·exact Nat.le_trans F.le h
    ·by_cases hlt : s ≤ lim
     ·exact hlt
     ·exfalso
      have hll : lim < st.length := by have := F.le; omega
      obtain ⟨j, e1, e2, e3, _⟩ := hstp lim hll
      rw [e1] at h
      have hlj := (F.steps j lim e2 e3).2 (by omega)
      rw [F.closed i j hlj h] at ni
      cases ni
   refine oper_wp_ok (hs hle) ⟨v, rfl, s, r, hlt', ?_, ?_, F.inv, F.le, hcl⟩
   ·intro j t hj hjk
    have e : j ≠ i := fun e => by subst e; rw [hk] at hjk; cases hjk
    simpa [e] using F.steps j t hj hjk
   ·intro j hj
    by_cases e : j = i
    ·subst e; rw [upd_at, hk]; rfl
    ·rw [upd_ne e]; exact F.vals j (by simpa [e] using hj)
  | step t =>
   rw [hk] at hs
   have hti := hst2 i t hi hk
   have htl : t < st.length := (List.getElem?_eq_some_iff.1 hti).1
   have hst' : s = t := by
    have h1 : ¬ t < s := fun h => by rw [(F.steps i t hi hk).2 h] at ni; cases ni
    by_cases h0 : t = 0
    ·omega
    ·obtain ⟨i', e1, e2, e3, e4⟩ := hstp t htl
     rw [hti] at e1
     injection e1 with e1
     subst e1
     obtain ⟨j, q1, q2⟩ := e4 (by omega)
     obtain ⟨j', r1, r2, r3, _⟩ := hstp (t - 1) (by omega)
     rw [q1] at r1
     injection r1 with r1
     subst r1
     have := (F.steps j (t - 1) r2 r3).1 (hwt j q2)
     omega
   subst hst'
   refine Oper.wp_mono ?_ (hs rfl)
   rintro a'' w'' ⟨v, h1, h2⟩
   refine ⟨v, h1, s + 1, updR r s v, hlt', ?_, ?_, h2, htl, hcl⟩
   ·intro j t' hj hjk
    by_cases e : j = i
    ·subst e
     rw [hk] at hjk
     injection hjk with hjk
     subst hjk
     simp
    ·have h3 := F.steps j t' hj hjk
     have hne : t' ≠ s := fun e' => by
      subst e'
      have := hst2 j t' hj hjk
      rw [hti] at this
      injection this with this
      exact e this.symm
     simp only [e, decide_false, Bool.false_or]
     rw [h3]; omega
   ·intro j hj
    by_cases e : j = i
    ·subst e; rw [upd_at, hk]; exact (updR_at r s v).symm
    ·have hlj : ls j = true := by simpa [e] using hj
     rw [upd_ne e, F.vals j hlj]
     cases hkj : ckAt ks j with
     | quiet v' lim' => rfl
     | step t' =>
      have := (F.steps j t' (F.lt j hlj) hkj).1 hlj
      exact (updR_ne (by omega)).symm
 ·rintro L vs w' ⟨s, r, F⟩ hlst
  have hs : s = st.length := by
   by_cases h : s < st.length
   ·obtain ⟨i, e1, e2, e3, _⟩ := hstp s h
    have := (F.steps i s e2 e3).1 (hlst i e2)
    omega
   ·have := F.le; omega
  subst hs
  rw [putC_all L vs r l 0 ks a hlen (fun i hi => by rw [Nat.zero_add]; exact hlst i hi) (fun i hi => by rw [Nat.zero_add]; exact F.vals i (hlst i hi))]
  exact hend r w' F.inv
end
end Go.Proofs.YtnpaejknoipicagGreat
namespace Go.Proofs.YtnpaejknoipicagGreat
open Go.RowKit
def GS (base M : Nat) (fv cv : Value) : Nat → Prop := fun g => base ≤ g ∧ g ≠ M ∧ some g ≠ fv.ownBlock ∧ some g ≠ cv.ownBlock
def GMk (base M : Nat) (w : World) (fv cv : Value) (o : List Fr) (cl : List (List Fr)) : Prop := Blk w M #[fv, cv] 245 ∧ OwnFrs base (GS base M fv cv) w fv o ∧ OwnGrs base (GS base M fv cv) w cv cl
def GMake (base M : Nat) (w : World) (o : List Fr) (cl : List (List Fr)) : Prop := ∃ fv cv, GMk base M w fv cv o cl
theorem GMk.below {base M : Nat} {w w' : World} {fv cv : Value} {o : List Fr} {cl : List (List Fr)} (h : GMk base M w fv cv o cl) (hb : Below w.heap.size w w') : GMk base M w' fv cv o cl :=
 ⟨h.1.below hb h.1.lt, h.2.1.below hb, h.2.2.below hb⟩
theorem GMk.fneM {base M : Nat} {w : World} {fv cv : Value} {o : List Fr} {cl : List (List Fr)} (h : GMk base M w fv cv o cl) : fv.ownBlock ≠ some M := fun e => by
 obtain ⟨cur, hc⟩ := h.2.1.blk M e
 exact Apart_type h.1 hc (by decide) rfl
theorem GMk.cneM {base M : Nat} {w : World} {fv cv : Value} {o : List Fr} {cl : List (List Fr)} (h : GMk base M w fv cv o cl) : cv.ownBlock ≠ some M := fun e => by
 obtain ⟨cur, hc⟩ := h.2.2.blk M e
 exact Apart_type h.1 hc (by decide) rfl
theorem GMk.fnec {base M : Nat} {w : World} {fv cv : Value} {o : List Fr} {cl : List (List Fr)} (h : GMk base M w fv cv o cl) : ∀ g, fv.ownBlock = some g → cv.ownBlock ≠ some g := fun g e1 e2 => by
 obtain ⟨cur, hc⟩ := h.2.1.blk g e1
 obtain ⟨cur2, hc2⟩ := h.2.2.blk g e2
 exact Apart_type hc hc2 (by decide) rfl
theorem grp_one {S : Nat → Prop} {w : World} {ps : List (List Fr × Value)} (h : ∀ p ∈ ps, FrsIn S w p.2 p.1) : ∀ u ∈ ps.map Prod.snd, u.oneCell' = true := fun u hu => by
 obtain ⟨p, hp, rfl⟩ := List.mem_map.1 hu
 obtain ⟨a, c, e, _⟩ := (h p hp).len
 rw [e]; rfl
set_option maxHeartbeats 4000000 in
set_option maxRecDepth 100000 in
theorem groupClose_any (base M : Nat) (fv cv : Value) (o : List Fr) (cl : List (List Fr)) (w : World) (hM : GMk base M w fv cv o cl) (hbM : base ≤ M) (ho : o.length ≤ 6) (hcl : cl.length ≤ 1000) :
  Calls Tryz.prog 191 #[.pointer (some ⟨M, 0, none⟩)] w fun e w' => e = .returned (.tuple #[]) ∧ (∃ cv', GMk base M w' (.slice none 0 0) cv' [] (if 0 < o.length then cl ++ [o] else cl)) ∧ Below base w w' ∧ ∀ j, j < w.heap.size → j ≠ M → some j ≠ cv.ownBlock → w'.heap[j]? = w.heap[j]? := by
 obtain ⟨i0, hi, hz0, hz1, hz2⟩ := info_parts Tryz.infoGrp
 have HMK : Hid (GMk base M w fv cv o cl) := hM
 obtain ⟨kM, ⟨qs, fq1, fq2, fq3⟩, ⟨ps, cp1, cp2, cp3⟩⟩ := hM
 obtain ⟨fa, fc, efv, hfc, _⟩ := owns_cap fq2
 obtain ⟨ca, cc, ecv, hcc, _⟩ := owns_cap cp2
 have hql : qs.length = o.length := by rw [← fq1, List.length_map]
 have hpl : ps.length = cl.length := by rw [← cp1, List.length_map]
 obtain ⟨n, hn⟩ : ∃ n, n = o.length := ⟨_, rfl⟩
 obtain ⟨m, hm⟩ : ∃ m, m = cl.length := ⟨_, rfl⟩
 have HN : Hid (n = o.length) := hn
 have HM2 : Hid (m = cl.length) := hm
 rw [hql, ← hn] at efv hfc
 rw [hpl, ← hm] at ecv hcc cp2
 have k0 := kM.two
 obtain ⟨k0, k1⟩ := k0
 have kf := kM.free
 have hMw := kM.lt
 have KM : Hid (Blk w M #[fv, cv] 245) := kM
 have CP1 : Hid (ps.map Prod.fst = cl) := cp1
 have CP2 : Hid (w.ownsRow base 30 1 cv m (ps.map Prod.snd)) := cp2
 have CP3 : Hid (∀ p ∈ ps, FrsIn (GS base M fv cv) w p.2 p.1) := cp3
 have HPL : Hid (ps.length = m) := by show _ = _; rw [hpl, hm]
 have FIN0 : Hid (∀ (w' : World) (v' : Value) (L : List (List Fr)), Blk w' M #[fv, v'] 245 → OwnGrs base (GS base M (.slice none 0 0) v') w' v' L → v'.ownBlock ≠ some M → GMk base M (w'.setCell ⟨M, 0, none⟩ (.slice none 0 0)) (.slice none 0 0) v' [] L) := fun w' v' L h1 h2 h3 =>
  ⟨h1.set 0 _, OwnFrs.nil _ _ _, h2.to (SameOn.setCell (fun g hg => hg.2.1) _) (fun _ _ h => h) (fun g hg => Below.heap_setCell _ _ _ _ (fun e => h3 (by rw [hg]; exact congrArg some e)))⟩
 rw [← hn]
 rw [← hn] at ho
 rw [← hm] at hcl
 by_cases hn0 : 0 < n
 ·rw [if_pos hn0]
  have hni : (0 : Int) < (n : Int) := by omega
  have hown : (w.drew.alloc (.cells #[fv] 30)).ownsRow base 30 1 cv m (ps.map Prod.snd) := cp2.alloc _
  have HOWN : Hid ((w.drew.alloc (.cells #[fv] 30)).ownsRow base 30 1 cv m (ps.map Prod.snd)) := hown
  have hfvs : ∃ a c, fv = .slice a n c := ⟨fa, fc, efv⟩
  have HFV1 : Hid (∀ u ∈ [fv], u.oneCell' = true) := fun u hu => by simp at hu; subst hu; rw [efv]; rfl
  have hbase : base ≤ w.heap.size := by omega
  clear hn hm hql hpl fq1 fq2 fq3 cp1 cp2 cp3 kM hown
  have HE1 : Hid (fv = .slice fa n fc) := efv
  have HE2 : Hid (cv = .slice ca m cc) := ecv
  rw [efv] at k0
  rw [ecv] at k1
  clear efv ecv
  go_enter Tryz.func191, Tryz.ntmps191
  go_wp2_with fail
  refine region_chain (by kernel_rfl) (by kernel_rfl) [.quiet (.pointer (some ⟨M, 0, none⟩)) 3, .quiet (.pointer (some ⟨M, 0, none⟩)) 3, .quiet (.pointer (some ⟨M, 0, none⟩)) 3, .quiet (.pointer (some ⟨M, 1, none⟩)) 3, .quiet (.slice ca m cc) 1, .quiet (.pointer (some ⟨M, 0, none⟩)) 3, .quiet (.pointer (some ⟨M, 0, none⟩)) 3, .quiet (.pointer (some ⟨M, 0, none⟩)) 3, .quiet (.agg #[.slice fa n fc]) 0, .step 0, .step 1, .quiet (.pointer (some ⟨M, 0, none⟩)) 3, .quiet (.pointer (some ⟨M, 1, none⟩)) 3, .step 2] [9, 10, 13] (by kernel_rfl)
   (fun s r w' => match s with
    | 0 => w' = w.drew
    | 1 => w' = w.drew.alloc (.cells #[fv] 30) ∧ r 0 = .slice (some ⟨w.heap.size, 0, none⟩) 1 1
    | 2 => w'.ownsRow base 30 1 (r 1) (m + 1) (ps.map Prod.snd ++ [fv]) ∧ (w.drew.alloc (.cells #[fv] 30)).grownBy w' cv.ownBlock ∧ ((r 1).ownBlock = cv.ownBlock ∨ ∀ g, (r 1).ownBlock = some g → (w.drew.alloc (.cells #[fv] 30)).heap.size ≤ g)
    | _ => ∃ (w2 : World) (v' : Value), w' = w2.setCell ⟨M, 1, none⟩ v' ∧ w2.ownsRow base 30 1 v' (m + 1) (ps.map Prod.snd ++ [fv]) ∧ (w.drew.alloc (.cells #[fv] 30)).grownBy w2 cv.ownBlock ∧ (v'.ownBlock = cv.ownBlock ∨ ∀ g, v'.ownBlock = some g → (w.drew.alloc (.cells #[fv] 30)).heap.size ≤ g)) rfl ?step ?fin
  case step =>
   intro i o ho a' w' s r hI hfree hvals
   have f0 : a'.eval (.tmp 0) = .pointer (some ⟨M, 0, none⟩) := (hfree 0 (by kernel_rfl)).trans rfl
   have hMd : w.drew.cell? ⟨M, 0, none⟩ = some (.slice fa n fc) := k0
   have hMd1 : w.drew.cell? ⟨M, 1, none⟩ = some (.slice ca m cc) := k1
   have hMs : M < w.drew.heap.size := hMw
   match i, ho with
   | 0, ho | 1, ho | 5, ho =>
    simp at ho; subst ho
    show s ≤ 3 → (execOp a'.eval _).run _ w' = .ok (.value _) w'
    intro _
    generalize a'.eval = ρ at *
    simp [execOp, go_sem, f0]
   | 2, ho =>
    simp at ho; subst ho
    have e1 : a'.eval (.tmp 10) = .pointer (some ⟨M, 0, none⟩) := hvals 1 _ _ (by kernel_rfl) rfl rfl
    show s ≤ 3 → (execOp a'.eval _).run _ w' = .ok (.value _) w'
    intro _
    generalize a'.eval = ρ at *
    simp [execOp, go_sem, e1]
   | 3, ho =>
    simp at ho; subst ho
    have e1 : a'.eval (.tmp 11) = .pointer (some ⟨M, 0, none⟩) := hvals 2 _ _ (by kernel_rfl) rfl rfl
    show s ≤ 3 → (execOp a'.eval _).run _ w' = .ok (.value _) w'
    intro _
    generalize a'.eval = ρ at *
    simp [execOp, go_sem, e1]
   | 4, ho =>
    simp at ho; subst ho
    have e1 : a'.eval (.tmp 12) = .pointer (some ⟨M, 1, none⟩) := hvals 3 _ _ (by kernel_rfl) rfl rfl
    show s ≤ 1 → (execOp a'.eval _).run _ w' = .ok (.value _) w'
    intro hs
    have hc : w'.cell? ⟨M, 1, none⟩ = some (.slice ca m cc) := by
     match s, hs, hI with
     | 0, _, hI => rw [show w' = w.drew from hI]; exact hMd1
     | 1, _, hI => rw [hI.1]; exact (World.cell?_alloc_past _ _ _ hMs).trans hMd1
    generalize a'.eval = ρ at *
    simp [execOp, go_sem, e1, hc]
   | 6, ho =>
    simp at ho; subst ho
    have e1 : a'.eval (.tmp 14) = .pointer (some ⟨M, 0, none⟩) := hvals 5 _ _ (by kernel_rfl) rfl rfl
    show s ≤ 3 → (execOp a'.eval _).run _ w' = .ok (.value _) w'
    intro _
    generalize a'.eval = ρ at *
    simp [execOp, go_sem, e1]
   | 7, ho =>
    simp at ho; subst ho
    have e1 : a'.eval (.tmp 15) = .pointer (some ⟨M, 0, none⟩) := hvals 6 _ _ (by kernel_rfl) rfl rfl
    show s ≤ 3 → (execOp a'.eval _).run _ w' = .ok (.value _) w'
    intro _
    generalize a'.eval = ρ at *
    simp [execOp, go_sem, e1]
   | 8, ho =>
    simp at ho; subst ho
    have e1 : a'.eval (.tmp 16) = .pointer (some ⟨M, 0, none⟩) := hvals 7 _ _ (by kernel_rfl) rfl rfl
    show s ≤ 0 → (execOp a'.eval _).run _ w' = .ok (.value _) w'
    intro hs
    have hc : w'.cell? ⟨M, 0, none⟩ = some (.slice fa n fc) := by
     match s, hs, hI with
     | 0, _, hI => rw [show w' = w.drew from hI]; exact hMd
    generalize a'.eval = ρ at *
    simp [execOp, go_sem, e1, hc]
   | 9, ho =>
    simp at ho; subst ho
    have e1 : a'.eval (.tmp 17) = .agg #[.slice fa n fc] := hvals 8 _ _ (by kernel_rfl) rfl rfl
    show s = 0 → Oper.wp _ _ _ _ _ _
    intro hs
    subst hs
    have hw : w' = w.drew := hI
    subst hw
    refine oper_wp_ok (v := .slice (some ⟨w.heap.size, 0, none⟩) 1 1) (w' := w.drew.alloc (.cells #[fv] 30)) ?_ ⟨_, rfl, rfl, updR_at _ _ _⟩
    generalize a'.eval = ρ at *
    rw [HE1.out]
    simp [execOp, go_sem, e1]
   | 10, ho =>
    simp at ho; subst ho
    have e1 : a'.eval (.tmp 13) = .slice ca m cc := hvals 4 _ _ (by kernel_rfl) rfl rfl
    have e2 : a'.eval (.tmp 18) = r 0 := hvals 9 _ _ (by kernel_rfl) rfl rfl
    show s = 1 → Oper.wp _ _ _ _ _ _
    intro hs
    subst hs
    obtain ⟨hw, hr0⟩ := hI
    rw [hr0] at e2
    subst hw
    obtain ⟨v', w2, hrun, g2, g3, g4⟩ := run_append_own2 (P := Tryz.prog) (w.drew.alloc (.cells #[fv] 30)) base 27 27 30 i0 _ 1 24 Tryz.underlying27 hi hz0 hz1 hz2 rfl (by decide) cv m (ps.map Prod.snd) HOWN.out ⟨w.heap.size, 0, none⟩ 1 1 [fv] rfl (news1 rfl) HFV1.out (by unfold maxLen; omega) (by omega) (by simp; omega)
    rw [HE2.out] at hrun
    refine oper_wp_ok (v := v') (w' := w2) ?_ ⟨_, rfl, ?_⟩
    ·generalize a'.eval = ρ at *
     simp [execOp, resolve, invoke, builtin, e1, e2, hrun, Result.andThen]
    ·show w2.ownsRow _ _ _ _ _ _ ∧ _ ∧ _
     rw [updR_at]
     exact ⟨g2, g3, g4⟩
   | 11, ho =>
    simp at ho; subst ho
    have e1 : a'.eval (.tmp 9) = .pointer (some ⟨M, 0, none⟩) := hvals 0 _ _ (by kernel_rfl) rfl rfl
    show s ≤ 3 → (execOp a'.eval _).run _ w' = .ok (.value _) w'
    intro _
    generalize a'.eval = ρ at *
    simp [execOp, go_sem, e1]
   | 12, ho =>
    simp at ho; subst ho
    have e1 : a'.eval (.tmp 20) = .pointer (some ⟨M, 0, none⟩) := hvals 11 _ _ (by kernel_rfl) rfl rfl
    show s ≤ 3 → (execOp a'.eval _).run _ w' = .ok (.value _) w'
    intro _
    generalize a'.eval = ρ at *
    simp [execOp, go_sem, e1]
   | 13, ho =>
    simp at ho; subst ho
    have e1 : a'.eval (.tmp 21) = .pointer (some ⟨M, 1, none⟩) := hvals 12 _ _ (by kernel_rfl) rfl rfl
    have e2 : a'.eval (.tmp 19) = r 1 := hvals 10 _ _ (by kernel_rfl) rfl rfl
    show s = 2 → Oper.wp _ _ _ _ _ _
    intro hs
    subst hs
    obtain ⟨g2, g3, g4⟩ := hI
    obtain ⟨va, vc, ev, _⟩ := owns_cap g2
    have kM2 : Blk w' M #[fv, cv] 245 := (g3.block M (by simp; omega) (fun e => HMK.out.cneM e.symm)).trans (KM.out.drew.alloc _)
    have y0 := kM2.two.2
    have y1 := kM2.free 1
    refine oper_wp_skip (w' := w'.setCell ⟨M, 1, none⟩ (r 1)) ?_ ⟨_, rfl, w', r 1, rfl, g2, g3, g4⟩
    rw [ev] at e2 ⊢
    generalize a'.eval = ρ at *
    simp [execOp, go_sem, e1, e2, y0, y1]
   | i + 14, ho => simp at ho
  case fin =>
   rintro r w' ⟨w2, v', hw, g2, g3, g4⟩
   have hk := HMK.out
   have kM2 : Blk w2 M #[fv, cv] 245 := (g3.block M (by simp; omega) (fun e => hk.cneM e.symm)).trans (KM.out.drew.alloc _)
   have hsz2 := g3.size
   simp only [World.size_alloc] at hsz2
   have hwd : w.drew.heap.size = w.heap.size := rfl
   have hvM : v'.ownBlock ≠ some M := fun e => by
    rcases g4 with g4 | g4
    ·rw [g4] at e; exact hk.cneM e
    ·have := g4 M e; simp at this; omega
   have hnew : ∀ g, g < w.heap.size → some g ≠ cv.ownBlock → some g ≠ v'.ownBlock := fun g hg h1 e => by
    rcases g4 with g4 | g4
    ·rw [g4] at e; exact h1 e
    ·have := g4 g e.symm; simp at this; omega
   have hsm : SameOn (fun g => g < w.heap.size ∧ some g ≠ cv.ownBlock) w w2 := ⟨by omega, fun g hg h2 => by
    rw [g3.block g (by simp; omega) h2.2]
    exact Below.heap_alloc w.drew _ g hg⟩
   have hfv : FrsIn (GS base M (.slice none 0 0) v') w2 fv o := by
    refine (hk.2.1.frsIn (S' := fun g => base ≤ g ∧ g ≠ M ∧ some g ≠ cv.ownBlock ∧ g < w.heap.size) (fun g h1 h2 => ⟨h2.1, h2.2.1, h2.2.2.2, h1⟩) (fun g hg => ⟨(hk.2.1.lt g hg).1, fun e => hk.fneM (by rw [hg, e]), fun e => hk.fnec g hg e.symm, (hk.2.1.lt g hg).2⟩)).to (hsm.mono (fun g h => ⟨h.2.2.2, h.2.2.1⟩)) (fun g h1 h2 => ⟨h2.1, h2.2.1, fun e => by simp [Value.ownBlock] at e, hnew g h1 h2.2.2.1⟩)
   have hps : ∀ p ∈ ps, FrsIn (GS base M (.slice none 0 0) v') w2 p.2 p.1 := fun p hp =>
    ((CP3.out p hp).mono (S' := fun g => base ≤ g ∧ g ≠ M ∧ some g ≠ cv.ownBlock ∧ g < w.heap.size) (fun g h1 h2 => ⟨h2.1, h2.2.1, h2.2.2.2, h1⟩)).to (hsm.mono (fun g h => ⟨h.2.2.2, h.2.2.1⟩)) (fun g h1 h2 => ⟨h2.1, h2.2.1, fun e => by simp [Value.ownBlock] at e, hnew g h1 h2.2.2.1⟩)
   have hog : OwnGrs base (GS base M (.slice none 0 0) v') w2 v' (cl ++ [o]) := ⟨ps ++ [(o, fv)], by rw [List.map_append, CP1.out]; rfl, by rw [List.length_append, List.map_append, HPL.out]; exact g2, fun p hp => by
    rcases List.mem_append.1 hp with hp | hp
    ·exact hps p hp
    ·simp at hp; subst hp; exact hfv⟩
   have hog3 : OwnGrs base (GS base M (.slice none 0 0) v') (w2.setCell ⟨M, 1, none⟩ v') v' (cl ++ [o]) := hog.to (SameOn.setCell (fun g hg => hg.2.1) _) (fun _ _ h => h) (fun g hg => Below.heap_setCell _ _ _ _ (fun e => hvM (by rw [hg]; exact congrArg some e)))
   have FIN : Hid (GMk base M ((w2.setCell ⟨M, 1, none⟩ v').setCell ⟨M, 0, none⟩ (.slice none 0 0)) (.slice none 0 0) v' [] (cl ++ [o])) := FIN0.out _ v' (cl ++ [o]) (kM2.set 1 _) hog3 hvM
   have BEL : Hid (Below base w ((w2.setCell ⟨M, 1, none⟩ v').setCell ⟨M, 0, none⟩ (.slice none 0 0))) := ((((Below.refl base w).drew.alloc (by show _ ≤ w.heap.size; omega) _).grown g3 (by simp; omega) (fun j hj => (CP2.out.lt j hj).1)).setCell (by exact hbM) _).setCell (by exact hbM) _
   have OTH : Hid (∀ j, j < w.heap.size → j ≠ M → some j ≠ cv.ownBlock → ((w2.setCell ⟨M, 1, none⟩ v').setCell ⟨M, 0, none⟩ (.slice none 0 0)).heap[j]? = w.heap[j]?) := fun j h1 h2 h3 => by
    rw [Below.heap_setCell _ _ _ _ (by exact h2), Below.heap_setCell _ _ _ _ (by exact h2)]
    exact hsm.2 j h1 ⟨h1, h3⟩
   have y0 := (kM2.set 1 v').two.1
   have y1 := (kM2.set 1 v').free 0
   subst hw
   simp only [putC, Ck.out]
   clear hog hog3 hps hfv hsm hnew g2 g3 g4 kM2 k0 k1 kf
   go_wp2
   go_end0
   exact ⟨rfl, ⟨v', FIN.out⟩, BEL.out, OTH.out⟩
 ·rw [if_neg hn0]
  have hn00 : n = 0 := by omega
  have FIN : Hid (GMk base M (w.setCell ⟨M, 0, none⟩ (.slice none 0 0)) (.slice none 0 0) cv [] cl) := FIN0.out w cv cl KM.out (HMK.out.2.2.to (SameOn.refl _ _) (fun g _ h => ⟨h.1, h.2.1, fun e => by simp [Value.ownBlock] at e, h.2.2.2⟩) (fun _ _ => rfl)) HMK.out.cneM
  rw [efv] at k0
  subst hn00
  clear hn hm hql hpl fq1 fq2 fq3 cp1 cp2 cp3 kM efv ecv
  go_enter Tryz.func191, Tryz.ntmps191
  go_wp2
  go_end0
  exact ⟨rfl, ⟨cv, FIN.out⟩, (Below.refl base w).setCell (by exact hbM) _, fun j _ h2 _ => Below.heap_setCell _ _ _ _ h2⟩
theorem FrsIn.sl {S : Nat → Prop} {w : World} {v : Value} {l : List Fr} (h : FrsIn S w v l) : ∃ ps : List (Fr × Value), ps.map Prod.fst = l ∧ Sl w v ps.length 3 (frCells ps) ∧ ∀ p ∈ ps, StrsIn S w p.2 p.1.parts := by
 obtain ⟨ao, c, rfl, _, _, hc⟩ := h
 have each : ∀ k, k < l.length → ∃ pv, ∃ b off, ao = some ⟨b, off, none⟩ ∧ b < w.heap.size ∧ w.cell? ⟨b, off + k * 3, none⟩ = some (.int .i64 (l[k]?.getD Fr.zero).time) ∧ w.cell? ⟨b, off + k * 3 + 1, none⟩ = some (.bool (l[k]?.getD Fr.zero).key) ∧ w.cell? ⟨b, off + k * 3 + 2, none⟩ = some pv ∧ StrsIn S w pv (l[k]?.getD Fr.zero).parts := fun k hk => by
  obtain ⟨b, off, e1, e2, _, pv, h1, h2, h3, h4⟩ := hc k hk
  exact ⟨pv, b, off, e1, e2, h1, h2, h3, h4⟩
 obtain ⟨f, hf⟩ := Go.Deep.choose_lt each
 have hlen : ((List.range l.length).map fun k => (l[k]?.getD Fr.zero, f k)).length = l.length := by simp
 have hat : ∀ k, k < l.length → ((List.range l.length).map fun k => (l[k]?.getD Fr.zero, f k))[k]? = some (l[k]?.getD Fr.zero, f k) := fun k hk => by
  rw [List.getElem?_map, List.getElem?_range hk]; rfl
 refine ⟨(List.range l.length).map fun k => (l[k]?.getD Fr.zero, f k), ?_, ?_, fun p hp => ?_⟩
 ·refine List.ext_getElem (by simp) fun k h1 h2 => ?_
  simp [List.getElem?_eq_getElem h2]
 ·rw [hlen]
  refine ⟨by rw [frCells_len, hlen], ?_⟩
  by_cases h0 : l.length = 0
  ·exact .inl ⟨h0, ao, c, by rw [h0]⟩
  ·obtain ⟨b, off, e1, e2, _⟩ := hf 0 (by omega)
   subst e1
   refine .inr ⟨b, off, c, rfl, e2, fun j u hj => ?_⟩
   have hjl : j < l.length * 3 := by
    have := (List.getElem?_eq_some_iff.1 hj).1
    rwa [frCells_len, hlen] at this
   have hjk : j = j / 3 * 3 + j % 3 := by omega
   rw [hjk, frCells_at _ (j / 3) (j % 3) _ (by omega) (hat (j / 3) (by omega))] at hj
   obtain ⟨b', off', e1, _, g0, g1, g2, _⟩ := hf (j / 3) (by omega)
   injection e1 with e1
   injection e1 with e1 e3
   subst e1 e3
   have h3 : j % 3 = 0 ∨ j % 3 = 1 ∨ j % 3 = 2 := by omega
   rcases h3 with h3 | h3 | h3
   ·rw [h3] at hj hjk
    simp at hj; subst hj
    rw [show off + j = off + j / 3 * 3 by omega]; exact g0
   ·rw [h3] at hj hjk
    simp at hj; subst hj
    rw [show off + j = off + j / 3 * 3 + 1 by omega]; exact g1
   ·rw [h3] at hj hjk
    simp at hj; subst hj
    rw [show off + j = off + j / 3 * 3 + 2 by omega]; exact g2
 ·obtain ⟨k, hk, rfl⟩ := List.mem_map.1 hp
  obtain ⟨b, off, _, _, _, _, _, h4⟩ := hf k (by simpa using hk)
  exact h4
theorem GrsIn.sl {S : Nat → Prop} {w : World} {v : Value} {L : List (List Fr)} (h : GrsIn S w v L) : ∃ ps : List (List Fr × Value), ps.map Prod.fst = L ∧ Sl w v ps.length 1 (ps.map Prod.snd) ∧ ∀ p ∈ ps, FrsIn S w p.2 p.1 := by
 obtain ⟨ao, c, rfl, _, _, hc⟩ := h
 have each : ∀ k, k < L.length → ∃ sv, ∃ b off, ao = some ⟨b, off, none⟩ ∧ b < w.heap.size ∧ w.cell? ⟨b, off + k, none⟩ = some sv ∧ FrsIn S w sv (L[k]?.getD []) := fun k hk => by
  obtain ⟨b, off, e1, e2, _, sv, h1, h2⟩ := hc k hk
  exact ⟨sv, b, off, e1, e2, h1, h2⟩
 obtain ⟨f, hf⟩ := Go.Deep.choose_lt each
 have hlen : ((List.range L.length).map fun k => (L[k]?.getD [], f k)).length = L.length := by simp
 refine ⟨(List.range L.length).map fun k => (L[k]?.getD [], f k), ?_, ?_, fun p hp => ?_⟩
 ·refine List.ext_getElem (by simp) fun k h1 h2 => ?_
  simp [List.getElem?_eq_getElem h2]
 ·rw [hlen]
  refine ⟨by simp, ?_⟩
  by_cases h0 : L.length = 0
  ·exact .inl ⟨h0, ao, c, by rw [h0]⟩
  ·obtain ⟨b, off, e1, e2, _⟩ := hf 0 (by omega)
   subst e1
   refine .inr ⟨b, off, c, rfl, e2, fun j u hj => ?_⟩
   have hjl : j < L.length := by
    have := (List.getElem?_eq_some_iff.1 hj).1
    simpa using this
   obtain ⟨b', off', e1, _, g0, _⟩ := hf j hjl
   injection e1 with e1
   injection e1 with e1 e3
   subst e1 e3
   rw [List.getElem?_map, List.getElem?_map, List.getElem?_range hjl] at hj
   simp at hj; subst hj
   exact g0
 ·obtain ⟨k, hk, rfl⟩ := List.mem_map.1 hp
  obtain ⟨b, off, _, _, _, h4⟩ := hf k (by simpa using hk)
  exact h4
theorem fr_one2 {S : Nat → Prop} {w : World} {ps : List (Fr × Value)} (h : ∀ p ∈ ps, StrsIn S w p.2 p.1.parts) : ∀ u ∈ frCells ps, u.oneCell' = true := fun u hu => by
 obtain ⟨p, hp, hu⟩ := List.mem_flatMap.1 hu
 simp at hu
 rcases hu with rfl | rfl | rfl
 ·rfl
 ·rfl
 ·obtain ⟨a, c, e⟩ := (h p hp).1.len
  rw [e]; rfl
theorem groups_app {base : Nat} {S : Nat → Prop} {w : World} {v u : Value} {L M : List (List Fr)} {qs : List (List Fr × Value)} (hv : OwnGrs base S w v L) (q1 : qs.map Prod.fst = M) (q2 : Sl w u qs.length 1 (qs.map Prod.snd)) (q3 : ∀ p ∈ qs, FrsIn S w p.2 p.1) (hS : ∀ g, S g → some g ≠ v.ownBlock) (hb : L.length + M.length ≤ 1000) (hbase : base ≤ w.heap.size) :
  ∃ v' w', (Builtin.append_ #[27, 27] 27 #[v, u]).run Tryz.prog w = .ok v' w' ∧ OwnGrs base S w' v' (L ++ M) ∧ w.grownBy w' v.ownBlock ∧ (v'.ownBlock = v.ownBlock ∨ ∀ g, v'.ownBlock = some g → w.heap.size ≤ g) := by
 obtain ⟨i0, hi, hz0, hz1, hz2⟩ := info_parts Tryz.infoGrp
 obtain ⟨ps, p1, p2, p3⟩ := hv
 have hps : ps.length = L.length := by rw [← p1, List.length_map]
 have hqs : qs.length = M.length := by rw [← q1, List.length_map]
 obtain ⟨v', w', r, o, g, dd⟩ := run_append_any (P := Tryz.prog) w base 27 27 30 i0 _ 1 24 Tryz.underlying27 hi hz0 hz1 hz2 rfl (by decide) v ps.length (ps.map Prod.snd) p2 qs.length (qs.map Prod.snd) u q2 (grp_one q3) (by unfold maxLen; omega) (by omega) hbase
 refine ⟨v', w', r, ⟨ps ++ qs, by rw [List.map_append, p1, q1], by rw [List.length_append, List.map_append]; exact o, fun p hp => ?_⟩, g, dd⟩
 have hs : SameOn S w w' := SameOn.grown g hS
 rcases List.mem_append.1 hp with hp | hp
 ·exact (p3 p hp).to hs (fun _ _ h => h)
 ·exact (q3 p hp).to hs (fun _ _ h => h)
def NS (base : Nat) (u : Value) : Nat → Prop := fun g => base ≤ g ∧ some g ≠ u.ownBlock
theorem fr_snoc {base : Nat} {w : World} {u pv : Value} {l : List Fr} {f : Fr} (h : OwnFrs base (NS base u) w u l) (hp : StrsIn (NS base u) w pv f.parts) (hl : l.length ≤ 999) (hb : base ≤ w.heap.size) :
  ∃ v' w', (Builtin.append_ #[28, 28] 28 #[u, .slice (some ⟨w.heap.size, 0, none⟩) 1 1]).run Tryz.prog (w.alloc (.cells #[.int .i64 f.time, .bool f.key, pv] 98)) = .ok v' w' ∧ OwnFrs base (NS base v') w' v' (l ++ [f]) ∧ Below base w w' := by
 obtain ⟨i0, hi, hz0, hz1, hz2⟩ := info_parts Tryz.infoFrm
 have h1 : OwnFrs base (fun g => NS base u g ∧ g < w.heap.size) (w.alloc (.cells #[.int .i64 f.time, .bool f.key, pv] 98)) u l := (h.to (SameOn.refl _ _) (fun g hg hs => ⟨hs, hg⟩) (fun _ _ => rfl)).below ((Below.refl _ w).alloc (Nat.le_refl _) _)
 have hp1 : StrsIn (fun g => NS base u g ∧ g < w.heap.size) (w.alloc (.cells #[.int .i64 f.time, .bool f.key, pv] 98)) pv f.parts := (hp.mono fun g hg hs => ⟨hs, hg⟩).alloc _
 obtain ⟨ps, p1, p2, p3⟩ := h1
 have hps : ps.length = l.length := by rw [← p1, List.length_map]
 obtain ⟨pa, pc, ep⟩ := hp.1.len
 obtain ⟨v', w', r, o, g, dd⟩ := run_append_any (P := Tryz.prog) (w.alloc (.cells #[.int .i64 f.time, .bool f.key, pv] 98)) base 28 28 98 i0 _ 3 40 Tryz.underlying28 hi hz0 hz1 hz2 rfl (by decide) u ps.length (frCells ps) p2 1 [.int .i64 f.time, .bool f.key, pv] (.slice (some ⟨w.heap.size, 0, none⟩) 1 1) (Sl.new w #[.int .i64 f.time, .bool f.key, pv] 98 1 3 1 rfl) (fun x hx => by simp at hx; rcases hx with rfl | rfl | rfl; rfl; rfl; rw [ep]; rfl) (by unfold maxLen; omega) (by omega) (by simp; omega)
 have o1 := OwnFrs.snoc p1 p3 hp1 o g (fun g hg => hg.1.2)
 refine ⟨v', w', r, o1.to (SameOn.refl _ _) (fun g _ hg => ⟨hg.1.1, fun e => ?_⟩) (fun _ _ => rfl), ((Below.refl base w).alloc hb _).grown g (by simp; omega) (fun j hj => (p2.lt j hj).1)⟩
 rcases dd with d | d
 ·rw [d] at e; exact hg.1.2 e
 ·have := d g e.symm; simp at this; omega
theorem gr_snoc {base : Nat} {w : World} {u sv : Value} {L : List (List Fr)} {g : List Fr} (h : OwnGrs base (NS base u) w u L) (hp : FrsIn (NS base u) w sv g) (hl : L.length ≤ 999) (hb : base ≤ w.heap.size) :
  ∃ v' w', (Builtin.append_ #[27, 27] 27 #[u, .slice (some ⟨w.heap.size, 0, none⟩) 1 1]).run Tryz.prog (w.alloc (.cells #[sv] 30)) = .ok v' w' ∧ OwnGrs base (NS base v') w' v' (L ++ [g]) ∧ Below base w w' := by
 have h1 : OwnGrs base (fun g => NS base u g ∧ g < w.heap.size) (w.alloc (.cells #[sv] 30)) u L := (h.to (SameOn.refl _ _) (fun g hg hs => ⟨hs, hg⟩) (fun _ _ => rfl)).below ((Below.refl _ w).alloc (Nat.le_refl _) _)
 obtain ⟨v', w', r, o, gr, dd⟩ := groups_app (qs := [(g, sv)]) h1 rfl (Sl.new w #[sv] 30 1 1 1 rfl) (fun p hp' => by
  simp at hp'; subst hp'
  exact ((hp.mono (S' := fun g => NS base u g ∧ g < w.heap.size) fun g hg hs => ⟨hs, hg⟩).alloc _)) (fun g hg => hg.1.2) (by simp; omega) (by simp; omega)
 refine ⟨v', w', r, o.to (SameOn.refl _ _) (fun g _ hg => ⟨hg.1.1, fun e => ?_⟩) (fun _ _ => rfl), ((Below.refl base w).alloc hb _).grown gr (by simp; omega) (fun j hj => (h.lt j hj).1)⟩
 rcases dd with d | d
 ·rw [d] at e; exact hg.1.2 e
 ·have := d g e.symm; simp at this; omega
set_option maxHeartbeats 4000000 in
set_option maxRecDepth 100000 in
theorem cloneFrs_any (S : Nat → Prop) (v : Value) (l : List Fr) (w : World) (hv : FrsIn S w v l) (hlen : l.length ≤ 6) (hck : ∀ k, k < l.length → (frAt l k).chk = 0) :
  Calls Tryz.prog 111 #[v, .func (.func 112) #[] #[]] w fun e w' => ∃ u, e = .returned u ∧ OwnFrs w.heap.size (NS w.heap.size u) w' u l ∧ Below w.heap.size w w' := by
 obtain ⟨ao, c, hva, h1, h2, hc⟩ := hv
 obtain ⟨n, hn⟩ : ∃ n, n = l.length := ⟨_, rfl⟩
 have HN : Hid (n = l.length) := hn
 have HC : Hid (∀ k, k < l.length → ∃ b off, ao = some ⟨b, off, none⟩ ∧ b < w.heap.size ∧ S b ∧ At3In S w b (off + k * 3) (l[k]?.getD Fr.zero)) := hc
 have H8 : Hid (∀ k, k < l.length → (frAt l k).chk = 0) := hck
 have eg : Enters Tryz.prog 112 := enters_of Tryz.func112 (by kernel_rfl) rfl
 have eg' : ∀ (args : Array Value) (w : World), (callFunc 112 args).run Tryz.prog w = .ok (.enter 112 args) w := eg
 rw [← hn] at hva hlen h1
 clear hc hn hck eg
 subst hva
 go_enter Tryz.func111, Tryz.ntmps111
 go_wp2_with fail
 go_loopw [5, 10] (fun u i wr => ∃ k : Nat, k ≤ n ∧ i = .int .i64 k ∧ Hid (OwnFrs w.heap.size (NS w.heap.size u) wr u (l.take k)) ∧ Hid (Below w.heap.size w wr))
  (fun _ i _ => n - (intOf i).toNat)
 case atStart => exact ⟨0, Nat.zero_le _, rfl, OwnFrs.nil _ _ _, Below.refl _ _⟩
 case round =>
  obtain ⟨k, hk, rfl, HO, HB⟩ := hrel
  by_cases hlt : k < n
  ·obtain ⟨b, off, rfl, hb, _, pv, c0, c1, c2, hps⟩ := HC.out k (by rw [← HN.out]; exact hlt)
   obtain ⟨f, hf⟩ : ∃ f, f = frAt l k := ⟨_, rfl⟩
   rw [show l[k]?.getD Fr.zero = f from hf.symm] at c0 c1 hps
   have d0 := (HB.out.cell (p := ⟨b, off + k * 3, none⟩) hb).trans c0
   have d1 := (HB.out.cell (p := ⟨b, off + k * 3 + 1, none⟩) hb).trans c1
   have d2 := (HB.out.cell (p := ⟨b, off + k * 3 + 2, none⟩) hb).trans c2
   have hfk := H8.out k (by rw [← HN.out]; exact hlt)
   rw [← hf] at hfk
   obtain ⟨pa, pc, ep⟩ := hps.1.len
   obtain ⟨pn, hpn⟩ : ∃ pn, pn = f.parts.length := ⟨_, rfl⟩
   rw [← hpn] at ep
   have HCL : Hid (∀ U, Below w.heap.size w U → Calls Tryz.prog 112 #[.agg #[.int .i64 f.time, .bool f.key, pv]] U fun e w' => ∃ a c, e = .returned (.agg #[.int .i64 f.time, .bool f.key, .slice a pn c]) ∧ Hid (StrsIn (fun g => U.heap.size ≤ g) w' (.slice a pn c) f.parts) ∧ Below U.heap.size U w') := fun U hU => by
    rw [hpn]; exact cloneFrame_any S f pv U (hps.below hU) hfk
   have hlti : (k : Int) < (n : Int) := by omega
   have HTK : Hid (l.take (k + 1) = l.take k ++ [f]) := by show _ = _; rw [take_one (by rw [← HN.out]; exact hlt) Fr.zero, hf]
   clear hps hf hpn c0 c1 c2 hfk
   subst ep
   go_wp2_with fail
   have B1 : Hid (Below w.heap.size w (wr.alloc (.cells #[.int .i64 f.time, .bool f.key, .slice pa pn pc] 98))) := HB.out.alloc HB.out.size _
   refine (HCL.out _ B1.out).mono ?_
   rintro e w2 ⟨a2, c2, rfl, HS2, hb2⟩
   have B2 : Below w.heap.size w w2 := B1.out.trans (hb2.mono B1.out.size)
   have hsz := B1.out.size
   have O2 : OwnFrs w.heap.size (NS w.heap.size u5) w2 u5 (l.take k) := (HO.out.below ((Below.refl _ wr).alloc (Nat.le_refl _) _)).below hb2
   obtain ⟨v', w3, r3, o3, b3⟩ := fr_snoc (f := f) (pv := .slice a2 pn c2) O2 (HS2.out.mono fun g _ hg => ⟨by simp at hg; have := HB.out.size; omega, fun e => by have := (HO.out.lt g e.symm).2; simp at hg; omega⟩) (by simp; omega) B2.size
   have O3 : Hid (OwnFrs w.heap.size (NS w.heap.size v') w3 v' (l.take (k + 1))) := by
    show OwnFrs _ _ _ _ _
    rw [HTK.out]; exact o3
   have B3 : Hid (Below w.heap.size w w3) := B2.trans b3
   clear hb2 d0 d1 d2 O2 o3 b3 HS2 B1 HO HB B2
   go_wp2_with (at_builtin; refine wpList_append_run rfl (.tmp 14) (.tmp 18) 28 28 rfl _ _ rfl rfl r3 ?_)
   go_roundw
   case rel => exact ⟨k + 1, by omega, by go_num, O3, B3⟩
   case measure => simp [intOf]; omega
  ·have hkl : k = n := by omega
   subst hkl
   go_wp2
   go_ret
   have ho := HO.out
   rw [HN.out, List.take_length] at ho
   exact ⟨_, rfl, ho, HB.out⟩
set_option maxHeartbeats 4000000 in
set_option maxRecDepth 100000 in
theorem cloneGroup_any (S : Nat → Prop) (v : Value) (l : List Fr) (w : World) (hv : FrsIn S w v l) (hk : gchk l = 0) :
  Calls Tryz.prog 70 #[.agg #[v]] w fun e w' => ∃ a c, e = .returned (.agg #[.slice a l.length c]) ∧ FrsIn (fun g => w.heap.size ≤ g) w' (.slice a l.length c) l ∧ Below w.heap.size w w' := by
 obtain ⟨_, h6, hck⟩ := gchk_zero.1 hk
 obtain ⟨va, vc, ev, _, _⟩ := hv.len
 obtain ⟨n, hn⟩ : ∃ n, n = l.length := ⟨_, rfl⟩
 have HN : Hid (n = l.length) := hn
 have HV : Hid (FrsIn S w v l) := hv
 have HC : Hid (∀ U, Below w.heap.size w U → Calls Tryz.prog 111 #[v, .func (.func 112) #[] #[]] U fun e w' => ∃ a c, e = .returned (.slice a n c) ∧ Hid (FrsIn (fun g => U.heap.size ≤ g) w' (.slice a n c) l) ∧ Below U.heap.size U w') := fun U hU => by
  refine (cloneFrs_any S v l U (HV.out.below hU) h6 (fun k hk => (hck k hk).1)).mono ?_
  rintro e w' ⟨u, rfl, ho, hb⟩
  have hf : FrsIn (fun g => U.heap.size ≤ g) w' u l := ho.frsIn (fun g _ h => h.1) (fun g hg => (ho.lt g hg).1)
  obtain ⟨a, c, e, _, _⟩ := hf.len
  rw [← hn] at e
  subst e
  exact ⟨a, c, rfl, hf, hb⟩
 rw [← hn] at ev ⊢
 clear hv hk hck hn h6
 subst ev
 go_enter Tryz.func70, Tryz.ntmps70
 go_wp2_with fail
 have B1 : Hid (Below w.heap.size w ((w.alloc (.cells #[.slice va n vc] 30)).alloc (.cells #[.slice none 0 0] 30))) := ((Below.refl _ _).alloc (Nat.le_refl _) _).alloc (by simp) _
 have K1 : Hid (Blk ((w.alloc (.cells #[.slice va n vc] 30)).alloc (.cells #[.slice none 0 0] 30)) (w.heap.size + 1) #[.slice none 0 0] 30) := by
  have := Blk.new (w.alloc (.cells #[.slice va n vc] 30)) #[.slice none 0 0] 30
  simpa [Hid] using this
 refine (HC.out _ B1.out).mono ?_
 rintro e w2 ⟨a2, c2, rfl, HF, hb2⟩
 have B2 : Hid (Below w.heap.size w w2) := B1.out.trans (hb2.mono B1.out.size)
 have K2 := K1.out.below hb2 K1.out.lt
 have r0 := K2.one
 have r1 := K2.free 0
 have c9 : (w2.setCell ⟨w.heap.size + 1, 0, none⟩ (.slice a2 n c2)).cell? ⟨w.heap.size + 1, 0, none⟩ = some (.slice a2 n c2) := (K2.set 0 _).cell rfl
 have F9 : Hid (FrsIn (fun g => w.heap.size ≤ g) (w2.setCell ⟨w.heap.size + 1, 0, none⟩ (.slice a2 n c2)) (.slice a2 n c2) l) := HF.out.to (SameOn.setCell (fun g hg => by simp at hg ⊢; omega) _) (fun g _ hg => by simp at hg; omega)
 clear hb2 K1 B1 K2 HF
 go_wp2
 exact bodyPost_ret (v := .agg #[.slice a2 n c2]) (by simp [results, Tryz.results70, go_sem, c9]) rfl ⟨a2, c2, rfl, F9.out, B2.out.setCell (by simp) _⟩
set_option maxHeartbeats 4000000 in
set_option maxRecDepth 100000 in
theorem cloneGroups_any (S : Nat → Prop) (v : Value) (L : List (List Fr)) (w : World) (hv : GrsIn S w v L) (hlen : L.length ≤ 100) (hck : ∀ g ∈ L, gchk g = 0) :
  Calls Tryz.prog 69 #[v] w fun e w' => ∃ u, e = .returned u ∧ OwnGrs w.heap.size (NS w.heap.size u) w' u L ∧ Below w.heap.size w w' := by
 obtain ⟨ao, c, hva, h1, h2, hc⟩ := hv
 obtain ⟨n, hn⟩ : ∃ n, n = L.length := ⟨_, rfl⟩
 have HN : Hid (n = L.length) := hn
 have HC : Hid (∀ k, k < L.length → ∃ b off, ao = some ⟨b, off, none⟩ ∧ b < w.heap.size ∧ S b ∧ ∃ sv, w.cell? ⟨b, off + k, none⟩ = some sv ∧ FrsIn S w sv (L[k]?.getD [])) := hc
 have H8 : Hid (∀ k, k < L.length → gchk (L[k]?.getD []) = 0) := fun k hk => hck _ (by rw [List.getElem?_eq_getElem hk]; exact List.getElem_mem _)
 have eg : Enters Tryz.prog 70 := enters_of Tryz.func70 (by kernel_rfl) rfl
 have eg' : ∀ (args : Array Value) (w : World), (callFunc 70 args).run Tryz.prog w = .ok (.enter 70 args) w := eg
 rw [← hn] at hva hlen h1
 clear hc hn hck eg
 subst hva
 have ALL : Hid (Calls Tryz.prog 110 #[.slice ao n c, .func (.func 70) #[] #[]] w fun e w' => ∃ u, e = .returned u ∧ OwnGrs w.heap.size (NS w.heap.size u) w' u L ∧ Below w.heap.size w w') := by
  show Calls _ _ _ _ _
  go_enter Tryz.func110, Tryz.ntmps110
  go_wp2_with fail
  go_loopw [5, 10] (fun u i wr => ∃ k : Nat, k ≤ n ∧ i = .int .i64 k ∧ Hid (OwnGrs w.heap.size (NS w.heap.size u) wr u (L.take k)) ∧ Hid (Below w.heap.size w wr))
   (fun _ i _ => n - (intOf i).toNat)
  case atStart => exact ⟨0, Nat.zero_le _, rfl, OwnGrs.nil _ _ _, Below.refl _ _⟩
  case round =>
   obtain ⟨k, hk, rfl, HO, HB⟩ := hrel
   by_cases hlt : k < n
   ·obtain ⟨b, off, rfl, hb, _, sv, c0, hs⟩ := HC.out k (by rw [← HN.out]; exact hlt)
    have hgk := H8.out k (by rw [← HN.out]; exact hlt)
    obtain ⟨g, hg⟩ : ∃ g, g = L[k]?.getD [] := ⟨_, rfl⟩
    rw [← hg] at hs hgk
    have d0 := (HB.out.cell (p := ⟨b, off + k, none⟩) hb).trans c0
    obtain ⟨sa, sc, es, _, _⟩ := hs.len
    obtain ⟨gn, hgn⟩ : ∃ gn, gn = g.length := ⟨_, rfl⟩
    rw [← hgn] at es
    have HCL : Hid (∀ U, Below w.heap.size w U → Calls Tryz.prog 70 #[.agg #[sv]] U fun e w' => ∃ a c, e = .returned (.agg #[.slice a gn c]) ∧ Hid (FrsIn (fun g => U.heap.size ≤ g) w' (.slice a gn c) g) ∧ Below U.heap.size U w') := fun U hU => by
     rw [hgn]; exact cloneGroup_any S sv g U (hs.below hU) hgk
    have hlti : (k : Int) < (n : Int) := by omega
    have HTK : Hid (L.take (k + 1) = L.take k ++ [g]) := by show _ = _; rw [take_one (by rw [← HN.out]; exact hlt) [], hg]
    clear hs hg hgn c0 hgk
    subst es
    go_wp2_with fail
    have B1 : Hid (Below w.heap.size w (wr.alloc (.cells #[.slice sa gn sc] 30))) := HB.out.alloc HB.out.size _
    refine (HCL.out _ B1.out).mono ?_
    rintro e w2 ⟨a2, c2, rfl, HS2, hb2⟩
    have B2 : Below w.heap.size w w2 := B1.out.trans (hb2.mono B1.out.size)
    have hsz := B1.out.size
    have O2 : OwnGrs w.heap.size (NS w.heap.size u5) w2 u5 (L.take k) := (HO.out.below ((Below.refl _ wr).alloc (Nat.le_refl _) _)).below hb2
    obtain ⟨v', w3, r3, o3, b3⟩ := gr_snoc (g := g) (sv := .slice a2 gn c2) O2 (HS2.out.mono fun g _ hg => ⟨by simp at hg; have := HB.out.size; omega, fun e => by have := (HO.out.lt g e.symm).2; simp at hg; omega⟩) (by simp; omega) B2.size
    have O3 : Hid (OwnGrs w.heap.size (NS w.heap.size v') w3 v' (L.take (k + 1))) := by
     show OwnGrs _ _ _ _ _
     rw [HTK.out]; exact o3
    have B3 : Hid (Below w.heap.size w w3) := B2.trans b3
    clear hb2 d0 O2 o3 b3 HS2 B1 HO HB B2
    go_wp2_with (at_builtin; refine wpList_append_run rfl (.tmp 14) (.tmp 18) 27 27 rfl _ _ rfl rfl r3 ?_)
    go_roundw
    case rel => exact ⟨k + 1, by omega, by go_num, O3, B3⟩
    case measure => simp [intOf]; omega
   ·have hkl : k = n := by omega
    subst hkl
    go_wp2
    go_ret
    have ho := HO.out
    rw [HN.out, List.take_length] at ho
    exact ⟨_, rfl, ho, HB.out⟩
 clear eg' HC H8
 go_enter Tryz.func69, Tryz.ntmps69
 go_wp2_with fail
 refine ALL.out.mono ?_
 rintro e w1 ⟨u, rfl, ho, hb⟩
 have HO : Hid (OwnGrs w.heap.size (NS w.heap.size u) w1 u L) := ho
 clear ho ALL
 go_wp2
 go_ret
 exact ⟨u, rfl, HO.out, hb⟩
end Go.Proofs.YtnpaejknoipicagGreat
