/-
  What stands in a world, and in each one that is as it was below: one fact for all of them.
-/
import Derived.Test.YtnpaejknoipicagGreatMgDeskSees5
import Derived.Test.YtnpaejknoipicagGreatMgDeskSees6
import Derived.Test.YtnpaejknoipicagGreatMgDeskSees1
import Derived.Test.YtnpaejknoipicagGreatMgDeskSees3
import Derived.Test.YtnpaejknoipicagGreatMgDeskSees4

namespace Go.Proofs.YtnpaejknoipicagGreat
open Go.RowKit

/-- what Get says, and what it finds -/
def getE (first : Int) (L : List (List Fr)) (O : List Fr) (n : Int) : Int := if stchk first L O = 0 then (if n < first then 5 else if ((allG L O).length : Int) ≤ n - first then 5 else 0) else stchk first L O
def getG (first : Int) (L : List (List Fr)) (O : List Fr) (n : Int) : List Fr := if getE first L O n = 0 then grAt (allG L O) (n - first).toNat else []
theorem allG_len (L : List (List Fr)) (O : List Fr) (h : L.length ≤ 5) : (allG L O).length ≤ 6 := by
  unfold allG; split
  · simp; omega
  · omega
theorem allG_right {first : Int} {L : List (List Fr)} {O : List Fr} (h : stchk first L O = 0) : ∀ g ∈ allG L O, gchk g = 0 := by
  obtain ⟨_, _, _, h1, _, h2⟩ := stchk_zero.1 h
  intro g hg
  unfold allG at hg
  split at hg
  · rcases List.mem_append.1 hg with hg | hg
    · exact h1 g hg
    · simp at hg; subst hg
      rcases h2 with h2 | h2
      · rename_i h0; rw [h2] at h0; simp at h0
      · exact h2
  · exact h1 g hg

set_option maxHeartbeats 4000000 in
set_option maxRecDepth 100000 in
theorem storeGet_new (first : Int) (gv ov : Value) (L : List (List Fr)) (O : List Fr) (n : Int) (w : World) (hg : GrsIn (fun _ => True) w gv L) (ho : FrsIn (fun _ => True) w ov O) (hnb : n ≤ 9223372036854775807) :
    Calls Tryz.prog 166 #[.agg #[.int .i64 first, gv, ov], .int .i64 n] w fun e w' => ∃ a c, e = .returned (.tuple #[.agg #[.slice a (getG first L O n).length c], .int .i64 (getE first L O n)]) ∧ FrsIn (fun g => w.heap.size ≤ g) w' (.slice a (getG first L O n).length c) (getG first L O n) ∧ Below w.heap.size w w' := by
  obtain ⟨ga, gc, eg, _, _⟩ := hg.len
  obtain ⟨oa, oc, eo, _, _⟩ := ho.len
  obtain ⟨ln, hln⟩ : ∃ n, n = L.length := ⟨_, rfl⟩
  obtain ⟨lo, hlo⟩ : ∃ n, n = O.length := ⟨_, rfl⟩
  rw [← hln] at eg
  rw [← hlo] at eo
  have HG : Hid (GrsIn (fun _ => True) w gv L) := hg
  have HO : Hid (FrsIn (fun _ => True) w ov O) := ho
  obtain ⟨E, hE⟩ : ∃ E, E = getE first L O n := ⟨_, rfl⟩
  obtain ⟨G, hG⟩ : ∃ G, G = getG first L O n := ⟨_, rfl⟩
  obtain ⟨K, hK⟩ : ∃ K, K = stchk first L O := ⟨_, rfl⟩
  have HE : Hid (E = if K = 0 then (if n < first then 5 else if ((allG L O).length : Int) ≤ n - first then 5 else 0) else K) := by show _ = _; rw [hE, hK]; rfl
  have HGG : Hid (G = if E = 0 then grAt (allG L O) (n - first).toNat else []) := by show _ = _; rw [hG, hE]; rfl
  have HC : Hid (∀ U, Below w.heap.size w U → Calls Tryz.prog 103 #[.agg #[.int .i64 first, gv, ov]] U fun e w' => e = .returned (.int .i64 K) ∧ Below U.heap.size U w') := fun U hU => by
    rw [hK]; exact storeCheck_any _ first gv ov L O U (HG.out.below hU) (HO.out.below hU)
  have HK0 : Hid (K = 0 → 0 ≤ first ∧ first ≤ 100000 ∧ L.length ≤ 5 ∧ (∀ g ∈ allG L O, gchk g = 0)) := fun h => by
    have h' : stchk first L O = 0 := by rw [← hK]; exact h
    obtain ⟨h1, h2, h3, _⟩ := stchk_zero.1 h'
    exact ⟨h1, h2, h3, allG_right h'⟩
  rw [← hE, ← hG]
  clear hg ho hE hG hK hln hlo
  subst eg eo
  go_enter Tryz.func166, Tryz.ntmps166
  go_wp2_with fail
  have B1 : Hid (Below w.heap.size w ((w.alloc (.cells #[.int .i64 first, .slice ga ln gc, .slice oa lo oc] 32)).alloc (.cells #[.slice none 0 0] 30))) := ((Below.refl _ _).alloc (Nat.le_refl _) _).alloc (by simp) _
  have K1 : Hid (Blk ((w.alloc (.cells #[.int .i64 first, .slice ga ln gc, .slice oa lo oc] 32)).alloc (.cells #[.slice none 0 0] 30)) w.heap.size #[.int .i64 first, .slice ga ln gc, .slice oa lo oc] 32) := (Blk.new w _ _).alloc _
  have R1 : Hid (Blk ((w.alloc (.cells #[.int .i64 first, .slice ga ln gc, .slice oa lo oc] 32)).alloc (.cells #[.slice none 0 0] 30)) (w.heap.size + 1) #[.slice none 0 0] 30) := by
    have := Blk.new (w.alloc (.cells #[.int .i64 first, .slice ga ln gc, .slice oa lo oc] 32)) #[.slice none 0 0] 30
    simpa [Hid] using this
  refine (HC.out _ B1.out).mono ?_
  rintro e w2 ⟨rfl, hb2⟩
  have B2 : Hid (Below w.heap.size w w2) := B1.out.trans (hb2.mono B1.out.size)
  have K2 : Hid (Blk w2 w.heap.size #[.int .i64 first, .slice ga ln gc, .slice oa lo oc] 32) := K1.out.below hb2 K1.out.lt
  have R2 : Hid (Blk w2 (w.heap.size + 1) #[.slice none 0 0] 30) := R1.out.below hb2 R1.out.lt
  clear hb2 B1 K1 R1 HC
  obtain ⟨k0, k1, k2⟩ := K2.out.three
  have r0 := R2.out.one
  have r1 := R2.out.free 0
  by_cases hK : K = 0
  case neg =>
    have HEE : Hid (E = K ∧ G = []) := by
      have e1 : E = K := by rw [HE.out, if_neg hK]
      exact ⟨e1, by rw [HGG.out, if_neg (by rw [e1]; exact hK)]⟩
    go_wp2
    obtain ⟨e1, e2⟩ := HEE.out
    rw [e1, e2]
    exact bodyPost_ret (v := .tuple #[.agg #[.slice none 0 0], .int .i64 K]) (by simp [results, Tryz.results166, go_sem, r0]) rfl ⟨none, 0, rfl, FrsIn.nil _ _, by first | exact B2.out | exact B2.out.setCell (by simp) _⟩
  obtain ⟨hf0, hf1, hL5, hAR⟩ := HK0.out hK
  have HAR : Hid (∀ g ∈ allG L O, gchk g = 0) := hAR
  have HE2 : Hid (E = if n < first then 5 else if ((allG L O).length : Int) ≤ n - first then 5 else 0) := by show _ = _; rw [HE.out, if_pos hK]
  have HAL : Hid ((allG L O).length ≤ 6) := allG_len L O hL5
  have HL5 : Hid (L.length ≤ 100) := by show _ ≤ _; omega
  clear hAR HE HK0 hL5
  subst hK
  obtain ⟨A, hA⟩ : ∃ A, A = allG L O := ⟨_, rfl⟩
  rw [← hA] at HAR HE2 HAL HGG
  obtain ⟨q, hq⟩ : ∃ q, q = A.length := ⟨_, rfl⟩
  have HQ : Hid (q = A.length) := hq
  have hq6 : q ≤ 6 := by rw [hq]; exact HAL.out
  rw [← hq] at HE2
  have HALL : Hid (∀ (M : Nat) (U : World), Blk U M #[.int .i64 first, .slice ga ln gc, .slice oa lo oc] 221 → Below w.heap.size w U → Calls Tryz.prog 165 #[.pointer (some ⟨M, 0, none⟩)] U fun e w' => ∃ a c, e = .returned (.slice a q c) ∧ Hid (GrsIn (fun _ => True) w' (.slice a q c) A) ∧ Below U.heap.size U w') := fun M U h1 h2 => by
    refine (keeperAll_any M first _ _ L O U h1 (HG.out.below h2) (HO.out.below h2) HL5.out).mono ?_
    rintro e w' ⟨u, rfl, h3, h4⟩
    rw [← hA] at h3
    obtain ⟨a, c, e, _, _⟩ := h3.len
    rw [← hq] at e
    subst e
    exact ⟨a, c, rfl, h3, h4⟩
  clear hA hq
  go_wp2_with fail
  have B3 : Hid (Below w.heap.size w (w2.alloc (.cells #[.int .i64 first, .slice ga ln gc, .slice oa lo oc] 221))) := B2.out.alloc B2.out.size _
  have M3 : Hid (Blk (w2.alloc (.cells #[.int .i64 first, .slice ga ln gc, .slice oa lo oc] 221)) w2.heap.size #[.int .i64 first, .slice ga ln gc, .slice oa lo oc] 221) := Blk.new _ _ _
  refine (HALL.out _ _ M3.out B3.out).mono ?_
  rintro e w4 ⟨ua, uc, rfl, GU, hb4⟩
  have B4 : Hid (Below w.heap.size w w4) := B3.out.trans (hb4.mono B3.out.size)
  have M4 : Hid (Blk w4 w2.heap.size #[.int .i64 first, .slice ga ln gc, .slice oa lo oc] 221) := M3.out.below hb4 M3.out.lt
  have R4 : Hid (Blk w4 (w.heap.size + 1) #[.slice none 0 0] 30) := (R2.out.alloc _).below hb4 (by have := R2.out.lt; simp; omega)
  clear hb4 B3 M3 B2 K2 R2 k0 k1 k2 r0 r1 HALL
  obtain ⟨k0, k1, k2⟩ := M4.out.three
  have r0 := R4.out.one
  have r1 := R4.out.free 0
  by_cases hn1 : n < first
  · have HEE : Hid (E = 5 ∧ G = []) := by
      have e1 : E = 5 := by rw [HE2.out, if_pos hn1]
      exact ⟨e1, by rw [HGG.out, if_neg (by rw [e1]; decide)]⟩
    go_wp2
    obtain ⟨e1, e2⟩ := HEE.out
    rw [e1, e2]
    exact bodyPost_ret (v := .tuple #[.agg #[.slice none 0 0], .int .i64 5]) (by simp [results, Tryz.results166, go_sem, r0]) rfl ⟨none, 0, rfl, FrsIn.nil _ _, by first | exact B4.out | exact B4.out.setCell (by simp) _⟩
  by_cases hn2 : (q : Int) ≤ n - first
  · have HEE : Hid (E = 5 ∧ G = []) := by
      have e1 : E = 5 := by rw [HE2.out, if_neg hn1, if_pos hn2]
      exact ⟨e1, by rw [HGG.out, if_neg (by rw [e1]; decide)]⟩
    go_wp2
    obtain ⟨e1, e2⟩ := HEE.out
    rw [e1, e2]
    exact bodyPost_ret (v := .tuple #[.agg #[.slice none 0 0], .int .i64 5]) (by simp [results, Tryz.results166, go_sem, r0]) rfl ⟨none, 0, rfl, FrsIn.nil _ _, by first | exact B4.out | exact B4.out.setCell (by simp) _⟩
  obtain ⟨d, hd⟩ : ∃ d : Nat, (d : Int) = n - first := ⟨(n - first).toNat, by omega⟩
  have hdq : d < q := by omega
  have hnd : n = first + d := by omega
  have HEE : Hid (E = 0 ∧ G = grAt A d) := by
    have e1 : E = 0 := by rw [HE2.out, if_neg hn1, if_neg hn2]
    exact ⟨e1, by rw [HGG.out, if_pos e1, ← hd]; rfl⟩
  obtain ⟨ao, c', eu, _, _, hc⟩ := GU.out
  rw [← HQ.out] at eu
  injection eu with eu eu2 eu3
  clear eu2
  subst eu eu3
  obtain ⟨b, off, e1, hb, _, sv, c0, hsv⟩ := hc d (by rw [← HQ.out]; exact hdq)
  have hGd : grAt A d = G := HEE.out.2.symm
  rw [show A[d]?.getD [] = G from hGd] at hsv
  obtain ⟨sa, sc, es, _, _⟩ := hsv.len
  obtain ⟨gn, hgn⟩ : ∃ gn, gn = G.length := ⟨_, rfl⟩
  rw [← hgn] at es
  have HGN : Hid (gn = G.length) := hgn
  have hGR : gchk G = 0 := HAR.out G (by rw [← hGd]; unfold grAt; rw [List.getElem?_eq_getElem (by rw [← HQ.out]; exact hdq)]; exact List.getElem_mem _)
  have HCL : Hid (Calls Tryz.prog 70 #[.agg #[sv]] w4 fun e w' => ∃ a c, e = .returned (.agg #[.slice a gn c]) ∧ Hid (FrsIn (fun g => w4.heap.size ≤ g) w' (.slice a gn c) G) ∧ Below w4.heap.size w4 w') := by
    show Calls _ _ _ _ _
    rw [hgn]; exact cloneGroup_any _ sv G w4 hsv hGR
  have HE0 : Hid (E = 0) := HEE.out.1
  have hdw : IntKind.i64.wrap (d : Int) = (d : Int) := by rw [IntKind.wrap_i64]; omega
  have hdqi : (d : Int) < (q : Int) := by omega
  have hnf : first + (d : Int) - first = (d : Int) := by omega
  have hnl : ¬ first + (d : Int) < first := by omega
  have hqd : ¬ (q : Int) ≤ (d : Int) := by omega
  clear hc hsv hGd hGR hn1 hn2 hd HE2 HGG HEE hgn
  subst hnd es e1
  go_wp2_with fail
  refine HCL.out.mono ?_
  rintro e w5 ⟨a5, c5, rfl, HF5, hb5⟩
  have B5 : Hid (Below w.heap.size w w5) := B4.out.trans (hb5.mono B4.out.size)
  have K5 := R4.out.below hb5 R4.out.lt
  have q0 := K5.one
  have q1 := K5.free 0
  have c9 : (w5.setCell ⟨w.heap.size + 1, 0, none⟩ (.slice a5 gn c5)).cell? ⟨w.heap.size + 1, 0, none⟩ = some (.slice a5 gn c5) := (K5.set 0 _).cell rfl
  have hlt4 := R4.out.lt
  have F9 : Hid (FrsIn (fun g => w.heap.size ≤ g) (w5.setCell ⟨w.heap.size + 1, 0, none⟩ (.slice a5 gn c5)) (.slice a5 gn c5) G) := HF5.out.to (SameOn.setCell (fun g hg => by simp at hg ⊢; omega) _) (fun g _ h => by omega)
  clear hb5 K5 HF5 HCL c0 k0 k1 k2 r0 r1
  go_wp2
  rw [HE0.out, ← HGN.out]
  exact bodyPost_ret (v := .tuple #[.agg #[.slice a5 gn c5], .int .i64 0]) (by simp [results, Tryz.results166, go_sem, c9]) rfl ⟨a5, c5, rfl, F9.out, B5.out.setCell (by simp) _⟩

end Go.Proofs.YtnpaejknoipicagGreat

namespace Go.Proofs.YtnpaejknoipicagGreat
open Go.RowKit

/-- the last one behind the first that begins so early, or the first one -/
def seekI (A : List (List Fr)) (t : Int) : Nat → Nat
  | 0 => 0
  | i + 1 => if (frAt (grAt A (i + 1)) 0).time ≤ t then i + 1 else seekI A t i
theorem seekI_le (A : List (List Fr)) (t : Int) : ∀ i, seekI A t i ≤ i
  | 0 => Nat.le_refl _
  | i + 1 => by
    unfold seekI; split
    · exact Nat.le_refl _
    · exact Nat.le_succ_of_le (seekI_le A t i)
theorem seekI_hit {A : List (List Fr)} {t : Int} {i i1 : Nat} (h : i = i1 + 1) (hl : (frAt (grAt A i) 0).time ≤ t) : seekI A t i = i := by
  subst h; simp only [seekI]; rw [if_pos hl]
theorem seekI_miss {A : List (List Fr)} {t : Int} {i i1 : Nat} (h : i = i1 + 1) (hl : ¬ (frAt (grAt A i) 0).time ≤ t) : seekI A t i = seekI A t i1 := by
  subst h; simp only [seekI]; rw [if_neg hl]
def seekE (first : Int) (L : List (List Fr)) (O : List Fr) (t : Int) : Int := if stchk first L O = 0 then (if t < 0 then 3 else if 1000000 < t then 3 else if (allG L O).length = 0 then 5 else 0) else stchk first L O
def seekN (first : Int) (L : List (List Fr)) (O : List Fr) (t : Int) : Int := if seekE first L O t = 0 then first + seekI (allG L O) t ((allG L O).length - 1) else 0

set_option maxHeartbeats 4000000 in
set_option maxRecDepth 100000 in
theorem storeSeek_any (first : Int) (gv ov : Value) (L : List (List Fr)) (O : List Fr) (t : Int) (w : World) (hg : GrsIn (fun _ => True) w gv L) (ho : FrsIn (fun _ => True) w ov O) :
    Calls Tryz.prog 146 #[.agg #[.int .i64 first, gv, ov], .int .i64 t] w fun e w' => e = .returned (.tuple #[.int .i64 (seekN first L O t), .int .i64 (seekE first L O t)]) ∧ Below w.heap.size w w' := by
  obtain ⟨ga, gc, eg, _, _⟩ := hg.len
  obtain ⟨oa, oc, eo, _, _⟩ := ho.len
  obtain ⟨ln, hln⟩ : ∃ n, n = L.length := ⟨_, rfl⟩
  obtain ⟨lo, hlo⟩ : ∃ n, n = O.length := ⟨_, rfl⟩
  rw [← hln] at eg
  rw [← hlo] at eo
  have HG : Hid (GrsIn (fun _ => True) w gv L) := hg
  have HO : Hid (FrsIn (fun _ => True) w ov O) := ho
  obtain ⟨E, hE⟩ : ∃ E, E = seekE first L O t := ⟨_, rfl⟩
  obtain ⟨N, hN⟩ : ∃ N, N = seekN first L O t := ⟨_, rfl⟩
  obtain ⟨K, hK⟩ : ∃ K, K = stchk first L O := ⟨_, rfl⟩
  have HE : Hid (E = if K = 0 then (if t < 0 then 3 else if 1000000 < t then 3 else if (allG L O).length = 0 then 5 else 0) else K) := by show _ = _; rw [hE, hK]; rfl
  have HNN : Hid (N = if E = 0 then first + seekI (allG L O) t ((allG L O).length - 1) else 0) := by show _ = _; rw [hN, hE]; rfl
  have HC : Hid (∀ U, Below w.heap.size w U → Calls Tryz.prog 103 #[.agg #[.int .i64 first, gv, ov]] U fun e w' => e = .returned (.int .i64 K) ∧ Below U.heap.size U w') := fun U hU => by
    rw [hK]; exact storeCheck_any _ first gv ov L O U (HG.out.below hU) (HO.out.below hU)
  have HK0 : Hid (K = 0 → 0 ≤ first ∧ first ≤ 100000 ∧ L.length ≤ 5 ∧ (∀ g ∈ allG L O, gchk g = 0)) := fun h => by
    have h' : stchk first L O = 0 := by rw [← hK]; exact h
    obtain ⟨h1, h2, h3, _⟩ := stchk_zero.1 h'
    exact ⟨h1, h2, h3, allG_right h'⟩
  have HBAD : Hid (∀ e : Int, E = e → ¬ e = 0 → N = 0) := fun e h1 h2 => by rw [HNN.out, if_neg (by rw [h1]; exact h2)]
  rw [← hE, ← hN]
  clear hg ho hE hN hK hln hlo
  subst eg eo
  go_enter Tryz.func146, Tryz.ntmps146
  go_wp2_with fail
  have B1 : Hid (Below w.heap.size w (w.alloc (.cells #[.int .i64 first, .slice ga ln gc, .slice oa lo oc] 32))) := (Below.refl _ _).alloc (Nat.le_refl _) _
  have K1 : Hid (Blk (w.alloc (.cells #[.int .i64 first, .slice ga ln gc, .slice oa lo oc] 32)) w.heap.size #[.int .i64 first, .slice ga ln gc, .slice oa lo oc] 32) := Blk.new w _ _
  refine (HC.out _ B1.out).mono ?_
  rintro e w2 ⟨rfl, hb2⟩
  have B2 : Hid (Below w.heap.size w w2) := B1.out.trans (hb2.mono B1.out.size)
  have K2 : Hid (Blk w2 w.heap.size #[.int .i64 first, .slice ga ln gc, .slice oa lo oc] 32) := K1.out.below hb2 K1.out.lt
  clear hb2 B1 K1 HC
  obtain ⟨k0, k1, k2⟩ := K2.out.three
  by_cases hK : K = 0
  case neg =>
    have e1 : E = K := by rw [HE.out, if_neg hK]
    have HEE : Hid (E = K ∧ N = 0) := ⟨e1, HBAD.out K e1 hK⟩
    clear e1
    go_wp2
    obtain ⟨e1, e2⟩ := HEE.out
    rw [e1, e2]
    go_ret2
    exact ⟨rfl, B2.out⟩
  obtain ⟨hf0, hf1, hL5, hAR⟩ := HK0.out hK
  have HAR : Hid (∀ g ∈ allG L O, gchk g = 0) := hAR
  have HE2 : Hid (E = if t < 0 then 3 else if 1000000 < t then 3 else if (allG L O).length = 0 then 5 else 0) := by show _ = _; rw [HE.out, if_pos hK]
  have HAL : Hid ((allG L O).length ≤ 6) := allG_len L O hL5
  have HL5 : Hid (L.length ≤ 100) := by show _ ≤ _; omega
  clear hAR HE HK0 hL5
  subst hK
  by_cases ht1 : t < 0
  · have e1 : E = 3 := by rw [HE2.out, if_pos ht1]
    have HEE : Hid (E = 3 ∧ N = 0) := ⟨e1, HBAD.out 3 e1 (by decide)⟩
    clear e1
    go_wp2
    obtain ⟨e1, e2⟩ := HEE.out
    rw [e1, e2]
    go_ret2
    exact ⟨rfl, B2.out⟩
  by_cases ht2 : 1000000 < t
  · have e1 : E = 3 := by rw [HE2.out, if_neg ht1, if_pos ht2]
    have HEE : Hid (E = 3 ∧ N = 0) := ⟨e1, HBAD.out 3 e1 (by decide)⟩
    clear e1
    go_wp2
    obtain ⟨e1, e2⟩ := HEE.out
    rw [e1, e2]
    go_ret2
    exact ⟨rfl, B2.out⟩
  obtain ⟨A, hA⟩ : ∃ A, A = allG L O := ⟨_, rfl⟩
  rw [← hA] at HAR HE2 HAL HNN
  obtain ⟨q, hq⟩ : ∃ q, q = A.length := ⟨_, rfl⟩
  have HQ : Hid (q = A.length) := hq
  have hq6 : q ≤ 6 := by rw [hq]; exact HAL.out
  rw [← hq] at HE2 HNN
  have HALL : Hid (∀ (M : Nat) (U : World), Blk U M #[.int .i64 first, .slice ga ln gc, .slice oa lo oc] 221 → Below w.heap.size w U → Calls Tryz.prog 165 #[.pointer (some ⟨M, 0, none⟩)] U fun e w' => ∃ a c, e = .returned (.slice a q c) ∧ Hid (GrsIn (fun _ => True) w' (.slice a q c) A) ∧ Below U.heap.size U w') := fun M U h1 h2 => by
    refine (keeperAll_any M first _ _ L O U h1 (HG.out.below h2) (HO.out.below h2) HL5.out).mono ?_
    rintro e w' ⟨u, rfl, h3, h4⟩
    rw [← hA] at h3
    obtain ⟨a, c, e, _, _⟩ := h3.len
    rw [← hq] at e
    subst e
    exact ⟨a, c, rfl, h3, h4⟩
  clear hA hq
  go_wp2_with fail
  have B3 : Hid (Below w.heap.size w (w2.alloc (.cells #[.int .i64 first, .slice ga ln gc, .slice oa lo oc] 221))) := B2.out.alloc B2.out.size _
  have M3 : Hid (Blk (w2.alloc (.cells #[.int .i64 first, .slice ga ln gc, .slice oa lo oc] 221)) w2.heap.size #[.int .i64 first, .slice ga ln gc, .slice oa lo oc] 221) := Blk.new _ _ _
  refine (HALL.out _ _ M3.out B3.out).mono ?_
  rintro e w4 ⟨ua, uc, rfl, GU, hb4⟩
  have B4 : Hid (Below w.heap.size w w4) := B3.out.trans (hb4.mono B3.out.size)
  have M4 : Hid (Blk w4 w2.heap.size #[.int .i64 first, .slice ga ln gc, .slice oa lo oc] 221) := M3.out.below hb4 M3.out.lt
  clear hb4 B3 M3 B2 K2 k0 k1 k2 HALL
  obtain ⟨k0, k1, k2⟩ := M4.out.three
  by_cases hq0 : q = 0
  · have e1 : E = 5 := by rw [HE2.out, if_neg (by omega), if_neg (by omega), if_pos hq0]
    have HEE : Hid (E = 5 ∧ N = 0) := ⟨e1, HBAD.out 5 e1 (by decide)⟩
    clear e1
    subst hq0
    go_wp2
    obtain ⟨e1, e2⟩ := HEE.out
    rw [e1, e2]
    go_ret2
    exact ⟨rfl, B4.out⟩
  have e1 : E = 0 := by rw [HE2.out, if_neg (by omega), if_neg (by omega), if_neg hq0]
  have HEE : Hid (E = 0 ∧ N = first + seekI A t (q - 1)) := ⟨e1, by rw [HNN.out, if_pos e1]⟩
  obtain ⟨ao, c', eu, _, _, hc⟩ := GU.out
  rw [← HQ.out] at eu
  injection eu with eu eu2 eu3
  clear eu2
  subst eu eu3
  have HTM : Hid (∀ i, i < q → ∃ b off sa sn sc b2 off2, ua = some ⟨b, off, none⟩ ∧ b < w4.heap.size ∧ w4.cell? ⟨b, off + i, none⟩ = some (.slice (some ⟨b2, off2, none⟩) sn sc) ∧ 0 < sn ∧ sa = (frAt (grAt A i) 0).time ∧ w4.cell? ⟨b2, off2, none⟩ = some (.int .i64 sa)) := fun i hi => by
    obtain ⟨b, off, e1, hb, _, sv, c0, hsv⟩ := hc i (by rw [← HQ.out]; exact hi)
    have hgr : gchk (grAt A i) = 0 := HAR.out _ (by unfold grAt; rw [List.getElem?_eq_getElem (by rw [← HQ.out]; exact hi)]; exact List.getElem_mem _)
    obtain ⟨h0, _⟩ := gchk_zero.1 hgr
    obtain ⟨sa, sc, es, _, _, hf⟩ := hsv
    obtain ⟨b2, off2, e2, _, _, pv, d0, _⟩ := hf 0 h0
    subst e2
    exact ⟨b, off, _, _, sc, b2, off2, e1, hb, by rw [c0, es], h0, rfl, by simpa using d0⟩
  have hqi : ((q : Int) == 0) = false := by simp; omega
  obtain ⟨q1, hq1⟩ : ∃ q1, q1 = q - 1 := ⟨_, rfl⟩
  have hq1i : (q : Int) - 1 = (q1 : Int) := by omega
  rw [← hq1] at HEE
  have hq1l : q1 < q := by omega
  clear e1 hc HAR HE2 HNN HBAD hq1
  go_wp2_with fail
  go_loopw [9] (fun s wr => ∃ i : Nat, i ≤ q1 ∧ s = .int .i64 i ∧ Hid (seekI A t q1 = seekI A t i) ∧ wr = w4)
    (fun s _ => (intOf s).toNat)
  case atStart => exact ⟨q1, Nat.le_refl _, by go_num, (show _ = _ from rfl), rfl⟩
  case round =>
    obtain ⟨i, hi, rfl, HI, rfl⟩ := hrel
    by_cases hi0 : i = 0
    · subst hi0
      go_wp2
      obtain ⟨e1, e2⟩ := HEE.out
      rw [e1, e2, HI.out]
      go_ret2
      exact ⟨by simp [seekI], B4.out⟩
    · obtain ⟨b, off, sa, sn, sc, b2, off2, eu, hb, c0, hsn, hsa, d0⟩ := HTM.out i (by omega)
      have hi0i : (0 : Int) < (i : Int) := by omega
      have hiq : (i : Int) < (q : Int) := by omega
      have hsni : (0 : Int) < (sn : Int) := by omega
      have HSA : Hid (sa = (frAt (grAt A i) 0).time) := hsa
      obtain ⟨i1, hi1⟩ : ∃ i1, i = i1 + 1 := ⟨i - 1, by omega⟩
      have HI1 : Hid (i = i1 + 1) := hi1
      have hi1i : (i : Int) - 1 = (i1 : Int) := by omega
      clear hsa hi1
      subst eu
      by_cases hle : sa ≤ t
      · have HS : Hid (seekI A t i = i) := seekI_hit HI1.out (by rw [← HSA.out]; exact hle)
        go_wp2
        obtain ⟨e1, e2⟩ := HEE.out
        rw [e1, e2, HI.out, HS.out]
        go_ret2
        exact ⟨rfl, B4.out⟩
      · have HS : Hid (seekI A t q1 = seekI A t i1) := HI.out.trans (seekI_miss HI1.out (by rw [← HSA.out]; exact hle))
        go_wp2_with fail
        go_roundw
        case rel => exact ⟨i1, by have := HI1.out; omega, by go_num, HS, by first | rfl | trivial⟩
        case measure => simp [intOf]; omega

end Go.Proofs.YtnpaejknoipicagGreat

namespace Go.Proofs.YtnpaejknoipicagGreat

theorem trimD_done : ∀ L : List (List Fr), fullB (L.drop (trimD L)) = false
  | [] => fullB_nil
  | g :: r => by
    unfold trimD
    split
    · rw [List.drop_succ_cons]; exact trimD_done r
    · rename_i h; simpa using h
theorem closedG_cases (O : List Fr) (f : Fr) : (closedG O f = [] ∧ ¬ (f.key = true ∧ 0 < O.length)) ∨ (closedG O f = [O] ∧ f.key = true ∧ 0 < O.length) := by
  unfold closedG
  by_cases h : (f.key && decide (0 < O.length)) = true
  · rw [if_pos h]
    simp only [Bool.and_eq_true, decide_eq_true_eq] at h
    exact .inr ⟨rfl, h⟩
  · rw [if_neg h]
    simp only [Bool.and_eq_true, decide_eq_true_eq] at h
    exact .inl ⟨rfl, h⟩
theorem addsE_zero {first : Int} {L : List (List Fr)} {O : List Fr} {f : Fr} (h : addsE first L O f = 0) : stchk first L O = 0 ∧ f.chk = 0 ∧ first + trimD (L ++ closedG O f) ≤ 100000 ∧ addsF first L O f = first + trimD (L ++ closedG O f) ∧ addsL first L O f = (L ++ closedG O f).drop (trimD (L ++ closedG O f)) ∧ addsO first L O f = growG O f ∧ addsB first L O f = decide (0 < (closedG O f).length) := by
  have h0 := h
  unfold addsE at h0
  by_cases h1 : stchk first L O = 0
  · rw [if_pos h1] at h0
    by_cases h2 : f.chk = 0
    · rw [if_pos h2] at h0
      by_cases h3 : 100000 < first + trimD (L ++ closedG O f)
      · rw [if_pos h3] at h0; cases h0
      · exact ⟨h1, h2, by omega, if_pos h, if_pos h, if_pos h, if_pos h⟩
    · rw [if_neg h2] at h0; exact absurd h0 h2
  · rw [if_neg h1] at h0; exact absurd h0 h1
theorem growG_right {O : List Fr} {f : Fr} (hO : O = [] ∨ gchk O = 0) (hf : f.chk = 0) : growG O f = [] ∨ gchk (growG O f) = 0 := by
  have := stepG_right (s := ([], O)) (f := f) ⟨fun g hg => absurd hg List.not_mem_nil, hO⟩ hf
  exact this.2
/-- what Add leaves is right -/
theorem adds_right {first : Int} {L : List (List Fr)} {O : List Fr} {f : Fr} (h : addsE first L O f = 0) : stchk (addsF first L O f) (addsL first L O f) (addsO first L O f) = 0 := by
  obtain ⟨h1, h2, h3, e1, e2, e3, _⟩ := addsE_zero h
  obtain ⟨a1, a2, a3, a4, a5, a6⟩ := stchk_zero.1 h1
  rw [e1, e2, e3]
  have hd := trimD_done (L ++ closedG O f)
  simp only [fullB, Bool.or_eq_false_iff, decide_eq_false_iff_not] at hd
  refine stchk_zero.2 ⟨by omega, h3, by omega, fun g hg => ?_, hd.2, growG_right a6 h2⟩
  have hm := List.mem_of_mem_drop hg
  rcases List.mem_append.1 hm with hm | hm
  · exact a4 g hm
  · rcases closedG_cases O f with ⟨e, _⟩ | ⟨e, _, h0⟩
    · rw [e] at hm; exact absurd hm List.not_mem_nil
    · rw [e] at hm
      simp at hm
      subst hm
      rcases a6 with a6 | a6
      · rw [a6] at h0; simp at h0
      · exact a6
/-- what Get says of a store that is right -/
theorem getE_in {first : Int} {L : List (List Fr)} {O : List Fr} (h : stchk first L O = 0) {n : Int} {d : Nat} (hn : n = first + d) (hd : d < (allG L O).length) : getE first L O n = 0 ∧ getG first L O n = grAt (allG L O) d := by
  have e : getE first L O n = 0 := by
    unfold getE; rw [if_pos h, if_neg (by omega), if_neg (by omega)]
  refine ⟨e, ?_⟩
  unfold getG; rw [if_pos e]
  congr 1; omega
theorem getE_out {first : Int} {L : List (List Fr)} {O : List Fr} (h : stchk first L O = 0) {n : Int} (hn : n < first ∨ first + (allG L O).length ≤ n) : getE first L O n = 5 ∧ getG first L O n = [] := by
  have e : getE first L O n = 5 := by
    unfold getE; rw [if_pos h]
    by_cases h1 : n < first
    · rw [if_pos h1]
    · rw [if_neg h1, if_pos (by omega)]
  exact ⟨e, by unfold getG; rw [if_neg (by rw [e]; decide)]⟩
theorem seekE_zero {first : Int} {L : List (List Fr)} {O : List Fr} {t : Int} (h : seekE first L O t = 0) : stchk first L O = 0 ∧ 0 ≤ t ∧ t ≤ 1000000 ∧ 0 < (allG L O).length ∧ seekN first L O t = first + seekI (allG L O) t ((allG L O).length - 1) := by
  have h0 := h
  unfold seekE at h0
  by_cases h1 : stchk first L O = 0
  · rw [if_pos h1] at h0
    by_cases h2 : t < 0
    · rw [if_pos h2] at h0; cases h0
    rw [if_neg h2] at h0
    by_cases h3 : 1000000 < t
    · rw [if_pos h3] at h0; cases h0
    rw [if_neg h3] at h0
    by_cases h4 : (allG L O).length = 0
    · rw [if_pos h4] at h0; cases h0
    exact ⟨h1, by omega, by omega, by omega, if_pos h⟩
  · rw [if_neg h1] at h0; exact absurd h0 h1

end Go.Proofs.YtnpaejknoipicagGreat

namespace Go.Proofs.YtnpaejknoipicagGreat
open Go.RowKit

theorem num_one (l : List UInt8) : num (l.take 1) = (l[0]?.getD 0).toNat := by
  cases l with
  | nil => rfl
  | cons x r => simp [num]

set_option maxHeartbeats 2000000 in
theorem closure_ok (R H P c : Nat) (l : List UInt8) (hv s0 t0 f0 e0 k0 x0 : Value) (w : World)
    (bR : Blk w R #[.string (ba l)] 217) (bH : Blk w H #[hv] 3) (bP : Blk w P #[s0, t0, f0, e0, k0, x0] 63)
    (hRH : R ≠ H) (hRP : R ≠ P) (hHP : H ≠ P) (h8 : 8 ≤ l.length) (hc : num ((l.drop 7).take 1) = (c : Int)) (hcl : 8 + c ≤ l.length) (hc255 : c ≤ 255) :
    Calls Tryz.prog 137 #[.pointer (some ⟨R, 0, none⟩), .pointer (some ⟨H, 0, none⟩), .pointer (some ⟨P, 0, none⟩)] w fun e w' =>
      e = .returned (.tuple #[]) ∧ Blk w' R #[.string (ba (l.drop (8 + c)))] 217 ∧ Blk w' H #[.int .i64 (num (l.take 1))] 3 ∧
      Blk w' P #[.int .i64 (num ((l.drop 1).take 2)), .int .i64 (num ((l.drop 3).take 4)), f0, e0, k0, .string (ba ((l.drop 8).take c))] 63 ∧ Kept [R, H, P] w w' := by
  have HC : Hid (num ((l.drop 7).take 1) = (c : Int)) := hc
  clear hc
  have sub : ∀ {a b : World}, Kept [R] a b → Kept [R, H, P] a b := fun h => ⟨h.os, h.tape, h.output, h.size, fun k hk hS => h.block k hk (fun hm => hS (by simp at hm ⊢; exact .inl hm))⟩
  have HSub := @id (Hid (∀ {a b : World}, Kept [R] a b → Kept [R, H, P] a b)) sub
  clear sub
  obtain ⟨m1, hm1⟩ : ∃ m, m = num (l.take 1) := ⟨_, rfl⟩
  obtain ⟨r1, hr1⟩ : ∃ r, r = l.drop 1 := ⟨_, rfl⟩
  obtain ⟨m2, hm2⟩ : ∃ m, m = num (r1.take 2) := ⟨_, rfl⟩
  obtain ⟨r2, hr2⟩ : ∃ r, r = r1.drop 2 := ⟨_, rfl⟩
  obtain ⟨m3, hm3⟩ : ∃ m, m = num (r2.take 4) := ⟨_, rfl⟩
  obtain ⟨r3, hr3⟩ : ∃ r, r = r2.drop 4 := ⟨_, rfl⟩
  obtain ⟨r4, hr4⟩ : ∃ r, r = r3.drop 1 := ⟨_, rfl⟩
  obtain ⟨x5, hx5⟩ : ∃ x, x = ba (r4.take c) := ⟨_, rfl⟩
  obtain ⟨r5, hr5⟩ : ∃ r, r = r4.drop c := ⟨_, rfl⟩
  have l1 : r1.length = l.length - 1 := by rw [hr1]; simp
  have l2 : r2.length = l.length - 3 := by rw [hr2]; simp; omega
  have l3 : r3.length = l.length - 7 := by rw [hr3]; simp; omega
  have l4 : r4.length = l.length - 8 := by rw [hr4]; simp; omega
  have hm4 : (c : Int) = num (r3.take 1) := by rw [← HC.out, hr3, hr2, hr1]; simp
  have f2 : m2 = num ((l.drop 1).take 2) := by rw [hm2, hr1]
  have f3 : m3 = num ((l.drop 3).take 4) := by rw [hm3, hr2, hr1]; simp
  have f5 : x5 = ba ((l.drop 8).take c) := by rw [hx5, hr4, hr3, hr2, hr1]; simp
  have g5 : r5 = l.drop (8 + c) := by rw [hr5, hr4, hr3, hr2, hr1]; simp
  rw [← hm1, ← f2, ← f3, ← f5, ← g5]
  have E1 : Hid _ := hm1
  have E2 : Hid _ := hm2
  have E3 : Hid _ := hm3
  have E4 : Hid _ := hm4
  have E5 : Hid _ := hx5
  have D1 : Hid _ := hr1
  have D2 : Hid _ := hr2
  have D3 : Hid _ := hr3
  have D4 : Hid _ := hr4
  have D5 : Hid _ := hr5
  have q1 : 2 ≤ r1.length := by omega
  have q2 : 4 ≤ r2.length := by omega
  have q3 : 1 ≤ r3.length := by omega
  have q4 : c ≤ r4.length := by omega
  clear hm1 hm2 hm3 hm4 hx5 hr1 hr2 hr3 hr4 hr5 f2 f3 f5 g5 l1 l2 l3 l4
  go_enter Tryz.func137, Tryz.ntmps137
  go_wp2_with fail
  refine (numberL_some R 1 1 m1 l r1 _ E1.out D1.out rfl bR (by omega) (by decide)).mono ?_
  rintro e w1 ⟨rfl, bR1, k1⟩
  have bH1 := bH.kept k1 (by simpa using fun h => hRH h.symm)
  have bP1 := bP.kept k1 (by simpa using fun h => hRP h.symm)
  have cH := bH1.cell (j := 0) (u := hv) rfl
  have fH := bH1.free 0
  go_wp2_with fail
  have bR1' := bR1.other (a := ⟨H, 0, none⟩) hRH (.int .i64 m1)
  have bP1' := bP1.other (a := ⟨H, 0, none⟩) (fun h => hHP h.symm) (.int .i64 m1)
  have bH1' : Blk _ H #[.int .i64 m1] 3 := bH1.set 0 (.int .i64 m1)
  have K1 := (HSub.out k1).setCell (p := ⟨H, 0, none⟩) (by simp) (.int .i64 m1)
  refine (numberL_some R 2 2 m2 r1 r2 _ E2.out D2.out rfl bR1' q1 (by decide)).mono ?_
  rintro e w2 ⟨rfl, bR2, k2⟩
  have bH2 := bH1'.kept k2 (by simpa using fun h => hRH h.symm)
  have bP2 := bP1'.kept k2 (by simpa using fun h => hRP h.symm)
  have K2 := K1.trans (HSub.out k2)
  have cP := bP2.cell (j := 0) (u := s0) rfl
  have fP := bP2.free 0
  clear cH fH bR1 bR1' bP1 bP1' bH1 bH1' K1 k1 k2
  go_wp2_with fail
  have bR2' := bR2.other (a := ⟨P, 0, none⟩) hRP (.int .i64 m2)
  have bP2' : Blk _ P #[.int .i64 m2, t0, f0, e0, k0, x0] 63 := bP2.set 0 (.int .i64 m2)
  have bH2' := bH2.other (a := ⟨P, 0, none⟩) hHP (.int .i64 m2)
  have K2' := K2.setCell (p := ⟨P, 0, none⟩) (by simp) (.int .i64 m2)
  refine (numberL_some R 4 4 m3 r2 r3 _ E3.out D3.out rfl bR2' q2 (by decide)).mono ?_
  rintro e w3 ⟨rfl, bR3, k3⟩
  have bH3 := bH2'.kept k3 (by simpa using fun h => hRH h.symm)
  have bP3 := bP2'.kept k3 (by simpa using fun h => hRP h.symm)
  have K3 := K2'.trans (HSub.out k3)
  have cP1 := bP3.cell (j := 1) (u := t0) rfl
  have fP1 := bP3.free 1
  clear cP fP bR2 bR2' bP2 bP2' bH2 bH2' K2 K2' k3
  go_wp2_with fail
  have bR3' := bR3.other (a := ⟨P, 1, none⟩) hRP (.int .i64 m3)
  have bP3' : Blk _ P #[.int .i64 m2, .int .i64 m3, f0, e0, k0, x0] 63 := bP3.set 1 (.int .i64 m3)
  have bH3' := bH3.other (a := ⟨P, 1, none⟩) hHP (.int .i64 m3)
  have K3' := K3.setCell (p := ⟨P, 1, none⟩) (by simp) (.int .i64 m3)
  refine (numberL_some R 1 1 (c : Int) r3 r4 _ E4.out D4.out rfl bR3' q3 (by decide)).mono ?_
  rintro e w4 ⟨rfl, bR4, k4⟩
  have bH4 := bH3'.kept k4 (by simpa using fun h => hRH h.symm)
  have bP4 := bP3'.kept k4 (by simpa using fun h => hRP h.symm)
  have K4 := K3'.trans (HSub.out k4)
  clear cP1 fP1 bR3 bR3' bP3 bP3' bH3 bH3' K3 K3' k4
  go_wp2_with fail
  refine (textL_some R c x5 r4 r5 _ E5.out D5.out bR4 q4 hc255).mono ?_
  rintro e w5 ⟨rfl, bR5, k5⟩
  have bH5 := bH4.kept k5 (by simpa using fun h => hRH h.symm)
  have bP5 := bP4.kept k5 (by simpa using fun h => hRP h.symm)
  have K5 := K4.trans (HSub.out k5)
  have cP5 := bP5.cell (j := 5) (u := x0) rfl
  have fP5 := bP5.free 5
  clear bR4 bP4 bH4 K4 k5
  go_wp2
  go_end0
  exact ⟨rfl, bR5.other (a := ⟨P, 5, none⟩) hRP _, bH5.other (a := ⟨P, 5, none⟩) hHP _, bP5.set 5 _, K5.setCell (p := ⟨P, 5, none⟩) (by simp) _⟩

set_option maxHeartbeats 4000000 in
theorem closure_few (R H P : Nat) (l : List UInt8) (hv s0 t0 f0 e0 k0 x0 : Value) (w : World)
    (bR : Blk w R #[.string (ba l)] 217) (bH : Blk w H #[hv] 3) (bP : Blk w P #[s0, t0, f0, e0, k0, x0] 63)
    (hRH : R ≠ H) (hRP : R ≠ P) (hHP : H ≠ P) (hfew : l.length < 8 ∨ ∃ c : Nat, num ((l.drop 7).take 1) = (c : Int) ∧ l.length < 8 + c) :
    Calls Tryz.prog 137 #[.pointer (some ⟨R, 0, none⟩), .pointer (some ⟨H, 0, none⟩), .pointer (some ⟨P, 0, none⟩)] w fun e w' =>
      e = .panicked few ∧ Kept [R, H, P] w w' := by
  have sub : ∀ {a b : World}, Kept [R] a b → Kept [R, H, P] a b := fun h => ⟨h.os, h.tape, h.output, h.size, fun k hk hS => h.block k hk (fun hm => hS (by simp at hm ⊢; exact .inl hm))⟩
  have HSub := @id (Hid (∀ {a b : World}, Kept [R] a b → Kept [R, H, P] a b)) sub
  clear sub
  obtain ⟨m1, hm1⟩ : ∃ m, m = num (l.take 1) := ⟨_, rfl⟩
  obtain ⟨r1, hr1⟩ : ∃ r, r = l.drop 1 := ⟨_, rfl⟩
  obtain ⟨m2, hm2⟩ : ∃ m, m = num (r1.take 2) := ⟨_, rfl⟩
  obtain ⟨r2, hr2⟩ : ∃ r, r = r1.drop 2 := ⟨_, rfl⟩
  obtain ⟨m3, hm3⟩ : ∃ m, m = num (r2.take 4) := ⟨_, rfl⟩
  obtain ⟨r3, hr3⟩ : ∃ r, r = r2.drop 4 := ⟨_, rfl⟩
  obtain ⟨m4, hm4⟩ : ∃ m, m = num (r3.take 1) := ⟨_, rfl⟩
  obtain ⟨r4, hr4⟩ : ∃ r, r = r3.drop 1 := ⟨_, rfl⟩
  have l1 : r1.length = l.length - 1 := by rw [hr1]; simp
  have l2 : r2.length = l.length - 3 := by rw [hr2]; simp; omega
  have l3 : r3.length = l.length - 7 := by rw [hr3]; simp; omega
  have l4 : r4.length = l.length - 8 := by rw [hr4]; simp; omega
  have hq4 : 8 ≤ l.length → (r4.length : Int) < m4 := by
    intro h
    rcases hfew with hf | ⟨c, hc, hcl⟩
    · omega
    · have : m4 = (c : Int) := by rw [hm4, ← hc, hr3, hr2, hr1]; simp
      omega
  have E1 : Hid _ := hm1
  have E2 : Hid _ := hm2
  have E3 : Hid _ := hm3
  have E4 : Hid _ := hm4
  have D1 : Hid _ := hr1
  have D2 : Hid _ := hr2
  have D3 : Hid _ := hr3
  have D4 : Hid _ := hr4
  have L1 : Hid _ := l1
  have L2 : Hid _ := l2
  have L3 : Hid _ := l3
  have HQ : Hid _ := hq4
  clear hm1 hm2 hm3 hm4 hr1 hr2 hr3 hr4 l1 l2 l3 l4 hq4 hfew
  go_enter Tryz.func137, Tryz.ntmps137
  go_wp2_with fail
  by_cases hA : l.length < 1
  · refine (numberL_few R l 1 _ bR (by omega)).mono ?_
    rintro e w1 ⟨rfl, rfl⟩
    go_wp2_with fail
    exact ⟨rfl, rfl, Kept.refl _ _⟩
  refine (numberL_some R 1 1 m1 l r1 _ E1.out D1.out rfl bR (by omega) (by decide)).mono ?_
  rintro e w1 ⟨rfl, bR1, k1⟩
  have bH1 := bH.kept k1 (by simpa using fun h => hRH h.symm)
  have bP1 := bP.kept k1 (by simpa using fun h => hRP h.symm)
  have cH := bH1.cell (j := 0) (u := hv) rfl
  have fH := bH1.free 0
  go_wp2_with fail
  have bR1' := bR1.other (a := ⟨H, 0, none⟩) hRH (.int .i64 m1)
  have bP1' := bP1.other (a := ⟨H, 0, none⟩) (fun h => hHP h.symm) (.int .i64 m1)
  have K1 := (HSub.out k1).setCell (p := ⟨H, 0, none⟩) (by simp) (.int .i64 m1)
  by_cases hB : l.length < 3
  · refine (numberL_few R r1 2 _ bR1' (by have := L1.out; omega)).mono ?_
    rintro e w2 ⟨rfl, rfl⟩
    go_wp2_with fail
    exact ⟨rfl, rfl, K1⟩
  refine (numberL_some R 2 2 m2 r1 r2 _ E2.out D2.out rfl bR1' (by have := L1.out; omega) (by decide)).mono ?_
  rintro e w2 ⟨rfl, bR2, k2⟩
  have bP2 := bP1'.kept k2 (by simpa using fun h => hRP h.symm)
  have K2 := K1.trans (HSub.out k2)
  have cP := bP2.cell (j := 0) (u := s0) rfl
  have fP := bP2.free 0
  clear cH fH bR1 bR1' bP1 bP1' bH1 K1 k1 k2
  go_wp2_with fail
  have bR2' := bR2.other (a := ⟨P, 0, none⟩) hRP (.int .i64 m2)
  have bP2' : Blk _ P #[.int .i64 m2, t0, f0, e0, k0, x0] 63 := bP2.set 0 (.int .i64 m2)
  have K2' := K2.setCell (p := ⟨P, 0, none⟩) (by simp) (.int .i64 m2)
  by_cases hC : l.length < 7
  · refine (numberL_few R r2 4 _ bR2' (by have := L2.out; omega)).mono ?_
    rintro e w3 ⟨rfl, rfl⟩
    go_wp2_with fail
    exact ⟨rfl, rfl, K2'⟩
  refine (numberL_some R 4 4 m3 r2 r3 _ E3.out D3.out rfl bR2' (by have := L2.out; omega) (by decide)).mono ?_
  rintro e w3 ⟨rfl, bR3, k3⟩
  have bP3 := bP2'.kept k3 (by simpa using fun h => hRP h.symm)
  have K3 := K2'.trans (HSub.out k3)
  have cP1 := bP3.cell (j := 1) (u := t0) rfl
  have fP1 := bP3.free 1
  clear cP fP bR2 bR2' bP2 bP2' K2 K2' k3
  go_wp2_with fail
  have bR3' := bR3.other (a := ⟨P, 1, none⟩) hRP (.int .i64 m3)
  have K3' := K3.setCell (p := ⟨P, 1, none⟩) (by simp) (.int .i64 m3)
  by_cases hD : l.length < 8
  · refine (numberL_few R r3 1 _ bR3' (by have := L3.out; omega)).mono ?_
    rintro e w4 ⟨rfl, rfl⟩
    go_wp2_with fail
    exact ⟨rfl, rfl, K3'⟩
  refine (numberL_some R 1 1 m4 r3 r4 _ E4.out D4.out rfl bR3' (by have := L3.out; omega) (by decide)).mono ?_
  rintro e w4 ⟨rfl, bR4, k4⟩
  have K4 := K3'.trans (HSub.out k4)
  clear cP1 fP1 bR3 bR3' bP3 K3 K3' k4
  go_wp2_with fail
  refine (textL_few R r4 m4 _ bR4 (HQ.out (by omega))).mono ?_
  rintro e w5 ⟨rfl, rfl⟩
  go_wp2_with fail
  exact ⟨rfl, rfl, K4⟩

end Go.Proofs.YtnpaejknoipicagGreat

namespace Go.Proofs.YtnpaejknoipicagGreat
open Go.RowKit

theorem catch_idle (p q : Addr) (w : World) :
    CallsD Tryz.prog 159 #[.pointer (some p), .pointer (some q)] .returning w fun e u' w' => e = .returned (.tuple #[]) ∧ u' = .returning ∧ w' = w := by
  refine callsD_of_wpS Tryz.func159 rfl fun c₀ cs hu => ?_
  apply wpS_seq
  apply wpS_region
  simp [wpOpsS, go_sem, recoverD, hu, Tryz.ntmps159, Exit.thenS]
  refine wpS_of_wp ?_
  rw [show (#[Value.pointer (some p), Value.pointer (some q)] ++ ((Array.replicate 14 undef).setIfInBounds 3 Value.nilIface).setIfInBounds 0 Value.nilIface) = #[.pointer (some p), .pointer (some q), .nilIface, undef, undef, .nilIface, undef, undef, undef, undef, undef, undef, undef, undef, undef, undef] from rfl]
  go_wp2
  cases c₀
  simp_all [bodyPostS, results, Tryz.results159]

theorem assert_few (w : World) : (Instr.typeAssert (.iface 214 (.agg #[])) 20 214 true).run Tryz.prog w = .ok (.tuple #[.agg #[], .bool true]) w := by kernel_rfl

theorem catch_few (b c : Nat) (x y : Value) (older : List PanicEntry) (w : World) (hb : Blk w b #[x] 9) (hc : Blk w c #[y] 4) (hbc : b ≠ c) :
    CallsD Tryz.prog 159 #[.pointer (some ⟨b, 0, none⟩), .pointer (some ⟨c, 0, none⟩)] (.panicking ({ v := .iface 214 (.agg #[]), recovered := false } :: older)) w fun e u' w' =>
      e = .returned (.tuple #[]) ∧ u' = .panicking ({ v := .iface 214 (.agg #[]), recovered := true } :: older) ∧ w' = ((w.alloc (.cells #[] 214)).setCell ⟨b, 0, none⟩ (.string ⟨#[]⟩)).setCell ⟨c, 0, none⟩ (.bool false) := by
  have hta := assert_few
  have hb0 := (hb.alloc (.cells #[] 214)).cell (j := 0) (u := x) rfl
  have hbz := (hb.alloc (.cells #[] 214)).free 0
  have hc1 := (hc.alloc (.cells #[] 214)).other (a := ⟨b, 0, none⟩) (fun h => hbc h.symm) (.string ⟨#[]⟩)
  have hc0 := hc1.cell (j := 0) (u := y) rfl
  have hcz := hc1.free 0
  refine callsD_of_wpS Tryz.func159 rfl fun c₀ cs hu => ?_
  apply wpS_seq
  apply wpS_region
  simp [wpOpsS, go_sem, recoverD, hu, Tryz.ntmps159, Exit.thenS]
  refine wpS_of_wp ?_
  rw [show (#[Value.pointer (some ⟨b, 0, none⟩), Value.pointer (some ⟨c, 0, none⟩)] ++ ((Array.replicate 14 undef).setIfInBounds 3 (Value.iface 214 (Value.agg #[]))).setIfInBounds 0 (Value.iface 214 (Value.agg #[]))) = #[.pointer (some ⟨b, 0, none⟩), .pointer (some ⟨c, 0, none⟩), .iface 214 (.agg #[]), undef, undef, .iface 214 (.agg #[]), undef, undef, undef, undef, undef, undef, undef, undef, undef, undef] from rfl]
  go_wp2
  cases c₀
  simp_all [bodyPostS, results, Tryz.results159]

/-- the memory as raw.Read begins to read -/
theorem read_start (w : World) (l : List UInt8) : ∀ W0, W0 = ((w.alloc (.cells #[.string ⟨#[]⟩] 9)).alloc (.cells #[.bool false] 4)).alloc (.cells #[.string (ba l)] 217) →
    Blk W0 w.heap.size #[.string ⟨#[]⟩] 9 ∧ Blk W0 (w.heap.size + 1) #[.bool false] 4 ∧ Blk W0 (w.heap.size + 1 + 1) #[.string (ba l)] 217 ∧ Below w.heap.size w W0 ∧ W0.heap.size = w.heap.size + 3 := by
  intro W0 h
  subst h
  refine ⟨((Blk.new w _ _).alloc _).alloc _, ?_, ?_, by go_grown, by simp⟩
  · have := Blk.new (w.alloc (.cells #[.string ⟨#[]⟩] 9)) #[.bool false] 4
    rw [World.size_alloc] at this
    exact this.alloc _
  · have := Blk.new ((w.alloc (.cells #[.string ⟨#[]⟩] 9)).alloc (.cells #[.bool false] 4)) #[.string (ba l)] 217
    rw [World.size_alloc, World.size_alloc] at this
    exact this

set_option maxHeartbeats 2000000 in
theorem whole_ok (H P c : Nat) (l : List UInt8) (hv s0 t0 f0 e0 k0 x0 : Value) (w : World)
    (bH : Blk w H #[hv] 3) (bP : Blk w P #[s0, t0, f0, e0, k0, x0] 63)
    (hHP : H ≠ P) (h8 : 8 ≤ l.length) (hc : num ((l.drop 7).take 1) = (c : Int)) (hcl : 8 + c ≤ l.length) (hc255 : c ≤ 255) :
    Calls Tryz.prog 136 #[.string (ba l), .func (.func 137) #[] #[.pointer (some ⟨H, 0, none⟩), .pointer (some ⟨P, 0, none⟩)]] w fun e w' =>
      e = .returned (.tuple #[.string (ba (l.drop (8 + c))), .bool true]) ∧ Blk w' H #[.int .i64 (num (l.take 1))] 3 ∧
      Blk w' P #[.int .i64 (num ((l.drop 1).take 2)), .int .i64 (num ((l.drop 3).take 4)), f0, e0, k0, .string (ba ((l.drop 8).take c))] 63 ∧ Kept [H, P] w w' := by
  have hmf : ∀ (fn : Fn) (first cap : Array Value) (w : World), (Instr.makeFunc fn first cap).run Tryz.prog w = .ok (.func fn first cap) w := fun _ _ _ _ => rfl
  have HC : Hid _ := hc
  obtain ⟨r, hr⟩ : ∃ r, r = l.drop (8 + c) := ⟨_, rfl⟩
  rw [← hr]
  have HR : Hid (r = l.drop (8 + c)) := hr
  clear hc hr
  go_enter_defers Tryz.func136, Tryz.ntmps136
  go_wp2_with fail
  obtain ⟨W0, hW0⟩ : ∃ W0, W0 = ((w.alloc (.cells #[.string ⟨#[]⟩] 9)).alloc (.cells #[.bool false] 4)).alloc (.cells #[.string (ba l)] 217) := ⟨_, rfl⟩
  obtain ⟨bA0, bB0, bR0, be0, hs0⟩ := read_start w l W0 hW0
  have bH0 : Blk W0 H #[hv] 3 := bH.below be0 bH.lt
  have bP0 : Blk W0 P #[s0, t0, f0, e0, k0, x0] 63 := bP.below be0 bP.lt
  have K0 : Kept [H, P] w W0 := (Kept.refl _ w).below be0
  rw [← hW0]
  clear hW0
  have hHl := bH.lt
  have hPl := bP.lt
  refine (closure_ok (w.heap.size + 1 + 1) H P c l hv s0 t0 f0 e0 k0 x0 W0 bR0 bH0 bP0 (by omega) (by omega) hHP h8 HC.out hcl hc255).mono ?_
  rintro e w1 ⟨rfl, bR1, bH1, bP1, k1⟩
  have bA1 := bA0.kept k1 (by simp; omega)
  have bB1 := bB0.kept k1 (by simp; omega)
  have K1 := K0.more k1 (by intro j hj hl; simp at hj ⊢; omega)
  rw [← HR.out] at bR1
  have cR := bR1.cell (j := 0) (u := .string (ba r)) rfl
  have cA := bA1.cell (j := 0) (u := .string ⟨#[]⟩) rfl
  have fA := bA1.free 0
  have bB2 := bB1.other (a := ⟨w.heap.size, 0, none⟩) (by show w.heap.size + 1 ≠ w.heap.size; omega) (.string (ba r))
  have cB := bB2.cell (j := 0) (u := .bool false) rfl
  have fB := bB2.free 0
  clear k1 bR0 bA0 bB0 bH0 bP0 K0 bR1
  go_wp2
  have bA3 := (bA1.set 0 (.string (ba r))).other (a := ⟨w.heap.size + 1, 0, none⟩) (by show w.heap.size ≠ w.heap.size + 1; omega) (.bool true)
  have bB3 := bB2.set 0 (.bool true)
  have cA3 := bA3.cell (j := 0) (u := .string (ba r)) rfl
  have cB3 := bB3.cell (j := 0) (u := .bool true) rfl
  refine leaves_cons (f := 159) (args := #[.pointer (some ⟨w.heap.size, 0, none⟩), .pointer (some ⟨w.heap.size + 1, 0, none⟩)]) (by simp) (by simp [go_sem]) ?_
  refine (catch_idle ⟨w.heap.size, 0, none⟩ ⟨w.heap.size + 1, 0, none⟩ _).mono ?_
  rintro e u' w'' ⟨rfl, rfl, rfl⟩
  simp [Leaves, settle, results, Tryz.results136, go_sem, cA3, cB3]
  have bH3 := (bH1.other (a := ⟨w.heap.size, 0, none⟩) (by show H ≠ w.heap.size; omega) (.string (ba r))).other (a := ⟨w.heap.size + 1, 0, none⟩) (by show H ≠ w.heap.size + 1; omega) (.bool true)
  have bP3 := (bP1.other (a := ⟨w.heap.size, 0, none⟩) (by show P ≠ w.heap.size; omega) (.string (ba r))).other (a := ⟨w.heap.size + 1, 0, none⟩) (by show P ≠ w.heap.size + 1; omega) (.bool true)
  have K3 := (K1.setNew (p := ⟨w.heap.size, 0, none⟩) (Nat.le_refl _) (.string (ba r))).setNew (p := ⟨w.heap.size + 1, 0, none⟩) (Nat.le_succ _) (.bool true)
  exact ⟨bH3, by simpa using bP3, K3⟩

set_option maxHeartbeats 2000000 in
theorem whole_few (H P : Nat) (l : List UInt8) (hv s0 t0 f0 e0 k0 x0 : Value) (w : World)
    (bH : Blk w H #[hv] 3) (bP : Blk w P #[s0, t0, f0, e0, k0, x0] 63)
    (hHP : H ≠ P) (hfew : l.length < 8 ∨ ∃ c : Nat, num ((l.drop 7).take 1) = (c : Int) ∧ l.length < 8 + c) :
    Calls Tryz.prog 136 #[.string (ba l), .func (.func 137) #[] #[.pointer (some ⟨H, 0, none⟩), .pointer (some ⟨P, 0, none⟩)]] w fun e w' =>
      e = .returned (.tuple #[.string ⟨#[]⟩, .bool false]) ∧ Kept [H, P] w w' := by
  have hmf : ∀ (fn : Fn) (first cap : Array Value) (w : World), (Instr.makeFunc fn first cap).run Tryz.prog w = .ok (.func fn first cap) w := fun _ _ _ _ => rfl
  have HC : Hid _ := hfew
  clear hfew
  go_enter_defers Tryz.func136, Tryz.ntmps136
  go_wp2_with fail
  obtain ⟨W0, hW0⟩ : ∃ W0, W0 = ((w.alloc (.cells #[.string ⟨#[]⟩] 9)).alloc (.cells #[.bool false] 4)).alloc (.cells #[.string (ba l)] 217) := ⟨_, rfl⟩
  obtain ⟨bA0, bB0, bR0, be0, hs0⟩ := read_start w l W0 hW0
  have bH0 : Blk W0 H #[hv] 3 := bH.below be0 bH.lt
  have bP0 : Blk W0 P #[s0, t0, f0, e0, k0, x0] 63 := bP.below be0 bP.lt
  have K0 : Kept [H, P] w W0 := (Kept.refl _ w).below be0
  rw [← hW0]
  clear hW0
  have hHl := bH.lt
  have hPl := bP.lt
  refine (closure_few (w.heap.size + 1 + 1) H P l hv s0 t0 f0 e0 k0 x0 W0 bR0 bH0 bP0 (by omega) (by omega) hHP HC.out).mono ?_
  rintro e w1 ⟨rfl, k1⟩
  have bA1 := bA0.kept k1 (by simp; omega)
  have bB1 := bB0.kept k1 (by simp; omega)
  have K1 := K0.more k1 (by intro j hj hl; simp at hj ⊢; omega)
  clear k1 bR0 bA0 bB0 bH0 bP0 K0
  simp only [few]
  go_wp2
  refine leaves_cons (f := 159) (args := #[.pointer (some ⟨w.heap.size, 0, none⟩), .pointer (some ⟨w.heap.size + 1, 0, none⟩)]) (by simp) (by simp [go_sem]) ?_
  refine (catch_few w.heap.size (w.heap.size + 1) (.string ⟨#[]⟩) (.bool false) [] _ bA1 bB1 (by omega)).mono ?_
  rintro e u' w'' ⟨rfl, rfl, rfl⟩
  have bA2 := ((bA1.alloc (.cells #[] 214)).set 0 (.string ⟨#[]⟩)).other (a := ⟨w.heap.size + 1, 0, none⟩) (by show w.heap.size ≠ w.heap.size + 1; omega) (.bool false)
  have bB2 := ((bB1.alloc (.cells #[] 214)).other (a := ⟨w.heap.size, 0, none⟩) (by show w.heap.size + 1 ≠ w.heap.size; omega) (.string ⟨#[]⟩)).set 0 (.bool false)
  have cA2 := bA2.cell (j := 0) (u := .string ⟨#[]⟩) rfl
  have cB2 := bB2.cell (j := 0) (u := .bool false) rfl
  simp [Leaves, settle, results, Tryz.results136, go_sem, cA2, cB2]
  exact ((K1.alloc _).setNew (p := ⟨w.heap.size, 0, none⟩) (Nat.le_refl _) _).setNew (p := ⟨w.heap.size + 1, 0, none⟩) (Nat.le_succ _) _

end Go.Proofs.YtnpaejknoipicagGreat

namespace Go.Proofs.YtnpaejknoipicagGreat
open Go.RowKit

/-- a byte of a list -/
def at8 (l : List UInt8) (i : Nat) : Nat := (l[i]?.getD 0).toNat
theorem at8_lt (l : List UInt8) (i : Nat) : at8 l i < 256 := UInt8.toNat_lt _
/-- are they of a packet's form? -/
def formB (l : List UInt8) : Bool := decide (8 ≤ l.length) && decide (l.length = 8 + at8 l 7) && decide (128 ≤ at8 l 0) && decide (at8 l 0 ≤ 135)
/-- the packet that bytes of that form tell -/
def Pk.told (l : List UInt8) : Pk := ⟨num ((l.drop 1).take 2), num ((l.drop 3).take 4), at8 l 0 % 2 == 1, at8 l 0 / 2 % 2 == 1, at8 l 0 / 4 % 2 == 1, ba (l.drop 8)⟩
def Pk.dec (l : List UInt8) : Pk × Int := if formB l then (if (Pk.told l).chk == 0 then (Pk.told l, 0) else (Pk.zero, (Pk.told l).chk)) else (Pk.zero, 1)

theorem num_at (l : List UInt8) (i : Nat) : num ((l.drop i).take 1) = (at8 l i : Int) := by
  rw [num_one, at8, List.getElem?_drop, Nat.add_zero]

theorem bit_facts (h : Nat) (h1 : 128 ≤ h) (h2 : h ≤ 135) :
    (bits .and .i64 (h : Int) 1 != 0) = (h % 2 == 1) ∧ (bits .and .i64 (h : Int) 2 != 0) = (h / 2 % 2 == 1) ∧ (bits .and .i64 (h : Int) 4 != 0) = (h / 4 % 2 == 1) := by
  have : h = 128 ∨ h = 129 ∨ h = 130 ∨ h = 131 ∨ h = 132 ∨ h = 133 ∨ h = 134 ∨ h = 135 := by omega
  rcases this with rfl | rfl | rfl | rfl | rfl | rfl | rfl | rfl <;> exact ⟨by decide, by decide, by decide⟩

theorem Blk.six {w : World} {b : Nat} {x0 x1 x2 x3 x4 x5 : Value} {t : TypeId} (h : Blk w b #[x0, x1, x2, x3, x4, x5] t) :
    w.cell? ⟨b, 0, none⟩ = some x0 ∧ w.cell? ⟨b, 1, none⟩ = some x1 ∧ w.cell? ⟨b, 2, none⟩ = some x2 ∧ w.cell? ⟨b, 3, none⟩ = some x3 ∧ w.cell? ⟨b, 4, none⟩ = some x4 ∧ w.cell? ⟨b, 5, none⟩ = some x5 ∧
    w.frozen? ⟨b, 0, none⟩ = false ∧ w.frozen? ⟨b, 1, none⟩ = false ∧ w.frozen? ⟨b, 2, none⟩ = false ∧ w.frozen? ⟨b, 3, none⟩ = false ∧ w.frozen? ⟨b, 4, none⟩ = false ∧ w.frozen? ⟨b, 5, none⟩ = false :=
  ⟨h.cell rfl, h.cell rfl, h.cell rfl, h.cell rfl, h.cell rfl, h.cell rfl, h.free 0, h.free 1, h.free 2, h.free 3, h.free 4, h.free 5⟩

/-- the memory as Decode's reading begins -/
theorem dec_start (w : World) (z : Array Value) (t : TypeId) : ∀ W0, W0 = ((w.alloc (.cells z t)).alloc (.cells z t)).alloc (.cells #[.int .i64 0] 3) →
    Blk W0 w.heap.size z t ∧ Blk W0 (w.heap.size + 1) z t ∧ Blk W0 (w.heap.size + 1 + 1) #[.int .i64 0] 3 ∧ Below w.heap.size w W0 ∧ W0.heap.size = w.heap.size + 3 := by
  intro W0 h
  subst h
  refine ⟨((Blk.new w z t).alloc _).alloc _, ?_, ?_, by go_grown, by simp⟩
  · have := Blk.new (w.alloc (.cells z t)) z t
    rw [World.size_alloc] at this
    exact this.alloc _
  · have := Blk.new ((w.alloc (.cells z t)).alloc (.cells z t)) #[.int .i64 0] 3
    rw [World.size_alloc, World.size_alloc] at this
    exact this

set_option maxHeartbeats 2000000 in
theorem decode_no (l : List UInt8) (w : World) (hform : formB l = false) :
    Calls Tryz.prog 104 #[.string (ba l)] w fun e w' => e = .returned (.tuple #[Pk.zero.val, .int .i64 1]) ∧ Below w.heap.size w w' := by
  have hmf : ∀ (fn : Fn) (first cap : Array Value) (w : World), (Instr.makeFunc fn first cap).run Tryz.prog w = .ok (.func fn first cap) w := fun _ _ _ _ => rfl
  simp only [Pk.zero, Pk.val]
  have hlt7 := at8_lt l 7
  have HF : Hid (formB l = false) := hform
  clear hform
  go_enter Tryz.func104, Tryz.ntmps104
  go_wp2_with fail
  obtain ⟨W0, hW0⟩ : ∃ W0, W0 = ((w.alloc (.cells #[.int .i64 0, .int .i64 0, .bool false, .bool false, .bool false, .string ⟨#[]⟩] 63)).alloc (.cells #[.int .i64 0, .int .i64 0, .bool false, .bool false, .bool false, .string ⟨#[]⟩] 63)).alloc (.cells #[.int .i64 0] 3) := ⟨_, rfl⟩
  obtain ⟨bN0, bP0, bH0, hb0, hs0⟩ := dec_start w _ _ W0 hW0
  rw [← hW0]
  clear hW0
  by_cases hfew : l.length < 8 ∨ l.length < 8 + at8 l 7
  · refine (whole_few (w.heap.size + 1 + 1) (w.heap.size + 1) l _ _ _ _ _ _ _ W0 bH0 bP0 (by omega) ?_).mono ?_
    · rcases hfew with h | h
      · exact .inl h
      · exact .inr ⟨at8 l 7, num_at l 7, h⟩
    rintro e w1 ⟨rfl, k1⟩
    have bN1 := bN0.kept k1 (by simp; omega)
    obtain ⟨c0, c1, c2, c3, c4, c5, f0, f1, f2, f3, f4, f5⟩ := bN1.six
    have hb1 : Below w.heap.size w w1 := hb0.trans (k1.toBelow (by omega) (by intro k hk; simp at hk; omega))
    go_wp2
    exact bodyPost_ret (v := .tuple #[.agg #[.int .i64 0, .int .i64 0, .bool false, .bool false, .bool false, .string ByteArray.empty], .int .i64 1]) (by simp [results, Tryz.results104, go_sem, c0, c1, c2, c3, c4, c5]; rfl) rfl ⟨rfl, by go_grown⟩
  · have h8 : 8 ≤ l.length := by omega
    have hcl : 8 + at8 l 7 ≤ l.length := by omega
    obtain ⟨hd, hhd⟩ : ∃ hd, hd = at8 l 0 := ⟨_, rfl⟩
    have hno : ¬ (l.length = 8 + at8 l 7) ∨ hd < 128 ∨ 135 < hd := by
      have := HF.out
      rw [hhd]
      simp only [formB, Bool.and_eq_false_iff, decide_eq_false_iff_not] at this
      omega
    have hn0 : num (l.take 1) = (hd : Int) := by have := num_at l 0; rw [List.drop_zero] at this; rw [this, hhd]
    clear hhd hfew
    refine (whole_ok (w.heap.size + 1 + 1) (w.heap.size + 1) (at8 l 7) l _ _ _ _ _ _ _ W0 bH0 bP0 (by omega) h8 (num_at l 7) hcl (by omega)).mono ?_
    rintro e w1 ⟨rfl, bH1, _, k1⟩
    rw [hn0] at bH1
    have bN1 := bN0.kept k1 (by simp; omega)
    obtain ⟨c0, c1, c2, c3, c4, c5, f0, f1, f2, f3, f4, f5⟩ := bN1.six
    have cH := bH1.cell (j := 0) (u := .int .i64 hd) rfl
    have hb1 : Below w.heap.size w w1 := hb0.trans (k1.toBelow (by omega) (by intro k hk; simp at hk; omega))
    clear hn0 bN0 bP0 bH0 bH1 hb0 hs0 k1 bN1
    by_cases hA : l.length = 8 + at8 l 7
    · have hdA : ba (l.drop (8 + at8 l 7)) = ⟨#[]⟩ := by rw [List.drop_of_length_le (by omega)]; rfl
      rw [hdA]
      by_cases hB : hd < 128
      · clear hdA hA hno hcl
        have hB' : (hd : Int) < 128 := by omega
        go_wp2
        exact bodyPost_ret (v := .tuple #[.agg #[.int .i64 0, .int .i64 0, .bool false, .bool false, .bool false, .string ByteArray.empty], .int .i64 1]) (by simp [results, Tryz.results104, go_sem, c0, c1, c2, c3, c4, c5]; rfl) rfl ⟨rfl, by go_grown⟩
      · have hC : (135 : Int) < hd := by omega
        have hB' : ¬ (hd : Int) < 128 := by omega
        clear hdA hA hno hcl
        go_wp2
        exact bodyPost_ret (v := .tuple #[.agg #[.int .i64 0, .int .i64 0, .bool false, .bool false, .bool false, .string ByteArray.empty], .int .i64 1]) (by simp [results, Tryz.results104, go_sem, c0, c1, c2, c3, c4, c5]; rfl) rfl ⟨rfl, by go_grown⟩
    · obtain ⟨r, hr⟩ : ∃ r, r = l.drop (8 + at8 l 7) := ⟨_, rfl⟩
      have hr0 : (ba r).toList.isEmpty = false := by
        rw [ByteArray.toList_eq, ba_data]
        cases r with
        | nil => have := congrArg List.length hr; simp at this; omega
        | cons x t => rfl
      rw [← hr]
      clear hr hA hno hcl
      go_wp2
      exact bodyPost_ret (v := .tuple #[.agg #[.int .i64 0, .int .i64 0, .bool false, .bool false, .bool false, .string ByteArray.empty], .int .i64 1]) (by simp [results, Tryz.results104, go_sem, c0, c1, c2, c3, c4, c5]; rfl) rfl ⟨rfl, by go_grown⟩

set_option maxHeartbeats 2000000 in
theorem decode_form (l : List UInt8) (w : World) (hform : formB l = true) :
    Calls Tryz.prog 104 #[.string (ba l)] w fun e w' => e = .returned (.tuple #[(if (Pk.told l).chk == 0 then Pk.told l else Pk.zero).val, .int .i64 (Pk.told l).chk]) ∧ Below w.heap.size w w' := by
  have hmf : ∀ (fn : Fn) (first cap : Array Value) (w : World), (Instr.makeFunc fn first cap).run Tryz.prog w = .ok (.func fn first cap) w := fun _ _ _ _ => rfl
  have hlt7 := at8_lt l 7
  have hf4 : ((8 ≤ l.length ∧ l.length = 8 + at8 l 7) ∧ 128 ≤ at8 l 0) ∧ at8 l 0 ≤ 135 := by simpa [formB] using hform
  obtain ⟨⟨⟨h8, hl⟩, hh1⟩, hh2⟩ := hf4
  obtain ⟨q1, q2, q3⟩ := bit_facts (at8 l 0) hh1 hh2
  have htk : (l.drop 8).take (at8 l 7) = l.drop 8 := List.take_of_length_le (by simp; omega)
  obtain ⟨p, hp⟩ : ∃ p, p = Pk.told l := ⟨_, rfl⟩
  have hseq : num ((l.drop 1).take 2) = p.seq := by rw [hp]; rfl
  have htime : num ((l.drop 3).take 4) = p.time := by rw [hp]; rfl
  have ht : ba (l.drop 8) = p.t := by rw [hp]; rfl
  have hpf : (at8 l 0 % 2 == 1) = p.f := by rw [hp]; rfl
  have hpe : (at8 l 0 / 2 % 2 == 1) = p.e := by rw [hp]; rfl
  have hpk : (at8 l 0 / 4 % 2 == 1) = p.k := by rw [hp]; rfl
  rw [hpf] at q1
  rw [hpe] at q2
  rw [hpk] at q3
  have hn0 : num (l.take 1) = ((at8 l 0 : Nat) : Int) := by have := num_at l 0; rw [List.drop_zero] at this; exact this
  have hwk := fun (H P : Nat) (hv s0 t0 f0 e0 k0 x0 : Value) (w : World) (bH : Blk w H #[hv] 3) (bP : Blk w P #[s0, t0, f0, e0, k0, x0] 63) (hHP : H ≠ P) =>
    whole_ok H P (at8 l 7) l hv s0 t0 f0 e0 k0 x0 w bH bP hHP h8 (num_at l 7) (by omega) (by omega)
  have hdr : ba (l.drop (8 + at8 l 7)) = ⟨#[]⟩ := by rw [List.drop_of_length_le (by omega)]; rfl
  rw [hseq, htime, htk, ht, hn0, hdr] at hwk
  rw [← hp]
  obtain ⟨hd, hhd⟩ : ∃ hd : Nat, hd = at8 l 0 := ⟨_, rfl⟩
  rw [← hhd] at hwk q1 q2 q3 hh1 hh2
  have HW := @id (Hid _) hwk
  clear hwk hp hseq htime ht hpf hpe hpk hn0 htk hhd hl h8 hform hlt7 hdr
  have g1 : ¬ (hd : Int) < 128 := by omega
  have g2 : ¬ (135 : Int) < hd := by omega
  clear hh1 hh2
  obtain ⟨c, hc⟩ : ∃ c, c = p.chk := ⟨_, rfl⟩
  have HCK := @id (Hid (∀ w : World, Calls Tryz.prog 35 #[p.val] w fun e w' => e = .returned (.int .i64 c) ∧ w' = w.alloc (.cells p.cells 63))) (fun w => by rw [hc]; exact check_any p w)
  rw [← hc]
  clear hc
  obtain ⟨seq, time, f, e, k, t⟩ := p
  simp only [Pk.val, Pk.cells] at HCK HW q1 q2 q3
  cases hcz : (c == 0)
  · simp only [Bool.false_eq_true, if_false, Pk.zero]
    have hne : (c != 0) = true := by simp at hcz; simp [hcz]
    go_enter Tryz.func104, Tryz.ntmps104
    go_wp2_with fail
    obtain ⟨W0, hW0⟩ : ∃ W0, W0 = ((w.alloc (.cells #[.int .i64 0, .int .i64 0, .bool false, .bool false, .bool false, .string ⟨#[]⟩] 63)).alloc (.cells #[.int .i64 0, .int .i64 0, .bool false, .bool false, .bool false, .string ⟨#[]⟩] 63)).alloc (.cells #[.int .i64 0] 3) := ⟨_, rfl⟩
    obtain ⟨bN0, bP0, bH0, hb0, hs0⟩ := dec_start w _ _ W0 hW0
    rw [← hW0]
    clear hW0
    refine (HW.out (w.heap.size + 1 + 1) (w.heap.size + 1) _ _ _ _ _ _ _ W0 bH0 bP0 (by omega)).mono ?_
    rintro r w1 ⟨rfl, bH1, bP1, k1⟩
    have bN1 := bN0.kept k1 (by simp; omega)
    obtain ⟨d0, d1, d2, d3, d4, d5, _, _, g2', g3', g4', _⟩ := bP1.six
    have cH := bH1.cell (j := 0) (u := .int .i64 hd) rfl
    have hb1 : Below w.heap.size w w1 := hb0.trans (k1.toBelow (by omega) (by intro k hk; simp at hk; omega))
    clear bN0 bP0 bH0 bH1 hb0 hs0 k1 HW
    go_wp2_with fail
    obtain ⟨W2, hW2⟩ : ∃ W2, W2 = ((w1.setCell ⟨w.heap.size + 1, 2, none⟩ (.bool f)).setCell ⟨w.heap.size + 1, 3, none⟩ (.bool e)).setCell ⟨w.heap.size + 1, 4, none⟩ (.bool k) := ⟨_, rfl⟩
    have bN2 : Blk W2 w.heap.size #[.int .i64 0, .int .i64 0, .bool false, .bool false, .bool false, .string ⟨#[]⟩] 63 := by
      rw [hW2]
      exact ((bN1.other (a := ⟨w.heap.size + 1, 2, none⟩) (by show w.heap.size ≠ w.heap.size + 1; omega) _).other (a := ⟨w.heap.size + 1, 3, none⟩) (by show w.heap.size ≠ w.heap.size + 1; omega) _).other (a := ⟨w.heap.size + 1, 4, none⟩) (by show w.heap.size ≠ w.heap.size + 1; omega) _
    have bP2 : Blk W2 (w.heap.size + 1) #[.int .i64 seq, .int .i64 time, .bool f, .bool e, .bool k, .string t] 63 := by
      rw [hW2]
      exact ((bP1.set 2 (.bool f)).set 3 (.bool e)).set 4 (.bool k)
    have hb2 : Below w.heap.size w W2 := by
      rw [hW2]
      exact ((hb1.setCell (p := ⟨w.heap.size + 1, 2, none⟩) (by show w.heap.size ≤ w.heap.size + 1; omega) _).setCell (p := ⟨w.heap.size + 1, 3, none⟩) (by show w.heap.size ≤ w.heap.size + 1; omega) _).setCell (p := ⟨w.heap.size + 1, 4, none⟩) (by show w.heap.size ≤ w.heap.size + 1; omega) _
    rw [← hW2]
    clear hW2 d0 d1 d2 d3 d4 d5 g2' g3' g4' cH hb1 bN1 bP1
    refine (HCK.out W2).mono ?_
    rintro r w3 ⟨rfl, hw3⟩
    have bN3 := bN2.alloc (.cells #[.int .i64 seq, .int .i64 time, .bool f, .bool e, .bool k, .string t] 63)
    have bP3 := bP2.alloc (.cells #[.int .i64 seq, .int .i64 time, .bool f, .bool e, .bool k, .string t] 63)
    have hb3 := hb2.alloc hb2.size (.cells #[.int .i64 seq, .int .i64 time, .bool f, .bool e, .bool k, .string t] 63)
    rw [← hw3] at bN3 bP3 hb3
    clear hw3
    obtain ⟨c0, c1, c2, c3, c4, c5, f0, f1, f2, f3, f4, f5⟩ := bN3.six
    obtain ⟨d0, d1, d2, d3, d4, d5, _⟩ := bP3.six
    go_wp2
    exact bodyPost_ret (v := .tuple #[.agg #[.int .i64 0, .int .i64 0, .bool false, .bool false, .bool false, .string ByteArray.empty], .int .i64 c]) (by simp [results, Tryz.results104, go_sem, c0, c1, c2, c3, c4, c5]; rfl) rfl ⟨rfl, by go_grown⟩
  · have hc0 : c = 0 := by simpa using hcz
    subst hc0
    simp only [if_true]
    clear hcz
    go_enter Tryz.func104, Tryz.ntmps104
    go_wp2_with fail
    obtain ⟨W0, hW0⟩ : ∃ W0, W0 = ((w.alloc (.cells #[.int .i64 0, .int .i64 0, .bool false, .bool false, .bool false, .string ⟨#[]⟩] 63)).alloc (.cells #[.int .i64 0, .int .i64 0, .bool false, .bool false, .bool false, .string ⟨#[]⟩] 63)).alloc (.cells #[.int .i64 0] 3) := ⟨_, rfl⟩
    obtain ⟨bN0, bP0, bH0, hb0, hs0⟩ := dec_start w _ _ W0 hW0
    rw [← hW0]
    clear hW0
    refine (HW.out (w.heap.size + 1 + 1) (w.heap.size + 1) _ _ _ _ _ _ _ W0 bH0 bP0 (by omega)).mono ?_
    rintro r w1 ⟨rfl, bH1, bP1, k1⟩
    have bN1 := bN0.kept k1 (by simp; omega)
    obtain ⟨d0, d1, d2, d3, d4, d5, _, _, g2', g3', g4', _⟩ := bP1.six
    have cH := bH1.cell (j := 0) (u := .int .i64 hd) rfl
    have hb1 : Below w.heap.size w w1 := hb0.trans (k1.toBelow (by omega) (by intro k hk; simp at hk; omega))
    clear bN0 bP0 bH0 bH1 hb0 hs0 k1 HW
    go_wp2_with fail
    obtain ⟨W2, hW2⟩ : ∃ W2, W2 = ((w1.setCell ⟨w.heap.size + 1, 2, none⟩ (.bool f)).setCell ⟨w.heap.size + 1, 3, none⟩ (.bool e)).setCell ⟨w.heap.size + 1, 4, none⟩ (.bool k) := ⟨_, rfl⟩
    have bN2 : Blk W2 w.heap.size #[.int .i64 0, .int .i64 0, .bool false, .bool false, .bool false, .string ⟨#[]⟩] 63 := by
      rw [hW2]
      exact ((bN1.other (a := ⟨w.heap.size + 1, 2, none⟩) (by show w.heap.size ≠ w.heap.size + 1; omega) _).other (a := ⟨w.heap.size + 1, 3, none⟩) (by show w.heap.size ≠ w.heap.size + 1; omega) _).other (a := ⟨w.heap.size + 1, 4, none⟩) (by show w.heap.size ≠ w.heap.size + 1; omega) _
    have bP2 : Blk W2 (w.heap.size + 1) #[.int .i64 seq, .int .i64 time, .bool f, .bool e, .bool k, .string t] 63 := by
      rw [hW2]
      exact ((bP1.set 2 (.bool f)).set 3 (.bool e)).set 4 (.bool k)
    have hb2 : Below w.heap.size w W2 := by
      rw [hW2]
      exact ((hb1.setCell (p := ⟨w.heap.size + 1, 2, none⟩) (by show w.heap.size ≤ w.heap.size + 1; omega) _).setCell (p := ⟨w.heap.size + 1, 3, none⟩) (by show w.heap.size ≤ w.heap.size + 1; omega) _).setCell (p := ⟨w.heap.size + 1, 4, none⟩) (by show w.heap.size ≤ w.heap.size + 1; omega) _
    rw [← hW2]
    clear hW2 d0 d1 d2 d3 d4 d5 g2' g3' g4' cH hb1 bN1 bP1
    refine (HCK.out W2).mono ?_
    rintro r w3 ⟨rfl, hw3⟩
    have bN3 := bN2.alloc (.cells #[.int .i64 seq, .int .i64 time, .bool f, .bool e, .bool k, .string t] 63)
    have bP3 := bP2.alloc (.cells #[.int .i64 seq, .int .i64 time, .bool f, .bool e, .bool k, .string t] 63)
    have hb3 := hb2.alloc hb2.size (.cells #[.int .i64 seq, .int .i64 time, .bool f, .bool e, .bool k, .string t] 63)
    rw [← hw3] at bN3 bP3 hb3
    clear hw3
    obtain ⟨c0, c1, c2, c3, c4, c5, f0, f1, f2, f3, f4, f5⟩ := bN3.six
    obtain ⟨d0, d1, d2, d3, d4, d5, _⟩ := bP3.six
    go_wp2
    exact bodyPost_ret (v := .tuple #[.agg #[.int .i64 seq, .int .i64 time, .bool f, .bool e, .bool k, .string t], .int .i64 0]) (by simp [results, Tryz.results104, go_sem, c0, c1, c2, c3, c4, c5]) rfl ⟨rfl, by go_grown⟩

theorem decode_any (l : List UInt8) (w : World) :
    Calls Tryz.prog 104 #[.string (ba l)] w fun e w' => e = .returned (.tuple #[(Pk.dec l).1.val, .int .i64 (Pk.dec l).2]) ∧ Below w.heap.size w w' := by
  unfold Pk.dec
  cases hform : formB l
  · exact decode_no l w hform
  · have h := decode_form l w hform
    cases hc : ((Pk.told l).chk == 0)
    · rw [hc] at h
      simpa using h
    · rw [hc] at h
      have : (Pk.told l).chk = 0 := by simpa using hc
      rw [this] at h
      simpa using h

end Go.Proofs.YtnpaejknoipicagGreat

namespace Go.Proofs.YtnpaejknoipicagGreat
open Go.RowKit

theorem u8_ext {a b : UInt8} (h : (a.toNat : Int) = (b.toNat : Int)) : a = b := by
  apply UInt8.toNat_inj.1; omega

theorem be1 (n : Int) : be n 1 = [byteU n 0] := rfl
theorem be2 (n : Int) : be n 2 = [byteU n 1, byteU n 0] := rfl
theorem be4 (n : Int) : be n 4 = [byteU n 3, byteU n 2, byteU n 1, byteU n 0] := rfl
theorem b0 (n : Int) : ((byteU n 0).toNat : Int) = n % 256 := by rw [byteU_toNat]; simp
theorem b1 (n : Int) : ((byteU n 1).toNat : Int) = n / 256 % 256 := by rw [byteU_toNat]; rfl
theorem b2 (n : Int) : ((byteU n 2).toNat : Int) = n / 65536 % 256 := by rw [byteU_toNat]; rfl
theorem b3 (n : Int) : ((byteU n 3).toNat : Int) = n / 16777216 % 256 := by rw [byteU_toNat]; rfl
theorem num2 (a b : UInt8) : num [a, b] = a.toNat * 256 + b.toNat := by simp [num]
theorem num4 (a b c d : UInt8) : num [a, b, c, d] = ((a.toNat * 256 + b.toNat) * 256 + c.toNat) * 256 + d.toNat := by simp [num]

theorem be_num2 (a b : UInt8) : byteU (num [a, b]) 1 = a ∧ byteU (num [a, b]) 0 = b := by
  have ha := a.toNat_lt
  have hb := b.toNat_lt
  refine ⟨u8_ext ?_, u8_ext ?_⟩
  · rw [b1, num2]; omega
  · rw [b0, num2]; omega
theorem be_num4 (a b c d : UInt8) : byteU (num [a, b, c, d]) 3 = a ∧ byteU (num [a, b, c, d]) 2 = b ∧ byteU (num [a, b, c, d]) 1 = c ∧ byteU (num [a, b, c, d]) 0 = d := by
  have ha := a.toNat_lt
  have hb := b.toNat_lt
  have hc := c.toNat_lt
  have hd := d.toNat_lt
  refine ⟨u8_ext ?_, u8_ext ?_, u8_ext ?_, u8_ext ?_⟩
  · rw [b3, num4]; omega
  · rw [b2, num4]; omega
  · rw [b1, num4]; omega
  · rw [b0, num4]; omega

/-- the bytes of a packet, one by one -/
theorem Pk.enc_eq (p : Pk) : p.enc = byteU (128 + Pk.flags p.f p.e p.k) 0 :: byteU p.seq 1 :: byteU p.seq 0 :: byteU p.time 3 :: byteU p.time 2 :: byteU p.time 1 :: byteU p.time 0 :: byteU p.t.size 0 :: p.t.data.toList := by
  simp [Pk.enc, be1, be2, be4]

theorem form_eq (a0 a1 a2 a3 a4 a5 a6 a7 : UInt8) (r : List UInt8) : formB (a0 :: a1 :: a2 :: a3 :: a4 :: a5 :: a6 :: a7 :: r) = (decide (r.length = a7.toNat) && decide (128 ≤ a0.toNat) && decide (a0.toNat ≤ 135)) := by
  have e1 : (8 ≤ (a0 :: a1 :: a2 :: a3 :: a4 :: a5 :: a6 :: a7 :: r).length) = True := by simp
  have e2 : ((a0 :: a1 :: a2 :: a3 :: a4 :: a5 :: a6 :: a7 :: r).length = 8 + a7.toNat) = (r.length = a7.toNat) := by simp; omega
  simp only [formB, at8]
  show (decide (8 ≤ (a0 :: a1 :: a2 :: a3 :: a4 :: a5 :: a6 :: a7 :: r).length) && decide ((a0 :: a1 :: a2 :: a3 :: a4 :: a5 :: a6 :: a7 :: r).length = 8 + a7.toNat) && decide (128 ≤ a0.toNat) && decide (a0.toNat ≤ 135)) = _
  simp only [e1, e2, decide_true, Bool.true_and]
theorem told_eq (a0 a1 a2 a3 a4 a5 a6 a7 : UInt8) (r : List UInt8) : Pk.told (a0 :: a1 :: a2 :: a3 :: a4 :: a5 :: a6 :: a7 :: r) = ⟨num [a1, a2], num [a3, a4, a5, a6], a0.toNat % 2 == 1, a0.toNat / 2 % 2 == 1, a0.toNat / 4 % 2 == 1, ba r⟩ := rfl

theorem bits_flags (a : UInt8) (h1 : 128 ≤ a.toNat) (h2 : a.toNat ≤ 135) : byteU (128 + Pk.flags (a.toNat % 2 == 1) (a.toNat / 2 % 2 == 1) (a.toNat / 4 % 2 == 1)) 0 = a := by
  apply u8_ext
  rw [b0]
  have : a.toNat = 128 ∨ a.toNat = 129 ∨ a.toNat = 130 ∨ a.toNat = 131 ∨ a.toNat = 132 ∨ a.toNat = 133 ∨ a.toNat = 134 ∨ a.toNat = 135 := by omega
  rcases this with h | h | h | h | h | h | h | h <;> rw [h] <;> decide

theorem Pk.enc_dec (l : List UInt8) (hf : formB l = true) : (Pk.told l).enc = l := by
  match l, hf with
  | [], hf => exact absurd hf (by decide)
  | [_], hf => simp [formB] at hf
  | [_, _], hf => simp [formB] at hf
  | [_, _, _], hf => simp [formB] at hf
  | [_, _, _, _], hf => simp [formB] at hf
  | [_, _, _, _, _], hf => simp [formB] at hf
  | [_, _, _, _, _, _], hf => simp [formB] at hf
  | [_, _, _, _, _, _, _], hf => simp [formB] at hf
  | a0 :: a1 :: a2 :: a3 :: a4 :: a5 :: a6 :: a7 :: r, hf =>
    rw [form_eq] at hf
    have hh : (r.length = a7.toNat ∧ 128 ≤ a0.toNat) ∧ a0.toNat ≤ 135 := by simpa using hf
    rw [told_eq, Pk.enc_eq]
    simp only
    rw [bits_flags a0 hh.1.2 hh.2, (be_num2 a1 a2).1, (be_num2 a1 a2).2, (be_num4 a3 a4 a5 a6).1, (be_num4 a3 a4 a5 a6).2.1, (be_num4 a3 a4 a5 a6).2.2.1, (be_num4 a3 a4 a5 a6).2.2.2, ba_data, ba_size, hh.1.1]
    have : byteU (a7.toNat : Int) 0 = a7 := u8_ext (by rw [b0]; have := a7.toNat_lt; omega)
    rw [this]

/-- what is decoded: nothing, beside an error; else what is encoded so -/
theorem Pk.dec_or (l : List UInt8) : ((Pk.dec l).1 = Pk.zero ∧ ((Pk.dec l).2 == 0) = false) ∨ ((Pk.dec l).2 = 0 ∧ (Pk.dec l).1.chk = 0 ∧ (Pk.dec l).1.enc = l) := by
  unfold Pk.dec
  cases hf : formB l
  · exact .inl ⟨rfl, rfl⟩
  · cases hc : ((Pk.told l).chk == 0)
    · exact .inl ⟨by simp, by simpa using hc⟩
    · exact .inr ⟨by simp, by simpa using hc, by simpa using Pk.enc_dec l hf⟩

end Go.Proofs.YtnpaejknoipicagGreat

namespace Go.Proofs.YtnpaejknoipicagGreat

/-- what a builder makes of a slot more -/
def addF (l : List Sk) (x : Sk) : Fr := ⟨addT l x, addK l x, addP l x⟩

theorem takeF_chk {l : List Sk} {x : Sk} (hl : ∀ y ∈ l, y.chk = 0) (hx : x.chk = 0) : ∀ y ∈ takeF l x, y.chk = 0 := fun y hy => by
  rcases takeF_mem hy with h | h
  · exact hl y h
  · rw [h]; exact hx
theorem ochk_len {l : List Sk} (h : ochk l = 0) : l.length ≤ 3 ∧ ogo none l = 0 ∧ ∀ y ∈ l, y.chk = 0 := by
  unfold ochk at h
  by_cases h4 : 4 ≤ l.length
  · rw [if_pos h4] at h; cases h
  · rw [if_neg h4] at h
    exact ⟨by omega, h, ogo_all l none h⟩
/-- a builder stays right -/
theorem ochk_add {l : List Sk} {x : Sk} (h : ochk l = 0) (hx : x.chk = 0) : ochk (addO l x) = 0 := by
  obtain ⟨h1, h2, h3⟩ := ochk_len h
  unfold addO
  cases hw : addW l x
  · rw [if_neg (by simp)]
    by_cases h4 : (takeF l x).length = 4
    · rw [if_pos h4]; rfl
    · rw [if_neg h4]
      unfold addW at hw
      unfold takeF at h4 hw ⊢
      by_cases hf : x.p.f = true
      · rw [if_pos hf] at hw ⊢
        have he : x.p.e = false := by simpa using hw
        unfold ochk
        rw [if_neg (by simp)]
        simp [ogo, hx, badO, hf, he]
      · rw [if_neg hf] at h4 hw ⊢
        have hff : x.p.f = false := by simpa using hf
        by_cases hc : 0 < l.length ∧ folB (lastSk l) x = true
        · rw [if_pos hc] at h4 hw ⊢
          have he : x.p.e = false := by simpa using hw
          rw [List.length_append, List.length_singleton] at h4
          unfold ochk
          rw [if_neg (by rw [List.length_append, List.length_singleton]; omega), ogo_split _ _ _ _ h2]
          have hlast : l.foldl (fun _ y => some y) none = some (lastSk l) := by
            have := olast_at l none l.length (Nat.le_refl _)
            rw [List.take_length, if_neg (by omega)] at this
            exact this
          rw [hlast]
          simp [ogo, hx, badO, he, nextB, hff, hc.2]
        · rw [if_neg hc]; rfl
  · rw [if_pos rfl]; rfl
/-- and what it makes is right -/
theorem addF_right {l : List Sk} {x : Sk} (h : ochk l = 0) (hx : x.chk = 0) (hw : addW l x = true) : (addF l x).chk = 0 := by
  obtain ⟨h1, _, h3⟩ := ochk_len h
  have ht := takeF_chk h3 hx
  have hlen := takeF_len l x
  have hw0 := hw
  unfold addW at hw0
  simp only [Bool.and_eq_true, decide_eq_true_eq] at hw0
  unfold addF Fr.chk chkF
  simp only
  unfold addT addP
  rw [if_pos hw, if_pos hw]
  have h0 : (takeF l x)[0]?.getD Sk.zero ∈ takeF l x := by
    rw [List.getElem?_eq_getElem hw0.1, Option.getD_some]; exact List.getElem_mem _
  obtain ⟨_, _, c3, c4, _⟩ := Pk.chk_ok (Sk.chk_zero (ht _ h0)).2.2.1
  have hp : (texts (takeF l x)).length = (takeF l x).length := by unfold texts; rw [List.length_map]
  rw [if_neg (by omega), if_neg (by omega), if_neg (by omega), if_neg]
  intro hany
  obtain ⟨s, hs, hl⟩ := List.any_eq_true.1 hany
  unfold texts at hs
  obtain ⟨y, hy, e⟩ := List.mem_map.1 hs
  have := Sk.chk_short (ht y hy)
  rw [e] at this
  unfold longB at hl
  have := of_decide_eq_true hl
  omega

structure Tr where
  last : Int
  next : Int
  h : List Sk
  o : List Sk
  first : Int
  L : List (List Fr)
  O : List Fr
def Tr.zero : Tr := ⟨0, 0, [], [], 0, [], []⟩
/-- what Check says of a track -/
def Tr.chk (t : Tr) : Int :=
  if ¬ t.last = 0 ∧ Cn.isNB t.last = false then 3 else
    if bchk t.next t.h = 0 then
      (if ochk t.o = 0 then (if stchk t.first t.L t.O = 0 then (if (t.last == 0) = (t.next == 0) then 0 else 4) else stchk t.first t.L t.O) else ochk t.o)
    else bchk t.next t.h
theorem Tr.chk_zero {t : Tr} : t.chk = 0 ↔ (t.last = 0 ∨ Cn.isNB t.last = true) ∧ Right t.next t.h ∧ ochk t.o = 0 ∧ stchk t.first t.L t.O = 0 ∧ (t.last = 0 ↔ t.next = 0) := by
  unfold Tr.chk
  rw [← bchk_right]
  have hbe : ((t.last == 0) = (t.next == 0)) ↔ (t.last = 0 ↔ t.next = 0) := by
    by_cases h1 : t.last = 0 <;> by_cases h2 : t.next = 0
    · simp [h1, h2]
    · simp [h1, h2]
    · simp [h1, h2]
    · have e1 : (t.last == 0) = false := by simpa using h1
      have e2 : (t.next == 0) = false := by simpa using h2
      rw [e1, e2]; simp [h1, h2]
  by_cases h1 : ¬ t.last = 0 ∧ Cn.isNB t.last = false
  · rw [if_pos h1]
    refine ⟨fun h => (by cases h), fun h => ?_⟩
    rcases h.1 with h | h
    · exact absurd h h1.1
    · rw [h] at h1; cases h1.2
  rw [if_neg h1]
  have h1' : t.last = 0 ∨ Cn.isNB t.last = true := by
    by_cases h : t.last = 0
    · exact .inl h
    · right
      cases hb : Cn.isNB t.last
      · exact absurd ⟨h, hb⟩ h1
      · rfl
  by_cases h2 : bchk t.next t.h = 0
  · rw [if_pos h2]
    by_cases h3 : ochk t.o = 0
    · rw [if_pos h3]
      by_cases h4 : stchk t.first t.L t.O = 0
      · rw [if_pos h4]
        by_cases h5 : (t.last == 0) = (t.next == 0)
        · rw [if_pos h5]; exact ⟨fun _ => ⟨h1', h2, h3, h4, hbe.1 h5⟩, fun _ => rfl⟩
        · rw [if_neg h5]; exact ⟨fun h => (by cases h), fun h => absurd (hbe.2 h.2.2.2.2) h5⟩
      · rw [if_neg h4]; exact ⟨fun h => absurd h h4, fun h => absurd h.2.2.2.1 h4⟩
    · rw [if_neg h3]; exact ⟨fun h => absurd h h3, fun h => absurd h.2.2.1 h3⟩
  · rw [if_neg h2]; exact ⟨fun h => absurd h h2, fun h => absurd h.2.1 h2⟩

/-- a track with other numbers, and another buffer -/
def Tr.buf (t : Tr) (l n : Int) (h : List Sk) : Tr := ⟨l, n, h, t.o, t.first, t.L, t.O⟩
/-- one slot taken: the track behind it, how many groups were closed, the error -/
def tk1 (t : Tr) (x : Sk) : Tr × Nat × Int :=
  if addW t.o x then (⟨t.last, t.next, t.h, addO t.o x, addsF t.first t.L t.O (addF t.o x), addsL t.first t.L t.O (addF t.o x), addsO t.first t.L t.O (addF t.o x)⟩, if addsB t.first t.L t.O (addF t.o x) then 1 else 0, addsE t.first t.L t.O (addF t.o x))
  else (⟨t.last, t.next, t.h, addO t.o x, t.first, t.L, t.O⟩, 0, 0)
/-- all of them -/
def tkN : List Sk → Tr × Nat → Tr × Nat × Int
  | [], s => (s.1, s.2, 0)
  | x :: r, s => if (tk1 s.1 x).2.2 = 0 then tkN r ((tk1 s.1 x).1, s.2 + (tk1 s.1 x).2.1) else (Tr.zero, 0, (tk1 s.1 x).2.2)
/-- the number of a packet -/
def numE (last : Int) (p : Pk) : Int := if last = 0 then 0 else Cn.uwE last p.seq
def numN (last : Int) (p : Pk) : Int := if last = 0 then p.seq + 65536 else Cn.uwN last p.seq
/-- a packet fed, its number known -/
def feedP (t : Tr) (n : Int) (p : Pk) : Tr × Nat × Int := tkN (putF t.next t.h ⟨n, p⟩).2.2 (t.buf (max t.last n) (putF t.next t.h ⟨n, p⟩).1 (putF t.next t.h ⟨n, p⟩).2.1, 0)
def feedR (t : Tr) (s : List UInt8) : Tr × Nat × Int :=
  if (Pk.dec s).2 = 0 then (if numE t.last (Pk.dec s).1 = 0 then feedP t (numN t.last (Pk.dec s).1) (Pk.dec s).1 else (Tr.zero, 0, numE t.last (Pk.dec s).1)) else (Tr.zero, 0, (Pk.dec s).2)
def feedA (t : Tr) (s : List UInt8) : Tr × Nat × Int := if t.chk = 0 then feedR t s else (Tr.zero, 0, t.chk)
theorem tk1_keep (t : Tr) (x : Sk) : (tk1 t x).1.last = t.last ∧ (tk1 t x).1.next = t.next ∧ (tk1 t x).1.h = t.h := by
  unfold tk1
  cases addW t.o x <;> exact ⟨rfl, rfl, rfl⟩
/-- builder and store are right -/
def TkOk (t : Tr) : Prop := ochk t.o = 0 ∧ stchk t.first t.L t.O = 0
theorem tk1_ok {t : Tr} {x : Sk} (h : TkOk t) (hx : x.chk = 0) : ((tk1 t x).2.2 = 0 ∧ TkOk (tk1 t x).1) ∨ (tk1 t x).2.2 = 2 := by
  obtain ⟨h1, h2⟩ := h
  have ho := ochk_add h1 hx
  unfold tk1
  cases hw : addW t.o x
  · left; exact ⟨rfl, ho, h2⟩
  · have hf := addF_right h1 hx hw
    simp only [if_true]
    by_cases hE : addsE t.first t.L t.O (addF t.o x) = 0
    · left
      exact ⟨hE, ho, adds_right hE⟩
    · right
      unfold addsE at hE ⊢
      rw [if_pos h2, if_pos hf] at hE ⊢
      split
      · rfl
      · rename_i h; rw [if_neg h] at hE; exact absurd rfl hE
theorem tkN_ok : ∀ (l : List Sk) (s : Tr × Nat), TkOk s.1 → (∀ x ∈ l, x.chk = 0) → ((tkN l s).2.2 = 0 ∧ TkOk (tkN l s).1 ∧ (tkN l s).1.last = s.1.last ∧ (tkN l s).1.next = s.1.next ∧ (tkN l s).1.h = s.1.h) ∨ ((tkN l s).2.2 = 2 ∧ (tkN l s).1 = Tr.zero ∧ (tkN l s).2.1 = 0)
  | [], s, h, _ => .inl ⟨rfl, h, rfl, rfl, rfl⟩
  | x :: r, s, h, hl => by
    simp only [tkN]
    rcases tk1_ok h (hl x List.mem_cons_self) with ⟨e, h'⟩ | e
    · rw [if_pos e]
      have hk := tk1_keep s.1 x
      rcases tkN_ok r ((tk1 s.1 x).1, s.2 + (tk1 s.1 x).2.1) h' (fun y hy => hl y (List.mem_cons_of_mem _ hy)) with h3 | h3
      · left
        obtain ⟨a1, a2, a3, a4, a5⟩ := h3
        exact ⟨a1, a2, by rw [a3]; exact hk.1, by rw [a4]; exact hk.2.1, by rw [a5]; exact hk.2.2⟩
      · exact .inr h3
    · rw [if_neg (by omega)]
      exact .inr ⟨e, rfl, rfl⟩
theorem tkN_bad : ∀ (l : List Sk) (s : Tr × Nat), ¬ (tkN l s).2.2 = 0 → (tkN l s).1 = Tr.zero ∧ (tkN l s).2.1 = 0
  | [], _, h => absurd rfl h
  | x :: r, s, h => by
    simp only [tkN] at h ⊢
    by_cases e : (tk1 s.1 x).2.2 = 0
    · rw [if_pos e] at h ⊢
      exact tkN_bad r _ h
    · rw [if_neg e]; exact ⟨rfl, rfl⟩
theorem feedA_bad {t : Tr} {s : List UInt8} (h : ¬ (feedA t s).2.2 = 0) : (feedA t s).1 = Tr.zero ∧ (feedA t s).2.1 = 0 := by
  unfold feedA at h ⊢
  by_cases h1 : t.chk = 0
  · rw [if_pos h1] at h ⊢
    unfold feedR at h ⊢
    by_cases h2 : (Pk.dec s).2 = 0
    · rw [if_pos h2] at h ⊢
      by_cases h3 : numE t.last (Pk.dec s).1 = 0
      · rw [if_pos h3] at h ⊢; exact tkN_bad _ _ h
      · rw [if_neg h3]; exact ⟨rfl, rfl⟩
    · rw [if_neg h2]; exact ⟨rfl, rfl⟩
  · rw [if_neg h1]; exact ⟨rfl, rfl⟩
/-- a packet's number -/
theorem num_ok {last : Int} {p : Pk} (hp : p.chk = 0) (hl : last = 0 ∨ Cn.isNB last = true) (h : numE last p = 0) : Cn.isNB (numN last p) = true ∧ numN last p % 65536 = p.seq ∧ numE (max last (numN last p)) p = 0 ∧ numN (max last (numN last p)) p = numN last p ∧ Cn.isNB (max last (numN last p)) = true := by
  obtain ⟨p1, p2, _⟩ := Pk.chk_ok hp
  obtain ⟨n, hn⟩ : ∃ n, n = numN last p := ⟨_, rfl⟩
  have key : Cn.isNB n = true ∧ n % 65536 = p.seq ∧ (last = 0 ∨ (last - 32767 ≤ n ∧ n ≤ last + 32768)) := by
    unfold numE at h
    unfold numN at hn
    by_cases h0 : last = 0
    · rw [if_pos h0] at hn
      subst hn
      exact ⟨Cn.isNB_true (by omega) (by omega), by omega, .inl h0⟩
    · rw [if_neg h0] at h hn
      cases ho : Cn.okB last p.seq
      · rw [(Cn.uw_no ho).1] at h; cases h
      · rw [(Cn.uw_ok ho).2] at hn
        obtain ⟨_, _, _, b1, b2⟩ := Cn.okB_iff.1 ho
        obtain ⟨r1, r2, r3⟩ := Cn.raw_near last p.seq p1 p2
        subst hn
        exact ⟨Cn.isNB_true b1 b2, r1, .inr ⟨r2, r3⟩⟩
  obtain ⟨k1, k2, k3⟩ := key
  rw [← hn]
  obtain ⟨n1, n2⟩ := Cn.isNB_iff.1 k1
  obtain ⟨m, hm⟩ : ∃ m, m = max last n := ⟨_, rfl⟩
  rw [← hm]
  have hlb : last = 0 ∨ 65536 ≤ last ∧ last ≤ 1000000000 := hl.imp id Cn.isNB_iff.1
  have hm1 : 65536 ≤ m ∧ m ≤ 1000000000 ∧ m - 32767 ≤ n ∧ n ≤ m + 32768 := by omega
  have hm0 : ¬ m = 0 := by omega
  have hraw := Cn.raw_uniq m p.seq n k2 hm1.2.2.1 hm1.2.2.2
  have hok : Cn.okB m p.seq = true := Cn.okB_iff.2 ⟨⟨hm1.1, hm1.2.1⟩, p1, p2, by omega, by omega⟩
  refine ⟨k1, k2, ?_, ?_, Cn.isNB_true hm1.1 hm1.2.1⟩
  · unfold numE; rw [if_neg hm0]; exact (Cn.uw_ok hok).1
  · unfold numN; rw [if_neg hm0, (Cn.uw_ok hok).2]; exact hraw
theorem num_slot {last : Int} {p : Pk} (hp : p.chk = 0) (hl : last = 0 ∨ Cn.isNB last = true) (h : numE last p = 0) : (Sk.mk (numN last p) p).chk = 0 := by
  obtain ⟨h1, h2, _⟩ := num_ok hp hl h
  exact Sk.chk_ok h1 hp h2

/-- what Feed leaves is right, and what comes again leaves no trace -/
theorem feed_right {t : Tr} {s : List UInt8} (h : (feedA t s).2.2 = 0) : (feedA t s).1.chk = 0 ∧ feedA (feedA t s).1 s = ((feedA t s).1, 0, 0) ∧ t.chk = 0 := by
  have hc : t.chk = 0 := by
    by_cases h1 : t.chk = 0
    · exact h1
    · unfold feedA at h; rw [if_neg h1] at h; exact h
  obtain ⟨c1, c2, c3, c4, c5⟩ := Tr.chk_zero.1 hc
  have e0 : feedA t s = feedR t s := by unfold feedA; rw [if_pos hc]
  have hd : (Pk.dec s).2 = 0 := by
    by_cases h1 : (Pk.dec s).2 = 0
    · exact h1
    · rw [e0] at h; unfold feedR at h; rw [if_neg h1] at h; exact absurd h h1
  have hp : (Pk.dec s).1.chk = 0 := by
    rcases Pk.dec_or s with ⟨_, h2⟩ | ⟨_, h2, _⟩
    · rw [hd] at h2; cases h2
    · exact h2
  have hn : numE t.last (Pk.dec s).1 = 0 := by
    by_cases h1 : numE t.last (Pk.dec s).1 = 0
    · exact h1
    · rw [e0] at h; unfold feedR at h; rw [if_pos hd, if_neg h1] at h; exact absurd h h1
  have e1 : feedA t s = feedP t (numN t.last (Pk.dec s).1) (Pk.dec s).1 := by rw [e0]; unfold feedR; rw [if_pos hd, if_pos hn]
  obtain ⟨n1, n2, n3, n4, n5⟩ := num_ok hp c1 hn
  have hx := num_slot hp c1 hn
  obtain ⟨i1, i2, i3, i4, i5, i6, i7⟩ := put_inv c2 hx
  rw [e1] at h ⊢
  have hall : ∀ y ∈ (putF t.next t.h ⟨numN t.last (Pk.dec s).1, (Pk.dec s).1⟩).2.2, y.chk = 0 := fun y hy => by
    rcases (i3 y hy).1 with e | e
    · rw [e]; exact hx
    · exact c2.2.2.1 y e
  obtain ⟨B, hB⟩ : ∃ B, B = t.buf (max t.last (numN t.last (Pk.dec s).1)) (putF t.next t.h ⟨numN t.last (Pk.dec s).1, (Pk.dec s).1⟩).1 (putF t.next t.h ⟨numN t.last (Pk.dec s).1, (Pk.dec s).1⟩).2.1 := ⟨_, rfl⟩
  have hBok : TkOk B := by rw [hB]; exact ⟨c3, c4⟩
  have hF : feedP t (numN t.last (Pk.dec s).1) (Pk.dec s).1 = tkN (putF t.next t.h ⟨numN t.last (Pk.dec s).1, (Pk.dec s).1⟩).2.2 (B, 0) := by rw [hB]; rfl
  rcases tkN_ok _ (B, 0) hBok hall with ⟨_, r2, r3, r4, r5⟩ | ⟨r1, _⟩
  · rw [← hF] at r2 r3 r4 r5
    rw [hB] at r3 r4 r5
    obtain ⟨A, hA⟩ : ∃ A, A = (feedP t (numN t.last (Pk.dec s).1) (Pk.dec s).1).1 := ⟨_, rfl⟩
    rw [← hA] at r2 r3 r4 r5 ⊢
    have r3' : A.last = max t.last (numN t.last (Pk.dec s).1) := r3
    have r4' : A.next = (putF t.next t.h ⟨numN t.last (Pk.dec s).1, (Pk.dec s).1⟩).1 := r4
    have r5' : A.h = (putF t.next t.h ⟨numN t.last (Pk.dec s).1, (Pk.dec s).1⟩).2.1 := r5
    have hAlast : ¬ A.last = 0 := by rw [r3']; have := Cn.isNB_iff.1 n5; omega
    have hchk : A.chk = 0 := by
      refine Tr.chk_zero.2 ⟨.inr (by rw [r3']; exact n5), by rw [r4', r5']; exact i1, r2.1, r2.2, ⟨fun e => absurd e hAlast, fun e => absurd (r4'.symm.trans e) i7⟩⟩
    refine ⟨hchk, ?_, hc⟩
    unfold feedA
    rw [if_pos hchk]
    unfold feedR
    rw [if_pos hd, r3', if_pos n3, n4]
    unfold feedP
    have hag : putF A.next A.h ⟨numN t.last (Pk.dec s).1, (Pk.dec s).1⟩ = (A.next, A.h, []) := put_again (by rw [r4']; exact i7) (by rw [r4', r5']; exact i6)
    rw [hag]
    have hmm : max A.last (numN t.last (Pk.dec s).1) = A.last := by rw [r3']; omega
    rw [hmm]
    rfl
  · rw [hF] at h; rw [h] at r1; cases r1
end Go.Proofs.YtnpaejknoipicagGreat

namespace Go.Proofs.YtnpaejknoipicagGreat
open Go.RowKit

theorem gchk_first {l : List Fr} (h : gchk l = 0) : 0 < l.length ∧ l.length ≤ 6 ∧ (frAt l 0).key = true := by
  obtain ⟨h1, h2, h3⟩ := gchk_zero.1 h
  refine ⟨h1, h2, ?_⟩
  have := (h3 0 h1).2
  simpa [inPl] using this
theorem FrsIn.first {S : Nat → Prop} {w : World} {ao : Option Addr} {n c : Nat} {l : List Fr} (h : FrsIn S w (.slice ao n c) l) (h0 : 0 < l.length) : ∃ b off, ao = some ⟨b, off, none⟩ ∧ w.cell? ⟨b, off, none⟩ = some (.int .i64 (frAt l 0).time) ∧ w.cell? ⟨b, off + 1, none⟩ = some (.bool (frAt l 0).key) := by
  obtain ⟨ao', c', e, _, _, hc⟩ := h
  injection e with e1 _ _
  subst e1
  obtain ⟨b, off, e, _, _, pv, c0, c1, _⟩ := hc 0 h0
  exact ⟨b, off, e, by simpa using c0, by simpa using c1⟩
theorem grAt_mem {L : List (List Fr)} {k : Nat} (h : k < L.length) : grAt L k ∈ L := by
  unfold grAt; rw [List.getElem?_eq_getElem h]; exact List.getElem_mem _

end Go.Proofs.YtnpaejknoipicagGreat

namespace Go.Proofs.YtnpaejknoipicagGreat

def curE (m g f : Int) : Int := if m < 1 then 6 else if 3 < m then 6 else if g < 0 then 3 else if 100006 < g then 3 else if f < 0 then 3 else if 6 < f then 3 else 0
theorem curE_zero {m g f : Int} : curE m g f = 0 ↔ 1 ≤ m ∧ m ≤ 3 ∧ 0 ≤ g ∧ g ≤ 100006 ∧ 0 ≤ f ∧ f ≤ 6 := by
  unfold curE
  repeat' split
  all_goals first | omega | (constructor <;> intro h <;> omega)
/-- what Next looks at first -/
def nxE (first : Int) (L : List (List Fr)) (O : List Fr) (m g f upto : Int) : Int := if stchk first L O = 0 then (if curE m g f = 0 then (if upto < 0 then 3 else if 1000000 < upto then 3 else 0) else curE m g f) else stchk first L O
theorem nxE_zero {first : Int} {L : List (List Fr)} {O : List Fr} {m g f upto : Int} : nxE first L O m g f upto = 0 ↔ stchk first L O = 0 ∧ curE m g f = 0 ∧ 0 ≤ upto ∧ upto ≤ 1000000 := by
  unfold nxE
  by_cases h1 : stchk first L O = 0
  · rw [if_pos h1]
    by_cases h2 : curE m g f = 0
    · rw [if_pos h2]
      repeat' split
      all_goals (constructor <;> intro h <;> first | omega | (refine ⟨h1, h2, ?_, ?_⟩ <;> omega))
    · rw [if_neg h2]; exact ⟨fun h => absurd h h2, fun h => absurd h.2.1 h2⟩
  · rw [if_neg h1]; exact ⟨fun h => absurd h h1, fun h => absurd h.1 h1⟩

/-- the place of the frame that comes next, as the program finds it -/
def plT (first : Int) (L : List (List Fr)) (O : List Fr) (g f : Int) : Bool := decide (¬ getE first L O g = 0 ∨ ((getG first L O g).length : Int) < f)
def plS (first : Int) (L : List (List Fr)) (O : List Fr) (m : Int) : Int := if m = 3 then first else seekN first L O 1000000
def plG (first : Int) (L : List (List Fr)) (O : List Fr) (m g f : Int) : Int := if plT first L O g f then plS first L O m else if f = (getG first L O g).length then g + 1 else g
def plF (first : Int) (L : List (List Fr)) (O : List Fr) (g f : Int) : Int := if plT first L O g f then 0 else if f = (getG first L O g).length then 0 else f
def mayB (m t upto : Int) : Bool := decide (m = 1) || (decide (m = 3) && decide (t ≤ upto))
def okB (first : Int) (L : List (List Fr)) (O : List Fr) (m g f upto : Int) : Bool := decide (getE first L O g = 0) && mayB m (frAt (getG first L O g) f.toNat).time upto

/-- the same, as the document says it -/
def tryAt (m upto : Int) (A : List (List Fr)) (k j : Nat) (t : Bool) : Option (Nat × Nat × Bool) := if m = 3 ∧ upto < (frAt (grAt A k) j).time then none else some (k, j, t)
def nxt (m : Int) (A : List (List Fr)) (d f upto : Int) : Option (Nat × Nat × Bool) :=
  if m = 2 ∨ A.length = 0 then none else
    if d < 0 ∨ (A.length : Int) ≤ d ∨ ((grAt A d.toNat).length : Int) < f then tryAt m upto A (if m = 1 then A.length - 1 else 0) 0 true
    else if f = (grAt A d.toNat).length then (if d.toNat + 1 = A.length then none else tryAt m upto A (d.toNat + 1) 0 false)
    else tryAt m upto A d.toNat f.toNat false

theorem seek_last {first : Int} {L : List (List Fr)} {O : List Fr} (h : stchk first L O = 0) : seekN first L O 1000000 = if (allG L O).length = 0 then 0 else first + ((allG L O).length - 1 : Nat) := by
  by_cases h0 : (allG L O).length = 0
  · rw [if_pos h0]
    have he : seekE first L O 1000000 = 5 := by unfold seekE; rw [if_pos h, if_neg (by omega), if_neg (by omega), if_pos h0]
    unfold seekN
    rw [he, if_neg (by decide)]
  · rw [if_neg h0]
    have he : seekE first L O 1000000 = 0 := by unfold seekE; rw [if_pos h, if_neg (by omega), if_neg (by omega), if_neg h0]
    obtain ⟨_, _, _, _, e⟩ := seekE_zero he
    rw [e]
    obtain ⟨n, hn⟩ : ∃ n, (allG L O).length = n + 1 := ⟨(allG L O).length - 1, by omega⟩
    rw [hn, Nat.add_sub_cancel]
    cases n with
    | zero => rfl
    | succ n =>
      rw [seekI_hit rfl]
      have hr := allG_right h _ (grAt_mem (L := allG L O) (k := n + 1) (by omega))
      have := ((gchk_zero.1 hr).2.2 0 (gchk_zero.1 hr).1).1
      exact (chkF_zero this).2.1

/-- what the program does is what the document says -/
theorem next_spec {first : Int} {L : List (List Fr)} {O : List Fr} {m g f : Int} (upto : Int) (hs : stchk first L O = 0) (hc : curE m g f = 0) :
    (getE first L O (plG first L O m g f) = 0 → ∃ k j : Nat, plG first L O m g f = first + k ∧ k < (allG L O).length ∧ plF first L O g f = j ∧ j < (grAt (allG L O) k).length) ∧
    (okB first L O m (plG first L O m g f) (plF first L O g f) upto = true → ∃ k j : Nat, plG first L O m g f = first + k ∧ k < (allG L O).length ∧ plF first L O g f = j ∧ j < (grAt (allG L O) k).length ∧ nxt m (allG L O) (g - first) f upto = some (k, j, plT first L O g f)) ∧
    (okB first L O m (plG first L O m g f) (plF first L O g f) upto = false → nxt m (allG L O) (g - first) f upto = none) := by
  obtain ⟨c1, c2, c3, c4, c5, c6⟩ := curE_zero.1 hc
  obtain ⟨A, hA⟩ : ∃ A, A = allG L O := ⟨_, rfl⟩
  have hAR : ∀ k, k < A.length → 0 < (grAt A k).length := fun k hk => (gchk_first (by rw [hA]; exact allG_right hs _ (grAt_mem (by rw [← hA]; exact hk)))).1
  have hin : ∀ k : Nat, k < A.length → getE first L O (first + k) = 0 ∧ getG first L O (first + k) = grAt A k := fun k hk => by
    have := getE_in hs (n := first + k) (d := k) rfl (by rw [← hA]; exact hk)
    rw [← hA] at this; exact this
  have hout : ∀ n : Int, n < first ∨ first + A.length ≤ n → getE first L O n = 5 := fun n hn => (getE_out hs (by rw [← hA]; exact hn)).1
  have hlast := seek_last hs
  rw [← hA] at hlast ⊢
  -- by the place
  have key : ∀ (G F : Int) (T : Bool), plG first L O m g f = G → plF first L O g f = F → plT first L O g f = T →
      ((∃ k j : Nat, G = first + k ∧ k < A.length ∧ F = j ∧ j < (grAt A k).length ∧ (m = 2 ∨ nxt m A (g - first) f upto = tryAt m upto A k j T) ∧ (m = 2 → nxt m A (g - first) f upto = none)) ∨ (getE first L O G = 5 ∧ nxt m A (g - first) f upto = none)) →
      (getE first L O G = 0 → ∃ k j : Nat, G = first + k ∧ k < A.length ∧ F = j ∧ j < (grAt A k).length) ∧
      (okB first L O m G F upto = true → ∃ k j : Nat, G = first + k ∧ k < A.length ∧ F = j ∧ j < (grAt A k).length ∧ nxt m A (g - first) f upto = some (k, j, T)) ∧
      (okB first L O m G F upto = false → nxt m A (g - first) f upto = none) := by
    intro G F T _ _ _ h
    rcases h with ⟨k, j, h1, h2, h3, h4, h5, h6⟩ | ⟨h1, h2⟩
    · obtain ⟨e1, e2⟩ := hin k h2
      subst h1 h3
      have hok : okB first L O m (first + k) j upto = mayB m (frAt (grAt A k) j).time upto := by
        unfold okB; rw [e1, e2]; simp
      refine ⟨fun _ => ⟨k, j, rfl, h2, rfl, h4⟩, fun h => ⟨k, j, rfl, h2, rfl, h4, ?_⟩, fun h => ?_⟩
      · rw [hok] at h
        unfold mayB at h
        simp at h
        rcases h5 with h5 | h5
        · omega
        · rw [h5]; unfold tryAt; rw [if_neg (by omega)]
      · rw [hok] at h
        unfold mayB at h
        simp at h
        rcases h5 with h5 | h5
        · exact h6 h5
        · by_cases h2' : m = 2
          · exact h6 h2'
          · rw [h5]; unfold tryAt; rw [if_pos (by omega)]
    · refine ⟨fun h => (by rw [h1] at h; cases h), fun h => ?_, fun _ => h2⟩
      unfold okB at h; rw [h1] at h; simp at h
  by_cases hT : ¬ getE first L O g = 0 ∨ ((getG first L O g).length : Int) < f
  · have eT : plT first L O g f = true := decide_eq_true hT
    have eG : plG first L O m g f = plS first L O m := by unfold plG; rw [eT]; rfl
    have eF : plF first L O g f = 0 := by unfold plF; rw [eT]; rfl
    have hd : A.length = 0 ∨ (g - first < 0 ∨ (A.length : Int) ≤ g - first ∨ ((grAt A (g - first).toNat).length : Int) < f) := by
      by_cases h1 : g - first < 0 ∨ (A.length : Int) ≤ g - first
      · omega
      · obtain ⟨e1, e2⟩ := hin (g - first).toNat (by omega)
        rw [show first + ((g - first).toNat : Int) = g by omega] at e1 e2
        rw [e2] at hT
        rcases hT with hT | hT
        · exact absurd e1 hT
        · exact .inr (.inr (.inr hT))
    rw [eG, eF, eT]
    refine key _ _ _ eG eF eT ?_
    by_cases h0 : A.length = 0
    · refine .inr ⟨hout _ ?_, by unfold nxt; rw [if_pos (.inr h0)]⟩
      unfold plS; rw [hlast, if_pos h0, h0]
      obtain ⟨q1, _⟩ := stchk_zero.1 hs
      split <;> omega
    · left
      have hd2 := hd.resolve_left h0
      have hn : ¬ m = 2 → nxt m A (g - first) f upto = tryAt m upto A (if m = 1 then A.length - 1 else 0) 0 true := fun h => by
        unfold nxt; rw [if_neg (by omega), if_pos hd2]
      have hn2 : m = 2 → nxt m A (g - first) f upto = none := fun h => by unfold nxt; rw [if_pos (.inl h)]
      unfold plS
      by_cases h3 : m = 3
      · rw [if_pos h3]
        refine ⟨0, 0, by simp, by omega, rfl, hAR 0 (by omega), .inr ?_, hn2⟩
        rw [hn (by omega), if_neg (by omega)]
      · rw [if_neg h3, hlast, if_neg h0]
        refine ⟨A.length - 1, 0, rfl, by omega, rfl, hAR _ (by omega), ?_, hn2⟩
        by_cases h2 : m = 2
        · exact .inl h2
        · right; rw [hn h2, if_pos (by omega)]
  · have eT : plT first L O g f = false := decide_eq_false hT
    have h1 : getE first L O g = 0 := by by_cases h : getE first L O g = 0 <;> omega
    have hg1 : ¬ (g < first ∨ first + (A.length : Int) ≤ g) := fun h => by rw [hout g h] at h1; cases h1
    obtain ⟨d, hd⟩ : ∃ d : Nat, g = first + d := ⟨(g - first).toNat, by omega⟩
    have hdA : d < A.length := by omega
    obtain ⟨_, e2⟩ := hin d hdA
    rw [← hd] at e2
    have hgd : (g - first).toNat = d := by omega
    have hfl : f ≤ (grAt A d).length := by rw [e2] at hT; omega
    have hnd : ¬ (g - first < 0 ∨ (A.length : Int) ≤ g - first ∨ ((grAt A (g - first).toNat).length : Int) < f) := by rw [hgd]; omega
    have hn2 : m = 2 → nxt m A (g - first) f upto = none := fun h => by unfold nxt; rw [if_pos (.inl h)]
    by_cases hf : f = (grAt A d).length
    · have eG : plG first L O m g f = g + 1 := by unfold plG; rw [eT, e2, if_pos hf]; rfl
      have eF : plF first L O g f = 0 := by unfold plF; rw [eT, e2, if_pos hf]; rfl
      rw [eG, eF, eT]
      refine key _ _ _ eG eF eT ?_
      have hn : ¬ m = 2 → nxt m A (g - first) f upto = if d + 1 = A.length then none else tryAt m upto A (d + 1) 0 false := fun h => by
        unfold nxt; rw [if_neg (by omega), if_neg hnd, hgd, if_pos hf]
      by_cases hl : d + 1 = A.length
      · right
        refine ⟨hout _ (by omega), ?_⟩
        by_cases h2 : m = 2
        · exact hn2 h2
        · rw [hn h2, if_pos hl]
      · left
        refine ⟨d + 1, 0, by omega, by omega, rfl, hAR _ (by omega), ?_, hn2⟩
        by_cases h2 : m = 2
        · exact .inl h2
        · right; rw [hn h2, if_neg hl]
    · have eG : plG first L O m g f = g := by unfold plG; rw [eT, e2, if_neg hf]; rfl
      have eF : plF first L O g f = f := by unfold plF; rw [eT, e2, if_neg hf]; rfl
      rw [eG, eF, eT]
      refine key _ _ _ eG eF eT (.inl ⟨d, f.toNat, hd, hdA, by omega, by omega, ?_, hn2⟩)
      by_cases h2 : m = 2
      · exact .inl h2
      · right; unfold nxt; rw [if_neg (by omega), if_neg hnd, hgd, if_neg hf]

end Go.Proofs.YtnpaejknoipicagGreat

namespace Go.Proofs.YtnpaejknoipicagGreat
open Go.RowKit

def Stay (w : World) (P : World → Prop) : Prop := ∀ w', Below w.heap.size w w' → P w'
theorem Stay.now {w : World} {P : World → Prop} (h : Stay w P) : P w := h w (Below.refl _ _)
theorem Stay.step {w w' : World} {P : World → Prop} (h : Stay w P) (hb : Below w.heap.size w w') : Stay w' P := fun w'' h2 => h w'' (hb.trans (h2.mono hb.size))
theorem Stay.alloc {w : World} {P : World → Prop} (h : Stay w P) (o : Obj) : Stay (w.alloc o) P := h.step ((Below.refl _ w).alloc (Nat.le_refl _) _)
theorem Stay.and {w : World} {P Q : World → Prop} (h : Stay w P) (k : Stay w Q) : Stay w (fun U => P U ∧ Q U) := fun w' hb => ⟨h w' hb, k w' hb⟩
theorem Stay.imp {w : World} {P Q : World → Prop} (h : Stay w P) (k : ∀ U, P U → Q U) : Stay w Q := fun w' hb => k w' (h w' hb)
theorem Blk.stay {w : World} {b : Nat} {C : Array Value} {t : TypeId} (h : Blk w b C t) : Stay w (fun U => Blk U b C t) := fun _ hb => h.below hb h.lt
theorem FrsIn.stay {S : Nat → Prop} {w : World} {v : Value} {l : List Fr} (h : FrsIn S w v l) : Stay w (fun U => FrsIn S U v l) := fun _ hb => h.below hb
theorem StrsIn.stay {S : Nat → Prop} {w : World} {v : Value} {l : List ByteArray} (h : StrsIn S w v l) : Stay w (fun U => StrsIn S U v l) := fun _ hb => h.below hb
theorem GrsIn.stay {S : Nat → Prop} {w : World} {v : Value} {L : List (List Fr)} (h : GrsIn S w v L) : Stay w (fun U => GrsIn S U v L) := fun _ hb => h.below hb
theorem below_stay {B : Nat} {a w : World} (h : Below B a w) (hB : B ≤ w.heap.size) : Stay w (fun U => Below B a U) := fun _ hb => h.trans (hb.mono hB)
theorem below_stay0 (w : World) : Stay w (fun U => Below w.heap.size w U) := below_stay (Below.refl _ _) (Nat.le_refl _)

theorem Stay.hid {w : World} {P : World → Prop} (h : Stay w P) : Hid (Stay w P) := h
theorem Stay.go {w w' : World} {P : World → Prop} (h : Hid (Stay w P)) (hb : Below w.heap.size w w') : Hid (Stay w' P) := Stay.step h hb
theorem Stay.allocE {w W : World} {P : World → Prop} {o : Obj} (h : Stay w P) (e : W = w.alloc o) : Hid (Stay W P) := by subst e; exact h.alloc _
theorem Blk.newE {w W : World} {C : Array Value} {t : TypeId} (e : W = w.alloc (.cells C t)) : Blk W w.heap.size C t := by subst e; exact Blk.new _ _ _
theorem FrsIn.allocE {S : Nat → Prop} {w W : World} {v : Value} {l : List Fr} {o : Obj} (h : FrsIn S w v l) (e : W = w.alloc o) : FrsIn S W v l := by subst e; exact h.alloc _
theorem GrsIn.allocE {S : Nat → Prop} {w W : World} {v : Value} {L : List (List Fr)} {o : Obj} (h : GrsIn S w v L) (e : W = w.alloc o) : GrsIn S W v L := by subst e; exact h.alloc _
theorem StrsIn.allocE {S : Nat → Prop} {w W : World} {v : Value} {l : List ByteArray} {o : Obj} (h : StrsIn S w v l) (e : W = w.alloc o) : StrsIn S W v l := by subst e; exact h.alloc _

end Go.Proofs.YtnpaejknoipicagGreat
