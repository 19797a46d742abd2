/-
 The walk of DeskPaused (by program: reg/deskpaused.py).
-/
import Derived.Test.YtnpaejknoipicagGreatMgDeskPaused15
import Derived.Test.YtnpaejknoipicagGreatMgDeskPaused12
import Derived.Test.YtnpaejknoipicagGreatMgDeskPaused4
import Derived.Test.YtnpaejknoipicagGreatMgDeskPaused2
import Derived.BigQuiet
import Derived.Test.YtnpaejknoipicagGreatMgDeskPaused8
import Derived.Deep.DeepCutAuto
import Derived.Test.YtnpaejknoipicagGreatMgDeskPaused3
import Derived.Test.YtnpaejknoipicagGreatMgDeskPaused14
namespace Go.Proofs.YtnpaejknoipicagGreat
open Go.RowKit
def pksE : List Pk → Int
 | [] => 0
 | p :: r => if p.chk = 0 then pksE r else p.chk
theorem pksE_zero : ∀ {l : List Pk}, pksE l = 0 → ∀ p ∈ l, p.chk = 0
 | q :: r, h, p, hp => by
  unfold pksE at h
  by_cases h1 : q.chk = 0
  ·rw [if_pos h1] at h
   rcases List.mem_cons.1 hp with e | e
   ·rw [e]; exact h1
   ·exact pksE_zero h p e
  ·rw [if_neg h1] at h; exact absurd h h1
def waE (l : List Pk) : Int := if 100 < l.length then 2 else if pksE l = 0 then (if slE l = 0 then framesE (slR l) else slE l) else pksE l
def waR (l : List Pk) : List Fr := if 100 < l.length then [] else if pksE l = 0 then (if slE l = 0 then framesR (slR l) else []) else []
theorem Outs.base {B B' : Nat} {w : World} {u : Value} {l : List Fr} (h : Outs B w u l) (hB : B' ≤ B) : Outs B' w u l := by
 obtain ⟨vs, h1, h2, h3⟩ := h
 exact ⟨vs, h1, owns_base h2 hB, h3⟩
set_option maxHeartbeats 8000000 in
set_option maxRecDepth 100000 in
theorem deskWatch_any (l : List Pk) (v : Value) (w : World) (hv : Pks w v l) :
  Calls Tryz.prog 11 #[v] w fun e w' => ∃ u, e = .returned (.tuple #[u, .int .i64 (waE l)]) ∧ Outs w.heap.size w' u (waR l) ∧ Below w.heap.size w w' := by
 obtain ⟨ao, c, ev⟩ := Sl.len hv
 subst ev
 have HV : Hid (Pks w (.slice ao l.length c) l) := hv
 obtain ⟨n, hn⟩ : ∃ n, n = l.length := ⟨_, rfl⟩
 have HN : Hid (n = l.length) := hn
 obtain ⟨E, hE⟩ : ∃ E, E = waE l := ⟨_, rfl⟩
 obtain ⟨R, hR⟩ : ∃ E, E = waR l := ⟨_, rfl⟩
 have HE : Hid (E = if 100 < n then 2 else if pksE l = 0 then (if slE l = 0 then framesE (slR l) else slE l) else pksE l) := by show E = _; rw [hE, hn]; rfl
 have HR : Hid (R = if 100 < n then [] else if pksE l = 0 then (if slE l = 0 then framesR (slR l) else []) else []) := by show R = _; rw [hR, hn]; rfl
 have HAT : Hid (∀ k, k < n → ∃ b off, ao = some ⟨b, off, none⟩ ∧ b < w.heap.size ∧ ∀ j u, (l[k]?.getD Pk.zero).cells[j]? = some u → w.cell? ⟨b, off + k * 6 + j, none⟩ = some u) := fun k hk => by
  have hk' : k < l.length := by rw [← HN.out]; exact hk
  rw [List.getElem?_eq_getElem hk', Option.getD_some]
  exact Pks.at HV.out hk'
 rw [← hE, ← hR]
 rw [← hn] at HV ⊢
 obtain ⟨X, hX⟩ : ∃ x, x = w.heap.size := ⟨_, rfl⟩
 have HXw : Hid (X = w.heap.size) := hX
 rw [← hX]
 clear hv hn hE hR hX
 go_enter Tryz.func11, Tryz.ntmps11
 by_cases h1 : 100 < n
 ·have hEz : Hid (E = 2) := by show E = 2; rw [HE.out, if_pos h1]
  have hRz : Hid (R = []) := by show R = []; rw [HR.out, if_pos h1]
  have hBz : Hid (Below X w w) := by show Below _ _ _; rw [HXw.out]; exact Below.refl _ _
  clear HE HR HAT HN HV
  go_wp2
  go_ret2
  exact ⟨_, by rw [hEz.out]; rfl, by rw [hRz.out]; exact Outs.nil _ _, hBz.out⟩
 have HE1 : Hid (E = if pksE l = 0 then (if slE l = 0 then framesE (slR l) else slE l) else pksE l) := by show E = _; rw [HE.out, if_neg h1]
 have HR1 : Hid (R = if pksE l = 0 then (if slE l = 0 then framesR (slR l) else []) else []) := by show R = _; rw [HR.out, if_neg h1]
 have h1' : n ≤ 100 := by omega
 clear HE HR h1
 go_wp2_with fail
 go_loopw [14] (fun i wr => ∃ k : Nat, k ≤ n ∧ i = .int .i64 k ∧ Hid (pksE l = pksE (l.drop k)) ∧ Hid (Below X w wr))
  (fun i _ => n - (intOf i).toNat)
 case atStart => exact ⟨0, Nat.zero_le _, rfl, rfl, by show Below _ _ _; rw [HXw.out]; exact Below.refl _ _⟩
 case round =>
  obtain ⟨k, hk, rfl, HP, HB⟩ := hrel
  have hXr : X ≤ wr.heap.size := by have := HB.out.size; rw [← HXw.out] at this; exact this
  by_cases hlt : k < n
  ·obtain ⟨bA, off, rfl, hbX, hac⟩ := HAT.out k hlt
   obtain ⟨p, hp⟩ : ∃ p, p = l[k]?.getD Pk.zero := ⟨_, rfl⟩
   have HD : Hid (pksE l = if p.chk = 0 then pksE (l.drop (k + 1)) else p.chk) := by
    show pksE l = _
    have hk' : k < l.length := by rw [← HN.out]; exact hlt
    rw [HP.out, List.drop_eq_getElem_cons hk']
    rw [List.getElem?_eq_getElem hk', Option.getD_some] at hp
    rw [← hp]; rfl
   rw [← hp] at hac
   have hbw : bA < X := by rw [HXw.out]; exact hbX
   have hcB : ∀ i u, p.cells[i]? = some u → wr.cell? ⟨bA, off + k * 6 + i, none⟩ = some u := fun i u hu => (HB.out.cell (p := ⟨bA, off + k * 6 + i, none⟩) hbw).trans (hac i u hu)
   obtain ⟨D, hD⟩ : ∃ D, D = p.chk := ⟨_, rfl⟩
   have HCK : Hid (∀ U, Calls Tryz.prog 35 #[p.val] U fun e w' => e = .returned (.int .i64 D) ∧ Below U.heap.size U w') := fun U => by
    rw [hD]
    refine (check_any p U).mono ?_
    rintro e w' ⟨rfl, rfl⟩
    exact ⟨rfl, (Below.refl _ _).alloc (Nat.le_refl _) _⟩
   rw [← hD] at HD
   obtain ⟨sq, tm, xf, xe, xk, xt⟩ := p
   have c0 : wr.cell? ⟨bA, off + k * 6, none⟩ = some (.int .i64 sq) := hcB 0 _ rfl
   have c1 : wr.cell? ⟨bA, off + k * 6 + 1, none⟩ = some (.int .i64 tm) := hcB 1 _ rfl
   have c2 : wr.cell? ⟨bA, off + k * 6 + 2, none⟩ = some (.bool xf) := hcB 2 _ rfl
   have c3 : wr.cell? ⟨bA, off + k * 6 + 3, none⟩ = some (.bool xe) := hcB 3 _ rfl
   have c4 : wr.cell? ⟨bA, off + k * 6 + 4, none⟩ = some (.bool xk) := hcB 4 _ rfl
   have c5 : wr.cell? ⟨bA, off + k * 6 + 5, none⟩ = some (.string xt) := hcB 5 _ rfl
   have hbl : bA < wr.heap.size := by omega
   clear hac hp hbX hbw hcB hD HP HAT HV
   go_upto_region 6 with fail
   obtain ⟨W1, hW1⟩ : ∃ W, W = wr.alloc (.cells #[.int .i64 sq, .int .i64 tm, .bool xf, .bool xe, .bool xk, .string xt] 63) := ⟨_, rfl⟩
   obtain ⟨Q, hQ⟩ : ∃ q, q = wr.heap.size := ⟨_, rfl⟩
   have KQ : Blk W1 Q #[.int .i64 sq, .int .i64 tm, .bool xf, .bool xe, .bool xk, .string xt] 63 := by rw [hQ]; exact Blk.newE hW1
   have HB1 : Hid (Below X w W1) := by show Below _ _ _; rw [hW1]; exact HB.out.alloc hXr _
   have hX1 : X ≤ W1.heap.size := by rw [hW1]; simp; omega
   obtain ⟨j0, j1, j2, j3, j4, j5⟩ : W1.cell? ⟨Q, 0, none⟩ = some (.int .i64 sq) ∧ W1.cell? ⟨Q, 1, none⟩ = some (.int .i64 tm) ∧ W1.cell? ⟨Q, 2, none⟩ = some (.bool xf) ∧ W1.cell? ⟨Q, 3, none⟩ = some (.bool xe) ∧ W1.cell? ⟨Q, 4, none⟩ = some (.bool xk) ∧ W1.cell? ⟨Q, 5, none⟩ = some (.string xt) := ⟨KQ.cell rfl, KQ.cell rfl, KQ.cell rfl, KQ.cell rfl, KQ.cell rfl, KQ.cell rfl⟩
   rw [← hW1]
   try rw [← hQ]
   clear hW1 hQ KQ c0 c1 c2 c3 c4 c5 HB hbl
   go_wp2_with fail
   refine (HCK.out W1).mono ?_
   rintro e W2 ⟨rfl, b2⟩
   have HB2 : Hid (Below X w W2) := HB1.out.trans (b2.mono hX1)
   clear b2 HCK j0 j1 j2 j3 j4 j5 HB1
   by_cases hD0 : D = 0
   ·have HP2 : Hid (pksE l = pksE (l.drop (k + 1))) := by
     have := HD.out
     rw [if_pos hD0] at this; exact this
    clear HD
    subst hD0
    go_wp2_with fail
    go_roundw
    case rel => exact ⟨k + 1, by omega, by go_num, HP2.out, HB2.out⟩
    case measure => simp [intOf]; omega
   ·have hP2 : pksE l = D := by
     have := HD.out
     rw [if_neg hD0] at this; exact this
    have hEz : Hid (E = D) := by show E = D; rw [HE1.out, if_neg (by rw [hP2]; exact hD0), hP2]
    have hRz : Hid (R = []) := by show R = []; rw [HR1.out, if_neg (by rw [hP2]; exact hD0)]
    clear HD hP2 HE1 HR1
    go_wp2_with fail
    go_ret2
    exact ⟨_, by rw [hEz.out]; rfl, by rw [hRz.out]; exact Outs.nil _ _, HB2.out⟩
  ·have hkn : n = k := by omega
   have hP0 : pksE l = 0 := by rw [HP.out, ← hkn, HN.out, List.drop_length]; rfl
   have HRT : Hid (∀ p ∈ l, p.chk = 0) := pksE_zero hP0
   have HE2 : Hid (E = if slE l = 0 then framesE (slR l) else slE l) := by show E = _; rw [HE1.out, if_pos hP0]
   have HR2 : Hid (R = if slE l = 0 then framesR (slR l) else []) := by show R = _; rw [HR1.out, if_pos hP0]
   have HSL : Hid (Calls Tryz.prog 36 #[.slice ao n c] wr fun e w' => ∃ u, e = .returned (.tuple #[u, .int .i64 (slE l)]) ∧ Sls w' u (slR l) ∧ Below wr.heap.size wr w') := slotsOf_any l _ wr (Pks.below HV.out (by rw [← HXw.out]; exact HB.out)) (by rw [← HN.out]; exact h1') HRT.out
   obtain ⟨S, hS⟩ : ∃ S, S = slE l := ⟨_, rfl⟩
   rw [← hS] at HE2 HR2 HSL
   have HSE : Hid (S = slE l) := hS
   clear hS hP0 HE1 HR1 HP HAT HV
   subst hkn
   go_wp2_with fail
   refine HSL.out.mono ?_
   rintro e W2 ⟨u, rfl, g1, b2⟩
   have HB2 : Hid (Below X w W2) := HB.out.trans (b2.mono hXr)
   have HS2 : Hid (Sls W2 u (slR l)) := g1
   have hX2 : X ≤ W2.heap.size := Nat.le_trans hXr b2.size
   clear b2 g1 HSL HB
   by_cases hS0 : S = 0
   case neg =>
    have hEz : Hid (E = S) := by show E = S; rw [HE2.out, if_neg hS0]
    have hRz : Hid (R = []) := by show R = []; rw [HR2.out, if_neg hS0]
    clear HE2 HR2 HS2
    go_wp2_with fail
    go_ret2
    exact ⟨_, by rw [hEz.out]; rfl, by rw [hRz.out]; exact Outs.nil _ _, HB2.out⟩
   have hlr : (slR l).length ≤ 9223372036854775807 := by
    have : (slR l).length ≤ n := by
     unfold slR
     split
     ·rw [slK_len]; exact Nat.le_of_eq HN.out.symm
     ·exact Nat.zero_le _
    omega
   have HFA : Hid (Calls Tryz.prog 37 #[u] W2 fun e w' => ∃ y, e = .returned (.tuple #[y, .int .i64 E]) ∧ Outs W2.heap.size w' y R ∧ Below W2.heap.size W2 w') := by
    have q := frameAll_any u (slR l) W2 HS2.out hlr
    have e1 := HE2.out
    have e2 := HR2.out
    rw [if_pos hS0] at e1 e2
    rw [← e1, ← e2] at q
    exact q
   clear HE2 HR2 HS2 hlr HSE
   subst hS0
   go_wp2_with fail
   refine HFA.out.mono ?_
   rintro e W3 ⟨y, rfl, g1, b3⟩
   have HB3 : Hid (Below X w W3) := HB2.out.trans (b3.mono hX2)
   have HO3 : Hid (Outs X W3 y R) := g1.base hX2
   clear b3 g1 HFA HB2
   go_wp2_with fail
   go_ret2
   exact ⟨_, rfl, HO3.out, HB3.out⟩
def sp1 : Pk := ⟨5, 100, true, true, true, ⟨#[97]⟩⟩
def sp2 : Pk := ⟨6, 110, true, true, true, ⟨#[98]⟩⟩
def scr (b1 b2 : ByteArray) : List Ac := [⟨1, 0, b1⟩, ⟨1, 0, b2⟩, ⟨4, 0, ByteArray.empty⟩, ⟨5, 105, ByteArray.empty⟩, ⟨2, 0, ByteArray.empty⟩, ⟨5, 0, ByteArray.empty⟩, ⟨3, 0, ByteArray.empty⟩]
def scr0 : List Ac := scr (ba sp1.enc) (ba sp2.enc)
def sk1 : Pk := ⟨1, 10, true, true, true, ⟨#[97]⟩⟩
def sk2 : Pk := ⟨2, 20, true, true, true, ⟨#[98]⟩⟩
theorem scrE : (runR scr0).2.2.2.2 = 0 := by kernel_rfl
theorem scrM : (runR scr0).2.1.m = 2 := by kernel_rfl
theorem scrL : (runR scr0).1.L.length = 1 := by kernel_rfl
theorem scrT : (runR scr0).2.2.2.1.length = 7 := by kernel_rfl
theorem scrP : (runR scr0).2.2.1 = [sk1, sk2] := by kernel_rfl
theorem scrD : (doA (runR scr0).1 (runR scr0).2.1 5 500 ByteArray.empty).2.2.2 = 0 := by kernel_rfl
theorem scrN : (doA (runR scr0).1 (runR scr0).2.1 5 500 ByteArray.empty).2.2.1 = [] := by kernel_rfl
theorem scrW : waE [sk1, sk2] = 0 := by kernel_rfl
theorem scrF : (waR [sk1, sk2]).length = 2 := by kernel_rfl
set_option maxHeartbeats 4000000 in
set_option maxRecDepth 100000 in
theorem script_any (w : World) : Calls Tryz.prog 28 #[] w fun e w' => ∃ u, e = .returned u ∧ Acs w' u scr0 ∧ Below w.heap.size w w' := by
 obtain ⟨b1, hb1⟩ : ∃ b, b = ba sp1.enc := ⟨_, rfl⟩
 obtain ⟨b2, hb2⟩ : ∃ b, b = ba sp2.enc := ⟨_, rfl⟩
 have HB1 : Hid (∀ W : World, Calls Tryz.prog 57 #[.agg #[.int .i64 5, .int .i64 100, .bool true, .bool true, .bool true, .string ⟨#[97]⟩]] W fun e w' => e = .returned (.string b1) ∧ Below W.heap.size W w') := by rw [hb1]; exact fun W => bytesOf_any _ _ _ _ _ _ W (by decide)
 have HB2 : Hid (∀ W : World, Calls Tryz.prog 57 #[.agg #[.int .i64 6, .int .i64 110, .bool true, .bool true, .bool true, .string ⟨#[98]⟩]] W fun e w' => e = .returned (.string b2) ∧ Below W.heap.size W w') := by rw [hb2]; exact fun W => bytesOf_any _ _ _ _ _ _ W (by decide)
 rw [show scr0 = scr b1 b2 by rw [hb1, hb2]; rfl]
 obtain ⟨X, hX⟩ : ∃ x, x = w.heap.size := ⟨_, rfl⟩
 have HX : Hid (Below X w w) := by show Below _ _ _; rw [hX]; exact Below.refl _ _
 have hXX : X ≤ w.heap.size := by omega
 rw [← hX]
 clear hb1 hb2 hX
 go_enter Tryz.func28, Tryz.ntmps28
 go_wp2_with fail
 refine (trWhole_any _ _ _ _).mono ?_
 rintro e w1 ⟨rfl, q1⟩
 have H1 : Hid (Below X w w1) := HX.out.trans (q1.mono hXX)
 have s1 : X ≤ w1.heap.size := Nat.le_trans hXX q1.size
 clear q1 HX hXX
 go_wp2_with fail
 refine (HB1.out _).mono ?_
 rintro e w2 ⟨rfl, q1⟩
 have H2 : Hid (Below X w w2) := H1.out.trans (q1.mono s1)
 have s2 : X ≤ w2.heap.size := Nat.le_trans s1 q1.size
 clear q1 H1 s1 HB1
 go_wp2_with fail
 refine (trWhole_any _ _ _ _).mono ?_
 rintro e w3 ⟨rfl, q1⟩
 have H3 : Hid (Below X w w3) := H2.out.trans (q1.mono s2)
 have s3 : X ≤ w3.heap.size := Nat.le_trans s2 q1.size
 clear q1 H2 s2
 go_wp2_with fail
 refine (HB2.out _).mono ?_
 rintro e w4 ⟨rfl, q1⟩
 have H4 : Hid (Below X w w4) := H3.out.trans (q1.mono s3)
 have s4 : X ≤ w4.heap.size := Nat.le_trans s3 q1.size
 clear q1 H3 s3 HB2
 go_wp2
 go_ret
 exact ⟨_, rfl, Sl.new _ _ _ 7 3 _ rfl, H4.out.alloc s4 _⟩
set_option maxHeartbeats 8000000 in
set_option maxRecDepth 100000 in
theorem deskBegun_any (w : World) : Calls Tryz.prog 8 #[] w fun e w' => e = .returned (.bool true) ∧ Below w.heap.size w w' := by
 obtain ⟨A, hA⟩ : ∃ A, A = runR scr0 := ⟨_, rfl⟩
 have hE := scrE
 have hM := scrM
 have hL := scrL
 have hT := scrT
 have hP := scrP
 have hD := scrD
 have hN := scrN
 rw [← hA] at hE hM hL hT hP hD hN
 obtain ⟨la1, hla1⟩ : ∃ x, x = A.1.last := ⟨_, rfl⟩
 obtain ⟨ne1, hne1⟩ : ∃ x, x = A.1.next := ⟨_, rfl⟩
 obtain ⟨fi1, hfi1⟩ : ∃ x, x = A.1.first := ⟨_, rfl⟩
 obtain ⟨m1, hm1⟩ : ∃ x, x = A.2.1.m := ⟨_, rfl⟩
 obtain ⟨g1, hg1⟩ : ∃ x, x = A.2.1.g := ⟨_, rfl⟩
 obtain ⟨f1, hf1⟩ : ∃ x, x = A.2.1.f := ⟨_, rfl⟩
 obtain ⟨l1, hl1⟩ : ∃ x, x = A.2.1.l := ⟨_, rfl⟩
 obtain ⟨t1, ht1⟩ : ∃ x, x = A.2.1.t := ⟨_, rfl⟩
 obtain ⟨s1, hs1⟩ : ∃ x, x = A.2.1.s := ⟨_, rfl⟩
 have HRU : Hid (∀ (u : Value) (W : World), Acs W u scr0 → Calls Tryz.prog 18 #[u] W fun e w' => ∃ ha1 hn1 hc1 oa1 on1 oc1 ga1 gn1 gc1 pa1 pn1 pc1 sa sc ea ec, e = .returned (.tuple #[.agg #[.int .i64 la1, .int .i64 ne1, .slice ha1 hn1 hc1, .slice oa1 on1 oc1, .int .i64 fi1, .slice ga1 gn1 gc1, .slice pa1 pn1 pc1], .agg #[.int .i64 m1, .int .i64 g1, .int .i64 f1, .int .i64 l1, .int .i64 t1, .int .i64 s1], .slice sa 2 sc, .slice ea 7 ec, .int .i64 0]) ∧ Hid (TrIn (fun _ => True) w' (.slice ha1 hn1 hc1) (.slice oa1 on1 oc1) (.slice ga1 gn1 gc1) (.slice pa1 pn1 pc1) A.1) ∧ Hid (Pks w' (.slice sa 2 sc) [sk1, sk2]) ∧ gn1 = 1 ∧ Below W.heap.size W w') := fun u W hu => by
  have q := deskRun_any scr0 u W hu
  rw [← hA] at q
  rw [hla1, hne1, hfi1, hm1, hg1, hf1, hl1, ht1, hs1]
  refine q.mono ?_
  rintro e w' ⟨ha1, hn1, hc1, oa1, on1, oc1, ga1, gn1, gc1, pa1, pn1, pc1, sa, sn, sc, ea, en, ec, rfl, q1, q2, q3, q4, q5, q6⟩
  rw [hP] at q2 q3
  rw [hT] at q4
  rw [hE]
  obtain ⟨_, _, _, _, x3, x4, _, _, _, _, e3, _⟩ := q1.slices
  injection e3 with _ e3 _
  rw [hL] at e3
  subst q2 q4
  exact ⟨ha1, hn1, hc1, oa1, on1, oc1, ga1, gn1, gc1, pa1, pn1, pc1, sa, sc, ea, ec, rfl, q1.mono fun _ _ _ => trivial, Sl.of_owns q3, e3, q6⟩
 have HDO : Hid (∀ (ha1 : Option Addr) (hn1 hc1 : Nat) (oa1 : Option Addr) (on1 oc1 : Nat) (ga1 : Option Addr) (gn1 gc1 : Nat) (pa1 : Option Addr) (pn1 pc1 : Nat) (W : World), TrIn (fun _ => True) W (.slice ha1 hn1 hc1) (.slice oa1 on1 oc1) (.slice ga1 gn1 gc1) (.slice pa1 pn1 pc1) A.1 → Calls Tryz.prog 9 #[.agg #[.int .i64 la1, .int .i64 ne1, .slice ha1 hn1 hc1, .slice oa1 on1 oc1, .int .i64 fi1, .slice ga1 gn1 gc1, .slice pa1 pn1 pc1], .agg #[.int .i64 m1, .int .i64 g1, .int .i64 f1, .int .i64 l1, .int .i64 t1, .int .i64 s1], .agg #[.int .i64 5, .int .i64 500, .string ByteArray.empty]] W fun e w' => ∃ la2 ne2 ha2 hn2 hc2 oa2 on2 oc2 ga2 gn2 gc2 pa2 pn2 pc2 fi2 m2 g2 f2 l2 t2 s2 va vc, e = .returned (.tuple #[.agg #[.int .i64 la2, .int .i64 ne2, .slice ha2 hn2 hc2, .slice oa2 on2 oc2, .int .i64 fi2, .slice ga2 gn2 gc2, .slice pa2 pn2 pc2], .agg #[.int .i64 m2, .int .i64 g2, .int .i64 f2, .int .i64 l2, .int .i64 t2, .int .i64 s2], .slice va 0 vc, .int .i64 0]) ∧ Below W.heap.size W w') := fun ha1 hn1 hc1 oa1 on1 oc1 ga1 gn1 gc1 pa1 pn1 pc1 W hu => by
  have q := deskDo_any A.1 A.2.1 5 500 ByteArray.empty _ _ _ _ W hu
  rw [hla1, hne1, hfi1, hm1, hg1, hf1, hl1, ht1, hs1]
  refine q.mono ?_
  rintro e w' ⟨ha2, hn2, hc2, oa2, on2, oc2, ga2, gn2, gc2, pa2, pn2, pc2, va, vn, vc, rfl, q1, q2, q3, q4⟩
  rw [hN] at q2
  rw [hD]
  have q2' : vn = 0 := q2
  subst q2'
  exact ⟨_, _, ha2, hn2, hc2, oa2, on2, oc2, ga2, gn2, gc2, pa2, pn2, pc2, _, _, _, _, _, _, _, va, vc, rfl, q4⟩
 have HWA : Hid (∀ (sa : Option Addr) (sc : Nat) (W : World), Pks W (.slice sa 2 sc) [sk1, sk2] → Calls Tryz.prog 11 #[.slice sa 2 sc] W fun e w' => ∃ ya yc, e = .returned (.tuple #[.slice ya 2 yc, .int .i64 0]) ∧ Below W.heap.size W w') := fun sa sc W hu => by
  refine (deskWatch_any [sk1, sk2] _ W hu).mono ?_
  rintro e w' ⟨u, rfl, q1, q2⟩
  obtain ⟨ya, yc, e1⟩ := q1.len
  rw [scrF] at e1
  rw [scrW, e1]
  exact ⟨ya, yc, rfl, q2⟩
 have hm2 : m1 = 2 := by rw [hm1]; exact hM
 obtain ⟨X, hX⟩ : ∃ x, x = w.heap.size := ⟨_, rfl⟩
 have HX : Hid (Below X w w) := by show Below _ _ _; rw [hX]; exact Below.refl _ _
 have hXX : X ≤ w.heap.size := by omega
 rw [← hX]
 clear hE hM hL hT hP hD hN hla1 hne1 hfi1 hm1 hg1 hf1 hl1 ht1 hs1 hX hA
 subst hm2
 go_enter Tryz.func8, Tryz.ntmps8
 go_wp2_with fail
 refine (script_any w).mono ?_
 rintro e w1 ⟨u, rfl, q1, q2⟩
 have H1 : Hid (Below X w w1) := HX.out.trans (q2.mono hXX)
 have ss1 : X ≤ w1.heap.size := Nat.le_trans hXX q2.size
 have HU : Hid (Acs w1 u scr0) := q1
 clear q1 q2 HX hXX
 go_wp2_with fail
 refine (HRU.out u w1 HU.out).mono ?_
 rintro e w2 ⟨ha1, hn1, hc1, oa1, on1, oc1, ga1, gn1, gc1, pa1, pn1, pc1, sa, sc, ea, ec, rfl, HT2, HP2, rfl, q2⟩
 have H2 : Hid (Below X w w2) := H1.out.trans (q2.mono ss1)
 have ss2 : X ≤ w2.heap.size := Nat.le_trans ss1 q2.size
 clear q2 H1 ss1 HU HRU
 go_upto_region 2 with fail
 obtain ⟨M, hM⟩ : ∃ M, M = w2.heap.size := ⟨_, rfl⟩
 obtain ⟨W3, hW3⟩ : ∃ W, W = (w2.alloc (.cells #[.int .i64 la1, .int .i64 ne1, .slice ha1 hn1 hc1, .slice oa1 on1 oc1, .int .i64 fi1, .slice ga1 1 gc1, .slice pa1 pn1 pc1] 34)).alloc (.cells #[.int .i64 2, .int .i64 g1, .int .i64 f1, .int .i64 l1, .int .i64 t1, .int .i64 s1] 40) := ⟨_, rfl⟩
 have KT : Hid (Blk W3 M #[.int .i64 la1, .int .i64 ne1, .slice ha1 hn1 hc1, .slice oa1 on1 oc1, .int .i64 fi1, .slice ga1 1 gc1, .slice pa1 pn1 pc1] 34) := by
  have := (Blk.new w2 #[.int .i64 la1, .int .i64 ne1, .slice ha1 hn1 hc1, .slice oa1 on1 oc1, .int .i64 fi1, .slice ga1 1 gc1, .slice pa1 pn1 pc1] 34).alloc (.cells #[.int .i64 2, .int .i64 g1, .int .i64 f1, .int .i64 l1, .int .i64 t1, .int .i64 s1] 40)
  rw [← hW3, ← hM] at this; exact this
 have KV : Hid (Blk W3 (M + 1) #[.int .i64 2, .int .i64 g1, .int .i64 f1, .int .i64 l1, .int .i64 t1, .int .i64 s1] 40) := by
  have := Blk.new (w2.alloc (.cells #[.int .i64 la1, .int .i64 ne1, .slice ha1 hn1 hc1, .slice oa1 on1 oc1, .int .i64 fi1, .slice ga1 1 gc1, .slice pa1 pn1 pc1] 34)) #[.int .i64 2, .int .i64 g1, .int .i64 f1, .int .i64 l1, .int .i64 t1, .int .i64 s1] 40
  rw [World.size_alloc, ← hW3, ← hM] at this; exact this
 have hb23 : Below w2.heap.size w2 W3 := by rw [hW3]; exact ((Below.refl _ w2).alloc (Nat.le_refl _) _).alloc (by simp) _
 have H3 : Hid (Below X w W3) := H2.out.trans (hb23.mono ss2)
 have HT3 : Hid (TrIn (fun _ => True) W3 (.slice ha1 hn1 hc1) (.slice oa1 on1 oc1) (.slice ga1 1 gc1) (.slice pa1 pn1 pc1) A.1) := HT2.out.below hb23
 have HP3 : Hid (Pks W3 (.slice sa 2 sc) [sk1, sk2]) := HP2.out.below hb23
 have ss3 : X ≤ W3.heap.size := Nat.le_trans ss2 hb23.size
 rw [← hW3, ← hM]
 clear hW3 hM hb23 H2 HT2 HP2 ss2
 go_wp2_with fail
 refine (HWA.out sa sc W3 HP3.out).mono ?_
 rintro e w4 ⟨ya, yc, rfl, q4⟩
 have H4 : Hid (Below X w w4) := H3.out.trans (q4.mono ss3)
 have ss4 : X ≤ w4.heap.size := Nat.le_trans ss3 q4.size
 have KT4 : Hid (Blk w4 M #[.int .i64 la1, .int .i64 ne1, .slice ha1 hn1 hc1, .slice oa1 on1 oc1, .int .i64 fi1, .slice ga1 1 gc1, .slice pa1 pn1 pc1] 34) := KT.out.below q4 KT.out.lt
 have KV4 : Hid (Blk w4 (M + 1) #[.int .i64 2, .int .i64 g1, .int .i64 f1, .int .i64 l1, .int .i64 t1, .int .i64 s1] 40) := KV.out.below q4 KV.out.lt
 have HT4 : Hid (TrIn (fun _ => True) w4 (.slice ha1 hn1 hc1) (.slice oa1 on1 oc1) (.slice ga1 1 gc1) (.slice pa1 pn1 pc1) A.1) := HT3.out.below q4
 have HP4 : Hid (Pks w4 (.slice sa 2 sc) [sk1, sk2]) := HP3.out.below q4
 obtain ⟨y0, y1, y2, y3, y4, y5, y6⟩ := KT4.out.sevenc
 obtain ⟨z0, z1, z2, z3, z4, z5⟩ := KV4.out.sixv
 clear q4 H3 ss3 HT3 HP3 HWA KT KV
 go_wp2_with fail
 refine (HDO.out _ _ _ _ _ _ _ _ _ _ _ _ w4 HT4.out).mono ?_
 rintro e w5 ⟨la2, ne2, ha2, hn2, hc2, oa2, on2, oc2, ga2, gn2, gc2, pa2, pn2, pc2, fi2, m2, g2, f2, l2, t2, s2, va, vc, rfl, q5⟩
 have H5 : Hid (Below X w w5) := H4.out.trans (q5.mono ss4)
 have ss5 : X ≤ w5.heap.size := Nat.le_trans ss4 q5.size
 have KT5 : Hid (Blk w5 M #[.int .i64 la1, .int .i64 ne1, .slice ha1 hn1 hc1, .slice oa1 on1 oc1, .int .i64 fi1, .slice ga1 1 gc1, .slice pa1 pn1 pc1] 34) := KT4.out.below q5 KT4.out.lt
 have KV5 : Hid (Blk w5 (M + 1) #[.int .i64 2, .int .i64 g1, .int .i64 f1, .int .i64 l1, .int .i64 t1, .int .i64 s1] 40) := KV4.out.below q5 KV4.out.lt
 have HP5 : Hid (Pks w5 (.slice sa 2 sc) [sk1, sk2]) := HP4.out.below q5
 clear q5 H4 ss4 HT4 HP4 HDO KT4 KV4 y0 y1 y2 y3 y4 y5 y6 z0 z1 z2 z3 z4 z5
 go_upto_region 4 with fail
 obtain ⟨W6, hW6⟩ : ∃ W, W = (w5.alloc (.cells #[.int .i64 la2, .int .i64 ne2, .slice ha2 hn2 hc2, .slice oa2 on2 oc2, .int .i64 fi2, .slice ga2 gn2 gc2, .slice pa2 pn2 pc2] 34)).alloc (.cells #[.int .i64 m2, .int .i64 g2, .int .i64 f2, .int .i64 l2, .int .i64 t2, .int .i64 s2] 40) := ⟨_, rfl⟩
 have hb56 : Below w5.heap.size w5 W6 := by rw [hW6]; exact ((Below.refl _ w5).alloc (Nat.le_refl _) _).alloc (by simp) _
 have H6 : Hid (Below X w W6) := H5.out.trans (hb56.mono ss5)
 have HP6 := HP5.out.below hb56
 obtain ⟨y0, y1, y2, y3, y4, y5, y6⟩ := (KT5.out.below hb56 KT5.out.lt).sevenc
 obtain ⟨z0, z1, z2, z3, z4, z5⟩ := (KV5.out.below hb56 KV5.out.lt).sixv
 obtain ⟨bS, oS, rfl, _, hc0⟩ := Pks.at HP6 (k := 0) (by decide)
 obtain ⟨b9, o9, e9, _, hc1⟩ := Pks.at HP6 (k := 1) (by decide)
 injection e9 with e9
 injection e9 with e9 e8
 subst e9 e8
 have c0 : W6.cell? ⟨bS, oS + 5, none⟩ = some (.string ⟨#[97]⟩) := by
  have := hc0 5 _ rfl
  rw [Nat.zero_mul, Nat.add_zero] at this; exact this
 have c1 : W6.cell? ⟨bS, oS + 6 + 5, none⟩ = some (.string ⟨#[98]⟩) := by
  have := hc1 5 _ rfl
  rw [Nat.one_mul] at this; exact this
 have c2 : W6.cell? ⟨bS, oS + 6, none⟩ = some (.int .i64 2) := by
  have := hc1 0 _ rfl
  rw [Nat.one_mul, Nat.add_zero] at this; exact this
 have c3 : W6.cell? ⟨bS, oS + 6 + 1, none⟩ = some (.int .i64 20) := by
  have := hc1 1 _ rfl
  rw [Nat.one_mul] at this; exact this
 rw [← hW6]
 clear hW6 hb56 H5 ss5 KT5 KV5 HP5 HP6 hc0 hc1
 go_upto_region 6 with fail
 trace_state
 go_wp2_with fail
 go_ret
 exact ⟨rfl, H6.out⟩
end Go.Proofs.YtnpaejknoipicagGreat
namespace Go.Proofs.YtnpaejknoipicagGreat
open Go.RowKit Go.Sort
set_option maxHeartbeats 1600000 in
theorem sameGroups_any (S S' : Nat → Prop) (u v : Value) (l m : List (List Fr)) (w : World) (hu : GrsIn S w u l) (hv : GrsIn S' w v m) :
  Calls Tryz.prog 81 #[u, v] w fun e w' => e = .returned (.bool (sameGs l m)) ∧ Below w.heap.size w w' := by
 obtain ⟨ao, c, rfl, hl1, hl2, hc⟩ := hu
 obtain ⟨bo, d, rfl, hm1, hm2, hd⟩ := hv
 by_cases hlm : l.length = m.length
 ·have HC : Hid (∀ k, k < l.length → ∃ b off, ao = some ⟨b, off, none⟩ ∧ b < w.heap.size ∧ S b ∧ ∃ sv, w.cell? ⟨b, off + k, none⟩ = some sv ∧ FrsIn S w sv (l[k]?.getD [])) := hc
  have HD : Hid (∀ k, k < m.length → ∃ b off, bo = some ⟨b, off, none⟩ ∧ b < w.heap.size ∧ S' b ∧ ∃ sv, w.cell? ⟨b, off + k, none⟩ = some sv ∧ FrsIn S' w sv (m[k]?.getD [])) := hd
  obtain ⟨n, hn⟩ : ∃ n, n = l.length := ⟨_, rfl⟩
  have HN : Hid (n = l.length) := hn
  have HM : Hid (n = m.length) := hn.trans hlm
  rw [← hlm, ← hn]
  rw [← hlm] at hm1
  rw [← hn] at hl1 hm1
  clear hc hd hn hlm
  go_enter Tryz.func81, Tryz.ntmps81
  go_wp2
  go_loopw [5] (fun i wr => ∃ k : Nat, k ≤ n ∧ i = .int .i64 k ∧ Hid (∀ j, j < k → (l[j]?.getD []) = (m[j]?.getD [])) ∧ Hid (Below w.heap.size w wr))
   (fun i _ => n - (intOf i).toNat)
  case atStart => exact ⟨0, Nat.zero_le _, rfl, (show ∀ j, j < 0 → _ from fun j hj => absurd hj (Nat.not_lt_zero _)), Below.refl _ _⟩
  case round =>
   obtain ⟨k, hk, rfl, HK, HB⟩ := hrel
   by_cases hlt : k < n
   ·obtain ⟨b, off, rfl, hb, _, sv, c0, hs⟩ := HC.out k (by rw [← HN.out]; exact hlt)
    obtain ⟨b2, off2, rfl, hb2, _, sv2, d0, hs2⟩ := HD.out k (by rw [← HM.out]; exact hlt)
    obtain ⟨x, hx⟩ : ∃ x, x = l[k]?.getD [] := ⟨_, rfl⟩
    obtain ⟨y, hy⟩ : ∃ y, y = m[k]?.getD [] := ⟨_, rfl⟩
    rw [← hx] at hs
    rw [← hy] at hs2
    have HX : Hid (x = l[k]?.getD []) := hx
    have HY : Hid (y = m[k]?.getD []) := hy
    have c1 := (HB.out.cell (p := ⟨b, off + k, none⟩) hb).trans c0
    have d1 := (HB.out.cell (p := ⟨b2, off2 + k, none⟩) hb2).trans d0
    obtain ⟨a1, a2, rfl, _, hxl⟩ := hs.len
    obtain ⟨b3, b4, rfl, _, _⟩ := hs2.len
    have f1 := (hs.below HB.out).frs
    have f2 := (hs2.below HB.out).frs
    obtain ⟨t, ht⟩ : ∃ t, t = sameFs x y := ⟨_, rfl⟩
    have HT : Hid (t = sameFs x y) := ht
    have cF : ∀ d os, Calls Tryz.prog 17 #[.slice a1 x.length a2, .slice b3 y.length b4] (grow (redrawn wr d) os) fun e w'' => e = .returned (.bool t) ∧ ∃ p : Regrown, w'' = grow (redrawn wr p.d) p.os := fun d os =>
     Calls.regrown_of (by
      rw [ht]
      exact sameFrames_any _ _ _ _ _ (f1.below (below_regrown wr d os)) (f2.below (below_regrown wr d os)) hxl)
    have z0 := cell_regrown c1
    have q0 := cell_regrown d1
    have hlti : (k : Int) < (n : Int) := by omega
    clear hx hy ht c0 c1 d0 d1 hs hs2 f1 f2
    go_wp2
    refine wp_region_quiet_below (by kernel_rfl) (by kernel_rfl) ?_
    repeat (quiet_step (exact cF _ _))
    refine wpQuiet_nil ?_
    intro _ hw'
    obtain ⟨⟨dq, osq⟩, hw''⟩ := hw'
    subst hw''
    have bR := below_regrown wr dq osq
    obtain ⟨V, hV⟩ : ∃ V, V = grow (redrawn wr dq) osq := ⟨_, rfl⟩
    rw [← hV] at bR
    have bV : Hid (Below w.heap.size w V) := HB.out.trans (bR.mono HB.out.size)
    rw [← hV]
    clear hV bR cF q0 z0
    cases t
    ·go_wp2
     go_ret
     exact ⟨by rw [sameGs_at (k := k) (fun e => by rw [← HX.out, ← HY.out] at e; have := HT.out; rw [e] at this; simp [sameFs] at this)]; rfl, bV.out⟩
    ·go_wp2
     go_roundw
     case rel =>
      refine ⟨k + 1, by omega, by go_num, (show ∀ j, j < k + 1 → _ from fun j hj => ?_), bV.out⟩
      by_cases e : j = k
      ·subst e
       rw [← HX.out, ← HY.out]; exact of_decide_eq_true HT.out.symm
      ·exact HK.out j (by omega)
     case measure => simp [intOf]; omega
   ·have hkl : k = n := by omega
    subst hkl
    go_wp2
    go_ret
    exact ⟨by rw [sameGs_ext (HN.out.symm.trans HM.out) (fun j hj => HK.out j (by rw [HN.out]; exact hj))]; rfl, HB.out⟩
 ·have hlm2 : ((l.length : Int) != (m.length : Int)) = true := by simp; omega
  have HLM : Hid (¬ l.length = m.length) := hlm
  clear hlm
  go_enter Tryz.func81, Tryz.ntmps81
  go_wp2
  go_ret
  exact ⟨by rw [sameGs_len HLM.out]; rfl, Below.refl _ _⟩
end Go.Proofs.YtnpaejknoipicagGreat
namespace Go.Proofs.YtnpaejknoipicagGreat
open Go.RowKit
def sameSt (f f' : Int) (L L' : List (List Fr)) (O O' : List Fr) : Bool := decide (f = f') && (sameGs L L' && sameFs O O')
theorem sameSt_self (f : Int) (L : List (List Fr)) (O : List Fr) : sameSt f f L L O O = true := by simp [sameSt, sameGs, sameFs]
set_option maxHeartbeats 2000000 in
set_option maxRecDepth 100000 in
theorem sameStore_any (f f' : Int) (gv ov gv' ov' : Value) (L L' : List (List Fr)) (O O' : List Fr) (w : World) (hg : GrsIn (fun _ => True) w gv L) (ho : FrsIn (fun _ => True) w ov O) (hg' : GrsIn (fun _ => True) w gv' L') (ho' : FrsIn (fun _ => True) w ov' O') :
  Calls Tryz.prog 34 #[.agg #[.int .i64 f, gv, ov], .agg #[.int .i64 f', gv', ov']] w fun e w' => e = .returned (.bool (sameSt f f' L L' O O')) ∧ Below w.heap.size w w' := by
 obtain ⟨ga, gc, eg, _, _⟩ := hg.len
 obtain ⟨oa, oc, eo, _, hol⟩ := ho.len
 obtain ⟨ga', gc', eg', _, _⟩ := hg'.len
 obtain ⟨oa', oc', eo', _, _⟩ := ho'.len
 obtain ⟨ln, hln⟩ : ∃ n, n = L.length := ⟨_, rfl⟩
 obtain ⟨lo, hlo⟩ : ∃ n, n = O.length := ⟨_, rfl⟩
 obtain ⟨ln', hln'⟩ : ∃ n, n = L'.length := ⟨_, rfl⟩
 obtain ⟨lo', hlo'⟩ : ∃ n, n = O'.length := ⟨_, rfl⟩
 rw [← hln] at eg
 rw [← hlo] at eo
 rw [← hln'] at eg'
 rw [← hlo'] at eo'
 obtain ⟨X, hX⟩ : ∃ X, X = sameGs L L' := ⟨_, rfl⟩
 obtain ⟨Y, hY⟩ : ∃ Y, Y = sameFs O O' := ⟨_, rfl⟩
 obtain ⟨R, hR⟩ : ∃ R, R = sameSt f f' L L' O O' := ⟨_, rfl⟩
 have HR : Hid (R = (decide (f = f') && (X && Y))) := by show _ = _; rw [hR, hX, hY]; rfl
 have HX : Hid (∀ U, Below w.heap.size w U → Calls Tryz.prog 81 #[gv, gv'] U fun e w' => e = .returned (.bool X) ∧ Below U.heap.size U w') := fun U hU => by
  rw [hX]; exact sameGroups_any _ _ _ _ _ _ U (hg.below hU) (hg'.below hU)
 have HY : Hid (∀ U, Below w.heap.size w U → Calls Tryz.prog 17 #[ov, ov'] U fun e w' => e = .returned (.bool Y) ∧ Below U.heap.size U w') := fun U hU => by
  rw [hY]; exact sameFrames_any _ _ _ _ U (ho.below hU).frs (ho'.below hU).frs hol
 rw [← hR]
 clear hg ho hg' ho' hX hY hR hln hlo hln' hlo' hol
 subst eg eo eg' eo'
 go_enter Tryz.func34, Tryz.ntmps34
 obtain ⟨W0, hW0⟩ : ∃ W0, W0 = (w.alloc (.cells #[.int .i64 f, .slice ga ln gc, .slice oa lo oc] 32)).alloc (.cells #[.int .i64 f', .slice ga' ln' gc', .slice oa' lo' oc'] 32) := ⟨_, rfl⟩
 have HS0 : Hid (Stay W0 (fun U => Blk U w.heap.size #[.int .i64 f, .slice ga ln gc, .slice oa lo oc] 32 ∧ Blk U (w.heap.size + 1) #[.int .i64 f', .slice ga' ln' gc', .slice oa' lo' oc'] 32 ∧ Below w.heap.size w U)) := by
  have k2 := Blk.newE hW0
  simp only [World.size_alloc] at k2
  have hb : Below w.heap.size w W0 := by rw [hW0]; exact ((Below.refl _ _).alloc (Nat.le_refl _) _).alloc (by simp) _
  exact (show Blk W0 w.heap.size _ _ by rw [hW0]; exact (Blk.new _ _ _).alloc _).stay.and (k2.stay.and (below_stay hb hb.size))
 by_cases hf : f = f'
 ·subst hf
  have HR2 : Hid (R = (X && Y)) := by show _ = _; rw [HR.out]; simp
  go_wp2_with fail
  rw [← hW0]
  clear hW0
  refine (HX.out _ HS0.out.now.2.2).mono ?_
  rintro e w1 ⟨rfl, b1⟩
  have HS1 := Stay.go HS0 b1
  obtain ⟨k0, k1, k2⟩ := HS1.out.now.1.three
  obtain ⟨j0, j1, j2⟩ := HS1.out.now.2.1.three
  clear b1 HS0
  cases X
  ·have hr : R = false := HR2.out
   subst hr
   go_wp2_with fail
   go_ret
   exact ⟨rfl, HS1.out.now.2.2⟩
  ·have hr : R = Y := by rw [HR2.out]; rfl
   subst hr
   go_wp2_with fail
   refine (HY.out _ HS1.out.now.2.2).mono ?_
   rintro e w2 ⟨rfl, b2⟩
   have HS2 := Stay.go HS1 b2
   clear b2 HS1
   go_wp2_with fail
   go_ret
   exact ⟨rfl, HS2.out.now.2.2⟩
 ·have hr : R = false := by rw [HR.out]; simp [hf]
  subst hr
  have hb := HS0.out.now.2.2
  subst hW0
  go_wp2_with fail
  go_ret
  exact ⟨rfl, hb⟩
def sameTr (t u : Tr) : Bool := (t.last == u.last) && ((t.next == u.next && sameB t.h u.h) && (sameB t.o u.o && sameSt t.first u.first t.L u.L t.O u.O))
set_option maxHeartbeats 8000000 in
set_option maxRecDepth 100000 in
theorem sameTrack_any (t u : Tr) (hv bv gv ov hv' bv' gv' ov' : Value) (w : World) (hr : TrIn (fun _ => True) w hv bv gv ov t) (hr' : TrIn (fun _ => True) w hv' bv' gv' ov' u) :
  Calls Tryz.prog 10 #[.agg #[.int .i64 t.last, .int .i64 t.next, hv, bv, .int .i64 t.first, gv, ov], .agg #[.int .i64 u.last, .int .i64 u.next, hv', bv', .int .i64 u.first, gv', ov']] w fun e w' => e = .returned (.bool (sameTr t u)) ∧ Below w.heap.size w w' := by
 obtain ⟨ha, hc, ba', bc, ga, gc, oa, oc, eh, eb, eg, eo⟩ := hr.slices
 obtain ⟨ha2, hc2, ba2, bc2, ga2, gc2, oa2, oc2, eh2, eb2, eg2, eo2⟩ := hr'.slices
 obtain ⟨B0, hB0⟩ : ∃ b, b = (t.last == u.last) := ⟨_, rfl⟩
 obtain ⟨B1, hB1⟩ : ∃ b, b = (t.next == u.next && sameB t.h u.h) := ⟨_, rfl⟩
 obtain ⟨B2, hB2⟩ : ∃ b, b = sameB t.o u.o := ⟨_, rfl⟩
 obtain ⟨B3, hB3⟩ : ∃ b, b = sameSt t.first u.first t.L u.L t.O u.O := ⟨_, rfl⟩
 have H1 : Hid (∀ U, Below w.heap.size w U → Calls Tryz.prog 32 #[.agg #[.int .i64 t.next, hv], .agg #[.int .i64 u.next, hv']] U fun e w' => e = .returned (.bool B1) ∧ Below U.heap.size U w') := fun U hU => by rw [hB1]; exact sameBuffer_any _ _ hv hv' t.h u.h U (hr.1.1.below hU) (hr'.1.1.below hU) hr.1.2.1
 have H2 : Hid (∀ U, Below w.heap.size w U → Calls Tryz.prog 33 #[bv, bv'] U fun e w' => e = .returned (.bool B2) ∧ Below U.heap.size U w') := fun U hU => by rw [hB2]; exact sameSlots_any bv bv' t.o u.o U (hr.2.1.1.below hU) (hr'.2.1.1.below hU) hr.2.1.2.1
 have H3 : Hid (∀ U, Below w.heap.size w U → Calls Tryz.prog 34 #[.agg #[.int .i64 t.first, gv, ov], .agg #[.int .i64 u.first, gv', ov']] U fun e w' => e = .returned (.bool B3) ∧ Below U.heap.size U w') := fun U hU => by rw [hB3]; exact sameStore_any _ _ gv ov gv' ov' t.L u.L t.O u.O U (hr.2.2.1.below hU) (hr.2.2.2.below hU) (hr'.2.2.1.below hU) (hr'.2.2.2.below hU)
 have HR : Hid (sameTr t u = (B0 && (B1 && (B2 && B3)))) := by show _ = _; rw [hB0, hB1, hB2, hB3]; rfl
 obtain ⟨R, hR⟩ : ∃ R, R = sameTr t u := ⟨_, rfl⟩
 rw [← hR] at HR ⊢
 obtain ⟨nh, hnh⟩ : ∃ n, n = t.h.length := ⟨_, rfl⟩
 obtain ⟨no, hno⟩ : ∃ n, n = t.o.length := ⟨_, rfl⟩
 obtain ⟨ng, hng⟩ : ∃ n, n = t.L.length := ⟨_, rfl⟩
 obtain ⟨nO, hnO⟩ : ∃ n, n = t.O.length := ⟨_, rfl⟩
 obtain ⟨mh, hmh⟩ : ∃ n, n = u.h.length := ⟨_, rfl⟩
 obtain ⟨mo, hmo⟩ : ∃ n, n = u.o.length := ⟨_, rfl⟩
 obtain ⟨mg, hmg⟩ : ∃ n, n = u.L.length := ⟨_, rfl⟩
 obtain ⟨mO, hmO⟩ : ∃ n, n = u.O.length := ⟨_, rfl⟩
 rw [← hnh] at eh
 rw [← hno] at eb
 rw [← hng] at eg
 rw [← hnO] at eo
 rw [← hmh] at eh2
 rw [← hmo] at eb2
 rw [← hmg] at eg2
 rw [← hmO] at eo2
 obtain ⟨last, hla⟩ : ∃ x, x = t.last := ⟨_, rfl⟩
 obtain ⟨next, hne⟩ : ∃ x, x = t.next := ⟨_, rfl⟩
 obtain ⟨first, hfi⟩ : ∃ x, x = t.first := ⟨_, rfl⟩
 obtain ⟨last2, hla2⟩ : ∃ x, x = u.last := ⟨_, rfl⟩
 obtain ⟨next2, hne2⟩ : ∃ x, x = u.next := ⟨_, rfl⟩
 obtain ⟨first2, hfi2⟩ : ∃ x, x = u.first := ⟨_, rfl⟩
 rw [← hla, ← hla2] at hB0
 rw [← hla, ← hne, ← hfi, ← hla2, ← hne2, ← hfi2]
 rw [← hne, ← hne2] at H1
 rw [← hfi, ← hfi2] at H3
 have hq : (last == last2) = B0 := hB0.symm
 clear hB0 hB1 hB2 hB3 hR hr hr' hla hne hfi hla2 hne2 hfi2 hnh hno hng hnO hmh hmo hmg hmO
 subst eh eb eg eo eh2 eb2 eg2 eo2
 go_enter Tryz.func10, Tryz.ntmps10
 obtain ⟨W, hW⟩ : ∃ W, W = (w.alloc (.cells #[.int .i64 last, .int .i64 next, .slice ha nh hc, .slice ba' no bc, .int .i64 first, .slice ga ng gc, .slice oa nO oc] 34)).alloc (.cells #[.int .i64 last2, .int .i64 next2, .slice ha2 mh hc2, .slice ba2 mo bc2, .int .i64 first2, .slice ga2 mg gc2, .slice oa2 mO oc2] 34) := ⟨_, rfl⟩
 have HS0 : Hid (Stay W (fun U => (Blk U w.heap.size #[.int .i64 last, .int .i64 next, .slice ha nh hc, .slice ba' no bc, .int .i64 first, .slice ga ng gc, .slice oa nO oc] 34 ∧ Blk U (w.heap.size + 1) #[.int .i64 last2, .int .i64 next2, .slice ha2 mh hc2, .slice ba2 mo bc2, .int .i64 first2, .slice ga2 mg gc2, .slice oa2 mO oc2] 34) ∧ Below w.heap.size w U)) := by
  have k1 := (Blk.new w #[.int .i64 last, .int .i64 next, .slice ha nh hc, .slice ba' no bc, .int .i64 first, .slice ga ng gc, .slice oa nO oc] 34)
  have k2 := Blk.new (w.alloc (.cells #[.int .i64 last, .int .i64 next, .slice ha nh hc, .slice ba' no bc, .int .i64 first, .slice ga ng gc, .slice oa nO oc] 34)) #[.int .i64 last2, .int .i64 next2, .slice ha2 mh hc2, .slice ba2 mo bc2, .int .i64 first2, .slice ga2 mg gc2, .slice oa2 mO oc2] 34
  rw [← hW] at k2
  have k1' := k1.below ((Below.refl _ _).alloc (Nat.le_refl _) (.cells #[.int .i64 last2, .int .i64 next2, .slice ha2 mh hc2, .slice ba2 mo bc2, .int .i64 first2, .slice ga2 mg gc2, .slice oa2 mO oc2] 34)) k1.lt
  rw [← hW] at k1'
  simp only [World.size_alloc] at k2
  have b : Below w.heap.size w W := by rw [hW]; exact ((Below.refl _ _).alloc (Nat.le_refl _) _).alloc (by simp) _
  exact ((k1'.stay.and k2.stay).and (below_stay b b.size))
 cases hb0 : B0
 case false =>
  rw [hb0] at hq HR
  have BW := HS0.out.now.2
  rw [hW] at BW
  clear H1 H2 H3 HS0
  go_wp2
  go_ret
  rw [HR.out]
  exact ⟨rfl, BW⟩
 rw [hb0] at hq HR
 have BW : Hid (Below w.heap.size w W) := HS0.out.now.2
 go_wp2_with fail
 rw [← hW]
 clear hW
 refine (H1.out W BW.out).mono ?_
 rintro e w1 ⟨rfl, b1⟩
 have HS1 := Stay.go HS0 b1
 clear b1 HS0 BW H1
 have BW : Hid (Below w.heap.size w w1) := HS1.out.now.2
 cases hb1 : B1
 case false =>
  rw [hb1] at HR
  clear HS1 H2 H3
  go_wp2
  go_ret
  rw [HR.out]
  exact ⟨rfl, BW.out⟩
 rw [hb1] at HR
 obtain ⟨y0, y1, y2, y3, y4, y5, y6⟩ := HS1.out.now.1.1.sevenc
 obtain ⟨z0, z1, z2, z3, z4, z5, z6⟩ := HS1.out.now.1.2.sevenc
 go_wp2_with fail
 refine (H2.out w1 BW.out).mono ?_
 rintro e w2 ⟨rfl, b1⟩
 have HS2 := Stay.go HS1 b1
 clear b1 HS1 BW H2 y0 y1 y2 y3 y4 y5 y6 z0 z1 z2 z3 z4 z5 z6
 have BW : Hid (Below w.heap.size w w2) := HS2.out.now.2
 cases hb2 : B2
 case false =>
  rw [hb2] at HR
  clear HS2 H3
  go_wp2
  go_ret
  rw [HR.out]
  exact ⟨rfl, BW.out⟩
 rw [hb2] at HR
 obtain ⟨y0, y1, y2, y3, y4, y5, y6⟩ := HS2.out.now.1.1.sevenc
 obtain ⟨z0, z1, z2, z3, z4, z5, z6⟩ := HS2.out.now.1.2.sevenc
 go_wp2_with fail
 refine (H3.out w2 BW.out).mono ?_
 rintro e w3 ⟨rfl, b1⟩
 have BW3 : Hid (Below w.heap.size w w3) := BW.out.trans (b1.mono BW.out.size)
 clear b1 BW HS2 H3 y0 y1 y2 y3 y4 y5 y6 z0 z1 z2 z3 z4 z5 z6
 go_wp2
 go_ret
 rw [HR.out]
 exact ⟨by cases B3 <;> rfl, BW3.out⟩
theorem sameTr_itself (t : Tr) : sameTr t t = true := by simp [sameTr, (sameB_iff _ _).2 rfl, sameSt_self]
set_option maxHeartbeats 8000000 in
set_option maxRecDepth 100000 in
theorem deskPaused_law (t : Tr) (vm vg vf vl vt vs : Int) (x : ByteArray) (n : Int) (hv bv gv ov : Value) (w : World) (hr : TrIn (fun _ => True) w hv bv gv ov t) :
  Calls Tryz.prog 3 #[.agg #[.int .i64 t.last, .int .i64 t.next, hv, bv, .int .i64 t.first, gv, ov], .agg #[.int .i64 vm, .int .i64 vg, .int .i64 vf, .int .i64 vl, .int .i64 vt, .int .i64 vs], .string x, .int .i64 n] w fun e w' => e = .returned (.bool true) ∧ Below w.heap.size w w' := by
 obtain ⟨ha, hc, bo, bc, ga, gc, oa, oc, eh, eb, eg, eo⟩ := hr.slices
 obtain ⟨hn, hhn⟩ : ∃ x, x = t.h.length := ⟨_, rfl⟩
 obtain ⟨bn, hbn⟩ : ∃ x, x = t.o.length := ⟨_, rfl⟩
 obtain ⟨ln, hln⟩ : ∃ x, x = t.L.length := ⟨_, rfl⟩
 obtain ⟨lo, hlo⟩ : ∃ x, x = t.O.length := ⟨_, rfl⟩
 rw [← hhn] at eh
 rw [← hbn] at eb
 rw [← hln] at eg
 rw [← hlo] at eo
 subst eh eb eg eo
 obtain ⟨tl, htl⟩ : ∃ x, x = t.last := ⟨_, rfl⟩
 obtain ⟨tn, htn⟩ : ∃ x, x = t.next := ⟨_, rfl⟩
 obtain ⟨fi, hfi⟩ : ∃ x, x = t.first := ⟨_, rfl⟩
 have HTT : Hid (tl = t.last ∧ tn = t.next ∧ fi = t.first) := ⟨htl, htn, hfi⟩
 obtain ⟨X, hX⟩ : ∃ x, x = w.heap.size := ⟨_, rfl⟩
 have HXw : Hid (X = w.heap.size) := hX
 have HTR : Hid (TrIn (fun _ => True) w (.slice ha hn hc) (.slice bo bn bc) (.slice ga ln gc) (.slice oa lo oc) t) := hr
 rw [← htl, ← htn, ← hfi, ← hX]
 obtain ⟨A1, V1, P1, E1, hD1⟩ : ∃ A V P E, doA t ⟨vm, vg, vf, vl, vt, vs⟩ 3 0 ByteArray.empty = (A, V, P, E) := ⟨_, _, _, _, rfl⟩
 obtain ⟨m1, g1, f1, l1, t1, s1⟩ := V1
 obtain ⟨la1, hla1⟩ : ∃ y, y = A1.last := ⟨_, rfl⟩
 obtain ⟨ne1, hne1⟩ : ∃ y, y = A1.next := ⟨_, rfl⟩
 obtain ⟨fi1, hfi1⟩ : ∃ y, y = A1.first := ⟨_, rfl⟩
 have HN1 : Hid (la1 = A1.last ∧ ne1 = A1.next ∧ fi1 = A1.first) := ⟨hla1, hne1, hfi1⟩
 obtain ⟨k1, hk1⟩ : ∃ y, y = P1.length := ⟨_, rfl⟩
 have HDO1 : Hid (∀ U, Below X w U → Calls Tryz.prog 9 #[.agg #[.int .i64 tl, .int .i64 tn, .slice ha hn hc, .slice bo bn bc, .int .i64 fi, .slice ga ln gc, .slice oa lo oc], .agg #[.int .i64 vm, .int .i64 vg, .int .i64 vf, .int .i64 vl, .int .i64 vt, .int .i64 vs], .agg #[.int .i64 3, .int .i64 0, .string ByteArray.empty]] U fun e w' => ∃ ha1 hn1 hc1 oa1 on1 oc1 ga1 gn1 gc1 pa1 pn1 pc1 va1 vc1, e = .returned (.tuple #[.agg #[.int .i64 la1, .int .i64 ne1, .slice ha1 hn1 hc1, .slice oa1 on1 oc1, .int .i64 fi1, .slice ga1 gn1 gc1, .slice pa1 pn1 pc1], .agg #[.int .i64 m1, .int .i64 g1, .int .i64 f1, .int .i64 l1, .int .i64 t1, .int .i64 s1], .slice va1 k1 vc1, .int .i64 E1]) ∧ Hid (TrIn (fun g => U.heap.size ≤ g) w' (.slice ha1 hn1 hc1) (.slice oa1 on1 oc1) (.slice ga1 gn1 gc1) (.slice pa1 pn1 pc1) A1) ∧ Below U.heap.size U w') := fun U hU => by
  have q := deskDo_any t ⟨vm, vg, vf, vl, vt, vs⟩ 3 0 ByteArray.empty _ _ _ _ U ((HTR.out.below (by rw [← HXw.out]; exact hU)).mono fun _ _ _ => trivial)
  rw [hD1] at q
  simp only at q
  rw [HTT.out.1, HTT.out.2.1, HTT.out.2.2, hla1, hne1, hfi1]
  refine q.mono ?_
  rintro e w' ⟨ha1, hn1, hc1, oa1, on1, oc1, ga1, gn1, gc1, pa1, pn1, pc1, va, vn, vc, rfl, q1, q2, q3, q4⟩
  subst q2
  rw [hk1]
  exact ⟨ha1, hn1, hc1, oa1, on1, oc1, ga1, gn1, gc1, pa1, pn1, pc1, va, vc, rfl, q1, q4⟩
 obtain ⟨A2, V2, P2, E2, hD2⟩ : ∃ A V P E, doA t ⟨2, vg, vf, vl, vt, vs⟩ 1 0 x = (A, V, P, E) := ⟨_, _, _, _, rfl⟩
 obtain ⟨m2, g2, f2, l2, t2, s2⟩ := V2
 obtain ⟨la2, hla2⟩ : ∃ y, y = A2.last := ⟨_, rfl⟩
 obtain ⟨ne2, hne2⟩ : ∃ y, y = A2.next := ⟨_, rfl⟩
 obtain ⟨fi2, hfi2⟩ : ∃ y, y = A2.first := ⟨_, rfl⟩
 have HN2 : Hid (la2 = A2.last ∧ ne2 = A2.next ∧ fi2 = A2.first) := ⟨hla2, hne2, hfi2⟩
 obtain ⟨k2, hk2⟩ : ∃ y, y = P2.length := ⟨_, rfl⟩
 have HDO2 : Hid (∀ U, Below X w U → Calls Tryz.prog 9 #[.agg #[.int .i64 tl, .int .i64 tn, .slice ha hn hc, .slice bo bn bc, .int .i64 fi, .slice ga ln gc, .slice oa lo oc], .agg #[.int .i64 2, .int .i64 vg, .int .i64 vf, .int .i64 vl, .int .i64 vt, .int .i64 vs], .agg #[.int .i64 1, .int .i64 0, .string x]] U fun e w' => ∃ ha2 hn2 hc2 oa2 on2 oc2 ga2 gn2 gc2 pa2 pn2 pc2 va2 vc2, e = .returned (.tuple #[.agg #[.int .i64 la2, .int .i64 ne2, .slice ha2 hn2 hc2, .slice oa2 on2 oc2, .int .i64 fi2, .slice ga2 gn2 gc2, .slice pa2 pn2 pc2], .agg #[.int .i64 m2, .int .i64 g2, .int .i64 f2, .int .i64 l2, .int .i64 t2, .int .i64 s2], .slice va2 k2 vc2, .int .i64 E2]) ∧ Hid (TrIn (fun g => U.heap.size ≤ g) w' (.slice ha2 hn2 hc2) (.slice oa2 on2 oc2) (.slice ga2 gn2 gc2) (.slice pa2 pn2 pc2) A2) ∧ Below U.heap.size U w') := fun U hU => by
  have q := deskDo_any t ⟨2, vg, vf, vl, vt, vs⟩ 1 0 x _ _ _ _ U ((HTR.out.below (by rw [← HXw.out]; exact hU)).mono fun _ _ _ => trivial)
  rw [hD2] at q
  simp only at q
  rw [HTT.out.1, HTT.out.2.1, HTT.out.2.2, hla2, hne2, hfi2]
  refine q.mono ?_
  rintro e w' ⟨ha2, hn2, hc2, oa2, on2, oc2, ga2, gn2, gc2, pa2, pn2, pc2, va, vn, vc, rfl, q1, q2, q3, q4⟩
  subst q2
  rw [hk2]
  exact ⟨ha2, hn2, hc2, oa2, on2, oc2, ga2, gn2, gc2, pa2, pn2, pc2, va, vc, rfl, q1, q4⟩
 obtain ⟨A3, V3, P3, E3, hD3⟩ : ∃ A V P E, doA t ⟨vm, vg, vf, vl, vt, vs⟩ 1 0 x = (A, V, P, E) := ⟨_, _, _, _, rfl⟩
 obtain ⟨m3, g3, f3, l3, t3, s3⟩ := V3
 obtain ⟨la3, hla3⟩ : ∃ y, y = A3.last := ⟨_, rfl⟩
 obtain ⟨ne3, hne3⟩ : ∃ y, y = A3.next := ⟨_, rfl⟩
 obtain ⟨fi3, hfi3⟩ : ∃ y, y = A3.first := ⟨_, rfl⟩
 have HN3 : Hid (la3 = A3.last ∧ ne3 = A3.next ∧ fi3 = A3.first) := ⟨hla3, hne3, hfi3⟩
 obtain ⟨k3, hk3⟩ : ∃ y, y = P3.length := ⟨_, rfl⟩
 have HDO3 : Hid (∀ U, Below X w U → Calls Tryz.prog 9 #[.agg #[.int .i64 tl, .int .i64 tn, .slice ha hn hc, .slice bo bn bc, .int .i64 fi, .slice ga ln gc, .slice oa lo oc], .agg #[.int .i64 vm, .int .i64 vg, .int .i64 vf, .int .i64 vl, .int .i64 vt, .int .i64 vs], .agg #[.int .i64 1, .int .i64 0, .string x]] U fun e w' => ∃ ha3 hn3 hc3 oa3 on3 oc3 ga3 gn3 gc3 pa3 pn3 pc3 va3 vc3, e = .returned (.tuple #[.agg #[.int .i64 la3, .int .i64 ne3, .slice ha3 hn3 hc3, .slice oa3 on3 oc3, .int .i64 fi3, .slice ga3 gn3 gc3, .slice pa3 pn3 pc3], .agg #[.int .i64 m3, .int .i64 g3, .int .i64 f3, .int .i64 l3, .int .i64 t3, .int .i64 s3], .slice va3 k3 vc3, .int .i64 E3]) ∧ Hid (TrIn (fun g => U.heap.size ≤ g) w' (.slice ha3 hn3 hc3) (.slice oa3 on3 oc3) (.slice ga3 gn3 gc3) (.slice pa3 pn3 pc3) A3) ∧ Below U.heap.size U w') := fun U hU => by
  have q := deskDo_any t ⟨vm, vg, vf, vl, vt, vs⟩ 1 0 x _ _ _ _ U ((HTR.out.below (by rw [← HXw.out]; exact hU)).mono fun _ _ _ => trivial)
  rw [hD3] at q
  simp only at q
  rw [HTT.out.1, HTT.out.2.1, HTT.out.2.2, hla3, hne3, hfi3]
  refine q.mono ?_
  rintro e w' ⟨ha3, hn3, hc3, oa3, on3, oc3, ga3, gn3, gc3, pa3, pn3, pc3, va, vn, vc, rfl, q1, q2, q3, q4⟩
  subst q2
  rw [hk3]
  exact ⟨ha3, hn3, hc3, oa3, on3, oc3, ga3, gn3, gc3, pa3, pn3, pc3, va, vc, rfl, q1, q4⟩
 obtain ⟨A4, V4, P4, E4, hD4⟩ : ∃ A V P E, doA t ⟨2, vg, vf, vl, vt, vs⟩ 5 n ByteArray.empty = (A, V, P, E) := ⟨_, _, _, _, rfl⟩
 obtain ⟨m4, g4, f4, l4, t4, s4⟩ := V4
 obtain ⟨la4, hla4⟩ : ∃ y, y = A4.last := ⟨_, rfl⟩
 obtain ⟨ne4, hne4⟩ : ∃ y, y = A4.next := ⟨_, rfl⟩
 obtain ⟨fi4, hfi4⟩ : ∃ y, y = A4.first := ⟨_, rfl⟩
 have HN4 : Hid (la4 = A4.last ∧ ne4 = A4.next ∧ fi4 = A4.first) := ⟨hla4, hne4, hfi4⟩
 obtain ⟨k4, hk4⟩ : ∃ y, y = P4.length := ⟨_, rfl⟩
 have HDO4 : Hid (∀ U, Below X w U → Calls Tryz.prog 9 #[.agg #[.int .i64 tl, .int .i64 tn, .slice ha hn hc, .slice bo bn bc, .int .i64 fi, .slice ga ln gc, .slice oa lo oc], .agg #[.int .i64 2, .int .i64 vg, .int .i64 vf, .int .i64 vl, .int .i64 vt, .int .i64 vs], .agg #[.int .i64 5, .int .i64 n, .string ByteArray.empty]] U fun e w' => ∃ ha4 hn4 hc4 oa4 on4 oc4 ga4 gn4 gc4 pa4 pn4 pc4 va4 vc4, e = .returned (.tuple #[.agg #[.int .i64 la4, .int .i64 ne4, .slice ha4 hn4 hc4, .slice oa4 on4 oc4, .int .i64 fi4, .slice ga4 gn4 gc4, .slice pa4 pn4 pc4], .agg #[.int .i64 m4, .int .i64 g4, .int .i64 f4, .int .i64 l4, .int .i64 t4, .int .i64 s4], .slice va4 k4 vc4, .int .i64 E4]) ∧ Hid (TrIn (fun g => U.heap.size ≤ g) w' (.slice ha4 hn4 hc4) (.slice oa4 on4 oc4) (.slice ga4 gn4 gc4) (.slice pa4 pn4 pc4) A4) ∧ Below U.heap.size U w') := fun U hU => by
  have q := deskDo_any t ⟨2, vg, vf, vl, vt, vs⟩ 5 n ByteArray.empty _ _ _ _ U ((HTR.out.below (by rw [← HXw.out]; exact hU)).mono fun _ _ _ => trivial)
  rw [hD4] at q
  simp only at q
  rw [HTT.out.1, HTT.out.2.1, HTT.out.2.2, hla4, hne4, hfi4]
  refine q.mono ?_
  rintro e w' ⟨ha4, hn4, hc4, oa4, on4, oc4, ga4, gn4, gc4, pa4, pn4, pc4, va, vn, vc, rfl, q1, q2, q3, q4⟩
  subst q2
  rw [hk4]
  exact ⟨ha4, hn4, hc4, oa4, on4, oc4, ga4, gn4, gc4, pa4, pn4, pc4, va, vc, rfl, q1, q4⟩
 have HBAD : Hid (¬ E1 = 0 → k1 = 0 ∧ la1 = 0) := fun h => by
  obtain ⟨b1, _, b3⟩ := do_bad (T := t) (v := ⟨vm, vg, vf, vl, vt, vs⟩) (kind := 3) (n := 0) (x := ByteArray.empty) (by rw [hD1]; exact h)
  rw [hD1] at b1 b3
  simp only at b1 b3
  rw [hk1, b3, hla1, b1]; exact ⟨rfl, rfl⟩
 have HOK : Hid (E1 = 0 → A1 = t ∧ m1 = 2 ∧ g1 = vg ∧ f1 = vf ∧ l1 = vl ∧ t1 = vt ∧ s1 = vs ∧ k1 = 0 ∧ E2 = E3 ∧ A2 = A3 ∧ (E2 = 0 → m2 = 2 ∧ g2 = vg ∧ f2 = vf ∧ l2 = vl ∧ t2 = vt ∧ s2 = vs ∧ k2 = 0) ∧ ((n < 0 ∨ 1000000 < n) → E4 = 3) ∧ (¬ (n < 0 ∨ 1000000 < n) → A4 = t ∧ m4 = 2 ∧ g4 = vg ∧ f4 = vf ∧ l4 = vl ∧ t4 = vt ∧ s4 = vs ∧ k4 = 0 ∧ E4 = 0)) := fun h => by
  obtain ⟨c1, c2, c3, c4⟩ := pause_zero (t := t) (v := ⟨vm, vg, vf, vl, vt, vs⟩) (by rw [hD1]; exact h)
  have c4' : (Vw.mk 2 vg vf vl vt vs).chk = 0 := c4
  rw [hD1] at c1
  simp only [Vw.cur, Prod.mk.injEq, Vw.mk.injEq] at c1
  obtain ⟨d1, ⟨d2, d3, d4, d5, d6, d7⟩, d8, _⟩ := c1
  have e2 := feed_any (s := x) c2 c4'
  have e3 := feed_any (s := x) c2 c3
  have e4 := send_paused (n := n) c2 c4' rfl
  rw [hD2] at e2
  rw [hD3] at e3
  rw [hD4] at e4
  refine ⟨d1, d2, d3, d4, d5, d6, d7, by rw [hk1, d8]; rfl, ?_⟩
  by_cases hF : (feedR t x.data.toList).2.2 = 0
  ·rw [if_pos hF] at e2 e3
   simp only [Prod.mk.injEq, Vw.mk.injEq] at e2 e3
   refine ⟨by rw [e2.2.2.2, e3.2.2.2], by rw [e2.1, e3.1], fun _ => ⟨e2.2.1.1, e2.2.1.2.1, e2.2.1.2.2.1, e2.2.1.2.2.2.1, e2.2.1.2.2.2.2.1, e2.2.1.2.2.2.2.2, by rw [hk2, e2.2.2.1]; rfl⟩, fun hnn => ?_, fun hnn => ?_⟩
   ·rw [if_pos hnn] at e4
    unfold badDo at e4
    simp only [Prod.mk.injEq] at e4
    exact e4.2.2.2
   ·rw [if_neg hnn] at e4
    simp only [Prod.mk.injEq, Vw.mk.injEq] at e4
    exact ⟨e4.1, e4.2.1.1, e4.2.1.2.1, e4.2.1.2.2.1, e4.2.1.2.2.2.1, e4.2.1.2.2.2.2.1, e4.2.1.2.2.2.2.2, by rw [hk4, e4.2.2.1]; rfl, e4.2.2.2⟩
  ·rw [if_neg hF] at e2 e3
   unfold badDo at e2 e3
   simp only [Prod.mk.injEq] at e2 e3
   refine ⟨by rw [e2.2.2.2, e3.2.2.2], by rw [e2.1, e3.1], fun h9 => absurd (e2.2.2.2.symm.trans h9) hF, fun hnn => ?_, fun hnn => ?_⟩
   ·rw [if_pos hnn] at e4
    unfold badDo at e4
    simp only [Prod.mk.injEq] at e4
    exact e4.2.2.2
   ·rw [if_neg hnn] at e4
    simp only [Prod.mk.injEq, Vw.mk.injEq] at e4
    exact ⟨e4.1, e4.2.1.1, e4.2.1.2.1, e4.2.1.2.2.1, e4.2.1.2.2.2.1, e4.2.1.2.2.2.2.1, e4.2.1.2.2.2.2.2, by rw [hk4, e4.2.2.1]; rfl, e4.2.2.2⟩
 obtain ⟨V, hV⟩ : ∃ V, V = (w.alloc (.cells #[.int .i64 tl, .int .i64 tn, .slice ha hn hc, .slice bo bn bc, .int .i64 fi, .slice ga ln gc, .slice oa lo oc] 34)).alloc (.cells #[.int .i64 vm, .int .i64 vg, .int .i64 vf, .int .i64 vl, .int .i64 vt, .int .i64 vs] 40) := ⟨_, rfl⟩
 have HS : Hid (Stay V (fun U => (Blk U X #[.int .i64 tl, .int .i64 tn, .slice ha hn hc, .slice bo bn bc, .int .i64 fi, .slice ga ln gc, .slice oa lo oc] 34 ∧ Blk U (X + 1) #[.int .i64 vm, .int .i64 vg, .int .i64 vf, .int .i64 vl, .int .i64 vt, .int .i64 vs] 40) ∧ Below X w U)) := by
  have b : Below w.heap.size w V := by rw [hV]; exact ((Below.refl _ w).alloc (Nat.le_refl _) _).alloc (by simp) _
  have k0 := (Blk.new w #[.int .i64 tl, .int .i64 tn, .slice ha hn hc, .slice bo bn bc, .int .i64 fi, .slice ga ln gc, .slice oa lo oc] 34).alloc (.cells #[.int .i64 vm, .int .i64 vg, .int .i64 vf, .int .i64 vl, .int .i64 vt, .int .i64 vs] 40)
  have k1 := Blk.new (w.alloc (.cells #[.int .i64 tl, .int .i64 tn, .slice ha hn hc, .slice bo bn bc, .int .i64 fi, .slice ga ln gc, .slice oa lo oc] 34)) #[.int .i64 vm, .int .i64 vg, .int .i64 vf, .int .i64 vl, .int .i64 vt, .int .i64 vs] 40
  rw [← hV] at k0 k1
  simp only [World.size_alloc] at k1
  rw [← hX] at k0 k1 b
  exact (k0.stay.and k1.stay).and (below_stay b (by rw [hX] at b ⊢; exact b.size))
 clear hhn hbn hln hlo htl htn hfi hr hla1 hla2 hla3 hla4 hne1 hne2 hne3 hne4 hfi1 hfi2 hfi3 hfi4 hk1 hk2 hk3 hk4 hD1 hD2 hD3 hD4
 go_enter Tryz.func3, Tryz.ntmps3
 go_upto_region 1 with fail
 rw [← hV, ← hX]
 clear hV hX
 go_wp2_with fail
 refine (deskBegun_any V).mono ?_
 rintro e w0 ⟨rfl, b0⟩
 have HS0 := Stay.go HS b0
 obtain ⟨y0, y1, y2, y3, y4, y5, y6⟩ := HS0.out.now.1.1.sevenc
 obtain ⟨z0, z1, z2, z3, z4, z5⟩ := HS0.out.now.1.2.sixv
 clear b0 HS
 go_wp2_with fail
 refine (HDO1.out w0 HS0.out.now.2).mono ?_
 rintro e w1 ⟨ha1, hn1, hc1, oa1, on1, oc1, ga1, gn1, gc1, pa1, pn1, pc1, va1, vc1, rfl, HA1, b1⟩
 have HS1 := Stay.go HS0 b1
 clear b1 HS0 y0 y1 y2 y3 y4 y5 y6 z0 z1 z2 z3 z4 z5 HDO1
 go_upto_region 4 with fail
 obtain ⟨M1, hM1⟩ : ∃ M, M = w1.heap.size := ⟨_, rfl⟩
 obtain ⟨W1, hW1⟩ : ∃ W, W = (w1.alloc (.cells #[.int .i64 la1, .int .i64 ne1, .slice ha1 hn1 hc1, .slice oa1 on1 oc1, .int .i64 fi1, .slice ga1 gn1 gc1, .slice pa1 pn1 pc1] 34)).alloc (.cells #[.int .i64 m1, .int .i64 g1, .int .i64 f1, .int .i64 l1, .int .i64 t1, .int .i64 s1] 40) := ⟨_, rfl⟩
 have HB1 : Hid (Stay W1 (fun U => ((((Blk U X #[.int .i64 tl, .int .i64 tn, .slice ha hn hc, .slice bo bn bc, .int .i64 fi, .slice ga ln gc, .slice oa lo oc] 34 ∧ Blk U (X + 1) #[.int .i64 vm, .int .i64 vg, .int .i64 vf, .int .i64 vl, .int .i64 vt, .int .i64 vs] 40) ∧ Below X w U) ∧ (Blk U M1 #[.int .i64 la1, .int .i64 ne1, .slice ha1 hn1 hc1, .slice oa1 on1 oc1, .int .i64 fi1, .slice ga1 gn1 gc1, .slice pa1 pn1 pc1] 34 ∧ Blk U (M1 + 1) #[.int .i64 m1, .int .i64 g1, .int .i64 f1, .int .i64 l1, .int .i64 t1, .int .i64 s1] 40)) ∧ True))) := by
  have k0 := (Blk.new w1 #[.int .i64 la1, .int .i64 ne1, .slice ha1 hn1 hc1, .slice oa1 on1 oc1, .int .i64 fi1, .slice ga1 gn1 gc1, .slice pa1 pn1 pc1] 34).alloc (.cells #[.int .i64 m1, .int .i64 g1, .int .i64 f1, .int .i64 l1, .int .i64 t1, .int .i64 s1] 40)
  have k1 := Blk.new (w1.alloc (.cells #[.int .i64 la1, .int .i64 ne1, .slice ha1 hn1 hc1, .slice oa1 on1 oc1, .int .i64 fi1, .slice ga1 gn1 gc1, .slice pa1 pn1 pc1] 34)) #[.int .i64 m1, .int .i64 g1, .int .i64 f1, .int .i64 l1, .int .i64 t1, .int .i64 s1] 40
  rw [← hW1, ← hM1] at k0
  rw [World.size_alloc, ← hW1, ← hM1] at k1
  have k2 : Hid (Stay W1 (fun U => ((Blk U X #[.int .i64 tl, .int .i64 tn, .slice ha hn hc, .slice bo bn bc, .int .i64 fi, .slice ga ln gc, .slice oa lo oc] 34 ∧ Blk U (X + 1) #[.int .i64 vm, .int .i64 vg, .int .i64 vf, .int .i64 vl, .int .i64 vt, .int .i64 vs] 40) ∧ Below X w U))) := Stay.go HS1 (by rw [hW1]; exact ((Below.refl _ w1).alloc (Nat.le_refl _) _).alloc (by simp) _)
  exact (k2.out.and (k0.stay.and k1.stay)).imp fun _ h => ⟨h, trivial⟩
 have HTA1 : Hid (TrIn (fun _ => True) W1 (.slice ha1 hn1 hc1) (.slice oa1 on1 oc1) (.slice ga1 gn1 gc1) (.slice pa1 pn1 pc1) A1) := by
  show TrIn _ _ _ _ _ _ _
  rw [hW1]; exact ((HA1.out.mono fun _ _ _ => trivial).to (SameOn.alloc _) (fun _ _ h => h)).to (SameOn.alloc _) (fun _ _ h => h)
 rw [← hW1, ← hM1]
 clear hW1 hM1 HS1 HA1
 by_cases hE1 : E1 = 0
 case neg =>
  obtain ⟨e1, e2⟩ := HBAD.out hE1
  have HBF : Hid (Below X w W1) := HB1.out.now.1.1.2
  obtain ⟨y0, _⟩ := HB1.out.now.1.2.1.sevenc
  clear HBAD HOK HDO2 HDO3 HDO4 HB1 HTA1
  subst e1 e2
  go_wp2_with fail
  go_ret
  exact ⟨rfl, HBF.out⟩
 obtain ⟨o1, o2, o3, o4, o5, o6, o7, o8, o9, oA, oB, oC, oD⟩ := HOK.out hE1
 have HOB : Hid (E2 = 0 → m2 = 2 ∧ g2 = vg ∧ f2 = vf ∧ l2 = vl ∧ t2 = vt ∧ s2 = vs ∧ k2 = 0) := oB
 have HOC : Hid ((n < 0 ∨ 1000000 < n) → E4 = 3) := oC
 have HOD : Hid (¬ (n < 0 ∨ 1000000 < n) → A4 = t ∧ m4 = 2 ∧ g4 = vg ∧ f4 = vf ∧ l4 = vl ∧ t4 = vt ∧ s4 = vs ∧ k4 = 0 ∧ E4 = 0) := oD
 have r1 : tl = la1 := by rw [HTT.out.1, HN1.out.1, o1]
 have r2 : tn = ne1 := by rw [HTT.out.2.1, HN1.out.2.1, o1]
 have r3 : fi = fi1 := by rw [HTT.out.2.2, HN1.out.2.2, o1]
 have r4 : la2 = la3 := by rw [HN2.out.1, HN3.out.1, oA]
 have r5 : ne2 = ne3 := by rw [HN2.out.2.1, HN3.out.2.1, oA]
 have r6 : fi2 = fi3 := by rw [HN2.out.2.2, HN3.out.2.2, oA]
 have o1' : t = A1 := o1.symm
 have o3' : vg = g1 := o3.symm
 have o4' : vf = f1 := o4.symm
 have o5' : vl = l1 := o5.symm
 have o6' : vt = t1 := o6.symm
 have o7' : vs = s1 := o7.symm
 clear HBAD HOK oB oC oD HN1 o1 o3 o4 o5 o6 o7
 subst hE1 r1 r2 r3 r4 r5 r6 o1' o2 o3' o4' o5' o6' o7' o8 o9 oA
 have hq := fun W => neql_out0 vl vt vs W
 obtain ⟨y0, y1, y2, y3, y4, y5, y6⟩ := HB1.out.now.1.1.1.1.sevenc
 obtain ⟨z0, z1, z2, z3, z4, z5⟩ := HB1.out.now.1.1.1.2.sixv
 obtain ⟨p0, p1, p2, p3, p4, p5, p6⟩ := HB1.out.now.1.2.1.sevenc
 obtain ⟨q0, q1, q2, q3, q4, q5⟩ := HB1.out.now.1.2.2.sixv
 have HSM : Hid (Calls Tryz.prog 10 #[.agg #[.int .i64 tl, .int .i64 tn, .slice ha1 hn1 hc1, .slice oa1 on1 oc1, .int .i64 fi, .slice ga1 gn1 gc1, .slice pa1 pn1 pc1], .agg #[.int .i64 tl, .int .i64 tn, .slice ha hn hc, .slice bo bn bc, .int .i64 fi, .slice ga ln gc, .slice oa lo oc]] W1 fun e w' => e = .returned (.bool true) ∧ Below W1.heap.size W1 w') := by
  have q := sameTrack_any t t _ _ _ _ _ _ _ _ W1 HTA1.out ((HTR.out.below (by rw [← HXw.out]; exact HB1.out.now.1.1.2)).mono fun _ _ _ => trivial)
  rw [sameTr_itself, ← HTT.out.1, ← HTT.out.2.1, ← HTT.out.2.2] at q
  exact q
 go_wp2_with fail
 refine HSM.out.mono ?_
 rintro e w2 ⟨rfl, b2⟩
 have HB2 := Stay.go HB1 b2
 clear b2 HSM HTA1 HB1 y0 y1 y2 y3 y4 y5 y6 z0 z1 z2 z3 z4 z5 p0 p1 p2 p3 p4 p5 p6 q0 q1 q2 q3 q4 q5
 obtain ⟨y0, y1, y2, y3, y4, y5, y6⟩ := HB2.out.now.1.1.1.1.sevenc
 obtain ⟨q0, q1, q2, q3, q4, q5⟩ := HB2.out.now.1.2.2.sixv
 go_wp2_with fail
 refine (HDO2.out w2 HB2.out.now.1.1.2).mono ?_
 rintro e w3 ⟨ha2, hn2, hc2, oa2, on2, oc2, ga2, gn2, gc2, pa2, pn2, pc2, va2, vc2, rfl, HA2, b3⟩
 have HB3 := Stay.go HB2 b3
 clear b3 HB2 HDO2 y0 y1 y2 y3 y4 y5 y6 q0 q1 q2 q3 q4 q5 hq
 go_upto_region 9 with fail
 obtain ⟨M3, hM3⟩ : ∃ M, M = w3.heap.size := ⟨_, rfl⟩
 obtain ⟨W3, hW3⟩ : ∃ W, W = (w3.alloc (.cells #[.int .i64 la2, .int .i64 ne2, .slice ha2 hn2 hc2, .slice oa2 on2 oc2, .int .i64 fi2, .slice ga2 gn2 gc2, .slice pa2 pn2 pc2] 34)).alloc (.cells #[.int .i64 m2, .int .i64 g2, .int .i64 f2, .int .i64 l2, .int .i64 t2, .int .i64 s2] 40) := ⟨_, rfl⟩
 have HX2 : Hid (Stay W3 (fun U => ((((((Blk U X #[.int .i64 tl, .int .i64 tn, .slice ha hn hc, .slice bo bn bc, .int .i64 fi, .slice ga ln gc, .slice oa lo oc] 34 ∧ Blk U (X + 1) #[.int .i64 vm, .int .i64 vg, .int .i64 vf, .int .i64 vl, .int .i64 vt, .int .i64 vs] 40) ∧ Below X w U) ∧ (Blk U M1 #[.int .i64 tl, .int .i64 tn, .slice ha1 hn1 hc1, .slice oa1 on1 oc1, .int .i64 fi, .slice ga1 gn1 gc1, .slice pa1 pn1 pc1] 34 ∧ Blk U (M1 + 1) #[.int .i64 2, .int .i64 vg, .int .i64 vf, .int .i64 vl, .int .i64 vt, .int .i64 vs] 40)) ∧ True) ∧ (Blk U M3 #[.int .i64 la2, .int .i64 ne2, .slice ha2 hn2 hc2, .slice oa2 on2 oc2, .int .i64 fi2, .slice ga2 gn2 gc2, .slice pa2 pn2 pc2] 34 ∧ Blk U (M3 + 1) #[.int .i64 m2, .int .i64 g2, .int .i64 f2, .int .i64 l2, .int .i64 t2, .int .i64 s2] 40)) ∧ True))) := by
  have k0 := (Blk.new w3 #[.int .i64 la2, .int .i64 ne2, .slice ha2 hn2 hc2, .slice oa2 on2 oc2, .int .i64 fi2, .slice ga2 gn2 gc2, .slice pa2 pn2 pc2] 34).alloc (.cells #[.int .i64 m2, .int .i64 g2, .int .i64 f2, .int .i64 l2, .int .i64 t2, .int .i64 s2] 40)
  have k1 := Blk.new (w3.alloc (.cells #[.int .i64 la2, .int .i64 ne2, .slice ha2 hn2 hc2, .slice oa2 on2 oc2, .int .i64 fi2, .slice ga2 gn2 gc2, .slice pa2 pn2 pc2] 34)) #[.int .i64 m2, .int .i64 g2, .int .i64 f2, .int .i64 l2, .int .i64 t2, .int .i64 s2] 40
  rw [← hW3, ← hM3] at k0
  rw [World.size_alloc, ← hW3, ← hM3] at k1
  have k2 : Hid (Stay W3 (fun U => ((((Blk U X #[.int .i64 tl, .int .i64 tn, .slice ha hn hc, .slice bo bn bc, .int .i64 fi, .slice ga ln gc, .slice oa lo oc] 34 ∧ Blk U (X + 1) #[.int .i64 vm, .int .i64 vg, .int .i64 vf, .int .i64 vl, .int .i64 vt, .int .i64 vs] 40) ∧ Below X w U) ∧ (Blk U M1 #[.int .i64 tl, .int .i64 tn, .slice ha1 hn1 hc1, .slice oa1 on1 oc1, .int .i64 fi, .slice ga1 gn1 gc1, .slice pa1 pn1 pc1] 34 ∧ Blk U (M1 + 1) #[.int .i64 2, .int .i64 vg, .int .i64 vf, .int .i64 vl, .int .i64 vt, .int .i64 vs] 40)) ∧ True))) := Stay.go HB3 (by rw [hW3]; exact ((Below.refl _ w3).alloc (Nat.le_refl _) _).alloc (by simp) _)
  exact (k2.out.and (k0.stay.and k1.stay)).imp fun _ h => ⟨h, trivial⟩
 have HTA2 : Hid (TrIn (fun _ => True) W3 (.slice ha2 hn2 hc2) (.slice oa2 on2 oc2) (.slice ga2 gn2 gc2) (.slice pa2 pn2 pc2) A2) := by
  show TrIn _ _ _ _ _ _ _
  rw [hW3]; exact ((HA2.out.mono fun _ _ _ => trivial).to (SameOn.alloc _) (fun _ _ h => h)).to (SameOn.alloc _) (fun _ _ h => h)
 have hM13 : M1 + 1 < M3 := by rw [hM3]; exact HB3.out.now.1.2.2.lt
 have hX13 : X < M3 := by rw [hM3]; exact HB3.out.now.1.1.1.1.lt
 rw [← hW3, ← hM3]
 clear hW3 hM3 HB3 HA2
 have HY2 : Hid (Stay W3 (fun U => (((((((Blk U X #[.int .i64 tl, .int .i64 tn, .slice ha hn hc, .slice bo bn bc, .int .i64 fi, .slice ga ln gc, .slice oa lo oc] 34 ∧ Blk U (X + 1) #[.int .i64 vm, .int .i64 vg, .int .i64 vf, .int .i64 vl, .int .i64 vt, .int .i64 vs] 40) ∧ Below X w U) ∧ (Blk U M1 #[.int .i64 tl, .int .i64 tn, .slice ha1 hn1 hc1, .slice oa1 on1 oc1, .int .i64 fi, .slice ga1 gn1 gc1, .slice pa1 pn1 pc1] 34 ∧ Blk U (M1 + 1) #[.int .i64 2, .int .i64 vg, .int .i64 vf, .int .i64 vl, .int .i64 vt, .int .i64 vs] 40)) ∧ True) ∧ (Blk U M3 #[.int .i64 la2, .int .i64 ne2, .slice ha2 hn2 hc2, .slice oa2 on2 oc2, .int .i64 fi2, .slice ga2 gn2 gc2, .slice pa2 pn2 pc2] 34 ∧ Blk U (M3 + 1) #[.int .i64 m2, .int .i64 g2, .int .i64 f2, .int .i64 l2, .int .i64 t2, .int .i64 s2] 40)) ∧ True) ∧ TrIn (fun _ => True) U (.slice ha2 hn2 hc2) (.slice oa2 on2 oc2) (.slice ga2 gn2 gc2) (.slice pa2 pn2 pc2) A2))) := HX2.out.and HTA2.out.stay
 clear HX2 HTA2
 obtain ⟨y0, y1, y2, y3, y4, y5, y6⟩ := HY2.out.now.1.1.1.1.1.1.1.sevenc
 obtain ⟨z0, z1, z2, z3, z4, z5⟩ := HY2.out.now.1.1.1.1.1.1.2.sixv
 go_wp2_with fail
 refine (HDO3.out W3 HY2.out.now.1.1.1.1.1.2).mono ?_
 rintro e w4 ⟨ha3, hn3, hc3, oa3, on3, oc3, ga3, gn3, gc3, pa3, pn3, pc3, va3, vc3, rfl, HA3, b4⟩
 have HY4 := Stay.go HY2 b4
 clear b4 HY2 HDO3 y0 y1 y2 y3 y4 y5 y6 z0 z1 z2 z3 z4 z5
 go_upto_region 10 with fail
 obtain ⟨M4, hM4⟩ : ∃ M, M = w4.heap.size := ⟨_, rfl⟩
 obtain ⟨W4, hW4⟩ : ∃ W, W = (w4.alloc (.cells #[.int .i64 la2, .int .i64 ne2, .slice ha3 hn3 hc3, .slice oa3 on3 oc3, .int .i64 fi2, .slice ga3 gn3 gc3, .slice pa3 pn3 pc3] 34)).alloc (.cells #[.int .i64 m3, .int .i64 g3, .int .i64 f3, .int .i64 l3, .int .i64 t3, .int .i64 s3] 40) := ⟨_, rfl⟩
 have HX3 : Hid (Stay W4 (fun U => (((((((((Blk U X #[.int .i64 tl, .int .i64 tn, .slice ha hn hc, .slice bo bn bc, .int .i64 fi, .slice ga ln gc, .slice oa lo oc] 34 ∧ Blk U (X + 1) #[.int .i64 vm, .int .i64 vg, .int .i64 vf, .int .i64 vl, .int .i64 vt, .int .i64 vs] 40) ∧ Below X w U) ∧ (Blk U M1 #[.int .i64 tl, .int .i64 tn, .slice ha1 hn1 hc1, .slice oa1 on1 oc1, .int .i64 fi, .slice ga1 gn1 gc1, .slice pa1 pn1 pc1] 34 ∧ Blk U (M1 + 1) #[.int .i64 2, .int .i64 vg, .int .i64 vf, .int .i64 vl, .int .i64 vt, .int .i64 vs] 40)) ∧ True) ∧ (Blk U M3 #[.int .i64 la2, .int .i64 ne2, .slice ha2 hn2 hc2, .slice oa2 on2 oc2, .int .i64 fi2, .slice ga2 gn2 gc2, .slice pa2 pn2 pc2] 34 ∧ Blk U (M3 + 1) #[.int .i64 m2, .int .i64 g2, .int .i64 f2, .int .i64 l2, .int .i64 t2, .int .i64 s2] 40)) ∧ True) ∧ TrIn (fun _ => True) U (.slice ha2 hn2 hc2) (.slice oa2 on2 oc2) (.slice ga2 gn2 gc2) (.slice pa2 pn2 pc2) A2) ∧ (Blk U M4 #[.int .i64 la2, .int .i64 ne2, .slice ha3 hn3 hc3, .slice oa3 on3 oc3, .int .i64 fi2, .slice ga3 gn3 gc3, .slice pa3 pn3 pc3] 34 ∧ Blk U (M4 + 1) #[.int .i64 m3, .int .i64 g3, .int .i64 f3, .int .i64 l3, .int .i64 t3, .int .i64 s3] 40)) ∧ True))) := by
  have k0 := (Blk.new w4 #[.int .i64 la2, .int .i64 ne2, .slice ha3 hn3 hc3, .slice oa3 on3 oc3, .int .i64 fi2, .slice ga3 gn3 gc3, .slice pa3 pn3 pc3] 34).alloc (.cells #[.int .i64 m3, .int .i64 g3, .int .i64 f3, .int .i64 l3, .int .i64 t3, .int .i64 s3] 40)
  have k1 := Blk.new (w4.alloc (.cells #[.int .i64 la2, .int .i64 ne2, .slice ha3 hn3 hc3, .slice oa3 on3 oc3, .int .i64 fi2, .slice ga3 gn3 gc3, .slice pa3 pn3 pc3] 34)) #[.int .i64 m3, .int .i64 g3, .int .i64 f3, .int .i64 l3, .int .i64 t3, .int .i64 s3] 40
  rw [← hW4, ← hM4] at k0
  rw [World.size_alloc, ← hW4, ← hM4] at k1
  have k2 : Hid (Stay W4 (fun U => (((((((Blk U X #[.int .i64 tl, .int .i64 tn, .slice ha hn hc, .slice bo bn bc, .int .i64 fi, .slice ga ln gc, .slice oa lo oc] 34 ∧ Blk U (X + 1) #[.int .i64 vm, .int .i64 vg, .int .i64 vf, .int .i64 vl, .int .i64 vt, .int .i64 vs] 40) ∧ Below X w U) ∧ (Blk U M1 #[.int .i64 tl, .int .i64 tn, .slice ha1 hn1 hc1, .slice oa1 on1 oc1, .int .i64 fi, .slice ga1 gn1 gc1, .slice pa1 pn1 pc1] 34 ∧ Blk U (M1 + 1) #[.int .i64 2, .int .i64 vg, .int .i64 vf, .int .i64 vl, .int .i64 vt, .int .i64 vs] 40)) ∧ True) ∧ (Blk U M3 #[.int .i64 la2, .int .i64 ne2, .slice ha2 hn2 hc2, .slice oa2 on2 oc2, .int .i64 fi2, .slice ga2 gn2 gc2, .slice pa2 pn2 pc2] 34 ∧ Blk U (M3 + 1) #[.int .i64 m2, .int .i64 g2, .int .i64 f2, .int .i64 l2, .int .i64 t2, .int .i64 s2] 40)) ∧ True) ∧ TrIn (fun _ => True) U (.slice ha2 hn2 hc2) (.slice oa2 on2 oc2) (.slice ga2 gn2 gc2) (.slice pa2 pn2 pc2) A2))) := Stay.go HY4 (by rw [hW4]; exact ((Below.refl _ w4).alloc (Nat.le_refl _) _).alloc (by simp) _)
  exact (k2.out.and (k0.stay.and k1.stay)).imp fun _ h => ⟨h, trivial⟩
 have HTA3 : Hid (TrIn (fun _ => True) W4 (.slice ha3 hn3 hc3) (.slice oa3 on3 oc3) (.slice ga3 gn3 gc3) (.slice pa3 pn3 pc3) A2) := by
  show TrIn _ _ _ _ _ _ _
  rw [hW4]; exact ((HA3.out.mono fun _ _ _ => trivial).to (SameOn.alloc _) (fun _ _ h => h)).to (SameOn.alloc _) (fun _ _ h => h)
 rw [← hW4, ← hM4]
 clear hW4 hM4 HY4 HA3
 have HSM2 : Hid (Calls Tryz.prog 10 #[.agg #[.int .i64 la2, .int .i64 ne2, .slice ha2 hn2 hc2, .slice oa2 on2 oc2, .int .i64 fi2, .slice ga2 gn2 gc2, .slice pa2 pn2 pc2], .agg #[.int .i64 la2, .int .i64 ne2, .slice ha3 hn3 hc3, .slice oa3 on3 oc3, .int .i64 fi2, .slice ga3 gn3 gc3, .slice pa3 pn3 pc3]] W4 fun e w' => e = .returned (.bool true) ∧ Below W4.heap.size W4 w') := by
  have q := sameTrack_any A2 A2 _ _ _ _ _ _ _ _ W4 HX3.out.now.1.1.2 HTA3.out
  rw [sameTr_itself, ← HN2.out.1, ← HN2.out.2.1, ← HN2.out.2.2] at q
  exact q
 by_cases hE2 : E2 = 0
 ·obtain ⟨x1, x2, x3, x4, x5, x6, x7⟩ := HOB.out hE2
  have x2' : vg = g2 := x2.symm
  have x3' : vf = f2 := x3.symm
  have x4' : vl = l2 := x4.symm
  have x5' : vt = t2 := x5.symm
  have x6' : vs = s2 := x6.symm
  clear HOB HTA3 x2 x3 x4 x5 x6
  subst hE2 x1 x2' x3' x4' x5' x6' x7
  obtain ⟨y0, y1, y2, y3, y4, y5, y6⟩ := HX3.out.now.1.1.1.1.2.1.sevenc
  obtain ⟨p0, p1, p2, p3, p4, p5, p6⟩ := HX3.out.now.1.2.1.sevenc
  have hq2 := fun W => neql_vw 2 vg vf vl vt vs W
  go_wp2_with fail
  refine HSM2.out.mono ?_
  rintro e w5 ⟨rfl, b5⟩
  have HX5 := Stay.go HX3 b5
  clear b5 HSM2 HX3
  obtain ⟨z0, z1, z2, z3, z4, z5⟩ := HX5.out.now.1.1.1.1.2.2.sixv
  obtain ⟨q0, q1, q2, q3, q4, q5⟩ := HX5.out.now.1.1.1.1.1.1.2.2.sixv
  go_upto_region 12 with fail
  clear y0 y1 y2 y3 y4 y5 y6 p0 p1 p2 p3 p4 p5 p6 z0 z1 z2 z3 z4 z5 q0 q1 q2 q3 q4 q5
  obtain ⟨y0, y1, y2, y3, y4, y5, y6⟩ := HX5.out.now.1.1.1.1.1.1.1.1.1.sevenc
  obtain ⟨q0, q1, q2, q3, q4, q5⟩ := HX5.out.now.1.1.1.1.1.1.2.2.sixv
  have hl5 : M3 + 1 < w5.heap.size := HX5.out.now.1.1.1.1.2.2.lt
  go_wp2_with fail
  refine (HDO4.out w5 HX5.out.now.1.1.1.1.1.1.1.2).mono ?_
  rintro e w6 ⟨ha4, hn4, hc4, oa4, on4, oc4, ga4, gn4, gc4, pa4, pn4, pc4, va4, vc4, rfl, HA4, b6⟩
  have HX6 := Stay.go HX5 b6
  clear b6 HX5 HDO4 y0 y1 y2 y3 y4 y5 y6 q0 q1 q2 q3 q4 q5
  obtain ⟨M6, hM6⟩ : ∃ M, M = w6.heap.size := ⟨_, rfl⟩
  have hl6 : M3 + 1 < M6 := by rw [hM6]; exact HX6.out.now.1.1.1.1.2.2.lt
  have KZ := HX6.out.now.1.1.1.1.2.2
  have KP := HX6.out.now.1.1.1.1.1.1.2.2
  have KX := HX6.out.now.1.1.1.1.1.1.1.1.1
  have BW6 := HX6.out.now.1.1.1.1.1.1.1.2
  obtain ⟨z0, z1, z2, z3, z4, z5⟩ := KZ.sixv
  have fZ := KZ.free
  have lZ := KZ.lt
  obtain ⟨W6, hW6⟩ : ∃ U, U = ((((((w6.setCell ⟨M3 + 1, 0, none⟩ (.int .i64 m4)).setCell ⟨M3 + 1, 1, none⟩ (.int .i64 g4)).setCell ⟨M3 + 1, 2, none⟩ (.int .i64 f4)).setCell ⟨M3 + 1, 3, none⟩ (.int .i64 l4)).setCell ⟨M3 + 1, 4, none⟩ (.int .i64 t4)).setCell ⟨M3 + 1, 5, none⟩ (.int .i64 s4)) := ⟨_, rfl⟩
  have hs6 : W6.heap.size = M6 := by rw [hW6, hM6]; simp
  obtain ⟨W7, hW7⟩ : ∃ W, W = W6.alloc (.cells #[.int .i64 la4, .int .i64 ne4, .slice ha4 hn4 hc4, .slice oa4 on4 oc4, .int .i64 fi4, .slice ga4 gn4 gc4, .slice pa4 pn4 pc4] 34) := ⟨_, rfl⟩
  have K67 : Hid (Blk W7 M6 #[.int .i64 la4, .int .i64 ne4, .slice ha4 hn4 hc4, .slice oa4 on4 oc4, .int .i64 fi4, .slice ga4 gn4 gc4, .slice pa4 pn4 pc4] 34) := by
   have := Blk.newE hW7
   rw [hs6] at this; exact this
  have KZ7 : Hid (Blk W7 (M3 + 1) #[.int .i64 m4, .int .i64 g4, .int .i64 f4, .int .i64 l4, .int .i64 t4, .int .i64 s4] 40) := by
   have h9 : Blk W6 (M3 + 1) #[.int .i64 m4, .int .i64 g4, .int .i64 f4, .int .i64 l4, .int .i64 t4, .int .i64 s4] 40 := by
    have := ((((((KZ.set 0 (.int .i64 m4)).set 1 (.int .i64 g4)).set 2 (.int .i64 f4)).set 3 (.int .i64 l4)).set 4 (.int .i64 t4)).set 5 (.int .i64 s4))
    rw [hW6]; simpa using this
   show Blk _ _ _ _
   rw [hW7]; exact h9.alloc _
  have KP7 : Hid (Blk W7 (M1 + 1) #[.int .i64 2, .int .i64 vg, .int .i64 vf, .int .i64 vl, .int .i64 vt, .int .i64 vs] 40) := by
   have h9 : Blk W6 (M1 + 1) #[.int .i64 2, .int .i64 vg, .int .i64 vf, .int .i64 vl, .int .i64 vt, .int .i64 vs] 40 := by rw [hW6]; exact ((((((KP.other (a := ⟨M3 + 1, 0, none⟩) (by show _ ≠ M3 + 1; omega) _).other (a := ⟨M3 + 1, 1, none⟩) (by show _ ≠ M3 + 1; omega) _).other (a := ⟨M3 + 1, 2, none⟩) (by show _ ≠ M3 + 1; omega) _).other (a := ⟨M3 + 1, 3, none⟩) (by show _ ≠ M3 + 1; omega) _).other (a := ⟨M3 + 1, 4, none⟩) (by show _ ≠ M3 + 1; omega) _).other (a := ⟨M3 + 1, 5, none⟩) (by show _ ≠ M3 + 1; omega) _)
   show Blk _ _ _ _
   rw [hW7]; exact h9.alloc _
  have KX7 : Hid (Blk W7 X #[.int .i64 tl, .int .i64 tn, .slice ha hn hc, .slice bo bn bc, .int .i64 fi, .slice ga ln gc, .slice oa lo oc] 34) := by
   have h9 : Blk W6 X #[.int .i64 tl, .int .i64 tn, .slice ha hn hc, .slice bo bn bc, .int .i64 fi, .slice ga ln gc, .slice oa lo oc] 34 := by rw [hW6]; exact ((((((KX.other (a := ⟨M3 + 1, 0, none⟩) (by show _ ≠ M3 + 1; omega) _).other (a := ⟨M3 + 1, 1, none⟩) (by show _ ≠ M3 + 1; omega) _).other (a := ⟨M3 + 1, 2, none⟩) (by show _ ≠ M3 + 1; omega) _).other (a := ⟨M3 + 1, 3, none⟩) (by show _ ≠ M3 + 1; omega) _).other (a := ⟨M3 + 1, 4, none⟩) (by show _ ≠ M3 + 1; omega) _).other (a := ⟨M3 + 1, 5, none⟩) (by show _ ≠ M3 + 1; omega) _)
   show Blk _ _ _ _
   rw [hW7]; exact h9.alloc _
  have BW7 : Hid (Below X w W7) := by
   have h9 : Below X w W6 := by rw [hW6]; exact ((((((BW6.setCell (p := ⟨M3 + 1, 0, none⟩) (by show X ≤ M3 + 1; omega) _).setCell (p := ⟨M3 + 1, 1, none⟩) (by show X ≤ M3 + 1; omega) _).setCell (p := ⟨M3 + 1, 2, none⟩) (by show X ≤ M3 + 1; omega) _).setCell (p := ⟨M3 + 1, 3, none⟩) (by show X ≤ M3 + 1; omega) _).setCell (p := ⟨M3 + 1, 4, none⟩) (by show X ≤ M3 + 1; omega) _).setCell (p := ⟨M3 + 1, 5, none⟩) (by show X ≤ M3 + 1; omega) _)
   show Below _ _ _
   rw [hW7]; exact h9.alloc (by omega) _
  have HT7 : Hid (TrIn (fun g => w5.heap.size ≤ g) W7 (.slice ha4 hn4 hc4) (.slice oa4 on4 oc4) (.slice ga4 gn4 gc4) (.slice pa4 pn4 pc4) A4) := by
   have h9 : TrIn (fun g => w5.heap.size ≤ g) W6 (.slice ha4 hn4 hc4) (.slice oa4 on4 oc4) (.slice ga4 gn4 gc4) (.slice pa4 pn4 pc4) A4 := HA4.out.to ⟨by rw [hs6, hM6]; exact Nat.le_refl _, fun g hg h => by
    have hgM : g ≠ M3 + 1 := by
     have : w5.heap.size ≤ g := h
     omega
    rw [hW6]
    iterate 5 refine (Below.heap_setCell _ _ _ _ (by exact hgM)).trans ?_
    exact Below.heap_setCell _ _ _ _ (by exact hgM)⟩ (fun _ _ h => h)
   show TrIn _ _ _ _ _ _ _
   rw [hW7]; exact h9.to (SameOn.alloc _) (fun _ _ h => h)
  clear KP KX BW6 HA4 HX6 KZ hs6
  go_upto_region 13 with fail
  rw [← hW6, ← hW7]
  try rw [← hM6]
  clear hW6 hM6 hW7 z0 z1 z2 z3 z4 z5 fZ lZ
  by_cases hn1 : n < 0
  ·have e3 := HOC.out (.inl hn1)
   clear HOC HOD KZ7 K67 KP7 KX7 HT7
   subst e3
   go_wp2_with fail
   go_ret
   exact ⟨rfl, BW7.out⟩
  by_cases hn2 : 1000000 < n
  ·have e3 := HOC.out (.inr hn2)
   clear HOC HOD KZ7 K67 KP7 KX7 HT7
   subst e3
   go_wp2_with fail
   go_ret
   exact ⟨rfl, BW7.out⟩
  obtain ⟨u1, u2, u3, u4, u5, u6, u7, u8, u9⟩ := HOD.out (by omega)
  have u1' : t = A4 := u1.symm
  have u3' : vg = g4 := u3.symm
  have u4' : vf = f4 := u4.symm
  have u5' : vl = l4 := u5.symm
  have u6' : vt = t4 := u6.symm
  have u7' : vs = s4 := u7.symm
  have v1 : tl = la4 := by rw [HTT.out.1, HN4.out.1, u1]
  have v2 : tn = ne4 := by rw [HTT.out.2.1, HN4.out.2.1, u1]
  have v3 : fi = fi4 := by rw [HTT.out.2.2, HN4.out.2.2, u1]
  clear HOC HOD HN4 u1 u3 u4 u5 u6 u7
  subst u1' u2 u3' u4' u5' u6' u7' u8 u9 v1 v2 v3
  have hq3 := fun W => eql_vw 2 vg vf vl vt vs W
  obtain ⟨z0, z1, z2, z3, z4, z5⟩ := KZ7.out.sixv
  obtain ⟨q0, q1, q2, q3, q4, q5⟩ := KP7.out.sixv
  obtain ⟨y0, y1, y2, y3, y4, y5, y6⟩ := KX7.out.sevenc
  obtain ⟨p0, p1, p2, p3, p4, p5, p6⟩ := K67.out.sevenc
  have HSM7 : Hid (Calls Tryz.prog 10 #[.agg #[.int .i64 tl, .int .i64 tn, .slice ha4 hn4 hc4, .slice oa4 on4 oc4, .int .i64 fi, .slice ga4 gn4 gc4, .slice pa4 pn4 pc4], .agg #[.int .i64 tl, .int .i64 tn, .slice ha hn hc, .slice bo bn bc, .int .i64 fi, .slice ga ln gc, .slice oa lo oc]] W7 fun e w' => e = .returned (.bool true) ∧ Below W7.heap.size W7 w') := by
   have q := sameTrack_any t t _ _ _ _ _ _ _ _ W7 (HT7.out.mono fun _ _ _ => trivial) ((HTR.out.below (by rw [← HXw.out]; exact BW7.out)).mono fun _ _ _ => trivial)
   rw [sameTr_itself, ← HTT.out.1, ← HTT.out.2.1, ← HTT.out.2.2] at q
   exact q
  have hX7 : X ≤ W7.heap.size := Nat.le_of_lt KX7.out.lt
  clear KZ7 K67 KP7 KX7 HT7
  go_wp2_with fail
  refine HSM7.out.mono ?_
  rintro e w8 ⟨rfl, b8⟩
  have BW8 : Hid (Below X w w8) := BW7.out.trans (b8.mono hX7)
  clear b8 HSM7 BW7
  go_wp2_with fail
  go_ret
  exact ⟨rfl, BW8.out⟩
 ·clear HOB HTA3
  obtain ⟨y0, y1, y2, y3, y4, y5, y6⟩ := HX3.out.now.1.1.1.1.2.1.sevenc
  obtain ⟨p0, p1, p2, p3, p4, p5, p6⟩ := HX3.out.now.1.2.1.sevenc
  have hE0 : (E2 == 0) = false := by simp; exact hE2
  go_wp2_with fail
  refine HSM2.out.mono ?_
  rintro e w5 ⟨rfl, b5⟩
  have HX5 := Stay.go HX3 b5
  clear b5 HSM2 HX3
  obtain ⟨z0, z1, z2, z3, z4, z5⟩ := HX5.out.now.1.1.1.1.2.2.sixv
  obtain ⟨q0, q1, q2, q3, q4, q5⟩ := HX5.out.now.1.1.1.1.1.1.2.2.sixv
  go_upto_region 12 with fail
  clear y0 y1 y2 y3 y4 y5 y6 p0 p1 p2 p3 p4 p5 p6 z0 z1 z2 z3 z4 z5 q0 q1 q2 q3 q4 q5
  obtain ⟨y0, y1, y2, y3, y4, y5, y6⟩ := HX5.out.now.1.1.1.1.1.1.1.1.1.sevenc
  obtain ⟨q0, q1, q2, q3, q4, q5⟩ := HX5.out.now.1.1.1.1.1.1.2.2.sixv
  have hl5 : M3 + 1 < w5.heap.size := HX5.out.now.1.1.1.1.2.2.lt
  go_wp2_with fail
  refine (HDO4.out w5 HX5.out.now.1.1.1.1.1.1.1.2).mono ?_
  rintro e w6 ⟨ha4, hn4, hc4, oa4, on4, oc4, ga4, gn4, gc4, pa4, pn4, pc4, va4, vc4, rfl, HA4, b6⟩
  have HX6 := Stay.go HX5 b6
  clear b6 HX5 HDO4 y0 y1 y2 y3 y4 y5 y6 q0 q1 q2 q3 q4 q5
  obtain ⟨M6, hM6⟩ : ∃ M, M = w6.heap.size := ⟨_, rfl⟩
  have hl6 : M3 + 1 < M6 := by rw [hM6]; exact HX6.out.now.1.1.1.1.2.2.lt
  have KZ := HX6.out.now.1.1.1.1.2.2
  have KP := HX6.out.now.1.1.1.1.1.1.2.2
  have KX := HX6.out.now.1.1.1.1.1.1.1.1.1
  have BW6 := HX6.out.now.1.1.1.1.1.1.1.2
  obtain ⟨z0, z1, z2, z3, z4, z5⟩ := KZ.sixv
  have fZ := KZ.free
  have lZ := KZ.lt
  obtain ⟨W6, hW6⟩ : ∃ U, U = ((((((w6.setCell ⟨M3 + 1, 0, none⟩ (.int .i64 m4)).setCell ⟨M3 + 1, 1, none⟩ (.int .i64 g4)).setCell ⟨M3 + 1, 2, none⟩ (.int .i64 f4)).setCell ⟨M3 + 1, 3, none⟩ (.int .i64 l4)).setCell ⟨M3 + 1, 4, none⟩ (.int .i64 t4)).setCell ⟨M3 + 1, 5, none⟩ (.int .i64 s4)) := ⟨_, rfl⟩
  have hs6 : W6.heap.size = M6 := by rw [hW6, hM6]; simp
  obtain ⟨W7, hW7⟩ : ∃ W, W = W6.alloc (.cells #[.int .i64 la4, .int .i64 ne4, .slice ha4 hn4 hc4, .slice oa4 on4 oc4, .int .i64 fi4, .slice ga4 gn4 gc4, .slice pa4 pn4 pc4] 34) := ⟨_, rfl⟩
  have K67 : Hid (Blk W7 M6 #[.int .i64 la4, .int .i64 ne4, .slice ha4 hn4 hc4, .slice oa4 on4 oc4, .int .i64 fi4, .slice ga4 gn4 gc4, .slice pa4 pn4 pc4] 34) := by
   have := Blk.newE hW7
   rw [hs6] at this; exact this
  have KZ7 : Hid (Blk W7 (M3 + 1) #[.int .i64 m4, .int .i64 g4, .int .i64 f4, .int .i64 l4, .int .i64 t4, .int .i64 s4] 40) := by
   have h9 : Blk W6 (M3 + 1) #[.int .i64 m4, .int .i64 g4, .int .i64 f4, .int .i64 l4, .int .i64 t4, .int .i64 s4] 40 := by
    have := ((((((KZ.set 0 (.int .i64 m4)).set 1 (.int .i64 g4)).set 2 (.int .i64 f4)).set 3 (.int .i64 l4)).set 4 (.int .i64 t4)).set 5 (.int .i64 s4))
    rw [hW6]; simpa using this
   show Blk _ _ _ _
   rw [hW7]; exact h9.alloc _
  have KP7 : Hid (Blk W7 (M1 + 1) #[.int .i64 2, .int .i64 vg, .int .i64 vf, .int .i64 vl, .int .i64 vt, .int .i64 vs] 40) := by
   have h9 : Blk W6 (M1 + 1) #[.int .i64 2, .int .i64 vg, .int .i64 vf, .int .i64 vl, .int .i64 vt, .int .i64 vs] 40 := by rw [hW6]; exact ((((((KP.other (a := ⟨M3 + 1, 0, none⟩) (by show _ ≠ M3 + 1; omega) _).other (a := ⟨M3 + 1, 1, none⟩) (by show _ ≠ M3 + 1; omega) _).other (a := ⟨M3 + 1, 2, none⟩) (by show _ ≠ M3 + 1; omega) _).other (a := ⟨M3 + 1, 3, none⟩) (by show _ ≠ M3 + 1; omega) _).other (a := ⟨M3 + 1, 4, none⟩) (by show _ ≠ M3 + 1; omega) _).other (a := ⟨M3 + 1, 5, none⟩) (by show _ ≠ M3 + 1; omega) _)
   show Blk _ _ _ _
   rw [hW7]; exact h9.alloc _
  have KX7 : Hid (Blk W7 X #[.int .i64 tl, .int .i64 tn, .slice ha hn hc, .slice bo bn bc, .int .i64 fi, .slice ga ln gc, .slice oa lo oc] 34) := by
   have h9 : Blk W6 X #[.int .i64 tl, .int .i64 tn, .slice ha hn hc, .slice bo bn bc, .int .i64 fi, .slice ga ln gc, .slice oa lo oc] 34 := by rw [hW6]; exact ((((((KX.other (a := ⟨M3 + 1, 0, none⟩) (by show _ ≠ M3 + 1; omega) _).other (a := ⟨M3 + 1, 1, none⟩) (by show _ ≠ M3 + 1; omega) _).other (a := ⟨M3 + 1, 2, none⟩) (by show _ ≠ M3 + 1; omega) _).other (a := ⟨M3 + 1, 3, none⟩) (by show _ ≠ M3 + 1; omega) _).other (a := ⟨M3 + 1, 4, none⟩) (by show _ ≠ M3 + 1; omega) _).other (a := ⟨M3 + 1, 5, none⟩) (by show _ ≠ M3 + 1; omega) _)
   show Blk _ _ _ _
   rw [hW7]; exact h9.alloc _
  have BW7 : Hid (Below X w W7) := by
   have h9 : Below X w W6 := by rw [hW6]; exact ((((((BW6.setCell (p := ⟨M3 + 1, 0, none⟩) (by show X ≤ M3 + 1; omega) _).setCell (p := ⟨M3 + 1, 1, none⟩) (by show X ≤ M3 + 1; omega) _).setCell (p := ⟨M3 + 1, 2, none⟩) (by show X ≤ M3 + 1; omega) _).setCell (p := ⟨M3 + 1, 3, none⟩) (by show X ≤ M3 + 1; omega) _).setCell (p := ⟨M3 + 1, 4, none⟩) (by show X ≤ M3 + 1; omega) _).setCell (p := ⟨M3 + 1, 5, none⟩) (by show X ≤ M3 + 1; omega) _)
   show Below _ _ _
   rw [hW7]; exact h9.alloc (by omega) _
  have HT7 : Hid (TrIn (fun g => w5.heap.size ≤ g) W7 (.slice ha4 hn4 hc4) (.slice oa4 on4 oc4) (.slice ga4 gn4 gc4) (.slice pa4 pn4 pc4) A4) := by
   have h9 : TrIn (fun g => w5.heap.size ≤ g) W6 (.slice ha4 hn4 hc4) (.slice oa4 on4 oc4) (.slice ga4 gn4 gc4) (.slice pa4 pn4 pc4) A4 := HA4.out.to ⟨by rw [hs6, hM6]; exact Nat.le_refl _, fun g hg h => by
    have hgM : g ≠ M3 + 1 := by
     have : w5.heap.size ≤ g := h
     omega
    rw [hW6]
    iterate 5 refine (Below.heap_setCell _ _ _ _ (by exact hgM)).trans ?_
    exact Below.heap_setCell _ _ _ _ (by exact hgM)⟩ (fun _ _ h => h)
   show TrIn _ _ _ _ _ _ _
   rw [hW7]; exact h9.to (SameOn.alloc _) (fun _ _ h => h)
  clear KP KX BW6 HA4 HX6 KZ hs6
  go_upto_region 13 with fail
  rw [← hW6, ← hW7]
  try rw [← hM6]
  clear hW6 hM6 hW7 z0 z1 z2 z3 z4 z5 fZ lZ
  by_cases hn1 : n < 0
  ·have e3 := HOC.out (.inl hn1)
   clear HOC HOD KZ7 K67 KP7 KX7 HT7
   subst e3
   go_wp2_with fail
   go_ret
   exact ⟨rfl, BW7.out⟩
  by_cases hn2 : 1000000 < n
  ·have e3 := HOC.out (.inr hn2)
   clear HOC HOD KZ7 K67 KP7 KX7 HT7
   subst e3
   go_wp2_with fail
   go_ret
   exact ⟨rfl, BW7.out⟩
  obtain ⟨u1, u2, u3, u4, u5, u6, u7, u8, u9⟩ := HOD.out (by omega)
  have u1' : t = A4 := u1.symm
  have u3' : vg = g4 := u3.symm
  have u4' : vf = f4 := u4.symm
  have u5' : vl = l4 := u5.symm
  have u6' : vt = t4 := u6.symm
  have u7' : vs = s4 := u7.symm
  have v1 : tl = la4 := by rw [HTT.out.1, HN4.out.1, u1]
  have v2 : tn = ne4 := by rw [HTT.out.2.1, HN4.out.2.1, u1]
  have v3 : fi = fi4 := by rw [HTT.out.2.2, HN4.out.2.2, u1]
  clear HOC HOD HN4 u1 u3 u4 u5 u6 u7
  subst u1' u2 u3' u4' u5' u6' u7' u8 u9 v1 v2 v3
  have hq3 := fun W => eql_vw 2 vg vf vl vt vs W
  obtain ⟨z0, z1, z2, z3, z4, z5⟩ := KZ7.out.sixv
  obtain ⟨q0, q1, q2, q3, q4, q5⟩ := KP7.out.sixv
  obtain ⟨y0, y1, y2, y3, y4, y5, y6⟩ := KX7.out.sevenc
  obtain ⟨p0, p1, p2, p3, p4, p5, p6⟩ := K67.out.sevenc
  have HSM7 : Hid (Calls Tryz.prog 10 #[.agg #[.int .i64 tl, .int .i64 tn, .slice ha4 hn4 hc4, .slice oa4 on4 oc4, .int .i64 fi, .slice ga4 gn4 gc4, .slice pa4 pn4 pc4], .agg #[.int .i64 tl, .int .i64 tn, .slice ha hn hc, .slice bo bn bc, .int .i64 fi, .slice ga ln gc, .slice oa lo oc]] W7 fun e w' => e = .returned (.bool true) ∧ Below W7.heap.size W7 w') := by
   have q := sameTrack_any t t _ _ _ _ _ _ _ _ W7 (HT7.out.mono fun _ _ _ => trivial) ((HTR.out.below (by rw [← HXw.out]; exact BW7.out)).mono fun _ _ _ => trivial)
   rw [sameTr_itself, ← HTT.out.1, ← HTT.out.2.1, ← HTT.out.2.2] at q
   exact q
  have hX7 : X ≤ W7.heap.size := Nat.le_of_lt KX7.out.lt
  clear KZ7 K67 KP7 KX7 HT7
  go_wp2_with fail
  refine HSM7.out.mono ?_
  rintro e w8 ⟨rfl, b8⟩
  have BW8 : Hid (Below X w w8) := BW7.out.trans (b8.mono hX7)
  clear b8 HSM7 BW7
  go_wp2_with fail
  go_ret
  exact ⟨rfl, BW8.out⟩
end Go.Proofs.YtnpaejknoipicagGreat
