/-
  The walk of DeskSees.
-/
import Derived.Test.YtnpaejknoipicagGreatMgDeskSees14
import Derived.Test.YtnpaejknoipicagGreatMgDeskSees12
import Derived.Test.YtnpaejknoipicagGreatMgDeskSees9
import Derived.Test.YtnpaejknoipicagGreatMgDeskSees11
import Derived.OneCell
import Derived.Test.YtnpaejknoipicagGreatMgDeskSees4
import Derived.Test.YtnpaejknoipicagGreatMgDeskSees1
import Derived.BigQuiet

namespace Go.Proofs.YtnpaejknoipicagGreat
open Go.RowKit

def pksE : List Pk → Int
  | [] => 0
  | p :: r => if p.chk = 0 then pksE r else p.chk
theorem pksE_zero : ∀ {l : List Pk}, pksE l = 0 → ∀ p ∈ l, p.chk = 0
  | q :: r, h, p, hp => by
    unfold pksE at h
    by_cases h1 : q.chk = 0
    · rw [if_pos h1] at h
      rcases List.mem_cons.1 hp with e | e
      · rw [e]; exact h1
      · exact pksE_zero h p e
    · rw [if_neg h1] at h; exact absurd h h1
/-- what Watch answers -/
def waE (l : List Pk) : Int := if 100 < l.length then 2 else if pksE l = 0 then (if slE l = 0 then framesE (slR l) else slE l) else pksE l
def waR (l : List Pk) : List Fr := if 100 < l.length then [] else if pksE l = 0 then (if slE l = 0 then framesR (slR l) else []) else []
theorem Outs.base {B B' : Nat} {w : World} {u : Value} {l : List Fr} (h : Outs B w u l) (hB : B' ≤ B) : Outs B' w u l := by
  obtain ⟨vs, h1, h2, h3⟩ := h
  exact ⟨vs, h1, owns_base h2 hB, h3⟩

set_option maxHeartbeats 8000000 in
set_option maxRecDepth 100000 in
theorem deskWatch_any (l : List Pk) (v : Value) (w : World) (hv : Pks w v l) :
    Calls Tryz.prog 11 #[v] w fun e w' => ∃ u, e = .returned (.tuple #[u, .int .i64 (waE l)]) ∧ Outs w.heap.size w' u (waR l) ∧ Below w.heap.size w w' := by
  obtain ⟨ao, c, ev⟩ := Sl.len hv
  subst ev
  have HV : Hid (Pks w (.slice ao l.length c) l) := hv
  obtain ⟨n, hn⟩ : ∃ n, n = l.length := ⟨_, rfl⟩
  have HN : Hid (n = l.length) := hn
  obtain ⟨E, hE⟩ : ∃ E, E = waE l := ⟨_, rfl⟩
  obtain ⟨R, hR⟩ : ∃ E, E = waR l := ⟨_, rfl⟩
  have HE : Hid (E = if 100 < n then 2 else if pksE l = 0 then (if slE l = 0 then framesE (slR l) else slE l) else pksE l) := by show E = _; rw [hE, hn]; rfl
  have HR : Hid (R = if 100 < n then [] else if pksE l = 0 then (if slE l = 0 then framesR (slR l) else []) else []) := by show R = _; rw [hR, hn]; rfl
  have HAT : Hid (∀ k, k < n → ∃ b off, ao = some ⟨b, off, none⟩ ∧ b < w.heap.size ∧ ∀ j u, (l[k]?.getD Pk.zero).cells[j]? = some u → w.cell? ⟨b, off + k * 6 + j, none⟩ = some u) := fun k hk => by
    have hk' : k < l.length := by rw [← HN.out]; exact hk
    rw [List.getElem?_eq_getElem hk', Option.getD_some]
    exact Pks.at HV.out hk'
  rw [← hE, ← hR]
  rw [← hn] at HV ⊢
  obtain ⟨X, hX⟩ : ∃ x, x = w.heap.size := ⟨_, rfl⟩
  have HXw : Hid (X = w.heap.size) := hX
  rw [← hX]
  clear hv hn hE hR hX
  go_enter Tryz.func11, Tryz.ntmps11
  by_cases h1 : 100 < n
  · have hEz : Hid (E = 2) := by show E = 2; rw [HE.out, if_pos h1]
    have hRz : Hid (R = []) := by show R = []; rw [HR.out, if_pos h1]
    have hBz : Hid (Below X w w) := by show Below _ _ _; rw [HXw.out]; exact Below.refl _ _
    clear HE HR HAT HN HV
    go_wp2
    go_ret2
    exact ⟨_, by rw [hEz.out]; rfl, by rw [hRz.out]; exact Outs.nil _ _, hBz.out⟩
  have HE1 : Hid (E = if pksE l = 0 then (if slE l = 0 then framesE (slR l) else slE l) else pksE l) := by show E = _; rw [HE.out, if_neg h1]
  have HR1 : Hid (R = if pksE l = 0 then (if slE l = 0 then framesR (slR l) else []) else []) := by show R = _; rw [HR.out, if_neg h1]
  have h1' : n ≤ 100 := by omega
  clear HE HR h1
  go_wp2_with fail
  go_loopw [14] (fun i wr => ∃ k : Nat, k ≤ n ∧ i = .int .i64 k ∧ Hid (pksE l = pksE (l.drop k)) ∧ Hid (Below X w wr))
    (fun i _ => n - (intOf i).toNat)
  case atStart => exact ⟨0, Nat.zero_le _, rfl, rfl, by show Below _ _ _; rw [HXw.out]; exact Below.refl _ _⟩
  case round =>
    obtain ⟨k, hk, rfl, HP, HB⟩ := hrel
    have hXr : X ≤ wr.heap.size := by have := HB.out.size; rw [← HXw.out] at this; exact this
    by_cases hlt : k < n
    · obtain ⟨bA, off, rfl, hbX, hac⟩ := HAT.out k hlt
      obtain ⟨p, hp⟩ : ∃ p, p = l[k]?.getD Pk.zero := ⟨_, rfl⟩
      have HD : Hid (pksE l = if p.chk = 0 then pksE (l.drop (k + 1)) else p.chk) := by
        show pksE l = _
        have hk' : k < l.length := by rw [← HN.out]; exact hlt
        rw [HP.out, List.drop_eq_getElem_cons hk']
        rw [List.getElem?_eq_getElem hk', Option.getD_some] at hp
        rw [← hp]; rfl
      rw [← hp] at hac
      have hbw : bA < X := by rw [HXw.out]; exact hbX
      have hcB : ∀ i u, p.cells[i]? = some u → wr.cell? ⟨bA, off + k * 6 + i, none⟩ = some u := fun i u hu => (HB.out.cell (p := ⟨bA, off + k * 6 + i, none⟩) hbw).trans (hac i u hu)
      obtain ⟨D, hD⟩ : ∃ D, D = p.chk := ⟨_, rfl⟩
      have HCK : Hid (∀ U, Calls Tryz.prog 35 #[p.val] U fun e w' => e = .returned (.int .i64 D) ∧ Below U.heap.size U w') := fun U => by
        rw [hD]
        refine (check_any p U).mono ?_
        rintro e w' ⟨rfl, rfl⟩
        exact ⟨rfl, (Below.refl _ _).alloc (Nat.le_refl _) _⟩
      rw [← hD] at HD
      obtain ⟨sq, tm, xf, xe, xk, xt⟩ := p
      have c0 : wr.cell? ⟨bA, off + k * 6, none⟩ = some (.int .i64 sq) := hcB 0 _ rfl
      have c1 : wr.cell? ⟨bA, off + k * 6 + 1, none⟩ = some (.int .i64 tm) := hcB 1 _ rfl
      have c2 : wr.cell? ⟨bA, off + k * 6 + 2, none⟩ = some (.bool xf) := hcB 2 _ rfl
      have c3 : wr.cell? ⟨bA, off + k * 6 + 3, none⟩ = some (.bool xe) := hcB 3 _ rfl
      have c4 : wr.cell? ⟨bA, off + k * 6 + 4, none⟩ = some (.bool xk) := hcB 4 _ rfl
      have c5 : wr.cell? ⟨bA, off + k * 6 + 5, none⟩ = some (.string xt) := hcB 5 _ rfl
      have hbl : bA < wr.heap.size := by omega
      clear hac hp hbX hbw hcB hD HP HAT HV
      go_upto_region 6 with fail
      obtain ⟨W1, hW1⟩ : ∃ W, W = wr.alloc (.cells #[.int .i64 sq, .int .i64 tm, .bool xf, .bool xe, .bool xk, .string xt] 63) := ⟨_, rfl⟩
      obtain ⟨Q, hQ⟩ : ∃ q, q = wr.heap.size := ⟨_, rfl⟩
      have KQ : Blk W1 Q #[.int .i64 sq, .int .i64 tm, .bool xf, .bool xe, .bool xk, .string xt] 63 := by rw [hQ]; exact Blk.newE hW1
      have HB1 : Hid (Below X w W1) := by show Below _ _ _; rw [hW1]; exact HB.out.alloc hXr _
      have hX1 : X ≤ W1.heap.size := by rw [hW1]; simp; omega
      obtain ⟨j0, j1, j2, j3, j4, j5⟩ : W1.cell? ⟨Q, 0, none⟩ = some (.int .i64 sq) ∧ W1.cell? ⟨Q, 1, none⟩ = some (.int .i64 tm) ∧ W1.cell? ⟨Q, 2, none⟩ = some (.bool xf) ∧ W1.cell? ⟨Q, 3, none⟩ = some (.bool xe) ∧ W1.cell? ⟨Q, 4, none⟩ = some (.bool xk) ∧ W1.cell? ⟨Q, 5, none⟩ = some (.string xt) := ⟨KQ.cell rfl, KQ.cell rfl, KQ.cell rfl, KQ.cell rfl, KQ.cell rfl, KQ.cell rfl⟩
      rw [← hW1]
      try rw [← hQ]
      clear hW1 hQ KQ c0 c1 c2 c3 c4 c5 HB hbl
      go_wp2_with fail
      refine (HCK.out W1).mono ?_
      rintro e W2 ⟨rfl, b2⟩
      have HB2 : Hid (Below X w W2) := HB1.out.trans (b2.mono hX1)
      clear b2 HCK j0 j1 j2 j3 j4 j5 HB1
      by_cases hD0 : D = 0
      · have HP2 : Hid (pksE l = pksE (l.drop (k + 1))) := by
          have := HD.out
          rw [if_pos hD0] at this; exact this
        clear HD
        subst hD0
        go_wp2_with fail
        go_roundw
        case rel => exact ⟨k + 1, by omega, by go_num, HP2.out, HB2.out⟩
        case measure => simp [intOf]; omega
      · have hP2 : pksE l = D := by
          have := HD.out
          rw [if_neg hD0] at this; exact this
        have hEz : Hid (E = D) := by show E = D; rw [HE1.out, if_neg (by rw [hP2]; exact hD0), hP2]
        have hRz : Hid (R = []) := by show R = []; rw [HR1.out, if_neg (by rw [hP2]; exact hD0)]
        clear HD hP2 HE1 HR1
        go_wp2_with fail
        go_ret2
        exact ⟨_, by rw [hEz.out]; rfl, by rw [hRz.out]; exact Outs.nil _ _, HB2.out⟩
    · have hkn : n = k := by omega
      have hP0 : pksE l = 0 := by rw [HP.out, ← hkn, HN.out, List.drop_length]; rfl
      have HRT : Hid (∀ p ∈ l, p.chk = 0) := pksE_zero hP0
      have HE2 : Hid (E = if slE l = 0 then framesE (slR l) else slE l) := by show E = _; rw [HE1.out, if_pos hP0]
      have HR2 : Hid (R = if slE l = 0 then framesR (slR l) else []) := by show R = _; rw [HR1.out, if_pos hP0]
      have HSL : Hid (Calls Tryz.prog 36 #[.slice ao n c] wr fun e w' => ∃ u, e = .returned (.tuple #[u, .int .i64 (slE l)]) ∧ Sls w' u (slR l) ∧ Below wr.heap.size wr w') := slotsOf_any l _ wr (Pks.below HV.out (by rw [← HXw.out]; exact HB.out)) (by rw [← HN.out]; exact h1') HRT.out
      obtain ⟨S, hS⟩ : ∃ S, S = slE l := ⟨_, rfl⟩
      rw [← hS] at HE2 HR2 HSL
      have HSE : Hid (S = slE l) := hS
      clear hS hP0 HE1 HR1 HP HAT HV
      subst hkn
      go_wp2_with fail
      refine HSL.out.mono ?_
      rintro e W2 ⟨u, rfl, g1, b2⟩
      have HB2 : Hid (Below X w W2) := HB.out.trans (b2.mono hXr)
      have HS2 : Hid (Sls W2 u (slR l)) := g1
      have hX2 : X ≤ W2.heap.size := Nat.le_trans hXr b2.size
      clear b2 g1 HSL HB
      by_cases hS0 : S = 0
      case neg =>
        have hEz : Hid (E = S) := by show E = S; rw [HE2.out, if_neg hS0]
        have hRz : Hid (R = []) := by show R = []; rw [HR2.out, if_neg hS0]
        clear HE2 HR2 HS2
        go_wp2_with fail
        go_ret2
        exact ⟨_, by rw [hEz.out]; rfl, by rw [hRz.out]; exact Outs.nil _ _, HB2.out⟩
      have hlr : (slR l).length ≤ 9223372036854775807 := by
        have : (slR l).length ≤ n := by
          unfold slR
          split
          · rw [slK_len]; exact Nat.le_of_eq HN.out.symm
          · exact Nat.zero_le _
        omega
      have HFA : Hid (Calls Tryz.prog 37 #[u] W2 fun e w' => ∃ y, e = .returned (.tuple #[y, .int .i64 E]) ∧ Outs W2.heap.size w' y R ∧ Below W2.heap.size W2 w') := by
        have q := frameAll_any u (slR l) W2 HS2.out hlr
        have e1 := HE2.out
        have e2 := HR2.out
        rw [if_pos hS0] at e1 e2
        rw [← e1, ← e2] at q
        exact q
      clear HE2 HR2 HS2 hlr HSE
      subst hS0
      go_wp2_with fail
      refine HFA.out.mono ?_
      rintro e W3 ⟨y, rfl, g1, b3⟩
      have HB3 : Hid (Below X w W3) := HB2.out.trans (b3.mono hX2)
      have HO3 : Hid (Outs X W3 y R) := g1.base hX2
      clear b3 g1 HFA HB2
      go_wp2_with fail
      go_ret2
      exact ⟨_, rfl, HO3.out, HB3.out⟩

end Go.Proofs.YtnpaejknoipicagGreat

namespace Go.Proofs.YtnpaejknoipicagGreat
open Go.RowKit

def sp1 : Pk := ⟨5, 100, true, true, true, ⟨#[97]⟩⟩
def sp2 : Pk := ⟨6, 110, true, true, true, ⟨#[98]⟩⟩
def scr (b1 b2 : ByteArray) : List Ac := [⟨1, 0, b1⟩, ⟨1, 0, b2⟩, ⟨4, 0, ByteArray.empty⟩, ⟨5, 105, ByteArray.empty⟩, ⟨2, 0, ByteArray.empty⟩, ⟨5, 0, ByteArray.empty⟩, ⟨3, 0, ByteArray.empty⟩]
def scr0 : List Ac := scr (ba sp1.enc) (ba sp2.enc)
def sk1 : Pk := ⟨1, 10, true, true, true, ⟨#[97]⟩⟩
def sk2 : Pk := ⟨2, 20, true, true, true, ⟨#[98]⟩⟩
theorem scrE : (runR scr0).2.2.2.2 = 0 := by kernel_rfl
theorem scrM : (runR scr0).2.1.m = 2 := by kernel_rfl
theorem scrL : (runR scr0).1.L.length = 1 := by kernel_rfl
theorem scrT : (runR scr0).2.2.2.1.length = 7 := by kernel_rfl
theorem scrP : (runR scr0).2.2.1 = [sk1, sk2] := by kernel_rfl
theorem scrD : (doA (runR scr0).1 (runR scr0).2.1 5 500 ByteArray.empty).2.2.2 = 0 := by kernel_rfl
theorem scrN : (doA (runR scr0).1 (runR scr0).2.1 5 500 ByteArray.empty).2.2.1 = [] := by kernel_rfl
theorem scrW : waE [sk1, sk2] = 0 := by kernel_rfl
theorem scrF : (waR [sk1, sk2]).length = 2 := by kernel_rfl
set_option maxHeartbeats 4000000 in
set_option maxRecDepth 100000 in
theorem script_any (w : World) : Calls Tryz.prog 28 #[] w fun e w' => ∃ u, e = .returned u ∧ Acs w' u scr0 ∧ Below w.heap.size w w' := by
  obtain ⟨b1, hb1⟩ : ∃ b, b = ba sp1.enc := ⟨_, rfl⟩
  obtain ⟨b2, hb2⟩ : ∃ b, b = ba sp2.enc := ⟨_, rfl⟩
  have HB1 : Hid (∀ W : World, Calls Tryz.prog 57 #[.agg #[.int .i64 5, .int .i64 100, .bool true, .bool true, .bool true, .string ⟨#[97]⟩]] W fun e w' => e = .returned (.string b1) ∧ Below W.heap.size W w') := by rw [hb1]; exact fun W => bytesOf_any _ _ _ _ _ _ W (by decide)
  have HB2 : Hid (∀ W : World, Calls Tryz.prog 57 #[.agg #[.int .i64 6, .int .i64 110, .bool true, .bool true, .bool true, .string ⟨#[98]⟩]] W fun e w' => e = .returned (.string b2) ∧ Below W.heap.size W w') := by rw [hb2]; exact fun W => bytesOf_any _ _ _ _ _ _ W (by decide)
  rw [show scr0 = scr b1 b2 by rw [hb1, hb2]; rfl]
  obtain ⟨X, hX⟩ : ∃ x, x = w.heap.size := ⟨_, rfl⟩
  have HX : Hid (Below X w w) := by show Below _ _ _; rw [hX]; exact Below.refl _ _
  have hXX : X ≤ w.heap.size := by omega
  rw [← hX]
  clear hb1 hb2 hX
  go_enter Tryz.func28, Tryz.ntmps28
  go_wp2_with fail
  refine (trWhole_any _ _ _ _).mono ?_
  rintro e w1 ⟨rfl, q1⟩
  have H1 : Hid (Below X w w1) := HX.out.trans (q1.mono hXX)
  have s1 : X ≤ w1.heap.size := Nat.le_trans hXX q1.size
  clear q1 HX hXX
  go_wp2_with fail
  refine (HB1.out _).mono ?_
  rintro e w2 ⟨rfl, q1⟩
  have H2 : Hid (Below X w w2) := H1.out.trans (q1.mono s1)
  have s2 : X ≤ w2.heap.size := Nat.le_trans s1 q1.size
  clear q1 H1 s1 HB1
  go_wp2_with fail
  refine (trWhole_any _ _ _ _).mono ?_
  rintro e w3 ⟨rfl, q1⟩
  have H3 : Hid (Below X w w3) := H2.out.trans (q1.mono s2)
  have s3 : X ≤ w3.heap.size := Nat.le_trans s2 q1.size
  clear q1 H2 s2
  go_wp2_with fail
  refine (HB2.out _).mono ?_
  rintro e w4 ⟨rfl, q1⟩
  have H4 : Hid (Below X w w4) := H3.out.trans (q1.mono s3)
  have s4 : X ≤ w4.heap.size := Nat.le_trans s3 q1.size
  clear q1 H3 s3 HB2
  go_wp2
  go_ret
  exact ⟨_, rfl, Sl.new _ _ _ 7 3 _ rfl, H4.out.alloc s4 _⟩

end Go.Proofs.YtnpaejknoipicagGreat

namespace Go.Proofs.YtnpaejknoipicagGreat
open Go.RowKit

set_option maxHeartbeats 8000000 in
set_option maxRecDepth 100000 in
theorem deskBegun_any (w : World) : Calls Tryz.prog 8 #[] w fun e w' => e = .returned (.bool true) ∧ Below w.heap.size w w' := by
  obtain ⟨A, hA⟩ : ∃ A, A = runR scr0 := ⟨_, rfl⟩
  have hE := scrE
  have hM := scrM
  have hL := scrL
  have hT := scrT
  have hP := scrP
  have hD := scrD
  have hN := scrN
  rw [← hA] at hE hM hL hT hP hD hN
  obtain ⟨la1, hla1⟩ : ∃ x, x = A.1.last := ⟨_, rfl⟩
  obtain ⟨ne1, hne1⟩ : ∃ x, x = A.1.next := ⟨_, rfl⟩
  obtain ⟨fi1, hfi1⟩ : ∃ x, x = A.1.first := ⟨_, rfl⟩
  obtain ⟨m1, hm1⟩ : ∃ x, x = A.2.1.m := ⟨_, rfl⟩
  obtain ⟨g1, hg1⟩ : ∃ x, x = A.2.1.g := ⟨_, rfl⟩
  obtain ⟨f1, hf1⟩ : ∃ x, x = A.2.1.f := ⟨_, rfl⟩
  obtain ⟨l1, hl1⟩ : ∃ x, x = A.2.1.l := ⟨_, rfl⟩
  obtain ⟨t1, ht1⟩ : ∃ x, x = A.2.1.t := ⟨_, rfl⟩
  obtain ⟨s1, hs1⟩ : ∃ x, x = A.2.1.s := ⟨_, rfl⟩
  have HRU : Hid (∀ (u : Value) (W : World), Acs W u scr0 → Calls Tryz.prog 18 #[u] W fun e w' => ∃ ha1 hn1 hc1 oa1 on1 oc1 ga1 gn1 gc1 pa1 pn1 pc1 sa sc ea ec, e = .returned (.tuple #[.agg #[.int .i64 la1, .int .i64 ne1, .slice ha1 hn1 hc1, .slice oa1 on1 oc1, .int .i64 fi1, .slice ga1 gn1 gc1, .slice pa1 pn1 pc1], .agg #[.int .i64 m1, .int .i64 g1, .int .i64 f1, .int .i64 l1, .int .i64 t1, .int .i64 s1], .slice sa 2 sc, .slice ea 7 ec, .int .i64 0]) ∧ Hid (TrIn (fun _ => True) w' (.slice ha1 hn1 hc1) (.slice oa1 on1 oc1) (.slice ga1 gn1 gc1) (.slice pa1 pn1 pc1) A.1) ∧ Hid (Pks w' (.slice sa 2 sc) [sk1, sk2]) ∧ gn1 = 1 ∧ Below W.heap.size W w') := fun u W hu => by
    have q := deskRun_any scr0 u W hu
    rw [← hA] at q
    rw [hla1, hne1, hfi1, hm1, hg1, hf1, hl1, ht1, hs1]
    refine q.mono ?_
    rintro e w' ⟨ha1, hn1, hc1, oa1, on1, oc1, ga1, gn1, gc1, pa1, pn1, pc1, sa, sn, sc, ea, en, ec, rfl, q1, q2, q3, q4, q5, q6⟩
    rw [hP] at q2 q3
    rw [hT] at q4
    rw [hE]
    obtain ⟨_, _, _, _, x3, x4, _, _, _, _, e3, _⟩ := q1.slices
    injection e3 with _ e3 _
    rw [hL] at e3
    subst q2 q4
    exact ⟨ha1, hn1, hc1, oa1, on1, oc1, ga1, gn1, gc1, pa1, pn1, pc1, sa, sc, ea, ec, rfl, q1.mono fun _ _ _ => trivial, Sl.of_owns q3, e3, q6⟩
  have HDO : Hid (∀ (ha1 : Option Addr) (hn1 hc1 : Nat) (oa1 : Option Addr) (on1 oc1 : Nat) (ga1 : Option Addr) (gn1 gc1 : Nat) (pa1 : Option Addr) (pn1 pc1 : Nat) (W : World), TrIn (fun _ => True) W (.slice ha1 hn1 hc1) (.slice oa1 on1 oc1) (.slice ga1 gn1 gc1) (.slice pa1 pn1 pc1) A.1 → Calls Tryz.prog 9 #[.agg #[.int .i64 la1, .int .i64 ne1, .slice ha1 hn1 hc1, .slice oa1 on1 oc1, .int .i64 fi1, .slice ga1 gn1 gc1, .slice pa1 pn1 pc1], .agg #[.int .i64 m1, .int .i64 g1, .int .i64 f1, .int .i64 l1, .int .i64 t1, .int .i64 s1], .agg #[.int .i64 5, .int .i64 500, .string ByteArray.empty]] W fun e w' => ∃ la2 ne2 ha2 hn2 hc2 oa2 on2 oc2 ga2 gn2 gc2 pa2 pn2 pc2 fi2 m2 g2 f2 l2 t2 s2 va vc, e = .returned (.tuple #[.agg #[.int .i64 la2, .int .i64 ne2, .slice ha2 hn2 hc2, .slice oa2 on2 oc2, .int .i64 fi2, .slice ga2 gn2 gc2, .slice pa2 pn2 pc2], .agg #[.int .i64 m2, .int .i64 g2, .int .i64 f2, .int .i64 l2, .int .i64 t2, .int .i64 s2], .slice va 0 vc, .int .i64 0]) ∧ Below W.heap.size W w') := fun ha1 hn1 hc1 oa1 on1 oc1 ga1 gn1 gc1 pa1 pn1 pc1 W hu => by
    have q := deskDo_any A.1 A.2.1 5 500 ByteArray.empty _ _ _ _ W hu
    rw [hla1, hne1, hfi1, hm1, hg1, hf1, hl1, ht1, hs1]
    refine q.mono ?_
    rintro e w' ⟨ha2, hn2, hc2, oa2, on2, oc2, ga2, gn2, gc2, pa2, pn2, pc2, va, vn, vc, rfl, q1, q2, q3, q4⟩
    rw [hN] at q2
    rw [hD]
    have q2' : vn = 0 := q2
    subst q2'
    exact ⟨_, _, ha2, hn2, hc2, oa2, on2, oc2, ga2, gn2, gc2, pa2, pn2, pc2, _, _, _, _, _, _, _, va, vc, rfl, q4⟩
  have HWA : Hid (∀ (sa : Option Addr) (sc : Nat) (W : World), Pks W (.slice sa 2 sc) [sk1, sk2] → Calls Tryz.prog 11 #[.slice sa 2 sc] W fun e w' => ∃ ya yc, e = .returned (.tuple #[.slice ya 2 yc, .int .i64 0]) ∧ Below W.heap.size W w') := fun sa sc W hu => by
    refine (deskWatch_any [sk1, sk2] _ W hu).mono ?_
    rintro e w' ⟨u, rfl, q1, q2⟩
    obtain ⟨ya, yc, e1⟩ := q1.len
    rw [scrF] at e1
    rw [scrW, e1]
    exact ⟨ya, yc, rfl, q2⟩
  have hm2 : m1 = 2 := by rw [hm1]; exact hM
  obtain ⟨X, hX⟩ : ∃ x, x = w.heap.size := ⟨_, rfl⟩
  have HX : Hid (Below X w w) := by show Below _ _ _; rw [hX]; exact Below.refl _ _
  have hXX : X ≤ w.heap.size := by omega
  rw [← hX]
  clear hE hM hL hT hP hD hN hla1 hne1 hfi1 hm1 hg1 hf1 hl1 ht1 hs1 hX hA
  subst hm2
  go_enter Tryz.func8, Tryz.ntmps8
  go_wp2_with fail
  refine (script_any w).mono ?_
  rintro e w1 ⟨u, rfl, q1, q2⟩
  have H1 : Hid (Below X w w1) := HX.out.trans (q2.mono hXX)
  have ss1 : X ≤ w1.heap.size := Nat.le_trans hXX q2.size
  have HU : Hid (Acs w1 u scr0) := q1
  clear q1 q2 HX hXX
  go_wp2_with fail
  refine (HRU.out u w1 HU.out).mono ?_
  rintro e w2 ⟨ha1, hn1, hc1, oa1, on1, oc1, ga1, gn1, gc1, pa1, pn1, pc1, sa, sc, ea, ec, rfl, HT2, HP2, rfl, q2⟩
  have H2 : Hid (Below X w w2) := H1.out.trans (q2.mono ss1)
  have ss2 : X ≤ w2.heap.size := Nat.le_trans ss1 q2.size
  clear q2 H1 ss1 HU HRU
  go_upto_region 2 with fail
  obtain ⟨M, hM⟩ : ∃ M, M = w2.heap.size := ⟨_, rfl⟩
  obtain ⟨W3, hW3⟩ : ∃ W, W = (w2.alloc (.cells #[.int .i64 la1, .int .i64 ne1, .slice ha1 hn1 hc1, .slice oa1 on1 oc1, .int .i64 fi1, .slice ga1 1 gc1, .slice pa1 pn1 pc1] 34)).alloc (.cells #[.int .i64 2, .int .i64 g1, .int .i64 f1, .int .i64 l1, .int .i64 t1, .int .i64 s1] 40) := ⟨_, rfl⟩
  have KT : Hid (Blk W3 M #[.int .i64 la1, .int .i64 ne1, .slice ha1 hn1 hc1, .slice oa1 on1 oc1, .int .i64 fi1, .slice ga1 1 gc1, .slice pa1 pn1 pc1] 34) := by
    have := (Blk.new w2 #[.int .i64 la1, .int .i64 ne1, .slice ha1 hn1 hc1, .slice oa1 on1 oc1, .int .i64 fi1, .slice ga1 1 gc1, .slice pa1 pn1 pc1] 34).alloc (.cells #[.int .i64 2, .int .i64 g1, .int .i64 f1, .int .i64 l1, .int .i64 t1, .int .i64 s1] 40)
    rw [← hW3, ← hM] at this; exact this
  have KV : Hid (Blk W3 (M + 1) #[.int .i64 2, .int .i64 g1, .int .i64 f1, .int .i64 l1, .int .i64 t1, .int .i64 s1] 40) := by
    have := Blk.new (w2.alloc (.cells #[.int .i64 la1, .int .i64 ne1, .slice ha1 hn1 hc1, .slice oa1 on1 oc1, .int .i64 fi1, .slice ga1 1 gc1, .slice pa1 pn1 pc1] 34)) #[.int .i64 2, .int .i64 g1, .int .i64 f1, .int .i64 l1, .int .i64 t1, .int .i64 s1] 40
    rw [World.size_alloc, ← hW3, ← hM] at this; exact this
  have hb23 : Below w2.heap.size w2 W3 := by rw [hW3]; exact ((Below.refl _ w2).alloc (Nat.le_refl _) _).alloc (by simp) _
  have H3 : Hid (Below X w W3) := H2.out.trans (hb23.mono ss2)
  have HT3 : Hid (TrIn (fun _ => True) W3 (.slice ha1 hn1 hc1) (.slice oa1 on1 oc1) (.slice ga1 1 gc1) (.slice pa1 pn1 pc1) A.1) := HT2.out.below hb23
  have HP3 : Hid (Pks W3 (.slice sa 2 sc) [sk1, sk2]) := HP2.out.below hb23
  have ss3 : X ≤ W3.heap.size := Nat.le_trans ss2 hb23.size
  rw [← hW3, ← hM]
  clear hW3 hM hb23 H2 HT2 HP2 ss2
  go_wp2_with fail
  refine (HWA.out sa sc W3 HP3.out).mono ?_
  rintro e w4 ⟨ya, yc, rfl, q4⟩
  have H4 : Hid (Below X w w4) := H3.out.trans (q4.mono ss3)
  have ss4 : X ≤ w4.heap.size := Nat.le_trans ss3 q4.size
  have KT4 : Hid (Blk w4 M #[.int .i64 la1, .int .i64 ne1, .slice ha1 hn1 hc1, .slice oa1 on1 oc1, .int .i64 fi1, .slice ga1 1 gc1, .slice pa1 pn1 pc1] 34) := KT.out.below q4 KT.out.lt
  have KV4 : Hid (Blk w4 (M + 1) #[.int .i64 2, .int .i64 g1, .int .i64 f1, .int .i64 l1, .int .i64 t1, .int .i64 s1] 40) := KV.out.below q4 KV.out.lt
  have HT4 : Hid (TrIn (fun _ => True) w4 (.slice ha1 hn1 hc1) (.slice oa1 on1 oc1) (.slice ga1 1 gc1) (.slice pa1 pn1 pc1) A.1) := HT3.out.below q4
  have HP4 : Hid (Pks w4 (.slice sa 2 sc) [sk1, sk2]) := HP3.out.below q4
  obtain ⟨y0, y1, y2, y3, y4, y5, y6⟩ := KT4.out.sevenc
  obtain ⟨z0, z1, z2, z3, z4, z5⟩ := KV4.out.sixv
  clear q4 H3 ss3 HT3 HP3 HWA KT KV
  go_wp2_with fail
  refine (HDO.out _ _ _ _ _ _ _ _ _ _ _ _ w4 HT4.out).mono ?_
  rintro e w5 ⟨la2, ne2, ha2, hn2, hc2, oa2, on2, oc2, ga2, gn2, gc2, pa2, pn2, pc2, fi2, m2, g2, f2, l2, t2, s2, va, vc, rfl, q5⟩
  have H5 : Hid (Below X w w5) := H4.out.trans (q5.mono ss4)
  have ss5 : X ≤ w5.heap.size := Nat.le_trans ss4 q5.size
  have KT5 : Hid (Blk w5 M #[.int .i64 la1, .int .i64 ne1, .slice ha1 hn1 hc1, .slice oa1 on1 oc1, .int .i64 fi1, .slice ga1 1 gc1, .slice pa1 pn1 pc1] 34) := KT4.out.below q5 KT4.out.lt
  have KV5 : Hid (Blk w5 (M + 1) #[.int .i64 2, .int .i64 g1, .int .i64 f1, .int .i64 l1, .int .i64 t1, .int .i64 s1] 40) := KV4.out.below q5 KV4.out.lt
  have HP5 : Hid (Pks w5 (.slice sa 2 sc) [sk1, sk2]) := HP4.out.below q5
  clear q5 H4 ss4 HT4 HP4 HDO KT4 KV4 y0 y1 y2 y3 y4 y5 y6 z0 z1 z2 z3 z4 z5
  go_upto_region 4 with fail
  obtain ⟨W6, hW6⟩ : ∃ W, W = (w5.alloc (.cells #[.int .i64 la2, .int .i64 ne2, .slice ha2 hn2 hc2, .slice oa2 on2 oc2, .int .i64 fi2, .slice ga2 gn2 gc2, .slice pa2 pn2 pc2] 34)).alloc (.cells #[.int .i64 m2, .int .i64 g2, .int .i64 f2, .int .i64 l2, .int .i64 t2, .int .i64 s2] 40) := ⟨_, rfl⟩
  have hb56 : Below w5.heap.size w5 W6 := by rw [hW6]; exact ((Below.refl _ w5).alloc (Nat.le_refl _) _).alloc (by simp) _
  have H6 : Hid (Below X w W6) := H5.out.trans (hb56.mono ss5)
  have HP6 := HP5.out.below hb56
  obtain ⟨y0, y1, y2, y3, y4, y5, y6⟩ := (KT5.out.below hb56 KT5.out.lt).sevenc
  obtain ⟨z0, z1, z2, z3, z4, z5⟩ := (KV5.out.below hb56 KV5.out.lt).sixv
  obtain ⟨bS, oS, rfl, _, hc0⟩ := Pks.at HP6 (k := 0) (by decide)
  obtain ⟨b9, o9, e9, _, hc1⟩ := Pks.at HP6 (k := 1) (by decide)
  injection e9 with e9
  injection e9 with e9 e8
  subst e9 e8
  have c0 : W6.cell? ⟨bS, oS + 5, none⟩ = some (.string ⟨#[97]⟩) := by
    have := hc0 5 _ rfl
    rw [Nat.zero_mul, Nat.add_zero] at this; exact this
  have c1 : W6.cell? ⟨bS, oS + 6 + 5, none⟩ = some (.string ⟨#[98]⟩) := by
    have := hc1 5 _ rfl
    rw [Nat.one_mul] at this; exact this
  have c2 : W6.cell? ⟨bS, oS + 6, none⟩ = some (.int .i64 2) := by
    have := hc1 0 _ rfl
    rw [Nat.one_mul, Nat.add_zero] at this; exact this
  have c3 : W6.cell? ⟨bS, oS + 6 + 1, none⟩ = some (.int .i64 20) := by
    have := hc1 1 _ rfl
    rw [Nat.one_mul] at this; exact this
  rw [← hW6]
  clear hW6 hb56 H5 ss5 KT5 KV5 HP5 HP6 hc0 hc1
  go_upto_region 6 with fail
  trace_state
  go_wp2_with fail
  go_ret
  exact ⟨rfl, H6.out⟩

end Go.Proofs.YtnpaejknoipicagGreat

namespace Go.Proofs.YtnpaejknoipicagGreat
open Go.RowKit

structure SdI (w1 : World) (l t s : Int) (P : List Pk) (E : Int) (f : Fr) (st : Nat) (r : Nat → Value) (b : Nat → Option Nat) (w' : World) : Prop where
  bel : Below w1.heap.size w1 w'
  seven : ∀ p, b 7 = some p → w1.heap.size ≤ p ∧ p < w'.heap.size ∧ (st ≤ 2 → Blk w' p #[.int .i64 0, .int .i64 0, .int .i64 0] 38) ∧ (3 ≤ st → Blk w' p #[.int .i64 l, .int .i64 t, .int .i64 s] 38)
  has7 : 3 ≤ st → ¬ b 7 = none
  one : st = 1 → ∃ pa pc, r 0 = .agg #[.int .i64 f.time, .bool f.key, .slice pa f.parts.length pc] ∧ StrsIn (fun _ => True) w' (.slice pa f.parts.length pc) f.parts
  two : 2 ≤ st → ∃ va vc, r 1 = .tuple #[.agg #[.int .i64 l, .int .i64 t, .int .i64 s], .slice va P.length vc, .int .i64 E] ∧ w'.ownsRow w1.heap.size 63 6 (.slice va P.length vc) P.length (pkCells P) ∧ ∀ p, b 7 = some p → (Value.slice va P.length vc).ownBlock ≠ some p

section
variable {w1 : World} {l t s : Int} {P : List Pk} {E : Int} {f : Fr} {r : Nat → Value} {b : Nat → Option Nat} {w' w'' : World}
theorem SdI.call0 (h : SdI w1 l t s P E f 0 r b w') (hb : Below w'.heap.size w' w'') (pa : Option Addr) (pc : Nat) (hp : StrsIn (fun _ => True) w'' (.slice pa f.parts.length pc) f.parts) : SdI w1 l t s P E f 1 (updR r 0 (.agg #[.int .i64 f.time, .bool f.key, .slice pa f.parts.length pc])) b w'' := by
  refine ⟨h.bel.trans (hb.mono h.bel.size), fun p hp => ?_, fun h => by omega, fun _ => ⟨pa, pc, updR_at _ _ _, hp⟩, fun h => by omega⟩
  obtain ⟨e1, e2, e3, e4⟩ := h.seven p hp
  have := e3 (by omega)
  exact ⟨e1, Nat.lt_of_lt_of_le e2 hb.size, fun _ => this.below hb this.lt, fun h => by omega⟩
theorem SdI.call1 (h : SdI w1 l t s P E f 1 r b w') (hb : Below w'.heap.size w' w'') (va : Option Addr) (vc : Nat) (ho : w''.ownsRow w'.heap.size 63 6 (.slice va P.length vc) P.length (pkCells P)) : SdI w1 l t s P E f 2 (updR r 1 (.tuple #[.agg #[.int .i64 l, .int .i64 t, .int .i64 s], .slice va P.length vc, .int .i64 E])) b w'' := by
  refine ⟨h.bel.trans (hb.mono h.bel.size), fun p hp => ?_, fun h => by omega, fun h => by omega, fun _ => ⟨va, vc, updR_at _ _ _, owns_le ho h.bel.size, fun p hp e => ?_⟩⟩
  · obtain ⟨e1, e2, e3, e4⟩ := h.seven p hp
    have := e3 (by omega)
    exact ⟨e1, Nat.lt_of_lt_of_le e2 hb.size, fun _ => this.below hb this.lt, fun h => by omega⟩
  · have := (h.seven p hp).2.1
    have := (ho.lt p e).1
    omega
theorem SdI.box {st : Nat} (h : SdI w1 l t s P E f st r b w') (hb : b 7 = none) : SdI w1 l t s P E f st r (updO b 7 w'.heap.size) (w'.alloc (.cells #[.int .i64 0, .int .i64 0, .int .i64 0] 38)) := by
  have hs : st ≤ 2 := by
    by_cases h3 : 3 ≤ st
    · exact absurd hb (h.has7 h3)
    · omega
  refine ⟨h.bel.alloc h.bel.size _, fun p hp => ?_, fun h => by omega, fun h0 => ?_, fun h0 => ?_⟩
  · simp [updO] at hp
    subst hp
    exact ⟨h.bel.size, by simp, fun _ => Blk.new _ _ _, fun h => by omega⟩
  · obtain ⟨pa, pc, e, q⟩ := h.one h0
    exact ⟨pa, pc, e, q.alloc _⟩
  · obtain ⟨va, vc, e, q, _⟩ := h.two h0
    refine ⟨va, vc, e, q.alloc _, fun p hp e => ?_⟩
    simp [updO] at hp
    subst hp
    have := (q.lt _ e).2
    omega
theorem SdI.put (h : SdI w1 l t s P E f 2 r b w') {p : Nat} (hp : b 7 = some p) (v : Value) : SdI w1 l t s P E f 3 (updR r 2 v) b (((w'.setCell ⟨p, 0, none⟩ (.int .i64 l)).setCell ⟨p, 1, none⟩ (.int .i64 t)).setCell ⟨p, 2, none⟩ (.int .i64 s)) := by
  obtain ⟨e1, e2, e3, _⟩ := h.seven p hp
  have kg := e3 (Nat.le_refl _)
  refine ⟨((h.bel.setCell e1 _).setCell e1 _).setCell e1 _, fun q hq => ?_, fun _ => by rw [hp]; simp, fun h => by omega, fun _ => ?_⟩
  · rw [hp] at hq
    injection hq with hq
    subst hq
    exact ⟨e1, by simpa using e2, fun h => by omega, fun _ => kg.put3 _ _ _⟩
  · obtain ⟨va, vc, e, q, hn⟩ := h.two (Nat.le_refl _)
    refine ⟨va, vc, by rw [updR_ne (by omega)]; exact e, ?_, hn⟩
    have := hn p hp
    exact ownsRow_setCell_other (ownsRow_setCell_other (ownsRow_setCell_other q this _) this _) this _
end

end Go.Proofs.YtnpaejknoipicagGreat

namespace Go.Proofs.YtnpaejknoipicagGreat
open Go.RowKit

/-- the law's own frame -/
def pf (t : Int) (k : Bool) : Fr := ⟨t, k, [⟨#[97, 98, 99]⟩]⟩

set_option maxHeartbeats 400000 in
theorem pic_any (t : Int) (k : Bool) (w : World) :
    Calls Tryz.prog 55 #[.int .i64 t, .bool k] w fun e w' => e = .returned (.agg #[.int .i64 t, .bool k, .slice (some ⟨w.heap.size + 1, 0, none⟩) 1 1]) ∧ StrsIn (fun g => w.heap.size ≤ g) w' (.slice (some ⟨w.heap.size + 1, 0, none⟩) 1 1) [⟨#[97, 98, 99]⟩] ∧ Below w.heap.size w w' := by
  go_enter Tryz.func55, Tryz.ntmps55
  go_wp2
  refine bodyPost_ret (v := .agg #[.int .i64 t, .bool k, .slice (some ⟨w.heap.size + 1, 0, none⟩) 1 1]) (by simp [results, Tryz.results55, go_sem]) rfl ⟨rfl, ?_, ?_⟩
  · have hk := Blk.new (w.alloc (.cells #[.int .i64 t, .bool k, .slice (some ⟨w.heap.size + 1, 0, none⟩) 1 1] 98)) #[.string ⟨#[97, 98, 99]⟩] 9
    simp only [World.size_alloc] at hk
    refine ⟨⟨rfl, .inr ⟨w.heap.size + 1, 0, 1, rfl, hk.lt, fun j u hj => ?_⟩⟩, by simp, fun g hg _ => ?_⟩
    · rw [Nat.zero_add]
      exact hk.cell (by simpa using hj)
    · simp [Value.ownBlock] at hg
      subst hg
      exact ⟨by omega, hk.lt⟩
  · exact ((Below.refl _ w).alloc (Nat.le_refl _) _).alloc (by simp) _

end Go.Proofs.YtnpaejknoipicagGreat

namespace Go.Proofs.YtnpaejknoipicagGreat
open Go.RowKit

set_option maxHeartbeats 16000000 in
set_option maxRecDepth 100000 in
theorem outBegun_any (w : World) :
    Calls Tryz.prog 20 #[] w fun e w' => e = .returned (.bool true) ∧ Below w.heap.size w w' := by
  have HS1 : Hid (∀ (U : World) (pa : Option Addr) (pc : Nat), StrsIn (fun _ => True) U (.slice pa 1 pc) [⟨#[97, 98, 99]⟩] → Calls Tryz.prog 54 #[.agg #[.int .i64 0, .int .i64 0, .int .i64 0], .agg #[.int .i64 500, .bool true, .slice pa 1 pc], .bool false] U fun e w' => ∃ va vc, e = .returned (.tuple #[.agg #[.int .i64 1, .int .i64 10, .int .i64 (-490)], .slice va 1 vc, .int .i64 0]) ∧ w'.ownsRow U.heap.size 63 6 (.slice va 1 vc) 1 (pkCells [⟨1, 10, true, true, true, ⟨#[97, 98, 99]⟩⟩]) ∧ Below U.heap.size U w') := fun U pa pc h => by
    refine (outSend_any 0 0 0 (pf 500 true) (.slice pa 1 pc) false U h).mono ?_
    rw [show sdO 0 0 0 (pf 500 true) false = (1, 10, (-490)) by kernel_rfl, show sdE 0 0 0 (pf 500 true) false = 0 by kernel_rfl, show sdP 0 0 0 (pf 500 true) false = [⟨1, 10, true, true, true, ⟨#[97, 98, 99]⟩⟩] by kernel_rfl]
    rintro e w' ⟨v, rfl, ho, hb⟩
    obtain ⟨va, vc, ev⟩ := owns_slice6 ho
    subst ev
    exact ⟨va, vc, rfl, ho, hb⟩
  have HS2 : Hid (∀ (U : World) (pa : Option Addr) (pc : Nat), StrsIn (fun _ => True) U (.slice pa 1 pc) [⟨#[97, 98, 99]⟩] → Calls Tryz.prog 54 #[.agg #[.int .i64 1, .int .i64 10, .int .i64 (-490)], .agg #[.int .i64 503, .bool false, .slice pa 1 pc], .bool false] U fun e w' => ∃ va vc, e = .returned (.tuple #[.agg #[.int .i64 2, .int .i64 13, .int .i64 (-490)], .slice va 1 vc, .int .i64 0]) ∧ w'.ownsRow U.heap.size 63 6 (.slice va 1 vc) 1 (pkCells [⟨2, 13, true, true, false, ⟨#[97, 98, 99]⟩⟩]) ∧ Below U.heap.size U w') := fun U pa pc h => by
    refine (outSend_any 1 10 (-490) (pf 503 false) (.slice pa 1 pc) false U h).mono ?_
    rw [show sdO 1 10 (-490) (pf 503 false) false = (2, 13, (-490)) by kernel_rfl, show sdE 1 10 (-490) (pf 503 false) false = 0 by kernel_rfl, show sdP 1 10 (-490) (pf 503 false) false = [⟨2, 13, true, true, false, ⟨#[97, 98, 99]⟩⟩] by kernel_rfl]
    rintro e w' ⟨v, rfl, ho, hb⟩
    obtain ⟨va, vc, ev⟩ := owns_slice6 ho
    subst ev
    exact ⟨va, vc, rfl, ho, hb⟩
  have HS3 : Hid (∀ (U : World) (pa : Option Addr) (pc : Nat), StrsIn (fun _ => True) U (.slice pa 1 pc) [⟨#[97, 98, 99]⟩] → Calls Tryz.prog 54 #[.agg #[.int .i64 2, .int .i64 13, .int .i64 (-490)], .agg #[.int .i64 2, .bool true, .slice pa 1 pc], .bool true] U fun e w' => ∃ va vc, e = .returned (.tuple #[.agg #[.int .i64 3, .int .i64 23, .int .i64 21], .slice va 1 vc, .int .i64 0]) ∧ w'.ownsRow U.heap.size 63 6 (.slice va 1 vc) 1 (pkCells [⟨3, 23, true, true, true, ⟨#[97, 98, 99]⟩⟩]) ∧ Below U.heap.size U w') := fun U pa pc h => by
    refine (outSend_any 2 13 (-490) (pf 2 true) (.slice pa 1 pc) true U h).mono ?_
    rw [show sdO 2 13 (-490) (pf 2 true) true = (3, 23, 21) by kernel_rfl, show sdE 2 13 (-490) (pf 2 true) true = 0 by kernel_rfl, show sdP 2 13 (-490) (pf 2 true) true = [⟨3, 23, true, true, true, ⟨#[97, 98, 99]⟩⟩] by kernel_rfl]
    rintro e w' ⟨v, rfl, ho, hb⟩
    obtain ⟨va, vc, ev⟩ := owns_slice6 ho
    subst ev
    exact ⟨va, vc, rfl, ho, hb⟩
  have HS4 : Hid (∀ (U : World) (pa : Option Addr) (pc : Nat), StrsIn (fun _ => True) U (.slice pa 1 pc) [⟨#[97, 98, 99]⟩] → Calls Tryz.prog 54 #[.agg #[.int .i64 2, .int .i64 13, .int .i64 (-490)], .agg #[.int .i64 2, .bool true, .slice pa 1 pc], .bool false] U fun e w' => ∃ va vc, e = .returned (.tuple #[.agg #[.int .i64 0, .int .i64 0, .int .i64 0], .slice va 0 vc, .int .i64 4]) ∧ w'.ownsRow U.heap.size 63 6 (.slice va 0 vc) 0 (pkCells []) ∧ Below U.heap.size U w') := fun U pa pc h => by
    refine (outSend_any 2 13 (-490) (pf 2 true) (.slice pa 1 pc) false U h).mono ?_
    rw [show sdO 2 13 (-490) (pf 2 true) false = (0, 0, 0) by kernel_rfl, show sdE 2 13 (-490) (pf 2 true) false = 4 by kernel_rfl, show sdP 2 13 (-490) (pf 2 true) false = [] by kernel_rfl]
    rintro e w' ⟨v, rfl, ho, hb⟩
    obtain ⟨va, vc, ev⟩ := owns_slice6 ho
    subst ev
    exact ⟨va, vc, rfl, ho, hb⟩
  have HCK : Hid (∀ U : World, Calls Tryz.prog 56 #[.agg #[.int .i64 3, .int .i64 23, .int .i64 21]] U fun e w' => e = .returned (.int .i64 0) ∧ Below U.heap.size U w') := fun U => by
    have := outCheck_any 3 23 21 U
    rw [show outE 3 23 21 = 0 by kernel_rfl] at this
    exact this
  go_enter Tryz.func20, Tryz.ntmps20
  go_wp2_with fail
  refine (pic_any 500 true w).mono ?_
  rintro e w1 ⟨rfl, q1, b1⟩
  go_wp2_with fail
  refine (HS1.out w1 _ _ (q1.mono fun _ _ _ => trivial)).mono ?_
  rintro e w2 ⟨va1, vc1, rfl, ho1, b2⟩
  obtain ⟨W1, hW1⟩ : ∃ W1, W1 = w2.alloc (.cells #[.int .i64 1, .int .i64 10, .int .i64 (-490)] 38) := ⟨_, rfl⟩
  obtain ⟨CB, hCB⟩ : ∃ n, n = w2.heap.size := ⟨_, rfl⟩
  have KC : Hid (Blk W1 CB #[.int .i64 1, .int .i64 10, .int .i64 (-490)] 38) := by rw [hCB]; exact Blk.newE hW1
  have B1 : Hid (Below w.heap.size w W1) := by
    have h2 : Below w.heap.size w w2 := b1.trans (b2.mono b1.size)
    rw [hW1]; exact h2.alloc h2.size _
  have HR1 : Hid (Stay W1 (fun U => Pks U (.slice va1 1 vc1) ([⟨1, 10, true, true, true, ⟨#[97, 98, 99]⟩⟩] : List Pk))) := by
    have h : Pks W1 (.slice va1 1 vc1) ([⟨1, 10, true, true, true, ⟨#[97, 98, 99]⟩⟩] : List Pk) := by rw [hW1]; exact Sl.of_owns (ho1.alloc _)
    exact fun U hU => h.below hU
  clear b1 b2 q1 ho1 HS1
  go_wp2_with fail
  rw [← hW1, ← hCB]
  clear hW1 hCB
  refine region_boxes (by kernel_rfl) (by kernel_rfl) [.quiet (.agg #[.int .i64 1, .int .i64 10, .int .i64 (-490)]) 3, .step 0, .step 1, .fin 1 (fun r => r), .fin 1 (exT 0), .fin 1 (exT 1), .fin 1 (exT 2), .box, .step 2, .fin 1 (exT 1), .fin 1 (exT 2)] [1, 2, 8] (by kernel_rfl)
    (SdI W1 (2) (13) ((-490)) ([⟨2, 13, true, true, false, ⟨#[97, 98, 99]⟩⟩] : List Pk) 0 (pf 503 false)) ?i0 ?step ?fin
  case i0 => exact ⟨⟨rfl, rfl, rfl, Nat.le_refl _, fun _ _ => rfl⟩, fun _ hp => (by cases hp), fun h => (by omega), fun h => (by omega), fun h => (by omega)⟩
  case step =>
    intro i o ho a' w' s r b hI hfree hvals hbx
    have f1 : a'.eval (.tmp 1) = .pointer (some ⟨CB, 0, none⟩) := (hfree 1 (by kernel_rfl)).trans rfl
    obtain ⟨y0, y1, y2⟩ := (KC.out.below hI.bel KC.out.lt).three
    have ec : ∀ v, a'.eval (.const v) = v := fun _ => rfl
    match i, ho with
    | 0, ho =>
      simp at ho; subst ho
      show s ≤ 3 → (execOp a'.eval _).run _ w' = .ok (.value _) w'
      intro _
      generalize a'.eval = ρ at *
      simp [execOp, go_sem, f1, y0, y1, y2]
    | 1, ho =>
      simp at ho; subst ho
      show s = 0 → _
      intro hs
      subst hs
      have ef : a'.eval (.func 55) = .func (.func 55) #[] #[] := rfl
      refine oper_wp_call (f := 55) (args := #[.int .i64 503, .bool false]) ?_ ((pic_any 503 false w').mono ?_)
      · generalize a'.eval = ρ at *
        simp [execOp, go_sem, ef, ec]
      · rintro e w'' ⟨rfl, q1, b1⟩
        exact ⟨_, rfl, _, rfl, SdI.call0 hI b1 _ _ (q1.mono fun _ _ _ => trivial)⟩
    | 2, ho =>
      simp at ho; subst ho
      show s = 1 → _
      intro hs
      subst hs
      obtain ⟨pa, pc, er, q1⟩ := hI.one rfl
      have e1 : a'.eval (.tmp 22) = .agg #[.int .i64 503, .bool false, .slice pa 1 pc] := (hvals 1 _ _ (by kernel_rfl) rfl rfl).trans er
      have e2 : a'.eval (.tmp 21) = .agg #[.int .i64 1, .int .i64 10, .int .i64 (-490)] := hvals 0 _ _ (by kernel_rfl) rfl rfl
      have ef : a'.eval (.func 54) = .func (.func 54) #[] #[] := rfl
      refine oper_wp_call (f := 54) (args := #[.agg #[.int .i64 1, .int .i64 10, .int .i64 (-490)], .agg #[.int .i64 503, .bool false, .slice pa 1 pc], .bool false]) ?_ ((HS2.out w' pa pc q1).mono ?_)
      · generalize a'.eval = ρ at *
        simp [execOp, go_sem, e1, e2, ef, ec]
      · rintro e w'' ⟨va, vc, rfl, ho, b1⟩
        exact ⟨_, rfl, _, rfl, SdI.call1 hI b1 _ _ ho⟩
    | 3, ho =>
      simp at ho; subst ho
      have e1 : a'.eval (.tmp 23) = r 1 := hvals 2 _ _ (by kernel_rfl) rfl rfl
      show 1 < s → (execOp a'.eval _).run _ w' = .ok (.value _) w'
      intro hs
      obtain ⟨va, vc, er, _⟩ := hI.two hs
      rw [er] at e1 ⊢
      generalize a'.eval = ρ at *
      simp [execOp, go_sem, e1]
    | 4, ho =>
      simp at ho; subst ho
      have e1 : a'.eval (.tmp 20) = r 1 := hvals 3 _ _ (by kernel_rfl) rfl rfl
      show 1 < s → (execOp a'.eval _).run _ w' = .ok (.value _) w'
      intro hs
      obtain ⟨va, vc, er, _⟩ := hI.two hs
      rw [er] at e1 ⊢
      simp only [exT] at e1 ⊢
      generalize a'.eval = ρ at *
      simp [execOp, go_sem, e1]
    | 5, ho =>
      simp at ho; subst ho
      have e1 : a'.eval (.tmp 20) = r 1 := hvals 3 _ _ (by kernel_rfl) rfl rfl
      show 1 < s → (execOp a'.eval _).run _ w' = .ok (.value _) w'
      intro hs
      obtain ⟨va, vc, er, _⟩ := hI.two hs
      rw [er] at e1 ⊢
      simp only [exT] at e1 ⊢
      generalize a'.eval = ρ at *
      simp [execOp, go_sem, e1]
    | 6, ho =>
      simp at ho; subst ho
      have e1 : a'.eval (.tmp 20) = r 1 := hvals 3 _ _ (by kernel_rfl) rfl rfl
      show 1 < s → (execOp a'.eval _).run _ w' = .ok (.value _) w'
      intro hs
      obtain ⟨va, vc, er, _⟩ := hI.two hs
      rw [er] at e1 ⊢
      simp only [exT] at e1 ⊢
      generalize a'.eval = ρ at *
      simp [execOp, go_sem, e1]
    | 7, ho =>
      simp at ho; subst ho
      show b 7 = none → _
      intro hb
      refine ⟨.cells #[.int .i64 0, .int .i64 0, .int .i64 0] 38, ?_, hI.box hb⟩
      generalize a'.eval = ρ at *
      simp [execOp, go_sem]
    | 8, ho =>
      simp at ho; subst ho
      show s = 2 → _
      intro hs
      subst hs
      obtain ⟨va, vc, er, _⟩ := hI.two (by omega)
      obtain ⟨p, hp⟩ := Option.isSome_iff_exists.1 (hbx 7 (by kernel_rfl) rfl)
      have kg := (hI.seven p hp).2.2.1 (Nat.le_refl _)
      have e1 : a'.eval (.tmp 4) = .pointer (some ⟨p, 0, none⟩) := (hvals 7 _ _ (by kernel_rfl) rfl rfl).trans (by show Cm.out r b 7 .box = _; simp [Cm.out, hp])
      have e2 : a'.eval (.tmp 24) = .agg #[.int .i64 2, .int .i64 13, .int .i64 (-490)] := (hvals 4 _ _ (by kernel_rfl) rfl rfl).trans (by show exT 0 (r 1) = _; rw [er]; rfl)
      obtain ⟨t0, t1, t2⟩ := kg.three
      have fr := kg.free
      refine oper_wp_skip (w' := ((w'.setCell ⟨p, 0, none⟩ (.int .i64 2)).setCell ⟨p, 1, none⟩ (.int .i64 13)).setCell ⟨p, 2, none⟩ (.int .i64 (-490))) ?_ ⟨_, rfl, ?_⟩
      · generalize a'.eval = ρ at *
        simp [execOp, go_sem, e1, e2, t0, t1, t2, fr]
      · exact SdI.put hI hp _
    | 9, ho =>
      simp at ho; subst ho
      have e1 : a'.eval (.tmp 25) = exT 1 (r 1) := hvals 5 _ _ (by kernel_rfl) rfl rfl
      show 1 < s → (execOp a'.eval _).run _ w' = .ok (.value _) w'
      intro hs
      obtain ⟨va, vc, er, _⟩ := hI.two hs
      rw [er] at e1 ⊢
      simp only [exT] at e1 ⊢
      generalize a'.eval = ρ at *
      simp [execOp, go_sem, e1]
    | 10, ho =>
      simp at ho; subst ho
      have e1 : a'.eval (.tmp 26) = exT 2 (r 1) := hvals 6 _ _ (by kernel_rfl) rfl rfl
      show 1 < s → (execOp a'.eval _).run _ w' = .ok (.value _) w'
      intro hs
      obtain ⟨va, vc, er, _⟩ := hI.two hs
      rw [er] at e1 ⊢
      simp only [exT] at e1 ⊢
      generalize a'.eval = ρ at *
      simp [execOp, go_sem, e1]
    | i + 11, ho => simp at ho
  case fin =>
    rintro r b Y2 hI hbxs
    obtain ⟨p, hp⟩ := hbxs 7 (by decide) rfl
    obtain ⟨va, vc, er, hrow, _⟩ := hI.two (by decide)
    obtain ⟨_, _, _, n4⟩ := hI.seven p hp
    have KD : Hid (Blk Y2 p #[.int .i64 2, .int .i64 13, .int .i64 (-490)] 38) := n4 (by decide)
    have HBW : Hid (Below W1.heap.size W1 Y2) := hI.bel
    have HR2 : Hid (Stay Y2 (fun U => Pks U (.slice va 1 vc) ([⟨2, 13, true, true, false, ⟨#[97, 98, 99]⟩⟩] : List Pk))) := fun U hU => Pks.below (Sl.of_owns hrow) hU
    simp only [putM, Cm.out, er, hp, exT, Act.put, List.setIfInBounds_toArray, List.set_cons_succ, List.set_cons_zero, List.getElem?_toArray, List.getElem?_cons_zero, List.getElem?_cons_succ, Option.getD_some, List.length_cons, List.length_nil, Nat.zero_add]
    clear hI hbxs hp er n4 hrow
    have HRY := Stay.go HR1 HBW.out
    have B2 : Hid (Below w.heap.size w Y2) := B1.out.trans (HBW.out.mono B1.out.size)
    obtain ⟨va2, hva2⟩ : ∃ x, x = va := ⟨_, rfl⟩
    obtain ⟨vc2, hvc2⟩ : ∃ x, x = vc := ⟨_, rfl⟩
    obtain ⟨PB, hPB⟩ : ∃ x, x = p := ⟨_, rfl⟩
    subst hva2 hvc2 hPB
    clear KC HBW B1 HR1 HS2
    go_wp2_with fail
    refine region_boxes (by kernel_rfl) (by kernel_rfl) [.quiet (.agg #[.int .i64 2, .int .i64 13, .int .i64 (-490)]) 3, .step 0, .step 1, .fin 1 (fun r => r), .fin 1 (exT 0), .fin 1 (exT 1), .fin 1 (exT 2), .box, .step 2, .fin 1 (exT 1), .fin 1 (exT 2)] [1, 2, 8] (by kernel_rfl)
      (SdI Y2 (3) (23) (21) ([⟨3, 23, true, true, true, ⟨#[97, 98, 99]⟩⟩] : List Pk) 0 (pf 2 true)) ?i0 ?step ?fin
    case i0 => exact ⟨⟨rfl, rfl, rfl, Nat.le_refl _, fun _ _ => rfl⟩, fun _ hp => (by cases hp), fun h => (by omega), fun h => (by omega), fun h => (by omega)⟩
    case step =>
      intro i o ho a' w' s r b hI hfree hvals hbx
      have f1 : a'.eval (.tmp 4) = .pointer (some ⟨PB, 0, none⟩) := (hfree 4 (by kernel_rfl)).trans rfl
      obtain ⟨y0, y1, y2⟩ := (KD.out.below hI.bel KD.out.lt).three
      have ec : ∀ v, a'.eval (.const v) = v := fun _ => rfl
      match i, ho with
      | 0, ho =>
        simp at ho; subst ho
        show s ≤ 3 → (execOp a'.eval _).run _ w' = .ok (.value _) w'
        intro _
        generalize a'.eval = ρ at *
        simp [execOp, go_sem, f1, y0, y1, y2]
      | 1, ho =>
        simp at ho; subst ho
        show s = 0 → _
        intro hs
        subst hs
        have ef : a'.eval (.func 55) = .func (.func 55) #[] #[] := rfl
        refine oper_wp_call (f := 55) (args := #[.int .i64 2, .bool true]) ?_ ((pic_any 2 true w').mono ?_)
        · generalize a'.eval = ρ at *
          simp [execOp, go_sem, ef, ec]
        · rintro e w'' ⟨rfl, q1, b1⟩
          exact ⟨_, rfl, _, rfl, SdI.call0 hI b1 _ _ (q1.mono fun _ _ _ => trivial)⟩
      | 2, ho =>
        simp at ho; subst ho
        show s = 1 → _
        intro hs
        subst hs
        obtain ⟨pa, pc, er, q1⟩ := hI.one rfl
        have e1 : a'.eval (.tmp 29) = .agg #[.int .i64 2, .bool true, .slice pa 1 pc] := (hvals 1 _ _ (by kernel_rfl) rfl rfl).trans er
        have e2 : a'.eval (.tmp 28) = .agg #[.int .i64 2, .int .i64 13, .int .i64 (-490)] := hvals 0 _ _ (by kernel_rfl) rfl rfl
        have ef : a'.eval (.func 54) = .func (.func 54) #[] #[] := rfl
        refine oper_wp_call (f := 54) (args := #[.agg #[.int .i64 2, .int .i64 13, .int .i64 (-490)], .agg #[.int .i64 2, .bool true, .slice pa 1 pc], .bool true]) ?_ ((HS3.out w' pa pc q1).mono ?_)
        · generalize a'.eval = ρ at *
          simp [execOp, go_sem, e1, e2, ef, ec]
        · rintro e w'' ⟨va, vc, rfl, ho, b1⟩
          exact ⟨_, rfl, _, rfl, SdI.call1 hI b1 _ _ ho⟩
      | 3, ho =>
        simp at ho; subst ho
        have e1 : a'.eval (.tmp 30) = r 1 := hvals 2 _ _ (by kernel_rfl) rfl rfl
        show 1 < s → (execOp a'.eval _).run _ w' = .ok (.value _) w'
        intro hs
        obtain ⟨va, vc, er, _⟩ := hI.two hs
        rw [er] at e1 ⊢
        generalize a'.eval = ρ at *
        simp [execOp, go_sem, e1]
      | 4, ho =>
        simp at ho; subst ho
        have e1 : a'.eval (.tmp 27) = r 1 := hvals 3 _ _ (by kernel_rfl) rfl rfl
        show 1 < s → (execOp a'.eval _).run _ w' = .ok (.value _) w'
        intro hs
        obtain ⟨va, vc, er, _⟩ := hI.two hs
        rw [er] at e1 ⊢
        simp only [exT] at e1 ⊢
        generalize a'.eval = ρ at *
        simp [execOp, go_sem, e1]
      | 5, ho =>
        simp at ho; subst ho
        have e1 : a'.eval (.tmp 27) = r 1 := hvals 3 _ _ (by kernel_rfl) rfl rfl
        show 1 < s → (execOp a'.eval _).run _ w' = .ok (.value _) w'
        intro hs
        obtain ⟨va, vc, er, _⟩ := hI.two hs
        rw [er] at e1 ⊢
        simp only [exT] at e1 ⊢
        generalize a'.eval = ρ at *
        simp [execOp, go_sem, e1]
      | 6, ho =>
        simp at ho; subst ho
        have e1 : a'.eval (.tmp 27) = r 1 := hvals 3 _ _ (by kernel_rfl) rfl rfl
        show 1 < s → (execOp a'.eval _).run _ w' = .ok (.value _) w'
        intro hs
        obtain ⟨va, vc, er, _⟩ := hI.two hs
        rw [er] at e1 ⊢
        simp only [exT] at e1 ⊢
        generalize a'.eval = ρ at *
        simp [execOp, go_sem, e1]
      | 7, ho =>
        simp at ho; subst ho
        show b 7 = none → _
        intro hb
        refine ⟨.cells #[.int .i64 0, .int .i64 0, .int .i64 0] 38, ?_, hI.box hb⟩
        generalize a'.eval = ρ at *
        simp [execOp, go_sem]
      | 8, ho =>
        simp at ho; subst ho
        show s = 2 → _
        intro hs
        subst hs
        obtain ⟨va, vc, er, _⟩ := hI.two (by omega)
        obtain ⟨p, hp⟩ := Option.isSome_iff_exists.1 (hbx 7 (by kernel_rfl) rfl)
        have kg := (hI.seven p hp).2.2.1 (Nat.le_refl _)
        have e1 : a'.eval (.tmp 7) = .pointer (some ⟨p, 0, none⟩) := (hvals 7 _ _ (by kernel_rfl) rfl rfl).trans (by show Cm.out r b 7 .box = _; simp [Cm.out, hp])
        have e2 : a'.eval (.tmp 31) = .agg #[.int .i64 3, .int .i64 23, .int .i64 21] := (hvals 4 _ _ (by kernel_rfl) rfl rfl).trans (by show exT 0 (r 1) = _; rw [er]; rfl)
        obtain ⟨t0, t1, t2⟩ := kg.three
        have fr := kg.free
        refine oper_wp_skip (w' := ((w'.setCell ⟨p, 0, none⟩ (.int .i64 3)).setCell ⟨p, 1, none⟩ (.int .i64 23)).setCell ⟨p, 2, none⟩ (.int .i64 21)) ?_ ⟨_, rfl, ?_⟩
        · generalize a'.eval = ρ at *
          simp [execOp, go_sem, e1, e2, t0, t1, t2, fr]
        · exact SdI.put hI hp _
      | 9, ho =>
        simp at ho; subst ho
        have e1 : a'.eval (.tmp 32) = exT 1 (r 1) := hvals 5 _ _ (by kernel_rfl) rfl rfl
        show 1 < s → (execOp a'.eval _).run _ w' = .ok (.value _) w'
        intro hs
        obtain ⟨va, vc, er, _⟩ := hI.two hs
        rw [er] at e1 ⊢
        simp only [exT] at e1 ⊢
        generalize a'.eval = ρ at *
        simp [execOp, go_sem, e1]
      | 10, ho =>
        simp at ho; subst ho
        have e1 : a'.eval (.tmp 33) = exT 2 (r 1) := hvals 6 _ _ (by kernel_rfl) rfl rfl
        show 1 < s → (execOp a'.eval _).run _ w' = .ok (.value _) w'
        intro hs
        obtain ⟨va, vc, er, _⟩ := hI.two hs
        rw [er] at e1 ⊢
        simp only [exT] at e1 ⊢
        generalize a'.eval = ρ at *
        simp [execOp, go_sem, e1]
      | i + 11, ho => simp at ho
    case fin =>
      rintro r b Y3 hI hbxs
      obtain ⟨p, hp⟩ := hbxs 7 (by decide) rfl
      obtain ⟨va, vc, er, hrow, _⟩ := hI.two (by decide)
      obtain ⟨_, _, _, n4⟩ := hI.seven p hp
      have KE : Hid (Blk Y3 p #[.int .i64 3, .int .i64 23, .int .i64 21] 38) := n4 (by decide)
      have HBW : Hid (Below Y2.heap.size Y2 Y3) := hI.bel
      simp only [putM, Cm.out, er, hp, exT, Act.put, List.setIfInBounds_toArray, List.set_cons_succ, List.set_cons_zero, List.getElem?_toArray, List.getElem?_cons_zero, List.getElem?_cons_succ, Option.getD_some, List.length_cons, List.length_nil, Nat.zero_add]
      clear hI hbxs hp er n4 hrow
      have HR13 := Stay.go HRY HBW.out
      have HR23 := Stay.go HR2 HBW.out
      have B3 : Hid (Below w.heap.size w Y3) := B2.out.trans (HBW.out.mono B2.out.size)
      have KD3 : Hid (Blk Y3 PB #[.int .i64 2, .int .i64 13, .int .i64 (-490)] 38) := KD.out.below HBW.out KD.out.lt
      obtain ⟨QB, hQB⟩ : ∃ x, x = p := ⟨_, rfl⟩
      subst hQB
      clear KD HBW B2 HRY HR2 HS3
      go_wp2_with fail
      refine region_boxes (by kernel_rfl) (by kernel_rfl) [.quiet (.agg #[.int .i64 2, .int .i64 13, .int .i64 (-490)]) 3, .step 0, .step 1, .fin 1 (fun r => r), .fin 1 (exT 0), .fin 1 (exT 1), .fin 1 (exT 2), .box, .step 2, .fin 1 (exT 1), .fin 1 (exT 2)] [1, 2, 8] (by kernel_rfl)
        (SdI Y3 (0) (0) (0) [] 4 (pf 2 true)) ?i0 ?step ?fin
      case i0 => exact ⟨⟨rfl, rfl, rfl, Nat.le_refl _, fun _ _ => rfl⟩, fun _ hp => (by cases hp), fun h => (by omega), fun h => (by omega), fun h => (by omega)⟩
      case step =>
        intro i o ho a' w' s r b hI hfree hvals hbx
        have f1 : a'.eval (.tmp 4) = .pointer (some ⟨PB, 0, none⟩) := (hfree 4 (by kernel_rfl)).trans rfl
        obtain ⟨y0, y1, y2⟩ := (KD3.out.below hI.bel KD3.out.lt).three
        have ec : ∀ v, a'.eval (.const v) = v := fun _ => rfl
        match i, ho with
        | 0, ho =>
          simp at ho; subst ho
          show s ≤ 3 → (execOp a'.eval _).run _ w' = .ok (.value _) w'
          intro _
          generalize a'.eval = ρ at *
          simp [execOp, go_sem, f1, y0, y1, y2]
        | 1, ho =>
          simp at ho; subst ho
          show s = 0 → _
          intro hs
          subst hs
          have ef : a'.eval (.func 55) = .func (.func 55) #[] #[] := rfl
          refine oper_wp_call (f := 55) (args := #[.int .i64 2, .bool true]) ?_ ((pic_any 2 true w').mono ?_)
          · generalize a'.eval = ρ at *
            simp [execOp, go_sem, ef, ec]
          · rintro e w'' ⟨rfl, q1, b1⟩
            exact ⟨_, rfl, _, rfl, SdI.call0 hI b1 _ _ (q1.mono fun _ _ _ => trivial)⟩
        | 2, ho =>
          simp at ho; subst ho
          show s = 1 → _
          intro hs
          subst hs
          obtain ⟨pa, pc, er, q1⟩ := hI.one rfl
          have e1 : a'.eval (.tmp 36) = .agg #[.int .i64 2, .bool true, .slice pa 1 pc] := (hvals 1 _ _ (by kernel_rfl) rfl rfl).trans er
          have e2 : a'.eval (.tmp 35) = .agg #[.int .i64 2, .int .i64 13, .int .i64 (-490)] := hvals 0 _ _ (by kernel_rfl) rfl rfl
          have ef : a'.eval (.func 54) = .func (.func 54) #[] #[] := rfl
          refine oper_wp_call (f := 54) (args := #[.agg #[.int .i64 2, .int .i64 13, .int .i64 (-490)], .agg #[.int .i64 2, .bool true, .slice pa 1 pc], .bool false]) ?_ ((HS4.out w' pa pc q1).mono ?_)
          · generalize a'.eval = ρ at *
            simp [execOp, go_sem, e1, e2, ef, ec]
          · rintro e w'' ⟨va, vc, rfl, ho, b1⟩
            exact ⟨_, rfl, _, rfl, SdI.call1 hI b1 _ _ ho⟩
        | 3, ho =>
          simp at ho; subst ho
          have e1 : a'.eval (.tmp 37) = r 1 := hvals 2 _ _ (by kernel_rfl) rfl rfl
          show 1 < s → (execOp a'.eval _).run _ w' = .ok (.value _) w'
          intro hs
          obtain ⟨va, vc, er, _⟩ := hI.two hs
          rw [er] at e1 ⊢
          generalize a'.eval = ρ at *
          simp [execOp, go_sem, e1]
        | 4, ho =>
          simp at ho; subst ho
          have e1 : a'.eval (.tmp 34) = r 1 := hvals 3 _ _ (by kernel_rfl) rfl rfl
          show 1 < s → (execOp a'.eval _).run _ w' = .ok (.value _) w'
          intro hs
          obtain ⟨va, vc, er, _⟩ := hI.two hs
          rw [er] at e1 ⊢
          simp only [exT] at e1 ⊢
          generalize a'.eval = ρ at *
          simp [execOp, go_sem, e1]
        | 5, ho =>
          simp at ho; subst ho
          have e1 : a'.eval (.tmp 34) = r 1 := hvals 3 _ _ (by kernel_rfl) rfl rfl
          show 1 < s → (execOp a'.eval _).run _ w' = .ok (.value _) w'
          intro hs
          obtain ⟨va, vc, er, _⟩ := hI.two hs
          rw [er] at e1 ⊢
          simp only [exT] at e1 ⊢
          generalize a'.eval = ρ at *
          simp [execOp, go_sem, e1]
        | 6, ho =>
          simp at ho; subst ho
          have e1 : a'.eval (.tmp 34) = r 1 := hvals 3 _ _ (by kernel_rfl) rfl rfl
          show 1 < s → (execOp a'.eval _).run _ w' = .ok (.value _) w'
          intro hs
          obtain ⟨va, vc, er, _⟩ := hI.two hs
          rw [er] at e1 ⊢
          simp only [exT] at e1 ⊢
          generalize a'.eval = ρ at *
          simp [execOp, go_sem, e1]
        | 7, ho =>
          simp at ho; subst ho
          show b 7 = none → _
          intro hb
          refine ⟨.cells #[.int .i64 0, .int .i64 0, .int .i64 0] 38, ?_, hI.box hb⟩
          generalize a'.eval = ρ at *
          simp [execOp, go_sem]
        | 8, ho =>
          simp at ho; subst ho
          show s = 2 → _
          intro hs
          subst hs
          obtain ⟨va, vc, er, _⟩ := hI.two (by omega)
          obtain ⟨p, hp⟩ := Option.isSome_iff_exists.1 (hbx 7 (by kernel_rfl) rfl)
          have kg := (hI.seven p hp).2.2.1 (Nat.le_refl _)
          have e1 : a'.eval (.tmp 10) = .pointer (some ⟨p, 0, none⟩) := (hvals 7 _ _ (by kernel_rfl) rfl rfl).trans (by show Cm.out r b 7 .box = _; simp [Cm.out, hp])
          have e2 : a'.eval (.tmp 38) = .agg #[.int .i64 0, .int .i64 0, .int .i64 0] := (hvals 4 _ _ (by kernel_rfl) rfl rfl).trans (by show exT 0 (r 1) = _; rw [er]; rfl)
          obtain ⟨t0, t1, t2⟩ := kg.three
          have fr := kg.free
          refine oper_wp_skip (w' := ((w'.setCell ⟨p, 0, none⟩ (.int .i64 0)).setCell ⟨p, 1, none⟩ (.int .i64 0)).setCell ⟨p, 2, none⟩ (.int .i64 0)) ?_ ⟨_, rfl, ?_⟩
          · generalize a'.eval = ρ at *
            simp [execOp, go_sem, e1, e2, t0, t1, t2, fr]
          · exact SdI.put hI hp _
        | 9, ho =>
          simp at ho; subst ho
          have e1 : a'.eval (.tmp 39) = exT 1 (r 1) := hvals 5 _ _ (by kernel_rfl) rfl rfl
          show 1 < s → (execOp a'.eval _).run _ w' = .ok (.value _) w'
          intro hs
          obtain ⟨va, vc, er, _⟩ := hI.two hs
          rw [er] at e1 ⊢
          simp only [exT] at e1 ⊢
          generalize a'.eval = ρ at *
          simp [execOp, go_sem, e1]
        | 10, ho =>
          simp at ho; subst ho
          have e1 : a'.eval (.tmp 40) = exT 2 (r 1) := hvals 6 _ _ (by kernel_rfl) rfl rfl
          show 1 < s → (execOp a'.eval _).run _ w' = .ok (.value _) w'
          intro hs
          obtain ⟨va, vc, er, _⟩ := hI.two hs
          rw [er] at e1 ⊢
          simp only [exT] at e1 ⊢
          generalize a'.eval = ρ at *
          simp [execOp, go_sem, e1]
        | i + 11, ho => simp at ho
      case fin =>
        rintro r b Y4 hI hbxs
        obtain ⟨p, hp⟩ := hbxs 7 (by decide) rfl
        obtain ⟨va, vc, er, hrow, _⟩ := hI.two (by decide)
        obtain ⟨_, _, _, n4⟩ := hI.seven p hp
        have KG : Hid (Blk Y4 p #[.int .i64 0, .int .i64 0, .int .i64 0] 38) := n4 (by decide)
        have HBW : Hid (Below Y3.heap.size Y3 Y4) := hI.bel
        simp only [putM, Cm.out, er, hp, exT, Act.put, List.setIfInBounds_toArray, List.set_cons_succ, List.set_cons_zero, List.getElem?_toArray, List.getElem?_cons_zero, List.getElem?_cons_succ, Option.getD_some, List.length_nil, Nat.zero_add]
        clear hI hbxs hp er n4 hrow
        have HR14 := Stay.go HR13 HBW.out
        have HR24 := Stay.go HR23 HBW.out
        have B4 : Hid (Below w.heap.size w Y4) := B3.out.trans (HBW.out.mono B3.out.size)
        have KE4 : Hid (Blk Y4 QB #[.int .i64 3, .int .i64 23, .int .i64 21] 38) := KE.out.below HBW.out KE.out.lt
        clear KD3 KE HBW B3 HR13 HR23 HS4 KG
        obtain ⟨k0, k1, k2⟩ := KE4.out.three
        go_wp2_with fail
        refine (HCK.out Y4).mono ?_
        rintro e w8 ⟨rfl, b8⟩
        have KE8 := KE4.out.below b8 KE4.out.lt
        have BW : Hid (Below w.heap.size w w8) := B4.out.trans (b8.mono B4.out.size)
        obtain ⟨b1, off1, e1, _, hc1⟩ := (HR14.out w8 b8).at (k := 0) (by decide)
        obtain ⟨b2, off2, e2, _, hc2⟩ := (HR24.out w8 b8).at (k := 0) (by decide)
        have x0 := hc1 0 (.int .i64 1) rfl
        have x1 := hc1 1 (.int .i64 10) rfl
        have x4 := hc1 4 (.bool true) rfl
        have y1 := hc2 1 (.int .i64 13) rfl
        simp only [Nat.zero_mul, Nat.add_zero] at x0 x1 x4 y1
        subst e1 e2
        clear k0 k1 k2 hc1 hc2 HR14 HR24 B4 KE4 b8
        obtain ⟨k0, k1, k2⟩ := KE8.three
        go_wp2
        go_ret
        exact ⟨rfl, BW.out⟩

end Go.Proofs.YtnpaejknoipicagGreat

namespace Go.Proofs.YtnpaejknoipicagGreat
open Go.RowKit

set_option maxHeartbeats 8000000 in
set_option maxRecDepth 100000 in
theorem deskSees_law (l : List Ac) (v : Value) (w : World) (h : Acs w v l) :
    Calls Tryz.prog 6 #[v] w fun e w' => e = .returned (.bool true) ∧ Below w.heap.size w w' := by
  obtain ⟨A, hA⟩ : ∃ A, A = runR l := ⟨_, rfl⟩
  obtain ⟨ao, c, ev⟩ := Sl.len h
  subst ev
  obtain ⟨P, hP⟩ : ∃ x, x = A.2.2.1 := ⟨_, rfl⟩
  obtain ⟨E, hE⟩ : ∃ x, x = A.2.2.2.2 := ⟨_, rfl⟩
  obtain ⟨m1, hm1⟩ : ∃ x, x = A.2.1.m := ⟨_, rfl⟩
  obtain ⟨g1, hg1⟩ : ∃ x, x = A.2.1.g := ⟨_, rfl⟩
  obtain ⟨f1, hf1⟩ : ∃ x, x = A.2.1.f := ⟨_, rfl⟩
  obtain ⟨l1, hl1⟩ : ∃ x, x = A.2.1.l := ⟨_, rfl⟩
  obtain ⟨t1, ht1⟩ : ∃ x, x = A.2.1.t := ⟨_, rfl⟩
  obtain ⟨s1, hs1⟩ : ∃ x, x = A.2.1.s := ⟨_, rfl⟩
  obtain ⟨la1, hla1⟩ : ∃ x, x = A.1.last := ⟨_, rfl⟩
  obtain ⟨ne1, hne1⟩ : ∃ x, x = A.1.next := ⟨_, rfl⟩
  obtain ⟨fi1, hfi1⟩ : ∃ x, x = A.1.first := ⟨_, rfl⟩
  obtain ⟨n, hn⟩ : ∃ n, n = l.length := ⟨_, rfl⟩
  obtain ⟨N, hN⟩ : ∃ N, N = P.length := ⟨_, rfl⟩
  have HBD : Hid (¬ E = 0 → N = 0 ∧ 60 < n) := fun h0 => by
    rw [hE, hA] at h0
    rw [hN, hP, hA, hn]
    unfold runR at h0 ⊢
    by_cases h6 : 60 < l.length
    · rw [if_pos h6]; exact ⟨rfl, h6⟩
    · rw [if_neg h6] at h0; exact absurd rfl h0
  have HGD : Hid (E = 0 → l1 = N ∧ Strm P t1 ∧ N ≤ 1000000000) := fun h0 => by
    rw [hE, hA] at h0
    rw [hl1, hN, hP, ht1, hA]
    unfold runR at h0 ⊢
    by_cases h6 : 60 < l.length
    · rw [if_pos h6] at h0; exact absurd h0 (by decide)
    · rw [if_neg h6]
      obtain ⟨_, _, q, _⟩ := upD_right l l.length (Nat.le_refl _)
      exact ⟨q.1, q.2.1, sent_len l l.length (Nat.le_refl _)⟩
  have HRU : Hid (∀ W, Acs W (.slice ao l.length c) l → Calls Tryz.prog 18 #[.slice ao n c] W fun e w' => ∃ ha1 hn1 hc1 oa1 on1 oc1 ga1 gn1 gc1 pa1 pn1 pc1 sa sc ea en ec, e = .returned (.tuple #[.agg #[.int .i64 la1, .int .i64 ne1, .slice ha1 hn1 hc1, .slice oa1 on1 oc1, .int .i64 fi1, .slice ga1 gn1 gc1, .slice pa1 pn1 pc1], .agg #[.int .i64 m1, .int .i64 g1, .int .i64 f1, .int .i64 l1, .int .i64 t1, .int .i64 s1], .slice sa N sc, .slice ea en ec, .int .i64 E]) ∧ Hid (Pks w' (.slice sa N sc) P) ∧ Below W.heap.size W w') := fun W hu => by
    have q := deskRun_any l _ W hu
    rw [← hA, ← hP, ← hE, ← hn] at q
    rw [hla1, hne1, hfi1, hm1, hg1, hf1, hl1, ht1, hs1]
    refine q.mono ?_
    rintro e w' ⟨ha1, hn1, hc1, oa1, on1, oc1, ga1, gn1, gc1, pa1, pn1, pc1, sa, sn, sc, ea, en, ec, rfl, q1, q2, q3, q4, q5, q6⟩
    rw [← hN] at q2
    subst q2
    rw [hN] at q3
    refine ⟨ha1, hn1, hc1, oa1, on1, oc1, ga1, gn1, gc1, pa1, pn1, pc1, sa, sc, ea, en, ec, rfl, ?_, q6⟩
    rw [hN]; exact Sl.of_owns q3
  have HU : Hid (Acs w (.slice ao l.length c) l) := h
  have HNP : Hid (N = P.length) := hN
  obtain ⟨X, hX⟩ : ∃ x, x = w.heap.size := ⟨_, rfl⟩
  have HX : Hid (Below X w w) := by show Below _ _ _; rw [hX]; exact Below.refl _ _
  have hXX : X ≤ w.heap.size := by omega
  rw [← hX, ← hn]
  clear hP hE hm1 hg1 hf1 hl1 ht1 hs1 hla1 hne1 hfi1 hn hN hA h hX
  go_enter Tryz.func6, Tryz.ntmps6
  go_wp2_with fail
  refine (HRU.out w HU.out).mono ?_
  rintro e w2 ⟨ha1, hn1, hc1, oa1, on1, oc1, ga1, gn1, gc1, pa1, pn1, pc1, sa, sc, ea, en, ec, rfl, HP2, q2⟩
  have H2 : Hid (Below X w w2) := HX.out.trans (q2.mono hXX)
  have ss2 : X ≤ w2.heap.size := Nat.le_trans hXX q2.size
  clear q2 HX hXX HU HRU
  go_upto_region 2 with fail
  obtain ⟨M, hM⟩ : ∃ M, M = w2.heap.size := ⟨_, rfl⟩
  obtain ⟨W3, hW3⟩ : ∃ W, W = (w2.alloc (.cells #[.int .i64 la1, .int .i64 ne1, .slice ha1 hn1 hc1, .slice oa1 on1 oc1, .int .i64 fi1, .slice ga1 gn1 gc1, .slice pa1 pn1 pc1] 34)).alloc (.cells #[.int .i64 m1, .int .i64 g1, .int .i64 f1, .int .i64 l1, .int .i64 t1, .int .i64 s1] 40) := ⟨_, rfl⟩
  have KV : Hid (Blk W3 (M + 1) #[.int .i64 m1, .int .i64 g1, .int .i64 f1, .int .i64 l1, .int .i64 t1, .int .i64 s1] 40) := by
    have := Blk.new (w2.alloc (.cells #[.int .i64 la1, .int .i64 ne1, .slice ha1 hn1 hc1, .slice oa1 on1 oc1, .int .i64 fi1, .slice ga1 gn1 gc1, .slice pa1 pn1 pc1] 34)) #[.int .i64 m1, .int .i64 g1, .int .i64 f1, .int .i64 l1, .int .i64 t1, .int .i64 s1] 40
    rw [World.size_alloc, ← hW3, ← hM] at this; exact this
  have hb23 : Below w2.heap.size w2 W3 := by rw [hW3]; exact ((Below.refl _ w2).alloc (Nat.le_refl _) _).alloc (by simp) _
  have H3 : Hid (Below X w W3) := H2.out.trans (hb23.mono ss2)
  have HP3 : Hid (Pks W3 (.slice sa N sc) P) := HP2.out.below hb23
  have ss3 : X ≤ W3.heap.size := Nat.le_trans ss2 hb23.size
  rw [← hW3, ← hM]
  clear hW3 hM hb23 H2 HP2 ss2
  go_wp2_with fail
  refine (deskBegun_any W3).mono ?_
  rintro e w4 ⟨rfl, q4⟩
  have H4 : Hid (Below X w w4) := H3.out.trans (q4.mono ss3)
  have ss4 : X ≤ w4.heap.size := Nat.le_trans ss3 q4.size
  have KV4 : Hid (Blk w4 (M + 1) #[.int .i64 m1, .int .i64 g1, .int .i64 f1, .int .i64 l1, .int .i64 t1, .int .i64 s1] 40) := KV.out.below q4 KV.out.lt
  have HP4 : Hid (Pks w4 (.slice sa N sc) P) := HP3.out.below q4
  clear q4 H3 ss3 HP3 KV
  go_wp2_with fail
  refine (outBegun_any w4).mono ?_
  rintro e w5 ⟨rfl, q5⟩
  have H5 : Hid (Below X w w5) := H4.out.trans (q5.mono ss4)
  have KV5 : Hid (Blk w5 (M + 1) #[.int .i64 m1, .int .i64 g1, .int .i64 f1, .int .i64 l1, .int .i64 t1, .int .i64 s1] 40) := KV4.out.below q5 KV4.out.lt
  have HP5 : Hid (Pks w5 (.slice sa N sc) P) := HP4.out.below q5
  have ss5 : X ≤ w5.heap.size := Nat.le_trans ss4 q5.size
  clear q5 H4 ss4 HP4 KV4
  by_cases hE : E = 0
  case neg =>
    obtain ⟨e1, e2⟩ := HBD.out hE
    clear HBD HGD HP5 KV5 HNP
    subst e1
    have hd : decide ((60 : Int) < (n : Int)) = true := by simp; omega
    go_wp2_with fail
    go_ret
    exact ⟨rfl, H5.out⟩
  obtain ⟨e1, HST0, hN9⟩ := HGD.out hE
  have HST : Hid (Strm P t1) := HST0
  clear HBD HGD HST0
  subst hE e1
  obtain ⟨z0, z1, z2, z3, z4, z5⟩ := KV5.out.sixv
  by_cases hN0 : N = 0
  · subst hN0
    clear HP5 HNP HST KV5
    go_upto_region 8 with fail
    go_wp2_with fail
    refine wp_loop_rounds 1 ?_
    rw [rounds_succ]
    go_wp2
    go_ret
    exact ⟨rfl, H5.out⟩
  -- the cells of a packet
  have HPA : Hid (∃ bS oS, sa = some ⟨bS, oS, none⟩ ∧ bS < w5.heap.size ∧ ∀ k, k < N → ∀ j u, (P[k]?.getD Pk.zero).cells[j]? = some u → w5.cell? ⟨bS, oS + k * 6 + j, none⟩ = some u) := by
    have h9 := HNP.out
    obtain ⟨bS, oS, e9, hb, _⟩ := Pks.at HP5.out (k := 0) (by omega)
    refine ⟨bS, oS, e9, hb, fun k hk j u hu => ?_⟩
    have hk' : k < P.length := by omega
    obtain ⟨b8, o8, e8, _, hc⟩ := Pks.at HP5.out hk'
    rw [e9] at e8
    injection e8 with e8
    injection e8 with e8 e7
    subst e8 e7
    rw [List.getElem?_eq_getElem hk', Option.getD_some] at hu
    exact hc j u hu
  obtain ⟨bS, oS, rfl, hbS, hcA⟩ := HPA.out
  have HCA : Hid (∀ k, k < N → ∀ j u, (P[k]?.getD Pk.zero).cells[j]? = some u → w5.cell? ⟨bS, oS + k * 6 + j, none⟩ = some u) := hcA
  have k4 : w5.cell? ⟨bS, oS + 4, none⟩ = some (.bool true) := by
    have h9 := hcA 0 (by omega) 4 (.bool true) (by
      have h8 := HST.out.2.2 (by rw [← HNP.out]; omega)
      show some (Value.bool (P[0]?.getD Pk.zero).k) = _
      rw [h8])
    rw [Nat.zero_mul, Nat.add_zero] at h9
    exact h9
  have hN0' : 0 < N := by omega
  clear HPA hcA HP5 KV5 hN0
  go_upto_region 8 with fail
  go_wp2_with fail
  clear k4 z0 z1 z2 z3 z4 z5
  go_loopw [8, 9] (fun op i wr => ∃ k : Nat, k ≤ N ∧ i = .int .i64 k ∧ op = .bool (openAt P k) ∧ Hid (Below w5.heap.size w5 wr))
    (fun _ i _ => N - (intOf i).toNat)
  case atStart => exact ⟨0, Nat.zero_le _, rfl, rfl, Below.refl _ _⟩
  case round =>
    obtain ⟨k, hk, rfl, rfl, HB⟩ := hrel
    by_cases hlt : k < N
    case neg =>
      have hkn : N = k := by omega
      have hop : openAt P k = false := by rw [← hkn, HNP.out]; exact HST.out.2.1
      have HBF : Hid (Below X w wr) := H5.out.trans (HB.out.mono ss5)
      clear HB H5 HCA HST HNP
      rw [hop]
      clear hop
      subst hkn
      go_wp2_with fail
      go_ret
      exact ⟨rfl, HBF.out⟩
    obtain ⟨⟨a1, a2, a3, a4⟩, _⟩ := HST.out.1 k (by rw [← HNP.out]; exact hlt)
    obtain ⟨p, hp⟩ : ∃ p, p = P[k]?.getD Pk.zero := ⟨_, rfl⟩
    have hc := HCA.out k hlt
    have hop : openAt P (k + 1) = !p.e := by
      unfold openAt
      rw [Nat.add_sub_cancel, ← hp]; simp
    rw [← hp] at a1 a2 a3 a4 hc
    obtain ⟨sq, tm, xf, xe, xk, xt⟩ := p
    simp only at a1 a2 a3 a4 hop
    have hcB : ∀ i u, (Pk.mk sq tm xf xe xk xt).cells[i]? = some u → wr.cell? ⟨bS, oS + k * 6 + i, none⟩ = some u := fun i u hu => (HB.out.cell (p := ⟨bS, oS + k * 6 + i, none⟩) hbS).trans (hc i u hu)
    have d0 : wr.cell? ⟨bS, oS + k * 6, none⟩ = some (.int .i64 sq) := hcB 0 _ rfl
    have d1 : wr.cell? ⟨bS, oS + k * 6 + 1, none⟩ = some (.int .i64 tm) := hcB 1 _ rfl
    have d2 : wr.cell? ⟨bS, oS + k * 6 + 2, none⟩ = some (.bool xf) := hcB 2 _ rfl
    have d3 : wr.cell? ⟨bS, oS + k * 6 + 3, none⟩ = some (.bool xe) := hcB 3 _ rfl
    have hlti : (k : Int) < (N : Int) := by omega
    have hw1 : IntKind.i64.wrap ((k : Int) + 1) = (k : Int) + 1 := by rw [IntKind.wrap_i64]; omega
    have hrem : ((k : Int) + 1).tmod 65536 = sq := by rw [a1, Int.tmod_eq_emod_of_nonneg (by omega)]
    have hbr : bS < wr.heap.size := Nat.lt_of_lt_of_le hbS HB.out.size
    have HOP : Hid (openAt P (k + 1) = !xe) := hop
    clear hp hc hcB hop a1
    obtain ⟨o9, ho9⟩ : ∃ o, o = openAt P k := ⟨_, rfl⟩
    rw [← ho9] at a3 a4
    by_cases hk0 : k = 0
    · have ho : o9 = false := by rw [ho9, hk0]; rfl
      rw [← ho9]
      clear ho9
      subst ho
      have hxf : xf = true := a3
      subst hxf
      have hg : decide ((0 : Int) < (k : Int)) = false := by simp; omega
      have hg2 : decide (0 < k) = false := by simp; omega
      clear a2 a3 a4 HCA hk0
      go_upto_region 12 with fail
      go_quiet (fail)
      clear d0 d1 d2 hrem hw1 hg hg2
      have e3 : (wr.drewN nq).cell? ⟨bS, oS + k * 6 + 3, none⟩ = some (.bool xe) := by simpa using d3
      have HB2 : Hid (Below w5.heap.size w5 (wr.drewN nq)) := below_drewN HB.out _
      clear d3 HB
      go_wp2_with fail
      go_roundw
      case rel => exact ⟨k + 1, by omega, by go_num, by rw [HOP.out], HB2.out⟩
      case measure => simp [intOf]; omega
    · obtain ⟨j, hj⟩ : ∃ j, k = j + 1 := ⟨k - 1, by omega⟩
      obtain ⟨tp, htp⟩ : ∃ t, t = (P[j]?.getD Pk.zero).time := ⟨_, rfl⟩
      have hk1 : k - 1 = j := by omega
      rw [hk1, ← htp] at a2 a4
      have f1 : wr.cell? ⟨bS, oS + j * 6 + 1, none⟩ = some (.int .i64 tp) := (HB.out.cell (p := ⟨bS, oS + j * 6 + 1, none⟩) hbS).trans (HCA.out j (by omega) 1 _ (by rw [htp]; rfl))
      have htt : tp ≤ tm := a2 (by omega)
      have hltj : (j : Int) < (N : Int) := by omega
      have hltk : j < N := by omega
      have hws : IntKind.i64.wrap ((k : Int) - 1) = (j : Int) := by rw [IntKind.wrap_i64]; omega
      have hg : decide ((0 : Int) < (k : Int)) = true := by simp; omega
      have hg2 : decide (0 < k) = true := by simp; omega
      have hb : decide (tm < tp) = false := by simp; omega
      rw [← ho9]
      have HJ : Hid (k = j + 1) := hj
      clear a2 HCA hk0 hk1 htp hj ho9 htt
      cases o9
      case false =>
        have hxf : xf = true := a3
        clear a3 a4
        subst hxf
        go_upto_region 12 with fail
        go_quiet (fail)
        clear d0 d1 d2 hrem hw1 hg hg2 hb f1 hws
        have e3 : (wr.drewN nq).cell? ⟨bS, oS + k * 6 + 3, none⟩ = some (.bool xe) := by simpa using d3
        have HB2 : Hid (Below w5.heap.size w5 (wr.drewN nq)) := below_drewN HB.out _
        clear d3 HB
        go_wp2_with fail
        go_roundw
        case rel => exact ⟨k + 1, by omega, by go_num, by rw [HOP.out], HB2.out⟩
        case measure => simp [intOf]; omega
      case true =>
        have hxf : xf = false := a3
        have hte : tm = tp := a4 rfl
        clear a3 a4
        subst hxf hte
        go_upto_region 12 with fail
        go_quiet (fail)
        clear d0 d1 d2 hrem hw1 hg hg2 hb f1 hws
        have e3 : (wr.drewN nq).cell? ⟨bS, oS + k * 6 + 3, none⟩ = some (.bool xe) := by simpa using d3
        have HB2 : Hid (Below w5.heap.size w5 (wr.drewN nq)) := below_drewN HB.out _
        clear d3 HB
        go_wp2_with fail
        go_roundw
        case rel => exact ⟨k + 1, by omega, by go_num, by rw [HOP.out], HB2.out⟩
        case measure => simp [intOf]; omega

end Go.Proofs.YtnpaejknoipicagGreat
