/-
 Contract: frame.All.
-/
import Derived.Test.YtnpaejknoipicagGreatMgDeskPaused14
import Derived.Test.YtnpaejknoipicagGreatMgDeskPaused1
import Derived.Test.YtnpaejknoipicagGreatMgDeskPaused3
import Derived.Handy
import Derived.Test.YtnpaejknoipicagGreatMgDeskPaused11
import Derived.Test.YtnpaejknoipicagGreatMgDeskPaused9
import Derived.Deep.DeepCutAuto
import Derived.Test.YtnpaejknoipicagGreatMgDeskPaused2
namespace Go.Proofs.YtnpaejknoipicagGreat
open Go.RowKit
set_option maxHeartbeats 16000000 in
set_option maxRecDepth 100000 in
theorem deskRun_any (l : List Ac) (v : Value) (w : World) (h : Acs w v l) :
  Calls Tryz.prog 18 #[v] w fun e w' => ∃ ha1 hn1 hc1 oa1 on1 oc1 ga1 gn1 gc1 pa1 pn1 pc1 sa sn sc ea en ec, e = .returned (.tuple #[.agg #[.int .i64 (runR l).1.last, .int .i64 (runR l).1.next, .slice ha1 hn1 hc1, .slice oa1 on1 oc1, .int .i64 (runR l).1.first, .slice ga1 gn1 gc1, .slice pa1 pn1 pc1], .agg #[.int .i64 (runR l).2.1.m, .int .i64 (runR l).2.1.g, .int .i64 (runR l).2.1.f, .int .i64 (runR l).2.1.l, .int .i64 (runR l).2.1.t, .int .i64 (runR l).2.1.s], .slice sa sn sc, .slice ea en ec, .int .i64 (runR l).2.2.2.2]) ∧
   TrIn (fun g => w.heap.size ≤ g) w' (.slice ha1 hn1 hc1) (.slice oa1 on1 oc1) (.slice ga1 gn1 gc1) (.slice pa1 pn1 pc1) (runR l).1 ∧ sn = (runR l).2.2.1.length ∧ w'.ownsRow w.heap.size 63 6 (.slice sa sn sc) sn (pkCells (runR l).2.2.1) ∧ en = (runR l).2.2.2.1.length ∧ w'.ownsRow w.heap.size 43 1 (.slice ea en ec) en (erCells (runR l).2.2.2.1) ∧ Below w.heap.size w w' := by
 obtain ⟨ao, c, ev, hat⟩ := h.parts
 obtain ⟨n, hnl⟩ : ∃ n, n = l.length := ⟨_, rfl⟩
 rw [← hnl] at ev hat
 subst ev
 obtain ⟨R, hR⟩ : ∃ R, R = runR l := ⟨_, rfl⟩
 rw [← hR]
 obtain ⟨X, hX⟩ : ∃ x, x = w.heap.size := ⟨_, rfl⟩
 have HR : Hid (R = runR l) := hR
 have HN : Hid (n = l.length) := hnl
 rw [← hX] at hat
 have HAT : Hid (∀ k, k < n → ∃ b off, ao = some ⟨b, off, none⟩ ∧ b < X ∧ ∀ j u, (l[k]?.getD Ac.zero).cells[j]? = some u → w.cell? ⟨b, off + k * 3 + j, none⟩ = some u) := hat
 obtain ⟨V, hV⟩ : ∃ V, V = (w.alloc (.cells #[.int .i64 0, .int .i64 0, .slice none 0 0, .slice none 0 0, .int .i64 0, .slice none 0 0, .slice none 0 0] 34)).alloc (.cells #[.int .i64 0, .int .i64 0, .int .i64 0, .int .i64 0, .int .i64 0, .int .i64 0] 40) := ⟨_, rfl⟩
 have hKT : Blk V X #[.int .i64 0, .int .i64 0, .slice none 0 0, .slice none 0 0, .int .i64 0, .slice none 0 0, .slice none 0 0] 34 := by
  have := (Blk.new w #[.int .i64 0, .int .i64 0, .slice none 0 0, .slice none 0 0, .int .i64 0, .slice none 0 0, .slice none 0 0] 34).alloc (.cells #[.int .i64 0, .int .i64 0, .int .i64 0, .int .i64 0, .int .i64 0, .int .i64 0] 40)
  rw [← hV, ← hX] at this; exact this
 have hKV : Blk V (X + 1) #[.int .i64 0, .int .i64 0, .int .i64 0, .int .i64 0, .int .i64 0, .int .i64 0] 40 := by
  have := Blk.new (w.alloc (.cells #[.int .i64 0, .int .i64 0, .slice none 0 0, .slice none 0 0, .int .i64 0, .slice none 0 0, .slice none 0 0] 34)) #[.int .i64 0, .int .i64 0, .int .i64 0, .int .i64 0, .int .i64 0, .int .i64 0] 40
  rw [← hV] at this
  simp only [World.size_alloc] at this
  rw [← hX] at this; exact this
 have hBW : Below X w V := by
  rw [hV, hX]; exact ((Below.refl _ w).alloc (Nat.le_refl _) _).alloc (by simp) _
 have hVs : V.heap.size = X + 1 + 1 := by rw [hV, hX]; simp
 rw [← hX]
 clear h hat hR hnl
 go_enter Tryz.func18, Tryz.ntmps18
 go_upto_region 1 with fail
 rw [← hV]
 rw [← hX]
 have HXw : Hid (X = w.heap.size) := hX
 clear hV hX
 by_cases h60 : 60 < n
 ·have KT : Blk V X #[.int .i64 0, .int .i64 0, .slice none 0 0, .slice none 0 0, .int .i64 0, .slice none 0 0, .slice none 0 0] 34 := hKT
  have KV : Blk V (X + 1) #[.int .i64 0, .int .i64 0, .int .i64 0, .int .i64 0, .int .i64 0, .int .i64 0] 40 := hKV
  have BW : Below X w V := hBW
  have hRz : Hid (R = (Tr.zero, Vw.zero, [], [], 2)) := by show R = _; rw [HR.out]; unfold runR; rw [if_pos (by rw [← HN.out]; exact h60)]
  clear hKT hKV hBW hVs HAT HR
  obtain ⟨y0, y1, y2, y3, y4, y5, y6⟩ := KT.sevenc
  obtain ⟨z0, z1, z2, z3, z4, z5⟩ := KV.sixv
  have fT := KT.free
  have fV := KV.free
  have lT := KT.lt
  have lV := KV.lt
  obtain ⟨WA, hWA⟩ : ∃ U, U = (((((((V.setCell ⟨X, 0, none⟩ (.int .i64 0)).setCell ⟨X, 1, none⟩ (.int .i64 0)).setCell ⟨X, 2, none⟩ (.slice none 0 0)).setCell ⟨X, 3, none⟩ (.slice none 0 0)).setCell ⟨X, 4, none⟩ (.int .i64 0)).setCell ⟨X, 5, none⟩ (.slice none 0 0)).setCell ⟨X, 6, none⟩ (.slice none 0 0)) := ⟨_, rfl⟩
  have KTA : Blk WA X #[.int .i64 0, .int .i64 0, .slice none 0 0, .slice none 0 0, .int .i64 0, .slice none 0 0, .slice none 0 0] 34 := by
   have := (((((((KT.set 0 (.int .i64 0)).set 1 (.int .i64 0)).set 2 (.slice none 0 0)).set 3 (.slice none 0 0)).set 4 (.int .i64 0)).set 5 (.slice none 0 0)).set 6 (.slice none 0 0))
   rw [hWA]; simpa using this
  have KVA : Blk WA (X + 1) #[.int .i64 0, .int .i64 0, .int .i64 0, .int .i64 0, .int .i64 0, .int .i64 0] 40 := by
   rw [hWA]; exact (((((((KV.other (a := ⟨X, 0, none⟩) (by simp) _).other (a := ⟨X, 1, none⟩) (by simp) _).other (a := ⟨X, 2, none⟩) (by simp) _).other (a := ⟨X, 3, none⟩) (by simp) _).other (a := ⟨X, 4, none⟩) (by simp) _).other (a := ⟨X, 5, none⟩) (by simp) _).other (a := ⟨X, 6, none⟩) (by simp) _)
  have BWA : Below X w WA := by rw [hWA]; exact (((((((BW.setCell (p := ⟨X, 0, none⟩) (by show X ≤ X; omega) _).setCell (p := ⟨X, 1, none⟩) (by show X ≤ X; omega) _).setCell (p := ⟨X, 2, none⟩) (by show X ≤ X; omega) _).setCell (p := ⟨X, 3, none⟩) (by show X ≤ X; omega) _).setCell (p := ⟨X, 4, none⟩) (by show X ≤ X; omega) _).setCell (p := ⟨X, 5, none⟩) (by show X ≤ X; omega) _).setCell (p := ⟨X, 6, none⟩) (by show X ≤ X; omega) _)
  obtain ⟨WB, hWB⟩ : ∃ U, U = ((((((WA.setCell ⟨X + 1, 0, none⟩ (.int .i64 0)).setCell ⟨X + 1, 1, none⟩ (.int .i64 0)).setCell ⟨X + 1, 2, none⟩ (.int .i64 0)).setCell ⟨X + 1, 3, none⟩ (.int .i64 0)).setCell ⟨X + 1, 4, none⟩ (.int .i64 0)).setCell ⟨X + 1, 5, none⟩ (.int .i64 0)) := ⟨_, rfl⟩
  have KTB : Hid (Blk WB X #[.int .i64 0, .int .i64 0, .slice none 0 0, .slice none 0 0, .int .i64 0, .slice none 0 0, .slice none 0 0] 34) := by
   rw [hWB]; exact ((((((KTA.other (a := ⟨X + 1, 0, none⟩) (by simp) _).other (a := ⟨X + 1, 1, none⟩) (by simp) _).other (a := ⟨X + 1, 2, none⟩) (by simp) _).other (a := ⟨X + 1, 3, none⟩) (by simp) _).other (a := ⟨X + 1, 4, none⟩) (by simp) _).other (a := ⟨X + 1, 5, none⟩) (by simp) _)
  have KVB : Hid (Blk WB (X + 1) #[.int .i64 0, .int .i64 0, .int .i64 0, .int .i64 0, .int .i64 0, .int .i64 0] 40) := by
   have := ((((((KVA.set 0 (.int .i64 0)).set 1 (.int .i64 0)).set 2 (.int .i64 0)).set 3 (.int .i64 0)).set 4 (.int .i64 0)).set 5 (.int .i64 0))
   rw [hWB]; simpa [Hid] using this
  have BWB : Hid (Below X w WB) := by rw [hWB]; exact ((((((BWA.setCell (p := ⟨X + 1, 0, none⟩) (by show X ≤ X + 1; omega) _).setCell (p := ⟨X + 1, 1, none⟩) (by show X ≤ X + 1; omega) _).setCell (p := ⟨X + 1, 2, none⟩) (by show X ≤ X + 1; omega) _).setCell (p := ⟨X + 1, 3, none⟩) (by show X ≤ X + 1; omega) _).setCell (p := ⟨X + 1, 4, none⟩) (by show X ≤ X + 1; omega) _).setCell (p := ⟨X + 1, 5, none⟩) (by show X ≤ X + 1; omega) _)
  obtain ⟨v0, v1, v2, v3, v4, v5⟩ := KVA.sixv
  have fA := KVA.free
  have lA := KVA.lt
  clear KTA KVA BWA KT KV BW
  go_upto_region 2 with fail
  go_wp2
  rw [← hWA, ← hWB]
  clear hWA hWB y0 y1 y2 y3 y4 y5 y6 z0 z1 z2 z3 z4 z5 fT fV lT lV v0 v1 v2 v3 v4 v5 fA lA
  obtain ⟨y0, y1, y2, y3, y4, y5, y6⟩ := KTB.out.sevenc
  obtain ⟨z0, z1, z2, z3, z4, z5⟩ := KVB.out.sixv
  refine bodyPost_ret (v := .tuple #[.agg #[.int .i64 0, .int .i64 0, .slice none 0 0, .slice none 0 0, .int .i64 0, .slice none 0 0, .slice none 0 0], .agg #[.int .i64 0, .int .i64 0, .int .i64 0, .int .i64 0, .int .i64 0, .int .i64 0], .slice none 0 0, .slice none 0 0, .int .i64 2]) (by simp [results, Tryz.results18, go_sem, y0, y1, y2, y3, y4, y5, y6, z0, z1, z2, z3, z4, z5]) rfl ?_
  rw [hRz.out]
  exact ⟨none, 0, 0, none, 0, 0, none, 0, 0, none, 0, 0, none, 0, 0, none, 0, 0, rfl, TrIn.zero _ _, rfl, World.ownsRow_nil _ _ _ _, rfl, World.ownsRow_nil _ _ _ _, BWB.out⟩
 have HKT : Hid (Blk V X #[.int .i64 0, .int .i64 0, .slice none 0 0, .slice none 0 0, .int .i64 0, .slice none 0 0, .slice none 0 0] 34) := hKT
 have HKV : Hid (Blk V (X + 1) #[.int .i64 0, .int .i64 0, .int .i64 0, .int .i64 0, .int .i64 0, .int .i64 0] 40) := hKV
 have HRg : Hid (R = ((upD l n).1, (upD l n).2.1, (upD l n).2.2.1, (upD l n).2.2.2, 0)) := by show R = _; rw [HR.out]; unfold runR; rw [if_neg (by rw [← HN.out]; exact h60), ← HN.out]
 obtain ⟨Y, hY⟩ : ∃ Y, Y = (V.alloc (.cells #[.int .i64 0, .int .i64 0, .slice none 0 0, .slice none 0 0, .int .i64 0, .slice none 0 0, .slice none 0 0] 34)).alloc (.cells #[.int .i64 0, .int .i64 0, .int .i64 0, .int .i64 0, .int .i64 0, .int .i64 0] 40) := ⟨_, rfl⟩
 have HK2 : Hid (Blk Y (X + 1 + 1) #[.int .i64 0, .int .i64 0, .slice none 0 0, .slice none 0 0, .int .i64 0, .slice none 0 0, .slice none 0 0] 34) := by
  have := (Blk.new V #[.int .i64 0, .int .i64 0, .slice none 0 0, .slice none 0 0, .int .i64 0, .slice none 0 0, .slice none 0 0] 34).alloc (.cells #[.int .i64 0, .int .i64 0, .int .i64 0, .int .i64 0, .int .i64 0, .int .i64 0] 40)
  rw [← hY, hVs] at this; exact this
 have HK3 : Hid (Blk Y (X + 1 + 1 + 1) #[.int .i64 0, .int .i64 0, .int .i64 0, .int .i64 0, .int .i64 0, .int .i64 0] 40) := by
  have := Blk.new (V.alloc (.cells #[.int .i64 0, .int .i64 0, .slice none 0 0, .slice none 0 0, .int .i64 0, .slice none 0 0, .slice none 0 0] 34)) #[.int .i64 0, .int .i64 0, .int .i64 0, .int .i64 0, .int .i64 0, .int .i64 0] 40
  rw [← hY] at this
  simp only [World.size_alloc] at this
  rw [hVs] at this; exact this
 have HYT : Hid (Blk Y X #[.int .i64 0, .int .i64 0, .slice none 0 0, .slice none 0 0, .int .i64 0, .slice none 0 0, .slice none 0 0] 34) := by
  show Blk _ _ _ _
  rw [hY]; exact (hKT.alloc _).alloc _
 have HYV : Hid (Blk Y (X + 1) #[.int .i64 0, .int .i64 0, .int .i64 0, .int .i64 0, .int .i64 0, .int .i64 0] 40) := by
  show Blk _ _ _ _
  rw [hY]; exact (hKV.alloc _).alloc _
 have HBY : Hid (Below X w Y) := by
  show Below _ _ _
  rw [hY]; exact (hBW.alloc (by omega) _).alloc (by simp; omega) _
 have hYs : Y.heap.size = X + 1 + 1 + 1 + 1 := by rw [hY]; simp; omega
 have h60' : n ≤ 60 := by omega
 clear hKT hKV hBW HKT HKV HR h60
 go_wp2_with fail
 rw [← hY]
 clear hY hVs
 go_loopw [9, 10, 24] (fun sv ev i wr => ∃ (k : Nat) (tr : Tr) (vm vg vf vl vt vs : Int) (sent : List Pk) (told : List Int) (tl tn fi : Int) (ha : Option Addr) (hn hc : Nat) (bo : Option Addr) (bn bc : Nat) (ga : Option Addr) (ln gc : Nat) (oa : Option Addr) (lo oc : Nat) (sa : Option Addr) (sn sc : Nat) (ea : Option Addr) (en ec : Nat), k ≤ n ∧ i = .int .i64 k ∧ sv = .slice sa sn sc ∧ ev = .slice ea en ec ∧ Hid (upD l k = (tr, ⟨vm, vg, vf, vl, vt, vs⟩, sent, told)) ∧ Hid (tl = tr.last ∧ tn = tr.next ∧ fi = tr.first) ∧ Hid (TrIn (fun g => X + 1 + 1 + 1 + 1 ≤ g ∧ some g ≠ (Value.slice sa sn sc).ownBlock ∧ some g ≠ (Value.slice ea en ec).ownBlock) wr (.slice ha hn hc) (.slice bo bn bc) (.slice ga ln gc) (.slice oa lo oc) tr) ∧ Hid (sn = sent.length ∧ en = told.length) ∧ Hid (wr.ownsRow (X + 1 + 1 + 1 + 1) 63 6 (.slice sa sn sc) sn (pkCells sent)) ∧ Hid (wr.ownsRow (X + 1 + 1 + 1 + 1) 43 1 (.slice ea en ec) en (erCells told)) ∧ Hid (Apart (.slice sa sn sc) (.slice ea en ec)) ∧ Hid (Blk wr (X + 1 + 1) #[.int .i64 tl, .int .i64 tn, .slice ha hn hc, .slice bo bn bc, .int .i64 fi, .slice ga ln gc, .slice oa lo oc] 34) ∧ Hid (Blk wr (X + 1 + 1 + 1) #[.int .i64 vm, .int .i64 vg, .int .i64 vf, .int .i64 vl, .int .i64 vt, .int .i64 vs] 40) ∧ Hid (Kept [X + 1 + 1, X + 1 + 1 + 1] Y wr))
  (fun _ _ i _ => n - (intOf i).toNat)
 case atStart => exact ⟨0, Tr.zero, 0, 0, 0, 0, 0, 0, [], [], 0, 0, 0, none, 0, 0, none, 0, 0, none, 0, 0, none, 0, 0, none, 0, 0, none, 0, 0, Nat.zero_le _, rfl, rfl, rfl, rfl, ⟨rfl, rfl, rfl⟩, TrIn.zero _ _, ⟨rfl, rfl⟩, World.ownsRow_nil _ _ _ _, World.ownsRow_nil _ _ _ _, Apart.nil _, HK2.out, HK3.out, Kept.refl _ _⟩
 case round =>
  obtain ⟨k, tr, vm, vg, vf, vl, vt, vs, sent, told, tl, tn, fi, ha, hn, hc, bo, bn, bc, ga, ln, gc, oa, lo, oc, sa, sn, sc, ea, en, ec, hk, rfl, rfl, rfl, HU, HTT, HTR, HLN, HSO, HEO, HAP, HT2, HV3, HK⟩ := hrel
  clear HK2 HK3
  have hYw : X + 1 + 1 + 1 + 1 ≤ wr.heap.size := by have := HK.out.size; omega
  by_cases hlt : k < n
  case neg =>
   have hkn : k = n := by omega
   have HX0 : Hid (Blk wr X #[.int .i64 0, .int .i64 0, .slice none 0 0, .slice none 0 0, .int .i64 0, .slice none 0 0, .slice none 0 0] 34) := HYT.out.kept HK.out (by simp <;> omega)
   have HX1 : Hid (Blk wr (X + 1) #[.int .i64 0, .int .i64 0, .int .i64 0, .int .i64 0, .int .i64 0, .int .i64 0] 40) := HYV.out.kept HK.out (by simp <;> omega)
   have hRR : Hid (R = (tr, ⟨vm, vg, vf, vl, vt, vs⟩, sent, told, 0)) := by
    have h9 := HU.out
    rw [hkn] at h9
    show R = _
    rw [HRg.out, h9]
   clear HRg HU HYT HYV HAP HAT
   subst hkn
   go_upto_region 16 with fail
   refine region_chainG (by kernel_rfl) (by kernel_rfl) [.quiet (.agg #[.int .i64 tl, .int .i64 tn, .slice ha hn hc, .slice bo bn bc, .int .i64 fi, .slice ga ln gc, .slice oa lo oc]) 2, .quiet (.agg #[.int .i64 vm, .int .i64 vg, .int .i64 vf, .int .i64 vl, .int .i64 vt, .int .i64 vs]) 2, .quiet (.slice sa sn sc) 2, .quiet (.slice ea en ec) 2, .step 0, .step 1, .quiet (.slice sa sn sc) 2, .quiet (.slice ea en ec) 2, .quiet (.int .i64 0) 2] [4, 5] (by kernel_rfl)
    (fun s' r w' => match s' with
     | 0 => Kept [X, X + 1] wr w' ∧ Blk w' (X) #[.int .i64 0, .int .i64 0, .slice none 0 0, .slice none 0 0, .int .i64 0, .slice none 0 0, .slice none 0 0] 34 ∧ Blk w' (X + 1) #[.int .i64 0, .int .i64 0, .int .i64 0, .int .i64 0, .int .i64 0, .int .i64 0] 40
     | 1 => Kept [X, X + 1] wr w' ∧ Blk w' (X) #[.int .i64 tl, .int .i64 tn, .slice ha hn hc, .slice bo bn bc, .int .i64 fi, .slice ga ln gc, .slice oa lo oc] 34 ∧ Blk w' (X + 1) #[.int .i64 0, .int .i64 0, .int .i64 0, .int .i64 0, .int .i64 0, .int .i64 0] 40
     | _ => Kept [X, X + 1] wr w' ∧ Blk w' (X) #[.int .i64 tl, .int .i64 tn, .slice ha hn hc, .slice bo bn bc, .int .i64 fi, .slice ga ln gc, .slice oa lo oc] 34 ∧ Blk w' (X + 1) #[.int .i64 vm, .int .i64 vg, .int .i64 vf, .int .i64 vl, .int .i64 vt, .int .i64 vs] 40
     ) ⟨(Kept.refl _ _).drew, HX0.out.drew, HX1.out.drew⟩ ?step ?fin
   case step =>
    intro i o' ho a' w' s' r hI hfree hvals
    have hK : Kept [X, X + 1] wr w' := by
     match s', hI with
     | 0, hI => exact hI.1
     | 1, hI => exact hI.1
     | n + 2, hI => exact hI.1
    obtain ⟨y0, y1, y2, y3, y4, y5, y6⟩ := (HT2.out.kept hK (by simp <;> omega)).sevenc
    obtain ⟨z0, z1, z2, z3, z4, z5⟩ := (HV3.out.kept hK (by simp <;> omega)).sixv
    match i, ho with
    | 0, ho =>
     simp at ho; subst ho
     have e7 : a'.eval (.tmp 7) = .pointer (some ⟨X + 1 + 1, 0, none⟩) := (hfree 7 (by kernel_rfl)).trans rfl
     show s' ≤ 2 → _
     intro hs
     refine .inl ⟨rfl, ?_⟩
     generalize a'.eval = ρ at *
     simp [execOp, go_sem, e7, y0, y1, y2, y3, y4, y5, y6]
    | 1, ho =>
     simp at ho; subst ho
     have e8 : a'.eval (.tmp 8) = .pointer (some ⟨X + 1 + 1 + 1, 0, none⟩) := (hfree 8 (by kernel_rfl)).trans rfl
     show s' ≤ 2 → _
     intro hs
     refine .inl ⟨rfl, ?_⟩
     generalize a'.eval = ρ at *
     simp [execOp, go_sem, e8, z0, z1, z2, z3, z4, z5]
    | 2, ho =>
     simp at ho; subst ho
     have e9 : a'.eval (.tmp 9) = .slice sa sn sc := (hfree 9 (by kernel_rfl)).trans rfl
     show s' ≤ 2 → _
     intro hs
     refine .inl ⟨rfl, ?_⟩
     generalize a'.eval = ρ at *
     simp [execOp, go_sem, e9]
    | 3, ho =>
     simp at ho; subst ho
     have e10 : a'.eval (.tmp 10) = .slice ea en ec := (hfree 10 (by kernel_rfl)).trans rfl
     show s' ≤ 2 → _
     intro hs
     refine .inl ⟨rfl, ?_⟩
     generalize a'.eval = ρ at *
     simp [execOp, go_sem, e10]
    | 4, ho =>
     simp at ho; subst ho
     have e2 : a'.eval (.tmp 2) = .pointer (some ⟨X, 0, none⟩) := (hfree 2 (by kernel_rfl)).trans rfl
     have e49 : a'.eval (.tmp 49) = .agg #[.int .i64 tl, .int .i64 tn, .slice ha hn hc, .slice bo bn bc, .int .i64 fi, .slice ga ln gc, .slice oa lo oc] := hvals 0 _ _ (by kernel_rfl) rfl rfl
     show s' = 0 → _ ∧ Oper.wp _ _ _ _ _ _
     intro hs
     subst hs
     refine ⟨rfl, ?_⟩
     obtain ⟨hK2, hp, hq⟩ := hI
     obtain ⟨q0, q1, q2, q3, q4, q5, q6⟩ := hp.sevenc
     have fr := hp.free
     refine oper_wp_skip (w' := (((((((w'.setCell ⟨X, 0, none⟩ (.int .i64 tl)).setCell ⟨X, 1, none⟩ (.int .i64 tn)).setCell ⟨X, 2, none⟩ (.slice ha hn hc)).setCell ⟨X, 3, none⟩ (.slice bo bn bc)).setCell ⟨X, 4, none⟩ (.int .i64 fi)).setCell ⟨X, 5, none⟩ (.slice ga ln gc)).setCell ⟨X, 6, none⟩ (.slice oa lo oc))) ?_ ⟨_, rfl, (((((((hK2.setCell (p := ⟨X, 0, none⟩) (by simp) _).setCell (p := ⟨X, 1, none⟩) (by simp) _).setCell (p := ⟨X, 2, none⟩) (by simp) _).setCell (p := ⟨X, 3, none⟩) (by simp) _).setCell (p := ⟨X, 4, none⟩) (by simp) _).setCell (p := ⟨X, 5, none⟩) (by simp) _).setCell (p := ⟨X, 6, none⟩) (by simp) _), (((((((hp.set 0 (.int .i64 tl)).set 1 (.int .i64 tn)).set 2 (.slice ha hn hc)).set 3 (.slice bo bn bc)).set 4 (.int .i64 fi)).set 5 (.slice ga ln gc)).set 6 (.slice oa lo oc)), (((((((hq.other (a := ⟨X, 0, none⟩) (by simp) _).other (a := ⟨X, 1, none⟩) (by simp) _).other (a := ⟨X, 2, none⟩) (by simp) _).other (a := ⟨X, 3, none⟩) (by simp) _).other (a := ⟨X, 4, none⟩) (by simp) _).other (a := ⟨X, 5, none⟩) (by simp) _).other (a := ⟨X, 6, none⟩) (by simp) _)⟩
     generalize a'.eval = ρ at *
     simp [execOp, go_sem, e2, e49, q0, q1, q2, q3, q4, q5, q6, fr]
    | 5, ho =>
     simp at ho; subst ho
     have e3 : a'.eval (.tmp 3) = .pointer (some ⟨X + 1, 0, none⟩) := (hfree 3 (by kernel_rfl)).trans rfl
     have e50 : a'.eval (.tmp 50) = .agg #[.int .i64 vm, .int .i64 vg, .int .i64 vf, .int .i64 vl, .int .i64 vt, .int .i64 vs] := hvals 1 _ _ (by kernel_rfl) rfl rfl
     show s' = 1 → _ ∧ Oper.wp _ _ _ _ _ _
     intro hs
     subst hs
     refine ⟨rfl, ?_⟩
     obtain ⟨hK2, hp, hq⟩ := hI
     obtain ⟨q0, q1, q2, q3, q4, q5⟩ := hq.sixv
     have fr := hq.free
     refine oper_wp_skip (w' := ((((((w'.setCell ⟨X + 1, 0, none⟩ (.int .i64 vm)).setCell ⟨X + 1, 1, none⟩ (.int .i64 vg)).setCell ⟨X + 1, 2, none⟩ (.int .i64 vf)).setCell ⟨X + 1, 3, none⟩ (.int .i64 vl)).setCell ⟨X + 1, 4, none⟩ (.int .i64 vt)).setCell ⟨X + 1, 5, none⟩ (.int .i64 vs))) ?_ ⟨_, rfl, ((((((hK2.setCell (p := ⟨X + 1, 0, none⟩) (by simp) _).setCell (p := ⟨X + 1, 1, none⟩) (by simp) _).setCell (p := ⟨X + 1, 2, none⟩) (by simp) _).setCell (p := ⟨X + 1, 3, none⟩) (by simp) _).setCell (p := ⟨X + 1, 4, none⟩) (by simp) _).setCell (p := ⟨X + 1, 5, none⟩) (by simp) _), ((((((hp.other (a := ⟨X + 1, 0, none⟩) (by simp) _).other (a := ⟨X + 1, 1, none⟩) (by simp) _).other (a := ⟨X + 1, 2, none⟩) (by simp) _).other (a := ⟨X + 1, 3, none⟩) (by simp) _).other (a := ⟨X + 1, 4, none⟩) (by simp) _).other (a := ⟨X + 1, 5, none⟩) (by simp) _), ((((((hq.set 0 (.int .i64 vm)).set 1 (.int .i64 vg)).set 2 (.int .i64 vf)).set 3 (.int .i64 vl)).set 4 (.int .i64 vt)).set 5 (.int .i64 vs))⟩
     generalize a'.eval = ρ at *
     simp [execOp, go_sem, e3, e50, q0, q1, q2, q3, q4, q5, fr]
    | 6, ho =>
     simp at ho; subst ho
     have e51 : a'.eval (.tmp 51) = .slice sa sn sc := hvals 2 _ _ (by kernel_rfl) rfl rfl
     show s' ≤ 2 → _
     intro hs
     refine .inl ⟨rfl, ?_⟩
     generalize a'.eval = ρ at *
     simp [execOp, go_sem, e51]
    | 7, ho =>
     simp at ho; subst ho
     have e52 : a'.eval (.tmp 52) = .slice ea en ec := hvals 3 _ _ (by kernel_rfl) rfl rfl
     show s' ≤ 2 → _
     intro hs
     refine .inl ⟨rfl, ?_⟩
     generalize a'.eval = ρ at *
     simp [execOp, go_sem, e52]
    | 8, ho =>
     simp at ho; subst ho
     have ec0 : a'.eval (.const (.int .i64 0)) = .int .i64 0 := rfl
     show s' ≤ 2 → _
     intro hs
     refine .inl ⟨rfl, ?_⟩
     generalize a'.eval = ρ at *
     simp [execOp, go_sem, ec0]
   case fin =>
    rintro r W8 ⟨hK8, hp8, hq8⟩
    simp only [putC, Ck.out, Act.put, List.setIfInBounds_toArray, List.set_cons_succ, List.set_cons_zero]
    have HT8 : Hid (TrIn (fun g => X ≤ g) W8 (.slice ha hn hc) (.slice bo bn bc) (.slice ga ln gc) (.slice oa lo oc) tr) := HTR.out.to (hK8.sameOn (fun g h => by simp <;> omega)) (fun _ _ h => by omega)
    have HS8 : Hid (W8.ownsRow X 63 6 (.slice sa sn sc) sn (pkCells sent)) := owns_base (owns_same HSO.out (fun g hg => hK8.block g (HSO.out.lt g hg).2 (by have := (HSO.out.lt g hg).1; simp <;> omega))) (by omega)
    have HO8 : Hid (W8.ownsRow X 43 1 (.slice ea en ec) en (erCells told)) := owns_base (owns_same HEO.out (fun g hg => hK8.block g (HEO.out.lt g hg).2 (by have := (HEO.out.lt g hg).1; simp <;> omega))) (by omega)
    have HB8 : Hid (Below X w W8) := HBY.out.trans ((HK.out.toBelow (by omega) (by simp <;> omega)).trans (hK8.toBelow (by omega) (by simp)))
    obtain ⟨y0, y1, y2, y3, y4, y5, y6⟩ := hp8.sevenc
    obtain ⟨z0, z1, z2, z3, z4, z5⟩ := hq8.sixv
    clear hp8 hq8 hK8 HTR HSO HEO HBY HK HX0 HX1 HT2 HV3
    go_wp2_with fail
    refine bodyPost_ret (v := .tuple #[.agg #[.int .i64 tl, .int .i64 tn, .slice ha hn hc, .slice bo bn bc, .int .i64 fi, .slice ga ln gc, .slice oa lo oc], .agg #[.int .i64 vm, .int .i64 vg, .int .i64 vf, .int .i64 vl, .int .i64 vt, .int .i64 vs], .slice sa sn sc, .slice ea en ec, .int .i64 0]) (by simp [results, Tryz.results18, go_sem, y0, y1, y2, y3, y4, y5, y6, z0, z1, z2, z3, z4, z5]) rfl ?_
    rw [hRR.out]
    exact ⟨ha, hn, hc, bo, bn, bc, ga, ln, gc, oa, lo, oc, sa, sn, sc, ea, en, ec, by rw [HTT.out.1, HTT.out.2.1, HTT.out.2.2], HT8.out, HLN.out.1, HS8.out, HLN.out.2, HO8.out, HB8.out⟩
  obtain ⟨bA, off, rfl, hbX, hac⟩ := HAT.out k hlt
  obtain ⟨act, hact⟩ : ∃ x, x = l[k]?.getD Ac.zero := ⟨_, rfl⟩
  obtain ⟨kind, an, ax⟩ := act
  rw [← hact] at hac
  have hblk : wr.heap[bA]? = w.heap[bA]? := (HK.out.block bA (by omega) (by simp; omega)).trans (HBY.out.block bA hbX)
  have c0 : wr.cell? ⟨bA, off + k * 3, none⟩ = some (.int .i64 kind) := (World.cell?_of_block hblk).trans (hac 0 _ rfl)
  have c1 : wr.cell? ⟨bA, off + k * 3 + 1, none⟩ = some (.int .i64 an) := (World.cell?_of_block hblk).trans (hac 1 _ rfl)
  have c2 : wr.cell? ⟨bA, off + k * 3 + 2, none⟩ = some (.string ax) := (World.cell?_of_block hblk).trans (hac 2 _ rfl)
  obtain ⟨T2, V2, P2, E1, hD⟩ : ∃ T V P E, doA tr ⟨vm, vg, vf, vl, vt, vs⟩ kind an ax = (T, V, P, E) := ⟨_, _, _, _, rfl⟩
  obtain ⟨m2, g2, f2, l2, t2, s2⟩ := V2
  have HU2 : Hid (upD l (k + 1) = if E1 = 0 then (T2, ⟨m2, g2, f2, l2, t2, s2⟩, sent ++ P2, told ++ [0]) else (tr, ⟨vm, vg, vf, vl, vt, vs⟩, sent, told ++ [E1])) := by
   show upD l (k + 1) = _
   rw [upD_succ l k (by rw [← HN.out]; exact hlt), HU.out, ← hact]
   unfold stepD
   simp only [hD]
  obtain ⟨la2, hla2⟩ : ∃ x, x = T2.last := ⟨_, rfl⟩
  obtain ⟨ne2, hne2⟩ : ∃ x, x = T2.next := ⟨_, rfl⟩
  obtain ⟨fi2, hfi2⟩ : ∃ x, x = T2.first := ⟨_, rfl⟩
  have HTT2 : Hid (la2 = T2.last ∧ ne2 = T2.next ∧ fi2 = T2.first) := ⟨hla2, hne2, hfi2⟩
  have HDO : Hid (∀ U, Below wr.heap.size wr U → Calls Tryz.prog 9 #[.agg #[.int .i64 tl, .int .i64 tn, .slice ha hn hc, .slice bo bn bc, .int .i64 fi, .slice ga ln gc, .slice oa lo oc], .agg #[.int .i64 vm, .int .i64 vg, .int .i64 vf, .int .i64 vl, .int .i64 vt, .int .i64 vs], .agg #[.int .i64 kind, .int .i64 an, .string ax]] U fun e w' => ∃ ha1 hn1 hc1 oa1 on1 oc1 ga1 gn1 gc1 pa1 pn1 pc1 va vn vc, e = .returned (.tuple #[.agg #[.int .i64 la2, .int .i64 ne2, .slice ha1 hn1 hc1, .slice oa1 on1 oc1, .int .i64 fi2, .slice ga1 gn1 gc1, .slice pa1 pn1 pc1], .agg #[.int .i64 m2, .int .i64 g2, .int .i64 f2, .int .i64 l2, .int .i64 t2, .int .i64 s2], .slice va vn vc, .int .i64 E1]) ∧ Hid (TrIn (fun g => U.heap.size ≤ g) w' (.slice ha1 hn1 hc1) (.slice oa1 on1 oc1) (.slice ga1 gn1 gc1) (.slice pa1 pn1 pc1) T2) ∧ Hid (PksIn (fun g => U.heap.size ≤ g) w' (.slice va vn vc) P2) ∧ Hid (vn = P2.length) ∧ Below U.heap.size U w') := fun U hU => by
   have q := deskDo_any tr ⟨vm, vg, vf, vl, vt, vs⟩ kind an ax _ _ _ _ U ((HTR.out.mono fun _ _ _ => trivial).below hU)
   rw [hD] at q
   simp only at q
   rw [HTT.out.1, HTT.out.2.1, HTT.out.2.2, hla2, hne2, hfi2]
   refine q.mono ?_
   rintro e w' ⟨ha1, hn1, hc1, oa1, on1, oc1, ga1, gn1, gc1, pa1, pn1, pc1, va, vn, vc, rfl, q1, rfl, q3, q4⟩
   exact ⟨ha1, hn1, hc1, oa1, on1, oc1, ga1, gn1, gc1, pa1, pn1, pc1, va, _, vc, rfl, q1, PksIn.of_owns q3, rfl, q4⟩
  have hbA : bA < wr.heap.size := by omega
  clear hac hact hD hla2 hne2 hfi2 hblk hbX
  go_upto_region 10 with fail
  obtain ⟨qA, hqA⟩ : ∃ q, q = wr.heap.size := ⟨_, rfl⟩
  obtain ⟨W1, hW1⟩ : ∃ W, W = wr.alloc (.cells #[.int .i64 kind, .int .i64 an, .string ax] 47) := ⟨_, rfl⟩
  have HQ1 : Hid (Blk W1 qA #[.int .i64 kind, .int .i64 an, .string ax] 47) := by show Blk _ _ _ _; rw [hqA]; exact Blk.newE hW1
  have HW1 : Hid (Below wr.heap.size wr W1) := by show Below _ _ _; rw [hW1]; exact (Below.refl _ _).alloc (Nat.le_refl _) _
  rw [← hW1, ← hqA]
  have HT2w := HT2
  have HV3w := HV3
  replace HT2 : Hid (Blk W1 (X + 1 + 1) #[.int .i64 tl, .int .i64 tn, .slice ha hn hc, .slice bo bn bc, .int .i64 fi, .slice ga ln gc, .slice oa lo oc] 34) := HT2w.out.below HW1.out HT2w.out.lt
  replace HV3 : Hid (Blk W1 (X + 1 + 1 + 1) #[.int .i64 vm, .int .i64 vg, .int .i64 vf, .int .i64 vl, .int .i64 vt, .int .i64 vs] 40) := HV3w.out.below HW1.out HV3w.out.lt
  clear hW1 hqA c0 c1 c2 hbA HAT
  obtain ⟨y0, y1, y2, y3, y4, y5, y6⟩ := HT2.out.sevenc
  obtain ⟨z0, z1, z2, z3, z4, z5⟩ := HV3.out.sixv
  obtain ⟨a0, a1, a2⟩ := HQ1.out.three
  go_wp2_with fail
  refine (HDO.out W1 HW1.out).mono ?_
  rintro e W9 ⟨ha1, hn1, hc1, oa1, on1, oc1, ga1, gn1, gc1, pa1, pn1, pc1, va, vn, vc, rfl, h1, h2, h3, hb9⟩
  clear y0 y1 y2 y3 y4 y5 y6 z0 z1 z2 z3 z4 z5 a0 a1 a2
  go_upto_region 11 with fail
  obtain ⟨A, hA⟩ : ∃ p, p = W9.heap.size := ⟨_, rfl⟩
  obtain ⟨W, hW⟩ : ∃ W, W = (W9.alloc (.cells #[.int .i64 la2, .int .i64 ne2, .slice ha1 hn1 hc1, .slice oa1 on1 oc1, .int .i64 fi2, .slice ga1 gn1 gc1, .slice pa1 pn1 pc1] 34)).alloc (.cells #[.int .i64 m2, .int .i64 g2, .int .i64 f2, .int .i64 l2, .int .i64 t2, .int .i64 s2] 40) := ⟨_, rfl⟩
  obtain ⟨B, hBA⟩ : ∃ B, B = A + 1 := ⟨_, rfl⟩
  have KA : Hid (Blk W A #[.int .i64 la2, .int .i64 ne2, .slice ha1 hn1 hc1, .slice oa1 on1 oc1, .int .i64 fi2, .slice ga1 gn1 gc1, .slice pa1 pn1 pc1] 34) := by
   have := (Blk.new W9 #[.int .i64 la2, .int .i64 ne2, .slice ha1 hn1 hc1, .slice oa1 on1 oc1, .int .i64 fi2, .slice ga1 gn1 gc1, .slice pa1 pn1 pc1] 34).alloc (.cells #[.int .i64 m2, .int .i64 g2, .int .i64 f2, .int .i64 l2, .int .i64 t2, .int .i64 s2] 40)
   rw [← hW, ← hA] at this; exact this
  have KB : Hid (Blk W B #[.int .i64 m2, .int .i64 g2, .int .i64 f2, .int .i64 l2, .int .i64 t2, .int .i64 s2] 40) := by
   have := Blk.new (W9.alloc (.cells #[.int .i64 la2, .int .i64 ne2, .slice ha1 hn1 hc1, .slice oa1 on1 oc1, .int .i64 fi2, .slice ga1 gn1 gc1, .slice pa1 pn1 pc1] 34)) #[.int .i64 m2, .int .i64 g2, .int .i64 f2, .int .i64 l2, .int .i64 t2, .int .i64 s2] 40
   rw [World.size_alloc, ← hW, ← hA, ← hBA] at this; exact this
  have hb : Below W1.heap.size W1 W := by rw [hW]; exact (hb9.alloc hb9.size _).alloc (by have := hb9.size; simp; omega) _
  rw [← hW, ← hA]
  try rw [← hBA]
  have p1 : W1.heap.size ≤ A := by rw [hA]; exact hb9.size
  have o1 : W1.heap.size ≤ B := by omega
  have h1 : TrIn (fun g => W1.heap.size ≤ g) W (.slice ha1 hn1 hc1) (.slice oa1 on1 oc1) (.slice ga1 gn1 gc1) (.slice pa1 pn1 pc1) T2 := by rw [hW]; exact (h1.out.to (SameOn.alloc _) (fun _ _ h => h)).to (SameOn.alloc _) (fun _ _ h => h)
  have h2 : PksIn (fun g => W1.heap.size ≤ g) W (.slice va vn vc) P2 := by rw [hW]; exact (h2.out.to (SameOn.alloc _) (fun _ _ h => h)).to (SameOn.alloc _) (fun _ _ h => h)
  have HP2 : Hid (vn = P2.length) := h3
  have H1 : Hid (TrIn (fun g => W1.heap.size ≤ g) W (.slice ha1 hn1 hc1) (.slice oa1 on1 oc1) (.slice ga1 gn1 gc1) (.slice pa1 pn1 pc1) T2) := h1
  have H2 : Hid (PksIn (fun g => W1.heap.size ≤ g) W (.slice va vn vc) P2) := h2
  have HW : Hid (Below W1.heap.size W1 W) := hb
  have HWr : Hid (Below wr.heap.size wr W) := HW1.out.trans (hb.mono HW1.out.size)
  have hW1s := HW1.out.size
  have hWs := hb.size
  clear hA hW hBA h1 h2 h3 hb hb9 HDO HQ1 HT2 HV3
  have hend : en ≤ 999 := by
   have h1 := HLN.out.2
   have h2 := (upD_right l k (by rw [← HN.out]; exact hk)).2.2.2
   rw [HU.out] at h2
   simp only at h2
   omega
  obtain ⟨ev9, W2, hrun, o2, gr, d2⟩ := er_snoc E1 (owns_below HEO.out HWr.out (Nat.le_refl _)) hend (by omega)
  obtain ⟨ea9, ec9, eev, _⟩ := owns_cap o2
  subst eev
  have hrow : ∀ j, some j = (.slice ea en ec : Value).ownBlock → X + 1 + 1 + 1 + 1 ≤ j ∧ j < wr.heap.size := fun j hj => ⟨(HEO.out.lt j hj.symm).1, (HEO.out.lt j hj.symm).2⟩
  have hsr : W.heap.size ≤ W2.heap.size := by have := gr.size; simp at this; omega
  have same : ∀ j, j < W.heap.size → some j ≠ (.slice ea en ec : Value).ownBlock → W2.heap[j]? = W.heap[j]? := fun j hj hn9 => (gr.block j (by simp; omega) hn9).trans (Below.heap_alloc W _ j hj)
  have KT2 : Hid (Blk W2 (X + 1 + 1) #[.int .i64 tl, .int .i64 tn, .slice ha hn hc, .slice bo bn bc, .int .i64 fi, .slice ga ln gc, .slice oa lo oc] 34) := (same _ (by omega) (fun e => by have := hrow _ e; omega)).trans (HT2w.out.below HWr.out HT2w.out.lt)
  have KV2 : Hid (Blk W2 (X + 1 + 1 + 1) #[.int .i64 vm, .int .i64 vg, .int .i64 vf, .int .i64 vl, .int .i64 vt, .int .i64 vs] 40) := (same _ (by omega) (fun e => by have := hrow _ e; omega)).trans (HV3w.out.below HWr.out HV3w.out.lt)
  have KA2 : Hid (Blk W2 A #[.int .i64 la2, .int .i64 ne2, .slice ha1 hn1 hc1, .slice oa1 on1 oc1, .int .i64 fi2, .slice ga1 gn1 gc1, .slice pa1 pn1 pc1] 34) := (same _ KA.out.lt (fun e => by have := hrow _ e; omega)).trans KA.out
  have KB2 : Hid (Blk W2 B #[.int .i64 m2, .int .i64 g2, .int .i64 f2, .int .i64 l2, .int .i64 t2, .int .i64 s2] 40) := (same _ KB.out.lt (fun e => by have := hrow _ e; omega)).trans KB.out
  have KK2 : Hid (Kept [X + 1 + 1, X + 1 + 1 + 1] Y W2) := ⟨gr.os.trans (HWr.out.os.trans HK.out.os), gr.tape.trans (HWr.out.tape.trans HK.out.tape), gr.output.trans (HWr.out.output.trans HK.out.output), by have := HK.out.size; have := HWr.out.size; omega, fun j hj hn9 => (same j (by have := HK.out.size; omega) (fun e => by have := hrow _ e; omega)).trans ((HWr.out.block j (by have := HK.out.size; omega)).trans (HK.out.block j hj hn9))⟩
  have HD2 : Hid (∀ g, (Value.slice ea9 (en + 1) ec9).ownBlock = some g → some g = (.slice ea en ec : Value).ownBlock ∨ W.heap.size ≤ g) := fun g hg => by
   rcases d2 with d | d
   ·exact .inl (by rw [← d]; exact hg.symm)
   ·exact .inr (d g hg)
  have HO2 : Hid (W2.ownsRow (X + 1 + 1 + 1 + 1) 43 1 (.slice ea9 (en + 1) ec9) (en + 1) (erCells (told ++ [E1]))) := o2
  have HS2 : Hid (W2.ownsRow (X + 1 + 1 + 1 + 1) 63 6 (.slice sa sn sc) sn (pkCells sent)) := owns_same (owns_below HSO.out HWr.out (Nat.le_refl _)) fun g hg => same g (by have := (HSO.out.lt g hg).2; omega) (fun e => HAP.out g hg e.symm)
  have HTR2 : Hid (TrIn (fun g => X + 1 + 1 + 1 + 1 ≤ g ∧ g < wr.heap.size ∧ some g ≠ (.slice sa sn sc : Value).ownBlock ∧ some g ≠ (.slice ea en ec : Value).ownBlock) W2 (.slice ha hn hc) (.slice bo bn bc) (.slice ga ln gc) (.slice oa lo oc) tr) := ((HTR.out.mono (S' := fun g => X + 1 + 1 + 1 + 1 ≤ g ∧ g < wr.heap.size ∧ some g ≠ (.slice sa sn sc : Value).ownBlock ∧ some g ≠ (.slice ea en ec : Value).ownBlock) fun g h hg => ⟨hg.1, h, hg.2.1, hg.2.2⟩).below HWr.out).to ⟨hsr, fun g hg h => same g hg h.2.2.2⟩ (fun _ _ h => h)
  have HT12 : Hid (TrIn (fun g => W1.heap.size ≤ g ∧ g < W.heap.size) W2 (.slice ha1 hn1 hc1) (.slice oa1 on1 oc1) (.slice ga1 gn1 gc1) (.slice pa1 pn1 pc1) T2) := (H1.out.mono fun g h hg => ⟨hg, h⟩).to ⟨hsr, fun g hg h => same g hg (fun e => by have := hrow _ e; have := h.1; omega)⟩ (fun _ _ h => h)
  have HP12 : Hid (PksIn (fun g => W1.heap.size ≤ g ∧ g < W.heap.size) W2 (.slice va vn vc) P2) := (H2.out.mono fun g h hg => ⟨hg, h⟩).to ⟨hsr, fun g hg h => same g hg (fun e => by have := hrow _ e; have := h.1; omega)⟩ (fun _ _ h => h)
  have HSL : Hid (∀ g, (.slice sa sn sc : Value).ownBlock = some g → X + 1 + 1 + 1 + 1 ≤ g ∧ g < wr.heap.size) := fun g hg => HSO.out.lt g hg
  have HEL : Hid (∀ g, some g = (.slice ea en ec : Value).ownBlock → X + 1 + 1 + 1 + 1 ≤ g ∧ g < wr.heap.size) := hrow
  clear HT2w HV3w KA KB H1 H2 HW HWr HW1 HTR HSO HEO HK o2 d2 gr same hrow hend
  by_cases hE1 : E1 = 0
  case neg =>
   have HU9 : Hid (upD l (k + 1) = (tr, ⟨vm, vg, vf, vl, vt, vs⟩, sent, told ++ [E1])) := by
    have h9 := HU2.out
    rw [if_neg hE1] at h9; exact h9
   clear HU2 HT12 HP12 KA2 KB2 HTT2
   go_wp2_with (at_builtin; refine wpList_append_run rfl (.tmp 37) (.tmp 39) 58 58 rfl _ _ rfl rfl hrun ?_)
   clear hrun
   go_roundw
   case rel => exact ⟨k + 1, tr, vm, vg, vf, vl, vt, vs, sent, told ++ [E1], tl, tn, fi, ha, hn, hc, bo, bn, bc, ga, ln, gc, oa, lo, oc, sa, sn, sc, ea9, en + 1, ec9, by omega, by go_num, rfl, rfl, HU9.out, HTT.out, HTR2.out.mono fun g h hg => ⟨hg.1, hg.2.2.1, fun e => by
     rcases HD2.out g e.symm with d | d
     ·exact hg.2.2.2 d
     ·have := hg.2.1; omega⟩, ⟨HLN.out.1, by rw [List.length_append, HLN.out.2]; rfl⟩, HS2.out, HO2.out, fun g h1 h2 => by
     rcases HD2.out g h2 with d | d
     ·exact HAP.out g h1 d.symm
     ·have := (HSL.out g h1).2; omega, KT2.out, KV2.out, KK2.out⟩
   case measure => simp [intOf]; omega
  have HU9 : Hid (upD l (k + 1) = (T2, ⟨m2, g2, f2, l2, t2, s2⟩, sent ++ P2, told ++ [E1])) := by
   have h9 := HU2.out
   rw [if_pos hE1] at h9
   show upD l (k + 1) = _
   rw [h9, hE1]
  clear HU2 HTT
  subst hE1
  go_upto_region 13 with (at_builtin; refine wpList_append_run rfl (.tmp 37) (.tmp 39) 58 58 rfl _ _ rfl rfl hrun ?_)
  clear hrun
  refine region_chainG (by kernel_rfl) (by kernel_rfl) [.quiet (.agg #[.int .i64 la2, .int .i64 ne2, .slice ha1 hn1 hc1, .slice oa1 on1 oc1, .int .i64 fi2, .slice ga1 gn1 gc1, .slice pa1 pn1 pc1]) 2, .quiet (.agg #[.int .i64 m2, .int .i64 g2, .int .i64 f2, .int .i64 l2, .int .i64 t2, .int .i64 s2]) 2, .step 0, .step 1] [2, 3] (by kernel_rfl)
   (fun s' r w' => match s' with
    | 0 => Kept [X + 1 + 1, X + 1 + 1 + 1] W2 w' ∧ Blk w' (X + 1 + 1) #[.int .i64 tl, .int .i64 tn, .slice ha hn hc, .slice bo bn bc, .int .i64 fi, .slice ga ln gc, .slice oa lo oc] 34 ∧ Blk w' (X + 1 + 1 + 1) #[.int .i64 vm, .int .i64 vg, .int .i64 vf, .int .i64 vl, .int .i64 vt, .int .i64 vs] 40
    | 1 => Kept [X + 1 + 1, X + 1 + 1 + 1] W2 w' ∧ Blk w' (X + 1 + 1) #[.int .i64 la2, .int .i64 ne2, .slice ha1 hn1 hc1, .slice oa1 on1 oc1, .int .i64 fi2, .slice ga1 gn1 gc1, .slice pa1 pn1 pc1] 34 ∧ Blk w' (X + 1 + 1 + 1) #[.int .i64 vm, .int .i64 vg, .int .i64 vf, .int .i64 vl, .int .i64 vt, .int .i64 vs] 40
    | _ => Kept [X + 1 + 1, X + 1 + 1 + 1] W2 w' ∧ Blk w' (X + 1 + 1) #[.int .i64 la2, .int .i64 ne2, .slice ha1 hn1 hc1, .slice oa1 on1 oc1, .int .i64 fi2, .slice ga1 gn1 gc1, .slice pa1 pn1 pc1] 34 ∧ Blk w' (X + 1 + 1 + 1) #[.int .i64 m2, .int .i64 g2, .int .i64 f2, .int .i64 l2, .int .i64 t2, .int .i64 s2] 40
    ) ⟨(Kept.refl _ _).drew, KT2.out.drew, KV2.out.drew⟩ ?step ?fin
  case step =>
   intro i o' ho a' w' s' r hI hfree hvals
   have hK : Kept [X + 1 + 1, X + 1 + 1 + 1] W2 w' := by
    match s', hI with
    | 0, hI => exact hI.1
    | 1, hI => exact hI.1
    | n + 2, hI => exact hI.1
   obtain ⟨y0, y1, y2, y3, y4, y5, y6⟩ := (KA2.out.kept hK (by simp <;> omega)).sevenc
   obtain ⟨z0, z1, z2, z3, z4, z5⟩ := (KB2.out.kept hK (by simp <;> omega)).sixv
   match i, ho with
   | 0, ho =>
    simp at ho; subst ho
    have e13 : a'.eval (.tmp 13) = .pointer (some ⟨A, 0, none⟩) := (hfree 13 (by kernel_rfl)).trans rfl
    show s' ≤ 2 → _
    intro hs
    refine .inl ⟨rfl, ?_⟩
    generalize a'.eval = ρ at *
    simp [execOp, go_sem, e13, y0, y1, y2, y3, y4, y5, y6]
   | 1, ho =>
    simp at ho; subst ho
    have e14 : a'.eval (.tmp 14) = .pointer (some ⟨B, 0, none⟩) := (hfree 14 (by kernel_rfl)).trans rfl
    show s' ≤ 2 → _
    intro hs
    refine .inl ⟨rfl, ?_⟩
    generalize a'.eval = ρ at *
    simp [execOp, go_sem, e14, z0, z1, z2, z3, z4, z5]
   | 2, ho =>
    simp at ho; subst ho
    have e7 : a'.eval (.tmp 7) = .pointer (some ⟨X + 1 + 1, 0, none⟩) := (hfree 7 (by kernel_rfl)).trans rfl
    have e43 : a'.eval (.tmp 43) = .agg #[.int .i64 la2, .int .i64 ne2, .slice ha1 hn1 hc1, .slice oa1 on1 oc1, .int .i64 fi2, .slice ga1 gn1 gc1, .slice pa1 pn1 pc1] := hvals 0 _ _ (by kernel_rfl) rfl rfl
    show s' = 0 → _ ∧ Oper.wp _ _ _ _ _ _
    intro hs
    subst hs
    refine ⟨rfl, ?_⟩
    obtain ⟨hK2, hp, hq⟩ := hI
    obtain ⟨q0, q1, q2, q3, q4, q5, q6⟩ := hp.sevenc
    have fr := hp.free
    refine oper_wp_skip (w' := (((((((w'.setCell ⟨X + 1 + 1, 0, none⟩ (.int .i64 la2)).setCell ⟨X + 1 + 1, 1, none⟩ (.int .i64 ne2)).setCell ⟨X + 1 + 1, 2, none⟩ (.slice ha1 hn1 hc1)).setCell ⟨X + 1 + 1, 3, none⟩ (.slice oa1 on1 oc1)).setCell ⟨X + 1 + 1, 4, none⟩ (.int .i64 fi2)).setCell ⟨X + 1 + 1, 5, none⟩ (.slice ga1 gn1 gc1)).setCell ⟨X + 1 + 1, 6, none⟩ (.slice pa1 pn1 pc1))) ?_ ⟨_, rfl, (((((((hK2.setCell (p := ⟨X + 1 + 1, 0, none⟩) (by simp) _).setCell (p := ⟨X + 1 + 1, 1, none⟩) (by simp) _).setCell (p := ⟨X + 1 + 1, 2, none⟩) (by simp) _).setCell (p := ⟨X + 1 + 1, 3, none⟩) (by simp) _).setCell (p := ⟨X + 1 + 1, 4, none⟩) (by simp) _).setCell (p := ⟨X + 1 + 1, 5, none⟩) (by simp) _).setCell (p := ⟨X + 1 + 1, 6, none⟩) (by simp) _), (((((((hp.set 0 (.int .i64 la2)).set 1 (.int .i64 ne2)).set 2 (.slice ha1 hn1 hc1)).set 3 (.slice oa1 on1 oc1)).set 4 (.int .i64 fi2)).set 5 (.slice ga1 gn1 gc1)).set 6 (.slice pa1 pn1 pc1)), (((((((hq.other (a := ⟨X + 1 + 1, 0, none⟩) (by simp) _).other (a := ⟨X + 1 + 1, 1, none⟩) (by simp) _).other (a := ⟨X + 1 + 1, 2, none⟩) (by simp) _).other (a := ⟨X + 1 + 1, 3, none⟩) (by simp) _).other (a := ⟨X + 1 + 1, 4, none⟩) (by simp) _).other (a := ⟨X + 1 + 1, 5, none⟩) (by simp) _).other (a := ⟨X + 1 + 1, 6, none⟩) (by simp) _)⟩
    generalize a'.eval = ρ at *
    simp [execOp, go_sem, e7, e43, q0, q1, q2, q3, q4, q5, q6, fr]
   | 3, ho =>
    simp at ho; subst ho
    have e8 : a'.eval (.tmp 8) = .pointer (some ⟨X + 1 + 1 + 1, 0, none⟩) := (hfree 8 (by kernel_rfl)).trans rfl
    have e44 : a'.eval (.tmp 44) = .agg #[.int .i64 m2, .int .i64 g2, .int .i64 f2, .int .i64 l2, .int .i64 t2, .int .i64 s2] := hvals 1 _ _ (by kernel_rfl) rfl rfl
    show s' = 1 → _ ∧ Oper.wp _ _ _ _ _ _
    intro hs
    subst hs
    refine ⟨rfl, ?_⟩
    obtain ⟨hK2, hp, hq⟩ := hI
    obtain ⟨q0, q1, q2, q3, q4, q5⟩ := hq.sixv
    have fr := hq.free
    refine oper_wp_skip (w' := ((((((w'.setCell ⟨X + 1 + 1 + 1, 0, none⟩ (.int .i64 m2)).setCell ⟨X + 1 + 1 + 1, 1, none⟩ (.int .i64 g2)).setCell ⟨X + 1 + 1 + 1, 2, none⟩ (.int .i64 f2)).setCell ⟨X + 1 + 1 + 1, 3, none⟩ (.int .i64 l2)).setCell ⟨X + 1 + 1 + 1, 4, none⟩ (.int .i64 t2)).setCell ⟨X + 1 + 1 + 1, 5, none⟩ (.int .i64 s2))) ?_ ⟨_, rfl, ((((((hK2.setCell (p := ⟨X + 1 + 1 + 1, 0, none⟩) (by simp) _).setCell (p := ⟨X + 1 + 1 + 1, 1, none⟩) (by simp) _).setCell (p := ⟨X + 1 + 1 + 1, 2, none⟩) (by simp) _).setCell (p := ⟨X + 1 + 1 + 1, 3, none⟩) (by simp) _).setCell (p := ⟨X + 1 + 1 + 1, 4, none⟩) (by simp) _).setCell (p := ⟨X + 1 + 1 + 1, 5, none⟩) (by simp) _), ((((((hp.other (a := ⟨X + 1 + 1 + 1, 0, none⟩) (by simp) _).other (a := ⟨X + 1 + 1 + 1, 1, none⟩) (by simp) _).other (a := ⟨X + 1 + 1 + 1, 2, none⟩) (by simp) _).other (a := ⟨X + 1 + 1 + 1, 3, none⟩) (by simp) _).other (a := ⟨X + 1 + 1 + 1, 4, none⟩) (by simp) _).other (a := ⟨X + 1 + 1 + 1, 5, none⟩) (by simp) _), ((((((hq.set 0 (.int .i64 m2)).set 1 (.int .i64 g2)).set 2 (.int .i64 f2)).set 3 (.int .i64 l2)).set 4 (.int .i64 t2)).set 5 (.int .i64 s2))⟩
    generalize a'.eval = ρ at *
    simp [execOp, go_sem, e8, e44, q0, q1, q2, q3, q4, q5, fr]
  case fin =>
   rintro r W3 ⟨hK3, hp3, hq3⟩
   simp only [putC, Ck.out, Act.put, List.setIfInBounds_toArray, List.set_cons_succ, List.set_cons_zero]
   have hs3 := hK3.size
   have HS3 : W3.ownsRow (X + 1 + 1 + 1 + 1) 63 6 (.slice sa sn sc) sn (pkCells sent) := owns_same HS2.out (fun g hg => hK3.block g (HS2.out.lt g hg).2 (by have := HSL.out g hg; simp <;> omega))
   have HO3 : W3.ownsRow (X + 1 + 1 + 1 + 1) 43 1 (.slice ea9 (en + 1) ec9) (en + 1) (erCells (told ++ [0])) := owns_same HO2.out (fun g hg => hK3.block g (HO2.out.lt g hg).2 (by have := (HO2.out.lt g hg).1; simp <;> omega))
   have HT13 := HT12.out.to (hK3.sameOn (fun g h => by simp <;> omega)) (fun _ _ h => h)
   have HP13 := HP12.out.to (hK3.sameOn (fun g h => by simp <;> omega)) (fun _ _ h => h)
   have hlen : sn + P2.length ≤ 2000000000 := by
    have h9 := sent_len l (k + 1) (by rw [← HN.out]; exact hlt)
    rw [HU9.out] at h9
    simp only [List.length_append] at h9
    have := HLN.out.1
    omega
   obtain ⟨sv9, W4, hrun4, o4, g4, d4⟩ := pk_app HS3 HP13.1 hlen (by omega)
   rw [← HP2.out] at o4
   obtain ⟨sa9, sc9, sev, _⟩ := owns_cap o4
   subst sev
   have hs4 := g4.size
   have KT4 : Hid (Blk W4 (X + 1 + 1) #[.int .i64 la2, .int .i64 ne2, .slice ha1 hn1 hc1, .slice oa1 on1 oc1, .int .i64 fi2, .slice ga1 gn1 gc1, .slice pa1 pn1 pc1] 34) := (g4.block _ hp3.lt (fun e => by have := HSL.out _ e.symm; omega)).trans hp3
   have KV4 : Hid (Blk W4 (X + 1 + 1 + 1) #[.int .i64 m2, .int .i64 g2, .int .i64 f2, .int .i64 l2, .int .i64 t2, .int .i64 s2] 40) := (g4.block _ hq3.lt (fun e => by have := HSL.out _ e.symm; omega)).trans hq3
   have KK3 := KK2.out.trans hK3
   have KK4 : Hid (Kept [X + 1 + 1, X + 1 + 1 + 1] Y W4) := ⟨g4.os.trans KK3.os, g4.tape.trans KK3.tape, g4.output.trans KK3.output, Nat.le_trans KK3.size hs4, fun j hj hn9 => (g4.block j (Nat.lt_of_lt_of_le hj KK3.size) (fun e => by have := HSL.out _ e.symm; omega)).trans (KK3.block j hj hn9)⟩
   have HD4 : ∀ g, (Value.slice sa9 (sn + vn) sc9).ownBlock = some g → some g = (.slice sa sn sc : Value).ownBlock ∨ W3.heap.size ≤ g := fun g hg => by
    rcases d4 with d | d
    ·exact .inl (by rw [← d]; exact hg.symm)
    ·exact .inr (d g hg)
   have HO4 : Hid (W4.ownsRow (X + 1 + 1 + 1 + 1) 43 1 (.slice ea9 (en + 1) ec9) (en + 1) (erCells (told ++ [0]))) := owns_same HO3 (fun g hg => g4.block g (HO3.lt g hg).2 (fun e => by
    rcases HD2.out g hg with d | d
    ·exact HAP.out g e.symm d.symm
    ·have := HSL.out g e.symm; omega))
   have HS4 : Hid (W4.ownsRow (X + 1 + 1 + 1 + 1) 63 6 (.slice sa9 (sn + vn) sc9) (sn + vn) (pkCells (sent ++ P2))) := o4
   have HT4 : Hid (TrIn (fun g => X + 1 + 1 + 1 + 1 ≤ g ∧ some g ≠ (Value.slice sa9 (sn + vn) sc9).ownBlock ∧ some g ≠ (Value.slice ea9 (en + 1) ec9).ownBlock) W4 (.slice ha1 hn1 hc1) (.slice oa1 on1 oc1) (.slice ga1 gn1 gc1) (.slice pa1 pn1 pc1) T2) := HT13.to ⟨hs4, fun g hg h => g4.block g hg (fun e => by have := HSL.out g e.symm; omega)⟩ (fun g hg h => ⟨by omega, fun e => by
    rcases HD4 g e.symm with d | d
    ·have := HSL.out g d.symm; omega
    ·omega, fun e => by
    rcases HD2.out g e.symm with d | d
    ·have := HEL.out g d; omega
    ·omega⟩)
   have HAP4 : Hid (Apart (.slice sa9 (sn + vn) sc9) (.slice ea9 (en + 1) ec9)) := fun g hg1 hg2 => by
    rcases HD4 g hg1 with d | d
    ·rcases HD2.out g hg2 with d' | d'
     ·exact HAP.out g d.symm d'.symm
     ·have := HSL.out g d.symm; omega
    ·have := (HO3.lt g hg2).2; omega
   have HLN4 : Hid (sn + vn = (sent ++ P2).length ∧ en + 1 = (told ++ [0]).length) := ⟨by rw [List.length_append, HLN.out.1, HP2.out], by rw [List.length_append, HLN.out.2]; rfl⟩
   clear HS3 HO3 HT13 HP13 hlen o4 g4 d4 KK3 HD4 hK3 hp3 hq3 KT2 KV2 KA2 KB2 KK2 HD2 HO2 HS2 HTR2 HT12 HP12 HSL HEL HAP HLN HP2
   go_wp2_with (at_builtin; refine wpList_append_run rfl (.tmp 45) (.tmp 46) 42 42 rfl _ _ rfl rfl hrun4 ?_)
   clear hrun4
   go_roundw
   case rel => exact ⟨k + 1, T2, m2, g2, f2, l2, t2, s2, sent ++ P2, told ++ [0], la2, ne2, fi2, ha1, hn1, hc1, oa1, on1, oc1, ga1, gn1, gc1, pa1, pn1, pc1, sa9, sn + vn, sc9, ea9, en + 1, ec9, by omega, by go_num, rfl, rfl, HU9.out, HTT2.out, HT4.out, HLN4.out, HS4.out, HO4.out, HAP4.out, KT4.out, KV4.out, KK4.out⟩
   case measure => simp [intOf]; omega
theorem Sk.one2 (x : Sk) : ∀ u ∈ x.cells.toList, u.oneCell' = true := fun u hu => by
 simp [Sk.cells] at hu
 rcases hu with rfl | rfl | rfl | rfl | rfl | rfl | rfl <;> rfl
theorem sk_snoc {base : Nat} {w : World} {v : Value} {n : Nat} {l : List Sk} (x : Sk) (h : w.ownsRow base 106 7 v n (skCells l)) (hl : n ≤ 999) (hb : base ≤ w.heap.size) :
  ∃ v' w', (Builtin.append_ #[22, 22] 22 #[v, .slice (some ⟨w.heap.size, 0, none⟩) 1 1]).run Tryz.prog (w.alloc (.cells x.cells 106)) = .ok v' w' ∧ w'.ownsRow base 106 7 v' (n + 1) (skCells (l ++ [x])) ∧ (w.alloc (.cells x.cells 106)).grownBy w' v.ownBlock := by
 obtain ⟨i0, hi, hz0, hz1, hz2⟩ := info_parts Tryz.infoSlot
 obtain ⟨v', w', r, o, g, _⟩ := run_append_any (P := Tryz.prog) (w.alloc (.cells x.cells 106)) base 22 22 106 i0 _ 7 48 Tryz.underlying22 hi hz0 hz1 hz2 rfl (by decide) v n (skCells l) (h.alloc _) 1 x.cells.toList (.slice (some ⟨w.heap.size, 0, none⟩) 1 1) (Sl.new w x.cells 106 1 7 1 rfl) x.one2 (by unfold maxLen; omega) (by omega) (by simp; omega)
 exact ⟨v', w', r, by rw [skCells_append, skCells_one]; exact o, g⟩
theorem Tryz.infoInt : (Tryz.prog.info? 3).map (fun i => (i.zero, i.size, i.bytes)) = some (some (.int .i64 0), 1, 8) := by kernel_rfl
set_option maxHeartbeats 400000 in
theorem countNext_any (B : Nat) (last seq : Int) (w : World) (hc : w.cell? ⟨B, 0, none⟩ = some (.int .i64 last)) (hf : w.frozen? ⟨B, 0, none⟩ = false) :
  Calls Tryz.prog 117 #[.pointer (some ⟨B, 0, none⟩), .int .i64 seq] w fun e w' =>
   e = .returned (.tuple #[.int .i64 (Cn.uwN last seq), .int .i64 (Cn.uwE last seq)]) ∧ w' = w.setCell ⟨B, 0, none⟩ (.int .i64 (Cn.uwN last seq)) := by
 go_enter Tryz.func117, Tryz.ntmps117
 go_wp2_with (go_at_call 140; refine (unwrap_any _ _ _).mono ?_; rintro e w' ⟨rfl, rfl⟩)
 go_ret2
 exact ⟨rfl, rfl⟩
theorem rel_more {B : Nat} {w wr w1 : World} {u v' : Value} {o : Obj} {x : Int} {out : List Int}
  (hB : B + 1 ≤ wr.heap.size) (hown : wr.ownsRow (B + 1) 3 1 u out.length (out.map (Value.int .i64)))
  (hM : wr.heap[B]? = some (.cells #[.int .i64 x] 168 (0, 0))) (hnx : Below B w wr)
  (hown' : w1.ownsRow (B + 1) 3 1 v' (out.length + 1) (out.map (Value.int .i64) ++ [.int .i64 x])) (hgrow : (wr.alloc o).grownBy w1 u.ownBlock) :
  w1.ownsRow (B + 1) 3 1 v' (out ++ [x]).length ((out ++ [x]).map (Value.int .i64)) ∧ w1.heap[B]? = some (.cells #[.int .i64 x] 168 (0, 0)) ∧ Below B w w1 := by
 have hne : ∀ j, j < B + 1 → some j ≠ u.ownBlock := fun j hj h => by have := hown.lt j h.symm; omega
 refine ⟨by simpa using hown', ?_, (hnx.alloc (by omega) o).grown hgrow (by simp; omega) (fun j hj => by have := (hown.lt j hj).1; omega)⟩
 rw [hgrow.block B (by simp; omega) (hne B (by omega))]
 rw [Below.heap_alloc wr o B (by omega)]
 exact hM
set_option maxHeartbeats 1600000 in
set_option maxRecDepth 1000000 in
theorem each_any (B b off cap : Nat) (first : Int) (zs : List Int) (w : World) (hreach : zs.length * 8 ≤ 140737488351232)
  (hbB : b < B) (hB : B + 1 ≤ w.heap.size)
  (hc : ∀ j, j < zs.length → w.cell? ⟨b, off + j, none⟩ = some (.int .i64 (zs[j]?.getD 0)))
  (hM : w.heap[B]? = some (.cells #[.int .i64 first] 168 (0, 0))) :
  Calls Tryz.prog 116 #[.slice (some ⟨b, off, none⟩) zs.length cap, .func (.func 117) #[.pointer (some ⟨B, 0, none⟩)] #[]] w fun e w' =>
   ∃ v, e = .returned (.tuple #[v, .int .i64 (Cn.allE first zs)]) ∧ w'.ownsRow (B + 1) 3 1 v (Cn.allL first zs).length ((Cn.allL first zs).map (Value.int .i64)) ∧ Below B w w' := by
 obtain ⟨i0, hi, hz0, hz1, hz2⟩ := info_parts Tryz.infoInt
 go_enter Tryz.func116, Tryz.ntmps116
 go_wp2
 go_loopw [6, 13] (fun v i wr => ∃ (k : Nat) (out : List Int), k ≤ zs.length ∧ i = .int .i64 k ∧ Cn.goes first (zs.take k) = some out ∧ wr.ownsRow (B + 1) 3 1 v out.length (out.map (Value.int .i64)) ∧
   wr.heap[B]? = some (.cells #[.int .i64 (Cn.lastOf first out)] 168 (0, 0)) ∧ Below B w wr)
  (fun _ i _ => zs.length - (intOf i).toNat)
 case atStart => exact ⟨0, [], Nat.zero_le _, rfl, rfl, World.ownsRow_nil _ _ _ _, hM, Below.refl _ _⟩
 case round =>
  obtain ⟨k, out, hk, rfl, hgo, hown, hMr, hnx⟩ := hrel
  by_cases hlt : k < zs.length
  ·have hcx : wr.cell? ⟨b, off + k, none⟩ = some (.int .i64 (zs[k]?.getD 0)) := (hnx.cell (by exact hbB)).trans (hc k hlt)
   have hcl := cell_of_one hMr
   have hfr := free_of_one hMr
   obtain ⟨x, hx⟩ : ∃ x, x = zs[k]?.getD 0 := ⟨_, rfl⟩
   rw [← hx] at hcx
   have HX : Hid (x = zs[k]?.getD 0) := hx
   have HG : Hid (Cn.goes first (zs.take k) = some out) := hgo
   have HM : Hid (wr.heap[B]? = some (.cells #[.int .i64 (Cn.lastOf first out)] 168 (0, 0))) := hMr
   have hol : out.length = k := by have := Cn.goes_length _ _ _ hgo; simp at this; omega
   have HO : Hid (out.length = k) := hol
   have hsz := hnx.size
   clear hx hgo hMr hol
   cases hok : Cn.okB (Cn.lastOf first out) x
   ·have hE := (Cn.uw_no hok).1
    have hN := (Cn.uw_no hok).2
    go_wp2_with (go_at_call 117; refine (countNext_any B _ _ _ (by exact hcl) (by exact hfr)).mono ?_; rintro e w' ⟨rfl, rfl⟩)
    go_ret2
    have hno : Cn.goes first zs = none := by
     rw [Cn.take_drop_at zs k hlt]
     exact Cn.goes_snoc_no HG.out (by rw [← HX.out]; exact hok)
    rw [(Cn.allE_none hno).1, (Cn.allE_none hno).2]
    exact ⟨_, rfl, World.ownsRow_nil _ _ _ _, hnx.setCell (by exact Nat.le_refl B) _⟩
   ·have hE := (Cn.uw_ok hok).1
    have hN := (Cn.uw_ok hok).2
    have HE : out.length ≤ k := by rw [HO.out]; exact Nat.le_refl k
    have how2 : (wr.setCell ⟨B, 0, none⟩ (.int .i64 (Cn.raw (Cn.lastOf first out) x))).ownsRow (B + 1) 3 1 u6 out.length (out.map (Value.int .i64)) := ownsRow_setCell_below hown (by show B < B + 1; omega) _
    go_wp2_with (first
     | (go_at_call 117; refine (countNext_any B _ _ _ (by exact hcl) (by exact hfr)).mono ?_; rintro e w' ⟨rfl, rfl⟩)
     | (at_builtin; refine wpList_append_own _ rfl _ _ 129 rfl (B + 1) 3 i0 (.int .i64 0) 1 8 Tryz.underlying129 hi hz0 hz1 hz2 rfl (by decide) _ _ _ rfl (how2.alloc _) ⟨wr.heap.size, 0, none⟩ 1 1 [.int .i64 (Cn.raw (Cn.lastOf first out) x)] rfl rfl ?c1 ?c2 ?c3 ?c4 ?c5 ?_))
    case c1 =>
     intro j u hj
     match j, hj with
     | 0, hj =>
      simp at hj; subst hj
      exact World.cell?_alloc_at _ _ _ _ (by simp)
    case c2 => intro u hu; simp at hu; subst hu; rfl
    case c3 => unfold maxLen; omega
    case c4 => omega
    case c5 => simp; omega
    ·intro v' w1 hown' hgrow _
     have R := rel_more (B := B) (w := w) (wr := wr.setCell ⟨B, 0, none⟩ (.int .i64 (Cn.raw (Cn.lastOf first out) x))) (by simp; omega) how2 (one_setCell HM.out) (hnx.setCell (by exact Nat.le_refl B) _) hown' hgrow
     have HGo : Hid (Cn.goes first (zs.take (k + 1)) = some (out ++ [Cn.raw (Cn.lastOf first out) x])) := by
      show Cn.goes first (zs.take (k + 1)) = some (out ++ [Cn.raw (Cn.lastOf first out) x])
      rw [Cn.take_snoc zs k hlt, ← HX.out]
      exact Cn.goes_snoc_ok HG.out hok
     obtain ⟨R1, R2, R3⟩ := R
     have HR1 : Hid _ := R1
     have HR2 : Hid _ := R2
     clear hown' hgrow hown how2 hcx hcl hfr R1 R2 hE hN HE
     go_wp2
     go_roundw
     case rel => exact ⟨k + 1, out ++ [Cn.raw (Cn.lastOf first out) x], by omega, by go_num, HGo.out, HR1.out, by rw [Cn.lastOf_snoc]; exact HR2.out, R3⟩
     case measure => simp [intOf]; omega
  ·have hkl : k = zs.length := by omega
   subst hkl
   rw [List.take_length] at hgo
   go_wp2
   go_ret2
   rw [(Cn.allE_some hgo).1, (Cn.allE_some hgo).2]
   exact ⟨_, rfl, hown, hnx⟩
set_option maxHeartbeats 400000 in
theorem each_none (a : Option Addr) (cap : Nat) (f : Value) (w : World) :
  Calls Tryz.prog 116 #[.slice a 0 cap, f] w fun e w' =>
   e = .returned (.tuple #[.slice none 0 0, .int .i64 0]) ∧ w = w' := by
 go_enter Tryz.func116, Tryz.ntmps116
 go_wp2
 refine wp_loop_rounds 1 ?_
 rw [rounds_succ]
 go_wp2
 go_ret2
 exact ⟨rfl, rfl⟩
theorem all_any (first : Int) (v : Value) (zs : List Int) (w : World) (hreach : zs.length * 8 ≤ 140737488351232) (hv : Sl w v zs.length 1 (zs.map (Value.int .i64))) :
  Calls Tryz.prog 82 #[.int .i64 first, v] w fun e w' =>
   ∃ u, e = .returned (.tuple #[u, .int .i64 (Cn.allE first zs)]) ∧ w'.ownsRow (w.heap.size + 1) 3 1 u (Cn.allL first zs).length ((Cn.allL first zs).map (Value.int .i64)) ∧ Below w.heap.size w w' := by
 obtain ⟨_, ⟨h0, a, c, rfl⟩ | ⟨b, off, c, rfl, hlt, hc⟩⟩ := hv
 ·have hz : zs = [] := List.eq_nil_of_length_eq_zero h0
  subst hz
  go_enter Tryz.func82, Tryz.ntmps82
  go_wp2_with (go_at_call 116; refine (each_none _ _ _ _).mono ?_; rintro e w' ⟨rfl, rfl⟩)
  go_ret2
  exact ⟨_, rfl, World.ownsRow_nil _ _ _ _, by go_grown⟩
 ·have hcc : ∀ j, j < zs.length → w.cell? ⟨b, off + j, none⟩ = some (.int .i64 (zs[j]?.getD 0)) := by
   intro j hj
   exact hc j _ (by simp [List.getElem?_eq_getElem hj])
  have HC : Hid (∀ j, j < zs.length → w.cell? ⟨b, off + j, none⟩ = some (.int .i64 (zs[j]?.getD 0))) := hcc
  clear hc hcc
  go_enter Tryz.func82, Tryz.ntmps82
  go_wp2_with (go_at_call 116; refine (each_any w.heap.size b off c first zs (w.alloc (.cells #[.int .i64 first] 168)) hreach hlt (by simp) (fun j hj => (World.cell?_alloc_past _ _ _ hlt).trans (HC.out j hj)) (heap_alloc_new w _)).mono ?_; rintro e w' ⟨u, rfl, hown, hbel⟩)
  go_ret2
  exact ⟨_, rfl, hown, ((Below.refl _ _).alloc (Nat.le_refl _) _).trans hbel⟩
def slF (l : List Pk) : Int := (l[0]?.getD Pk.zero).seq + 65536
def slN (l : List Pk) : List Int := Cn.allL (slF l) (l.map (·.seq))
def slE (l : List Pk) : Int := if l.length = 0 then 0 else Cn.allE (slF l) (l.map (·.seq))
def skI (l : List Pk) (i : Nat) : Sk := ⟨(slN l)[i]?.getD 0, l[i]?.getD Pk.zero⟩
def slK (l : List Pk) (k : Nat) : List Sk := (List.range k).map (skI l)
theorem slK_succ (l : List Pk) (k : Nat) : slK l (k + 1) = slK l k ++ [skI l k] := by simp [slK, List.range_succ]
theorem slK_len (l : List Pk) (k : Nat) : (slK l k).length = k := by simp [slK]
def slR (l : List Pk) : List Sk := if slE l = 0 then slK l l.length else []
theorem Pk.seq_right {p : Pk} (h : p.chk = 0) : 0 ≤ p.seq ∧ p.seq ≤ 65535 := by
 unfold Pk.chk at h
 by_cases h1 : p.seq < 0
 ·rw [if_pos h1] at h; omega
 ·rw [if_neg h1] at h
  by_cases h2 : 65535 < p.seq
  ·rw [if_pos h2] at h; omega
  ·omega
theorem in_snoc {base : Nat} {w : World} {v : Value} {n : Nat} {l : List Int} (e : Int) (h : w.ownsRow base 3 1 v n (l.map (Value.int .i64))) (hl : n ≤ 999) (hb : base ≤ w.heap.size) :
  ∃ v' w', (Builtin.append_ #[129, 129] 129 #[v, .slice (some ⟨w.heap.size, 0, none⟩) 1 1]).run Tryz.prog (w.alloc (.cells #[.int .i64 e] 3)) = .ok v' w' ∧ w'.ownsRow base 3 1 v' (n + 1) ((l ++ [e]).map (Value.int .i64)) ∧ (w.alloc (.cells #[.int .i64 e] 3)).grownBy w' v.ownBlock := by
 obtain ⟨i0, hi, hz0, hz1, hz2⟩ := info_parts Tryz.infoInt
 obtain ⟨v', w', r, o, g, _⟩ := run_append_any (P := Tryz.prog) (w.alloc (.cells #[.int .i64 e] 3)) base 129 129 3 i0 _ 1 8 Tryz.underlying129 hi hz0 hz1 hz2 rfl (by decide) v n (l.map (Value.int .i64)) (h.alloc _) 1 [.int .i64 e] (.slice (some ⟨w.heap.size, 0, none⟩) 1 1) (Sl.new w #[.int .i64 e] 3 1 1 1 rfl) (fun u hu => by simp at hu; subst hu; rfl) (by unfold maxLen; omega) (by omega) (by simp; omega)
 exact ⟨v', w', r, by rw [List.map_append]; exact o, g⟩
set_option maxHeartbeats 8000000 in
set_option maxRecDepth 100000 in
theorem slotsOf_any (l : List Pk) (v : Value) (w : World) (hv : Pks w v l) (hl : l.length ≤ 100) (hright : ∀ p ∈ l, p.chk = 0) :
  Calls Tryz.prog 36 #[v] w fun e w' => ∃ u, e = .returned (.tuple #[u, .int .i64 (slE l)]) ∧ Sls w' u (slR l) ∧ Below w.heap.size w w' := by
 obtain ⟨ao, c, ev⟩ := Sl.len hv
 subst ev
 have HV : Hid (Pks w (.slice ao l.length c) l) := hv
 obtain ⟨n, hn⟩ : ∃ n, n = l.length := ⟨_, rfl⟩
 have HN : Hid (n = l.length) := hn
 obtain ⟨E, hE⟩ : ∃ E, E = slE l := ⟨_, rfl⟩
 have HE : Hid (E = slE l) := hE
 have HAT : Hid (∀ k, k < n → ∃ b off, ao = some ⟨b, off, none⟩ ∧ b < w.heap.size ∧ ∀ j u, (l[k]?.getD Pk.zero).cells[j]? = some u → w.cell? ⟨b, off + k * 6 + j, none⟩ = some u) := fun k hk => by
  have hk' : k < l.length := by rw [← HN.out]; exact hk
  rw [List.getElem?_eq_getElem hk', Option.getD_some]
  exact Pks.at HV.out hk'
 have HRT : Hid (∀ p ∈ l, p.chk = 0) := hright
 rw [← hE]
 rw [← hn] at hl ⊢
 obtain ⟨X, hX⟩ : ∃ x, x = w.heap.size := ⟨_, rfl⟩
 have HXw : Hid (X = w.heap.size) := hX
 rw [← hX]
 clear hv hn hE hright hX HV
 go_enter Tryz.func36, Tryz.ntmps36
 by_cases h0 : n = 0
 ·have hEz : Hid (E = 0) := by show E = 0; rw [HE.out]; unfold slE; rw [if_pos (by rw [← HN.out]; exact h0)]
  have hRz : Hid (slR l = []) := by
   show slR l = []
   unfold slR; rw [← HE.out, if_pos hEz.out, ← HN.out, h0]; rfl
  have hBz : Hid (Below X w w) := by show Below _ _ _; rw [HXw.out]; exact Below.refl _ _
  clear HE HAT HRT HN
  subst h0
  go_wp2
  go_ret2
  exact ⟨_, by rw [hEz.out]; rfl, by rw [hRz.out]; exact Sls.nil _, hBz.out⟩
 have hnz : ((n : Int) == 0) = false := by simp; exact h0
 go_wp2_with fail
 go_loopw [4, 17] (fun rv i wr => ∃ k : Nat, k ≤ n ∧ i = .int .i64 k ∧ Hid (wr.ownsRow X 3 1 rv k (((l.take k).map (·.seq)).map (Value.int .i64))) ∧ Hid (Below X w wr))
  (fun _ i _ => n - (intOf i).toNat)
 case atStart => exact ⟨0, Nat.zero_le _, rfl, World.ownsRow_nil _ _ _ _, by show Below _ _ _; rw [HXw.out]; exact Below.refl _ _⟩
 case round =>
  obtain ⟨k, hk, rfl, HO, HB⟩ := hrel
  by_cases hlt : k < n
  ·obtain ⟨bA, off, rfl, hbX, hac⟩ := HAT.out k hlt
   obtain ⟨p, hp⟩ : ∃ p, p = l[k]?.getD Pk.zero := ⟨_, rfl⟩
   have HT : Hid ((l.take (k + 1)).map (·.seq) = (l.take k).map (·.seq) ++ [p.seq]) := by
    show List.map _ _ = _
    rw [take_one (by rw [← HN.out]; exact hlt) Pk.zero, List.map_append, ← hp]; rfl
   obtain ⟨sq, tm, xf, xe, xk, xt⟩ := p
   simp only at HT
   rw [← hp] at hac
   have hbw : bA < X := by rw [HXw.out]; exact hbX
   have c0 : wr.cell? ⟨bA, off + k * 6, none⟩ = some (.int .i64 sq) := (HB.out.cell (p := ⟨bA, off + k * 6, none⟩) hbw).trans (hac 0 _ rfl)
   have c1 : wr.cell? ⟨bA, off + k * 6 + 1, none⟩ = some (.int .i64 tm) := (HB.out.cell (p := ⟨bA, off + k * 6 + 1, none⟩) hbw).trans (hac 1 _ rfl)
   have c2 : wr.cell? ⟨bA, off + k * 6 + 2, none⟩ = some (.bool xf) := (HB.out.cell (p := ⟨bA, off + k * 6 + 2, none⟩) hbw).trans (hac 2 _ rfl)
   have c3 : wr.cell? ⟨bA, off + k * 6 + 3, none⟩ = some (.bool xe) := (HB.out.cell (p := ⟨bA, off + k * 6 + 3, none⟩) hbw).trans (hac 3 _ rfl)
   have c4 : wr.cell? ⟨bA, off + k * 6 + 4, none⟩ = some (.bool xk) := (HB.out.cell (p := ⟨bA, off + k * 6 + 4, none⟩) hbw).trans (hac 4 _ rfl)
   have c5 : wr.cell? ⟨bA, off + k * 6 + 5, none⟩ = some (.string xt) := (HB.out.cell (p := ⟨bA, off + k * 6 + 5, none⟩) hbw).trans (hac 5 _ rfl)
   have hXr : X ≤ wr.heap.size := by have := HB.out.size; rw [← HXw.out] at this; exact this
   have hbl : bA < wr.heap.size := by omega
   clear hac hp hbX hbw HAT HRT HE
   go_upto_region 7 with fail
   obtain ⟨W1, hW1⟩ : ∃ W, W = wr.alloc (.cells #[.int .i64 sq, .int .i64 tm, .bool xf, .bool xe, .bool xk, .string xt] 63) := ⟨_, rfl⟩
   have j0 : W1.cell? ⟨wr.heap.size, 0, none⟩ = some (.int .i64 sq) := (Blk.newE hW1).cell rfl
   have HB1 : Hid (Below X w W1) := by show Below _ _ _; rw [hW1]; exact HB.out.alloc hXr _
   have HO1 : Hid (W1.ownsRow X 3 1 u4 k (((l.take k).map (·.seq)).map (Value.int .i64))) := by show World.ownsRow _ _ _ _ _ _ _; rw [hW1]; exact HO.out.alloc _
   have hX1 : X ≤ W1.heap.size := by rw [hW1]; simp; omega
   rw [← hW1]
   clear hW1 c0 c1 c2 c3 c4 c5
   obtain ⟨v', W2, hrun, o2, gr⟩ := in_snoc sq HO1.out (by omega) hX1
   have HO2 : Hid (W2.ownsRow X 3 1 v' (k + 1) (((l.take (k + 1)).map (·.seq)).map (Value.int .i64))) := by
    show World.ownsRow _ _ _ _ _ _ _
    rw [HT.out]; exact o2
   have HB2 : Hid (Below X w W2) := (HB1.out.alloc hX1 _).grown gr (by simp; omega) (fun j hj => (HO1.out.lt j hj).1)
   clear o2 gr HO1 HB1 HO HB HT
   go_wp2_with (at_builtin; refine wpList_append_run rfl (.tmp 21) (.tmp 24) 129 129 rfl _ _ rfl rfl hrun ?_)
   clear hrun j0
   go_roundw
   case rel => exact ⟨k + 1, by omega, by go_num, HO2, HB2⟩
   case measure => simp [intOf]; omega
  ·have hkl : n = k := by omega
   have hO' : Hid (wr.ownsRow X 3 1 u4 n ((l.map (·.seq)).map (Value.int .i64))) := by
    have := HO.out
    rw [← hkl] at this
    show World.ownsRow _ _ _ _ _ _ _
    have e : l.take n = l := by rw [HN.out, List.take_length]
    rw [e] at this; exact this
   clear HO
   subst hkl
   obtain ⟨bA, off, rfl, hbX, hac0⟩ := HAT.out 0 (by omega)
   have HAT2 : Hid (∀ j, j < n → ∀ i u, (l[j]?.getD Pk.zero).cells[i]? = some u → w.cell? ⟨bA, off + j * 6 + i, none⟩ = some u) := fun j hj => by
    obtain ⟨b9, o9, e9, _, h9⟩ := HAT.out j hj
    injection e9 with e9
    injection e9 with e9 e8
    subst e9 e8
    exact h9
   have hbw : bA < X := by rw [HXw.out]; exact hbX
   obtain ⟨s0, hs0⟩ : ∃ s, s = (l[0]?.getD Pk.zero).seq := ⟨_, rfl⟩
   have hs01 : 0 ≤ s0 ∧ s0 ≤ 65535 := by
    have h9 : 0 < l.length := by rw [← HN.out]; omega
    rw [hs0, List.getElem?_eq_getElem h9, Option.getD_some]
    exact Pk.seq_right (HRT.out _ (List.getElem_mem h9))
   have c0 : wr.cell? ⟨bA, off, none⟩ = some (.int .i64 s0) := by
    have h9 := HAT2.out 0 (by omega) 0 (.int .i64 s0) (by rw [hs0]; rfl)
    rw [Nat.zero_mul, Nat.add_zero] at h9
    exact (HB.out.cell (p := ⟨bA, off, none⟩) hbw).trans h9
   have HEA : Hid (Cn.allE (s0 + 65536) (l.map (·.seq)) = E) := by
    show Cn.allE _ _ = E
    rw [HE.out]; unfold slE slF
    rw [if_neg (by rw [← HN.out]; exact h0), hs0]
   have HNU : Hid (Cn.allL (s0 + 65536) (l.map (·.seq)) = slN l) := by
    show Cn.allL _ _ = _
    unfold slN slF; rw [hs0]
   have HALL : Hid (Calls Tryz.prog 82 #[.int .i64 (s0 + 65536), u4] wr fun e w' => ∃ u, e = .returned (.tuple #[u, .int .i64 E]) ∧ Sl w' u (slN l).length 1 ((slN l).map (Value.int .i64)) ∧ Below wr.heap.size wr w') := by
    have h9 : (l.map (·.seq)).length = n := by rw [List.length_map]; exact HN.out.symm
    have q := all_any (s0 + 65536) u4 (l.map (·.seq)) wr (by rw [h9]; omega) (by rw [h9]; exact Sl.of_owns hO'.out)
    rw [HEA.out, HNU.out] at q
    refine q.mono ?_
    rintro e w' ⟨u, rfl, q1, q2⟩
    exact ⟨u, rfl, Sl.of_owns q1, q2⟩
   have hbr : bA < wr.heap.size := by have := HB.out.size; omega
   have HBw : Hid (Below X w wr) := HB.out
   have hXr : X ≤ wr.heap.size := by have := HB.out.size; rw [← HXw.out] at this; exact this
   clear hs0 hac0 hbX HAT hO' HB
   go_wp2_with fail
   refine HALL.out.mono ?_
   rintro e wA ⟨u, rfl, h1, h2⟩
   have HBA : Hid (Below X w wA) := HBw.out.trans (h2.mono hXr)
   clear c0 HALL HBw
   by_cases hE0 : E = 0
   case neg =>
    have hRz : Hid (slR l = []) := by
     show slR l = []
     unfold slR; rw [if_neg (by rw [← HE.out]; exact hE0)]
    clear HEA HNU HE h1 h2 HRT HAT2
    go_wp2_with fail
    go_ret2
    exact ⟨_, rfl, by rw [hRz.out]; exact Sls.nil _, HBA.out⟩
   have HRR : Hid (slR l = slK l n) := by
    show slR l = _
    unfold slR; rw [if_pos (by rw [← HE.out]; exact hE0), HN.out]
   have hln : (slN l).length = n := by
    have h9 := HEA.out
    rw [hE0] at h9
    have h8 := HNU.out
    unfold Cn.allE at h9
    unfold Cn.allL at h8
    cases hg : Cn.goes (s0 + 65536) (l.map (·.seq)) with
    | none => rw [hg] at h9; simp at h9
    | some o =>
     rw [hg] at h8
     have := Cn.goes_length _ _ _ hg
     rw [← h8, Option.getD_some, this, List.length_map]; exact HN.out.symm
   obtain ⟨na, nc, eu, hnum⟩ := Sl.ints h1
   rw [hln] at eu hnum
   subst eu
   obtain ⟨nb, noff, rfl, hnb, _⟩ := hnum 0 (by omega)
   have HNUM : Hid (∀ j, j < n → wA.cell? ⟨nb, noff + j, none⟩ = some (.int .i64 ((slN l)[j]?.getD 0))) := fun j hj => by
    obtain ⟨b9, o9, e9, _, h9⟩ := hnum j hj
    injection e9 with e9
    injection e9 with e9 e8
    subst e9 e8
    exact h9
   obtain ⟨base, hbase⟩ : ∃ b, b = wA.heap.size := ⟨_, rfl⟩
   have HBS : Hid (base = wA.heap.size) := hbase
   have hnb' : nb < base := by omega
   have hbA : bA < base := by have := h2.size; omega
   have hEz : Hid (E = 0) := hE0
   clear HEA HNU HE h1 h2 HRT hnum hnb hbase hln hbr
   subst hE0
   go_wp2_with fail
   go_loopw [9, 42] (fun sv i w2 => ∃ k : Nat, k ≤ n ∧ i = .int .i64 k ∧ Hid (w2.ownsRow base 106 7 sv k (skCells (slK l k))) ∧ Hid (Below base wA w2))
    (fun _ i _ => n - (intOf i).toNat)
   case atStart => exact ⟨0, Nat.zero_le _, rfl, World.ownsRow_nil _ _ _ _, by show Below _ _ _; rw [HBS.out]; exact Below.refl _ _⟩
   case round =>
    obtain ⟨k, hk, rfl, HO, HB⟩ := hrel
    obtain ⟨sv, hsv⟩ : ∃ s, s = u9 := ⟨_, rfl⟩
    subst hsv
    by_cases hlt : k < n
    case neg =>
     have hkn : n = k := by omega
     have HF : Hid (Sls wr sv (slR l)) := by
      show Sls _ _ _
      rw [HRR.out]
      have h9 := HO.out
      rw [← hkn] at h9
      exact Sls.of_owns (by rw [slK_len]; exact h9)
     have HBF : Hid (Below X w wr) := HBA.out.trans (HB.out.mono (by have := HBA.out.size; have := HXw.out; rw [HBS.out]; omega))
     clear HO HB HAT2 HNUM HRR
     subst hkn
     go_wp2_with fail
     go_ret2
     exact ⟨_, rfl, HF.out, HBF.out⟩
    obtain ⟨p, hp⟩ : ∃ p, p = l[k]?.getD Pk.zero := ⟨_, rfl⟩
    obtain ⟨nu, hnu⟩ : ∃ x, x = (slN l)[k]?.getD 0 := ⟨_, rfl⟩
    have hac := HAT2.out k hlt
    have hnc := HNUM.out k hlt
    rw [← hp] at hac
    rw [← hnu] at hnc
    have HSL0 : Hid (slK l (k + 1) = slK l k ++ [⟨nu, p⟩]) := by
     show slK _ _ = _
     rw [slK_succ]; unfold skI; rw [← hp, ← hnu]
    obtain ⟨sq, tm, xf, xe, xk, xt⟩ := p
    have hcB : ∀ i u, (Pk.mk sq tm xf xe xk xt).cells[i]? = some u → wr.cell? ⟨bA, off + k * 6 + i, none⟩ = some u := fun i u hu => (HB.out.cell (p := ⟨bA, off + k * 6 + i, none⟩) hbA).trans ((HBA.out.cell (p := ⟨bA, off + k * 6 + i, none⟩) hbw).trans (hac i u hu))
    have c0 : wr.cell? ⟨bA, off + k * 6, none⟩ = some (.int .i64 sq) := hcB 0 _ rfl
    have c1 : wr.cell? ⟨bA, off + k * 6 + 1, none⟩ = some (.int .i64 tm) := hcB 1 _ rfl
    have c2 : wr.cell? ⟨bA, off + k * 6 + 2, none⟩ = some (.bool xf) := hcB 2 _ rfl
    have c3 : wr.cell? ⟨bA, off + k * 6 + 3, none⟩ = some (.bool xe) := hcB 3 _ rfl
    have c4 : wr.cell? ⟨bA, off + k * 6 + 4, none⟩ = some (.bool xk) := hcB 4 _ rfl
    have c5 : wr.cell? ⟨bA, off + k * 6 + 5, none⟩ = some (.string xt) := hcB 5 _ rfl
    have hnr : wr.cell? ⟨nb, noff + k, none⟩ = some (.int .i64 nu) := (HB.out.cell (p := ⟨nb, noff + k, none⟩) hnb').trans hnc
    have hbs : base ≤ wr.heap.size := by have := HB.out.size; rw [← HBS.out] at this; exact this
    have hbl : bA < wr.heap.size := by omega
    clear hcB hac hnc hp hnu HAT2 HNUM HRR
    go_upto_region 16 with fail
    obtain ⟨Q, hQ⟩ : ∃ q, q = wr.heap.size := ⟨_, rfl⟩
    obtain ⟨W1, hW1⟩ : ∃ W, W = wr.alloc (.cells #[.int .i64 sq, .int .i64 tm, .bool xf, .bool xe, .bool xk, .string xt] 63) := ⟨_, rfl⟩
    have KQ : Blk W1 Q #[.int .i64 sq, .int .i64 tm, .bool xf, .bool xe, .bool xk, .string xt] 63 := by rw [hQ]; exact Blk.newE hW1
    have k0 : W1.cell? ⟨nb, noff + k, none⟩ = some (.int .i64 nu) := by rw [hW1]; exact (World.cell?_alloc_past _ _ _ (by show nb < _; omega)).trans hnr
    have HB1 : Hid (Below base wA W1) := by show Below _ _ _; rw [hW1]; exact HB.out.alloc hbs _
    have HOW : Hid (W1.ownsRow base 106 7 sv k (skCells (slK l k))) := by show World.ownsRow _ _ _ _ _ _ _; rw [hW1]; exact HO.out.alloc _
    have hb1 : base ≤ W1.heap.size := by rw [hW1]; simp; omega
    have nQ : some Q ≠ sv.ownBlock := fun e => by have := (HO.out.lt Q e.symm).2; omega
    have nnb : some nb ≠ sv.ownBlock := fun e => by have := (HO.out.lt nb e.symm).1; omega
    have lnb : nb < W1.heap.size := by omega
    have lQ := KQ.lt
    obtain ⟨j0, j1, j2, j3, j4, j5⟩ : W1.cell? ⟨Q, 0, none⟩ = some (.int .i64 sq) ∧ W1.cell? ⟨Q, 1, none⟩ = some (.int .i64 tm) ∧ W1.cell? ⟨Q, 2, none⟩ = some (.bool xf) ∧ W1.cell? ⟨Q, 3, none⟩ = some (.bool xe) ∧ W1.cell? ⟨Q, 4, none⟩ = some (.bool xk) ∧ W1.cell? ⟨Q, 5, none⟩ = some (.string xt) := ⟨KQ.cell rfl, KQ.cell rfl, KQ.cell rfl, KQ.cell rfl, KQ.cell rfl, KQ.cell rfl⟩
    rw [← hW1]
    try rw [← hQ]
    have hlti : (k : Int) < (n : Int) := by omega
    clear hW1 hQ KQ c0 c1 c2 c3 c4 c5 hnr HO HB hbl
    obtain ⟨SL, hSL⟩ : ∃ x, x = slK l k := ⟨_, rfl⟩
    rw [← hSL] at HOW HSL0
    clear hSL
    refine region_chainG (by kernel_rfl) (by kernel_rfl) [.quiet (sv) 3, .quiet (.slice (some ⟨nb, noff, none⟩) n nc) 3, .quiet (.int .i64 k) 3, .quiet (.pointer (some ⟨nb, noff + k, none⟩)) 3, .quiet (.int .i64 nu) 3, .quiet (.agg #[.int .i64 sq, .int .i64 tm, .bool xf, .bool xe, .bool xk, .string xt]) 3, .quiet (.agg #[.int .i64 nu, .int .i64 sq, .int .i64 tm, .bool xf, .bool xe, .bool xk, .string xt]) 3, .step 0, .step 1, .step 2] [7, 8, 9] (by kernel_rfl)
     (fun s r w' => match s with
      | 0 => Below W1.heap.size W1 w'
      | 1 => ∃ V, Below W1.heap.size W1 V ∧ w' = V.alloc (.cells #[.int .i64 nu, .int .i64 sq, .int .i64 tm, .bool xf, .bool xe, .bool xk, .string xt] 106) ∧ r 0 = .slice (some ⟨V.heap.size, 0, none⟩) 1 1
      | 2 => ∃ V, Below W1.heap.size W1 V ∧ w'.ownsRow base 106 7 (r 1) (k + 1) (skCells (SL ++ [⟨nu, ⟨sq, tm, xf, xe, xk, xt⟩⟩])) ∧ (V.alloc (.cells #[.int .i64 nu, .int .i64 sq, .int .i64 tm, .bool xf, .bool xe, .bool xk, .string xt] 106)).grownBy w' sv.ownBlock
      | _ => ∃ V, Below W1.heap.size W1 V ∧ w'.ownsRow base 106 7 (r 2) (k + 1) (skCells (SL ++ [⟨nu, ⟨sq, tm, xf, xe, xk, xt⟩⟩])) ∧ (V.alloc (.cells #[.int .i64 nu, .int .i64 sq, .int .i64 tm, .bool xf, .bool xe, .bool xk, .string xt] 106)).grownBy w' sv.ownBlock
      ) ((Below.refl _ W1).drew) ?step ?fin
    case step =>
     intro i o ho a' w' s r hI hfree hvals
     have hcell : ∀ a : Addr, a.block < W1.heap.size → some a.block ≠ sv.ownBlock → w'.cell? a = W1.cell? a := fun a ha hne => by
      match s, hI with
      | 0, hI => exact Below.cell hI ha
      | 1, ⟨V, hI, hw, _⟩ => rw [hw]; exact Below.cell (hI.alloc hI.size _) ha
      | 2, ⟨V, hI, _, hg⟩ => exact (grown_cell hg (by simp; have := hI.size; omega) hne).trans (Below.cell (hI.alloc hI.size _) ha)
      | n + 3, ⟨V, hI, _, hg⟩ => exact (grown_cell hg (by simp; have := hI.size; omega) hne).trans (Below.cell (hI.alloc hI.size _) ha)
     have c0 := (hcell ⟨nb, noff + k, none⟩ lnb nnb).trans k0
     have d0 := (hcell ⟨Q, 0, none⟩ lQ nQ).trans j0
     have d1 := (hcell ⟨Q, 1, none⟩ lQ nQ).trans j1
     have d2 := (hcell ⟨Q, 2, none⟩ lQ nQ).trans j2
     have d3 := (hcell ⟨Q, 3, none⟩ lQ nQ).trans j3
     have d4 := (hcell ⟨Q, 4, none⟩ lQ nQ).trans j4
     have d5 := (hcell ⟨Q, 5, none⟩ lQ nQ).trans j5
     clear hcell
     match i, ho with
     | 0, ho =>
      simp at ho; subst ho
      have e9 : a'.eval (.tmp 9) = sv := (hfree 9 (by kernel_rfl)).trans rfl
      show s ≤ 3 → _
      intro hs
      refine .inl ⟨rfl, ?_⟩
      generalize a'.eval = ρ at *
      simp [execOp, go_sem, e9]
     | 1, ho =>
      simp at ho; subst ho
      have e7 : a'.eval (.tmp 7) = .slice (some ⟨nb, noff, none⟩) n nc := (hfree 7 (by kernel_rfl)).trans rfl
      show s ≤ 3 → _
      intro hs
      refine .inl ⟨rfl, ?_⟩
      generalize a'.eval = ρ at *
      simp [execOp, go_sem, e7]
     | 2, ho =>
      simp at ho; subst ho
      have e10 : a'.eval (.tmp 10) = .int .i64 k := (hfree 10 (by kernel_rfl)).trans rfl
      show s ≤ 3 → _
      intro hs
      refine .inl ⟨rfl, ?_⟩
      generalize a'.eval = ρ at *
      simp [execOp, go_sem, e10]
     | 3, ho =>
      simp at ho; subst ho
      have e48 : a'.eval (.tmp 48) = .slice (some ⟨nb, noff, none⟩) n nc := hvals 1 _ _ (by kernel_rfl) rfl rfl
      have e49 : a'.eval (.tmp 49) = .int .i64 k := hvals 2 _ _ (by kernel_rfl) rfl rfl
      show s ≤ 3 → _
      intro hs
      refine .inl ⟨rfl, ?_⟩
      generalize a'.eval = ρ at *
      simp [execOp, go_sem, e48, e49, hlti]
     | 4, ho =>
      simp at ho; subst ho
      have e50 : a'.eval (.tmp 50) = .pointer (some ⟨nb, noff + k, none⟩) := hvals 3 _ _ (by kernel_rfl) rfl rfl
      show s ≤ 3 → _
      intro hs
      refine .inl ⟨rfl, ?_⟩
      generalize a'.eval = ρ at *
      simp [execOp, go_sem, e50, c0]
     | 5, ho =>
      simp at ho; subst ho
      have e11 : a'.eval (.tmp 11) = .pointer (some ⟨Q, 0, none⟩) := (hfree 11 (by kernel_rfl)).trans rfl
      show s ≤ 3 → _
      intro hs
      refine .inl ⟨rfl, ?_⟩
      generalize a'.eval = ρ at *
      simp [execOp, go_sem, e11, d0, d1, d2, d3, d4, d5]
     | 6, ho =>
      simp at ho; subst ho
      have e51 : a'.eval (.tmp 51) = .int .i64 nu := hvals 4 _ _ (by kernel_rfl) rfl rfl
      have e52 : a'.eval (.tmp 52) = .agg #[.int .i64 sq, .int .i64 tm, .bool xf, .bool xe, .bool xk, .string xt] := hvals 5 _ _ (by kernel_rfl) rfl rfl
      show s ≤ 3 → _
      intro hs
      refine .inl ⟨rfl, ?_⟩
      generalize a'.eval = ρ at *
      simp [execOp, go_sem, e51, e52]
     | 7, ho =>
      simp at ho; subst ho
      have e53 : a'.eval (.tmp 53) = .agg #[.int .i64 nu, .int .i64 sq, .int .i64 tm, .bool xf, .bool xe, .bool xk, .string xt] := hvals 6 _ _ (by kernel_rfl) rfl rfl
      show s = 0 → _ ∧ Oper.wp _ _ _ _ _ _
      intro hs
      subst hs
      refine ⟨rfl, ?_⟩
      have hB : Below W1.heap.size W1 w' := hI
      refine oper_wp_ok (v := .slice (some ⟨w'.heap.size, 0, none⟩) 1 1) (w' := w'.alloc (.cells #[.int .i64 nu, .int .i64 sq, .int .i64 tm, .bool xf, .bool xe, .bool xk, .string xt] 106)) ?_ ⟨_, rfl, w', hB, rfl, updR_at _ _ _⟩
      generalize a'.eval = ρ at *
      simp [execOp, go_sem, e53]
     | 8, ho =>
      simp at ho; subst ho
      have e47 : a'.eval (.tmp 47) = sv := hvals 0 _ _ (by kernel_rfl) rfl rfl
      have e54 : a'.eval (.tmp 54) = r 0 := hvals 7 _ _ (by kernel_rfl) rfl rfl
      show s = 1 → _ ∧ Oper.wp _ _ _ _ _ _
      intro hs
      subst hs
      refine ⟨rfl, ?_⟩
      obtain ⟨V, hB, hw, hr2⟩ := hI
      rw [hr2] at e54
      subst hw
      obtain ⟨v', w2, hrun, g2, g3⟩ := sk_snoc ⟨nu, ⟨sq, tm, xf, xe, xk, xt⟩⟩ (owns_below HOW.out hB (Nat.le_refl _)) (by omega) (by have := hB.size; omega)
      simp only [Sk.cells] at hrun
      refine oper_wp_ok (v := v') (w' := w2) ?_ ⟨_, rfl, V, hB, ?_, g3⟩
      ·generalize a'.eval = ρ at *
       simp [execOp, resolve, invoke, builtin, e47, e54, hrun, Result.andThen]
      ·rw [updR_at]; exact g2
     | 9, ho =>
      simp at ho; subst ho
      have e55 : a'.eval (.tmp 55) = r 1 := hvals 8 _ _ (by kernel_rfl) rfl rfl
      show s = 2 → _ ∧ Oper.wp _ _ _ _ _ _
      intro hs
      subst hs
      refine ⟨rfl, ?_⟩
      obtain ⟨V, hB, g2, g3⟩ := hI
      refine oper_wp_ok (v := r 1) (w' := w') ?_ ⟨_, rfl, V, hB, ?_, g3⟩
      ·generalize a'.eval = ρ at *
       simp [execOp, go_sem, e55]
      ·rw [updR_at]; exact g2
    case fin =>
     rintro r W7 ⟨V, hB, g2, g3⟩
     simp only [putC, Ck.out, Act.put, List.setIfInBounds_toArray, List.set_cons_succ, List.set_cons_zero]
     have HO7 : Hid (W7.ownsRow base 106 7 (r 2) (k + 1) (skCells (slK l (k + 1)))) := by rw [HSL0.out]; exact g2
     have HB7 : Hid (Below base wA W7) := (((HB1.out.trans (hB.mono hb1)).alloc (by have := hB.size; omega) _).grown g3 (by simp; have := hB.size; omega) (fun j hj => (HOW.out.lt j hj).1))
     clear g2 g3 hB HOW HB1 HSL0 j0 j1 j2 j3 j4 j5 k0
     go_wp2_with fail
     go_roundw
     case rel => exact ⟨k + 1, by omega, by go_num, HO7.out, HB7.out⟩
     case measure => simp [intOf]; omega
def framesE (l : List Sk) : Int := if 100 < l.length then 2 else chkAll l
def framesR (l : List Sk) : List Fr := if framesE l = 0 then framesS l else []
theorem Outs.nil (base : Nat) (w : World) : Outs base w (.slice none 0 0) [] := ⟨[], rfl, World.ownsRow_nil _ _ _ _, fun _ hp => absurd hp List.not_mem_nil⟩
set_option maxHeartbeats 2000000 in
set_option maxRecDepth 100000 in
theorem frameAll_any (v : Value) (l : List Sk) (w : World) (hv : Sls w v l) (hlen : l.length ≤ 9223372036854775807) :
  Calls Tryz.prog 37 #[v] w fun e w' => ∃ u, e = .returned (.tuple #[u, .int .i64 (framesE l)]) ∧ Outs w.heap.size w' u (framesR l) ∧ Below w.heap.size w w' := by
 obtain ⟨i0, hi, hz0, hz1, hz2⟩ := info_parts Tryz.infoFrm
 obtain ⟨ao, c, hva, hc⟩ := hv.parts
 obtain ⟨n, hn⟩ : ∃ n, n = l.length := ⟨_, rfl⟩
 have HN : Hid (n = l.length) := hn
 have HC : Hid (∀ k, k < l.length → ∃ b off, ao = some ⟨b, off, none⟩ ∧ b < w.heap.size ∧ At7 w b (off + k * 7) (l[k]?.getD Sk.zero)) := hc
 rw [← hn] at hva hlen
 obtain ⟨E, hE⟩ : ∃ E, E = framesE l := ⟨_, rfl⟩
 have HE : Hid (E = if 100 < n then 2 else chkAll l) := by show _ = _; rw [hE, hn]; rfl
 obtain ⟨R, hR⟩ : ∃ R, R = framesR l := ⟨_, rfl⟩
 have HR : Hid (R = if E = 0 then (upA l n).2 else []) := by show _ = _; rw [hR, hE, hn]; rfl
 rw [← hE, ← hR]
 clear hv hc hn hE hR
 subst hva
 by_cases h1 : 100 < n
 ·have hE2 : E = 2 := by rw [HE.out, if_pos h1]
  have hR2 : R = [] := by rw [HR.out, hE2]; rfl
  rw [hE2, hR2]
  go_enter Tryz.func37, Tryz.ntmps37
  go_wp2
  exact bodyPost_ret (v := .tuple #[.slice none 0 0, .int .i64 2]) (by simp [results, Tryz.results37, go_sem]) rfl ⟨_, rfl, Outs.nil _ _, Below.refl _ _⟩
 have hl100 : n ≤ 100 := by omega
 have HE2 : Hid (E = chkAll l) := by show _ = _; rw [HE.out, if_neg h1]
 clear h1 HE
 go_enter Tryz.func37, Tryz.ntmps37
 go_wp2_with fail
 go_loopw [5, 16] (fun s6 i wr => ∃ (k : Nat) (u : Value), k ≤ n ∧ i = .int .i64 k ∧ s6 = u ∧ Hid (Outs w.heap.size wr u (upA l k).2) ∧ Hid (Make w.heap.size w.heap.size wr (upA l k).1) ∧ Hid ((upA l k).1.length ≤ 3) ∧ Hid ((upA l k).2.length ≤ k) ∧ Hid (∀ y ∈ (upA l k).1, y.chk = 0) ∧ Hid (chkAll (l.take k) = 0) ∧ Hid (Below w.heap.size w wr))
  (fun _ i _ => n - (intOf i).toNat)
 case atStart =>
  refine ⟨0, _, Nat.zero_le _, rfl, rfl, ?_, ⟨_, Blk.new w _ _, World.ownsRow_nil _ _ _ _⟩, (show _ ≤ _ from Nat.zero_le _), (show _ ≤ _ from Nat.le_refl _), (show ∀ y ∈ _, _ from fun y hy => absurd hy List.not_mem_nil), (show chkAll (l.take 0) = 0 from rfl), (Below.refl _ w).alloc (Nat.le_refl _) _⟩
  exact ⟨[], rfl, World.ownsRow_nil _ _ _ _, fun p hp => absurd hp List.not_mem_nil⟩
 case round =>
  obtain ⟨k, u, hk, rfl, rfl, HOut, HMk, H3, HLn, HCk, HCA, HB⟩ := hrel
  have BW : Hid (Below w.heap.size w wr) := HB.out
  by_cases hlt : k < n
  ·obtain ⟨b, off, rfl, hbb, hat⟩ := HC.out k (by rw [← HN.out]; exact hlt)
   obtain ⟨c0, c1, c2, c3, c4, c5, c6⟩ := hat.below BW.out hbb
   obtain ⟨x, hx⟩ : ∃ x, x = l[k]?.getD Sk.zero := ⟨_, rfl⟩
   rw [← hx] at c0 c1 c2 c3 c4 c5 c6
   have HX : Hid (x = l[k]?.getD Sk.zero) := hx
   have hlti : (k : Int) < (n : Int) := by omega
   by_cases hx0 : x.chk = 0
   case neg =>
    have hE3 : E = x.chk := by rw [HE2.out, hx]; exact chkAll_take_no (by rw [← HN.out]; exact hlt) HCA.out (by rw [← hx]; exact hx0)
    have hR3 : R = [] := by rw [HR.out, hE3, if_neg hx0]
    have HSC : Hid (∀ w' : World, Calls Tryz.prog 83 #[.agg #[.int .i64 x.n, .int .i64 x.p.seq, .int .i64 x.p.time, .bool x.p.f, .bool x.p.e, .bool x.p.k, .string x.p.t]] w' fun e w'' => e = .returned (.int .i64 E) ∧ Below w'.heap.size w' w'') := fun w' => by rw [hE3]; exact slotCheck_any x w'
    have hE0 : ¬ E = 0 := by rw [hE3]; exact hx0
    have HR3 : Hid (R = []) := hR3
    clear hat hx hx0 hE3 hR3 HOut HMk
    go_wp2_with fail
    refine (HSC.out _).mono ?_
    rintro e w2 ⟨rfl, hb2⟩
    have B2 : Hid (Below w.heap.size w w2) := HB.out.trans ((((Below.refl _ wr).alloc (Nat.le_refl _) _).trans (hb2.mono (by simp))).mono HB.out.size)
    clear hb2 c0 c1 c2 c3 c4 c5 c6
    go_wp2
    exact bodyPost_ret (v := .tuple #[.slice none 0 0, .int .i64 E]) (by simp [results, Tryz.results37, go_sem]) rfl ⟨_, rfl, by rw [HR3.out]; exact Outs.nil _ _, B2.out⟩
   have HUP : Hid (upA l (k + 1) = stepA (upA l k) x) := by show _ = _; rw [hx]; exact upA_succ l k (by rw [← HN.out]; exact hlt)
   clear hat hx
   obtain ⟨O, F, hOF⟩ : ∃ O F, upA l k = (O, F) := ⟨_, _, rfl⟩
   rw [hOF] at HOut HMk H3 HLn HCk HUP
   obtain ⟨au, cu, eu⟩ := HOut.out.len
   obtain ⟨ov, kM, kO⟩ := HMk.out
   obtain ⟨m, hm⟩ : ∃ m, m = F.length := ⟨_, rfl⟩
   rw [show (O, F).2 = F from rfl, ← hm] at eu
   have HM : Hid (m = F.length) := hm
   have hmk : m ≤ 100 := by have h := HLn.out; change F.length ≤ k at h; omega
   clear hOF hm
   subst eu
   have hO3 : O.length ≤ 3 := H3.out
   have hOc : ∀ y ∈ O, y.chk = 0 := HCk.out
   have HO3 : Hid (O.length ≤ 3) := hO3
   have HOC : Hid (∀ y ∈ O, y.chk = 0) := hOc
   have HXC : Hid (x.chk = 0) := hx0
   have HOF : Hid (Outs w.heap.size wr (.slice au m cu) F) := HOut.out
   have HLN : Hid (F.length ≤ k) := HLn.out
   have KM : Hid (Blk wr w.heap.size #[ov] 133) := kM
   have KO : Hid (wr.ownsRow w.heap.size 106 7 ov O.length (skCells O)) := kO
   have HCo : Hid (∀ w' : World, Calls Tryz.prog 85 #[.agg #[.int .i64 x.n, .int .i64 x.p.seq, .int .i64 x.p.time, .bool x.p.f, .bool x.p.e, .bool x.p.k, .string x.p.t]] w' fun e w'' => e = .returned (.agg #[.int .i64 x.n, .int .i64 x.p.seq, .int .i64 x.p.time, .bool x.p.f, .bool x.p.e, .bool x.p.k, .string x.p.t]) ∧ Below w'.heap.size w' w'') := fun w' => slotCopy_any x w' (Sk.chk_short hx0)
   have HAd : Hid (∀ w' : World, Blk w' w.heap.size #[ov] 133 → w'.ownsRow w.heap.size 106 7 ov O.length (skCells O) →
     Calls Tryz.prog 84 #[.pointer (some ⟨w.heap.size, 0, none⟩), .agg #[.int .i64 x.n, .int .i64 x.p.seq, .int .i64 x.p.time, .bool x.p.f, .bool x.p.e, .bool x.p.k, .string x.p.t]] w' fun e w'' => ∃ pv, e = .returned (.tuple #[.agg #[.int .i64 (addT O x), .bool (addK O x), pv], .bool (addW O x)]) ∧ Strs w'' pv (addP O x) ∧ (∀ g, pv.ownBlock = some g → w.heap.size ≤ g ∧ ∃ cur, Blk w'' g cur 9) ∧ Make w.heap.size w.heap.size w'' (addO O x) ∧ Below w.heap.size w' w'' ∧ ∀ j, j < w'.heap.size → j ≠ w.heap.size → some j ≠ ov.ownBlock → w''.heap[j]? = w'.heap[j]?) := fun w' h1 h2 =>
    add_any w.heap.size w.heap.size O x w' ov h1 h2 (Nat.le_refl _) (fun y hy => by have := Sk.chk_zero (hOc y hy); omega) (by omega)
   have HSC : Hid (∀ w' : World, Calls Tryz.prog 83 #[.agg #[.int .i64 x.n, .int .i64 x.p.seq, .int .i64 x.p.time, .bool x.p.f, .bool x.p.e, .bool x.p.k, .string x.p.t]] w' fun e w'' => e = .returned (.int .i64 0) ∧ Below w'.heap.size w' w'') := fun w' => by rw [← hx0]; exact slotCheck_any x w'
   have HCA2 : Hid (chkAll (l.take (k + 1)) = 0) := by show _ = _; exact chkAll_take_ok (by rw [← HN.out]; exact hlt) HCA.out (by rw [← HX.out]; exact hx0)
   clear kM kO HOut HMk H3 HLn HCk hO3 hOc hx0
   obtain ⟨rT, hrT⟩ : ∃ rT, rT = addT O x := ⟨_, rfl⟩
   obtain ⟨rK, hrK⟩ : ∃ rK, rK = addK O x := ⟨_, rfl⟩
   obtain ⟨rW, hrW⟩ : ∃ rW, rW = addW O x := ⟨_, rfl⟩
   obtain ⟨rP, hrP⟩ : ∃ rP, rP = addP O x := ⟨_, rfl⟩
   rw [← hrT, ← hrK, ← hrW, ← hrP] at HAd
   have HST : Hid (stepA (O, F) x = (addO O x, if rW then F ++ [⟨rT, rK, rP⟩] else F)) := by show _ = _; rw [hrT, hrK, hrW, hrP]; rfl
   have HPL : Hid (rP.length ≤ 4) := by show _ ≤ _; rw [hrP]; exact addP_len O x HO3.out
   clear hrT hrK hrW hrP
   go_wp2_with fail
   refine (HSC.out _).mono ?_
   rintro e w1 ⟨rfl, hb1⟩
   have bA1 : Below wr.heap.size wr w1 := ((Below.refl _ wr).alloc (Nat.le_refl _) _).trans (hb1.mono (by simp))
   obtain ⟨y0, y1, y2, y3, y4, y5, y6⟩ := ((Blk.new wr #[.int .i64 x.n, .int .i64 x.p.seq, .int .i64 x.p.time, .bool x.p.f, .bool x.p.e, .bool x.p.k, .string x.p.t] 106).below hb1 (by simp)).seven
   have BA1 : Hid (Below wr.heap.size wr w1) := bA1
   clear bA1 hb1 c0 c1 c2 c3 c4 c5 c6
   go_wp2_with fail
   refine (HCo.out _).mono ?_
   rintro e w2 ⟨rfl, hb2⟩
   have bA : Below wr.heap.size wr w2 := BA1.out.trans (hb2.mono BA1.out.size)
   have kM2 : Hid (Blk w2 w.heap.size #[ov] 133) := KM.out.below bA KM.out.lt
   have kO2 : Hid (w2.ownsRow w.heap.size 106 7 ov O.length (skCells O)) := owns_below KO.out bA (Nat.le_refl _)
   have out2 : Hid (Outs w.heap.size w2 (.slice au m cu) F) := HOF.out.below bA
   have HB2 : Hid (Below w.heap.size w w2) := HB.out.trans (bA.mono HB.out.size)
   clear bA hb2 y0 y1 y2 y3 y4 y5 y6 KM KO HOF HCo BA1 HSC
   go_wp2_with fail
   refine (HAd.out _ kM2.out kO2.out).mono ?_
   rintro e w3 ⟨pv, rfl, hst3, hfr3, hmk3, hb3, oth3⟩
   have out3 : Hid (Outs w.heap.size w3 (.slice au m cu) F) := out2.out.same hb3.size
    (fun g cur hc => oth3 g hc.lt (fun e => Apart_type hc kM2.out (by decide) e) (fun e => by obtain ⟨_, cur2, h2⟩ := owns_blk kO2.out e.symm; exact Apart_type hc h2 (by decide) rfl))
    (fun g cur hc => oth3 g hc.lt (fun e => Apart_type hc kM2.out (by decide) e) (fun e => by obtain ⟨_, cur2, h2⟩ := owns_blk kO2.out e.symm; exact Apart_type hc h2 (by decide) rfl))
   have HB3 : Hid (Below w.heap.size w w3) := HB2.out.trans hb3
   have HMK3 : Hid (Make w.heap.size w.heap.size w3 (addO O x)) := hmk3
   obtain ⟨ap, cp, ep⟩ := hst3.len
   subst ep
   have GD3 : Hid (Good w3 (⟨rT, rK, rP⟩, .slice ap rP.length cp)) := ⟨hst3, HPL.out, fun g hg => (hfr3 g hg).2⟩
   clear hst3 hfr3 hmk3 hb3 oth3 kM2 kO2 out2 HB2 HAd
   cases rW
   ·go_wp2_with fail
    go_roundw
    case rel =>
     have e : upA l (k + 1) = (addO O x, F) := by rw [HUP.out, HST.out]; rfl
     refine ⟨k + 1, _, by omega, by go_num, rfl, ?_⟩
     rw [e]
     have bA : Below w3.heap.size w3 (w3.alloc (.cells #[.int .i64 rT, .bool rK, .slice ap rP.length cp] 98)) := (Below.refl _ w3).alloc (Nat.le_refl _) _
     obtain ⟨ov3, q1, q2⟩ := HMK3.out
     exact ⟨out3.out.below bA, ⟨ov3, q1.alloc _, q2.alloc _⟩, addO_len O x HO3.out, (show F.length ≤ k + 1 by have := HLN.out; omega), (show ∀ y ∈ addO O x, _ from fun y hy => (addO_mem hy).elim (HOC.out y) (fun e => by rw [e]; exact HXC.out)), HCA2.out, HB3.out.alloc HB3.out.size _⟩
    case measure => simp [intOf]; omega
   ·obtain ⟨ps, hp1, hp2, hp3⟩ := out3.out
    have hpl : ps.length = m := by rw [HM.out, ← hp1, List.length_map]
    rw [hpl] at hp2
    have HP1 : Hid (ps.map Prod.fst = F) := hp1
    have HP3 : Hid (∀ p ∈ ps, Good w3 p) := hp3
    have HPN : Hid (ps.length = m) := hpl
    have OW3 : Hid (w3.ownsRow w.heap.size 98 3 (.slice au m cu) m (frCells ps)) := hp2
    clear hp1 hp2 hp3 hpl
    have own1 : Hid (((w3.alloc (.cells #[.int .i64 rT, .bool rK, .slice ap rP.length cp] 98)).alloc (.cells #[.int .i64 rT, .bool rK, .slice ap rP.length cp] 98)).ownsRow w.heap.size 98 3 (.slice au m cu) m (frCells ps)) := (OW3.out.alloc _).alloc _
    have new : Hid (∀ j u, [Value.int .i64 rT, .bool rK, .slice ap rP.length cp][j]? = some u → ((w3.alloc (.cells #[.int .i64 rT, .bool rK, .slice ap rP.length cp] 98)).alloc (.cells #[.int .i64 rT, .bool rK, .slice ap rP.length cp] 98)).cell? ((⟨w3.heap.size + 1, 0, none⟩ : Addr).add j) = some u) := fun j u hj => by
     have hb := Blk.new (w3.alloc (.cells #[.int .i64 rT, .bool rK, .slice ap rP.length cp] 98)) #[.int .i64 rT, .bool rK, .slice ap rP.length cp] 98
     simp only [World.size_alloc] at hb
     match j, hj with
     | 0, hj => simp at hj; subst hj; exact hb.three.1
     | 1, hj => simp at hj; subst hj; exact hb.three.2.1
     | 2, hj => simp at hj; subst hj; exact hb.three.2.2
    have one1 : Hid (∀ u ∈ [Value.int .i64 rT, .bool rK, .slice ap rP.length cp], u.oneCell' = true) := fun u hu => by
     simp at hu
     rcases hu with rfl | rfl | rfl <;> rfl
    have l1 : Hid (m + 1 ≤ maxLen) := by show _ ≤ _; unfold maxLen; omega
    have l2 : Hid ((m + 1) * 40 ≤ 140737488355328) := by show _ ≤ _; omega
    have l3 : Hid (w.heap.size ≤ ((w3.alloc (.cells #[.int .i64 rT, .bool rK, .slice ap rP.length cp] 98)).alloc (.cells #[.int .i64 rT, .bool rK, .slice ap rP.length cp] 98)).heap.size) := by show _ ≤ _; have := HB3.out.size; simp; omega
    have aft : Hid (∀ v' w4, w4.ownsRow w.heap.size 98 3 v' (m + 1) (frCells ps ++ [Value.int .i64 rT, .bool rK, .slice ap rP.length cp]) → ((w3.alloc (.cells #[.int .i64 rT, .bool rK, .slice ap rP.length cp] 98)).alloc (.cells #[.int .i64 rT, .bool rK, .slice ap rP.length cp] 98)).grownBy w4 (Value.slice au m cu).ownBlock →
      Outs w.heap.size w4 v' (F ++ [⟨rT, rK, rP⟩]) ∧ Make w.heap.size w.heap.size w4 (addO O x) ∧ Below w.heap.size w w4) := fun v' w4 ho4 hg4 => by
     have hsz := hg4.size
     simp only [World.size_alloc] at hsz
     have hown : ∀ g cur ty, Blk w3 g cur ty → ty ≠ 98 → w4.heap[g]? = w3.heap[g]? := fun g cur ty hc hne => by
      rw [hg4.block g (by have := hc.lt; simp; omega) (fun e => by obtain ⟨_, cur2, h2⟩ := owns_blk OW3.out e.symm; exact Apart_type hc h2 hne rfl), Below.heap_alloc _ _ _ (by have := hc.lt; simp; omega), Below.heap_alloc _ _ _ hc.lt]
     refine ⟨⟨ps ++ [(⟨rT, rK, rP⟩, .slice ap rP.length cp)], by rw [List.map_append, HP1.out]; rfl, ?_, fun p hp => ?_⟩, ?_, ?_⟩
     ·rw [List.length_append, HPN.out, frCells_append]
      exact ho4
     ·rcases List.mem_append.1 hp with hp | hp
      ·exact (HP3.out p hp).same (by omega) (fun g cur hc => hown g cur _ hc (by decide))
      ·simp at hp
       subst hp
       exact GD3.out.same (by omega) (fun g cur hc => hown g cur _ hc (by decide))
     ·obtain ⟨ov3, q1, q2⟩ := HMK3.out
      exact ⟨ov3, (hown _ _ _ q1 (by decide)).trans q1, owns_same q2 (fun g hg => by obtain ⟨_, cur2, h2⟩ := owns_blk q2 hg; exact hown _ _ _ h2 (by decide))⟩
     ·exact ((HB3.out.alloc HB3.out.size _).alloc (by have := HB3.out.size; simp; omega) _).grown hg4 (by have := HB3.out.size; simp; omega) (fun j hj => (OW3.out.lt j hj).1)
    clear out3 OW3
    go_wp2_with (at_builtin; refine wpList_append_own2 _ rfl _ _ 28 rfl w.heap.size 98 i0 _ 3 40 Tryz.underlying28 hi hz0 hz1 hz2 rfl (by decide) _ m (frCells ps) rfl own1.out ⟨w3.heap.size + 1, 0, none⟩ 1 1 [Value.int .i64 rT, .bool rK, .slice ap rP.length cp] rfl rfl new.out one1.out l1.out l2.out l3.out ?_; intro v' w4 ho4 hg4 _; have AF : Hid _ := aft.out v' w4 ho4 hg4; clear ho4 hg4)
    go_roundw
    case rel =>
     have e : upA l (k + 1) = (addO O x, F ++ [⟨rT, rK, rP⟩]) := by rw [HUP.out, HST.out]; rfl
     refine ⟨k + 1, _, by omega, by go_num, rfl, ?_⟩
     rw [e]
     exact ⟨AF.out.1, AF.out.2.1, addO_len O x HO3.out, (show (F ++ [_]).length ≤ k + 1 by have := HLN.out; simp; omega), (show ∀ y ∈ addO O x, _ from fun y hy => (addO_mem hy).elim (HOC.out y) (fun e => by rw [e]; exact HXC.out)), HCA2.out, AF.out.2.2⟩
    case measure => simp [intOf]; omega
  ·have hkl : k = n := by omega
   subst hkl
   obtain ⟨au, cu, eu⟩ := HOut.out.len
   obtain ⟨m, hm⟩ : ∃ m, m = (upA l k).2.length := ⟨_, rfl⟩
   rw [← hm] at eu
   subst eu
   have hE0 : E = 0 := by
    have h := HCA.out
    rw [HN.out, List.take_length] at h
    rw [HE2.out, h]
   have OUT : Hid (Outs w.heap.size wr (.slice au m cu) R) := by
    show Outs _ _ _ _
    rw [HR.out, hE0, if_pos rfl]
    exact HOut.out
   have HE0 : Hid (E = 0) := hE0
   clear HOut hm hE0
   go_wp2
   exact bodyPost_ret (v := .tuple #[.slice au m cu, .int .i64 0]) (by simp [results, Tryz.results37, go_sem]) rfl ⟨_, by rw [HE0.out], OUT.out, BW.out⟩
end Go.Proofs.YtnpaejknoipicagGreat
