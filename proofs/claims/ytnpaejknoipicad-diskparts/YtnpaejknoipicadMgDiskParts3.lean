/-
  The law DiskParts.
-/
import Derived.Test.YtnpaejknoipicadMgDiskParts2
import Derived.Test.YtnpaejknoipicadRegChainG
import Derived.Test.YtnpaejknoipicadNest
import Derived.Test.YtnpaejknoipicadBlocks
import Derived.Test.YtnpaejknoipicadRegChain
import Derived.Deep.DeepCutAuto
import Derived.Test.YtnpaejknoipicadFrameRows
import Derived.Test.YtnpaejknoipicadMgDiskParts1
import Derived.Lib.QuietBelow
import Derived.BigQuiet

namespace Go.Proofs.Ytnpaejknoipicad
open Go.RowKit

set_option maxHeartbeats 8000000 in
set_option maxRecDepth 100000 in
theorem diskOpen_any (l : List UInt8) (s : Int) (w : World) :
    Calls Try.prog 14 #[.agg #[.string (ba l), .int .i64 s]] w fun e w' => ∃ (f : Int) (gv : Value) (X : ByteArray) (N : Int), e = .returned (.tuple #[.agg #[.int .i64 f, gv, .slice none 0 0], .agg #[.string X, .int .i64 N], .int .i64 (diskE l s)]) ∧ Below w.heap.size w w' ∧
      (diskE l s = 0 → f = opF l ∧ GrsIn (fun g => w.heap.size ≤ g) w' gv (opL l) ∧ X = ba (l.take (dEnd l)) ∧ N = (dEnd l : Int)) ∧ (¬ diskE l s = 0 → f = 0 ∧ gv = .slice none 0 0 ∧ X = ⟨#[]⟩ ∧ N = 0) := by
  obtain ⟨e, he⟩ : ∃ e, e = diskE l s := ⟨_, rfl⟩
  obtain ⟨ll, hll⟩ : ∃ x, x = l.length := ⟨_, rfl⟩
  obtain ⟨k, hk⟩ : ∃ k, k = dEnd l := ⟨_, rfl⟩
  obtain ⟨a, ha⟩ : ∃ a, a = l.take k := ⟨_, rfl⟩
  obtain ⟨F, hF⟩ : ∃ F, F = opF l := ⟨_, rfl⟩
  obtain ⟨LL, hLL⟩ : ∃ L, L = opL l := ⟨_, rfl⟩
  have hsl : (ba l).size = ll := by rw [ba_size, hll]
  have HEX : Hid ((ba l).extract 0 k = ba a) := by show _ = _; rw [ha, ba_take]
  have HKL : Hid (k ≤ ll) := by show _ ≤ _; rw [hk, hll]; exact (whole_facts l).2.2.1
  have HRT : Hid (e = 0 → (∀ g ∈ dGs l, gchk g = 0) ∧ 0 ≤ dFirst l ∧ dFirst l + ((dGs l).length - 1 : Nat) ≤ 100000 ∧ (dGs l).length ≤ 1000 ∧ ll ≤ 2000) := fun h => by
    rw [he] at h
    obtain ⟨h1, h2, h3⟩ := dGs_right h
    have h4 := endK_ge (recs l) _ (Nat.le_refl _)
    have h5 := recs_le l (Nat.le_refl _)
    have h6 := dGs_length l
    have h7 := (diskE_zero.1 h).1
    exact ⟨h1, h2, h3, by omega, by omega⟩
  have HRD : Hid (∀ W, Calls Try.prog 43 #[.agg #[.string (ba l), .int .i64 s]] W fun r w' => ∃ (f : Int) (ga : Option Addr) (m gc E : Nat) (t : Bool), r = .returned (.tuple #[.agg #[.int .i64 f, .slice ga m gc, .int .i64 E, .bool t], .int .i64 e]) ∧ Below W.heap.size W w' ∧ (e = 0 → f = dFirst l ∧ E = k ∧ GrsIn (fun g => W.heap.size ≤ g) w' (.slice ga m gc) (dGs l))) := fun W => by
    rw [he, hk]; exact (rd_any l s W).mono (fun _ _ ⟨f, ga, m, gc, E, t, h1, h2, h3⟩ => ⟨f, ga, m, gc, E, t, h1, h2, fun h => ⟨(h3 h).1, (h3 h).2.2.1, (h3 h).2.2.2.2⟩⟩)
  have HSY : Hid (ll ≤ 2000 → ∀ W, Calls Try.prog 45 #[.string (ba a)] W fun e w' => e = .returned (.agg #[.string (ba a), .int .i64 (k : Int)]) ∧ Below W.heap.size W w') := fun h W => by
    have h1 : a.length = k := by have := HKL.out; rw [ha, List.length_take]; omega
    have := diskSynced_any a W (by have := HKL.out; omega)
    rw [h1] at this; exact this
  have HOF : Hid (F = dFirst l + trimD (dGs l) ∧ LL = (dGs l).drop (trimD (dGs l))) := ⟨hF, hLL⟩
  rw [← he, ← hF, ← hLL, ← hk, ← ha]
  clear he hk ha hll hF hLL
  go_enter Try.func14, Try.ntmps14
  go_wp2_with fail
  refine (HRD.out _).mono ?_
  rintro q w1 ⟨f, ga, m, gc, E, t, rfl, b1, hc⟩
  obtain ⟨V1, hV1⟩ : ∃ V, V = w.alloc (.cells #[.string (ba l), .int .i64 s] 39) := ⟨_, rfl⟩
  obtain ⟨V2, hV2⟩ : ∃ V, V = V1.alloc (.cells #[.int .i64 0, .slice none 0 0, .slice none 0 0] 27) := ⟨_, rfl⟩
  obtain ⟨V3, hV3⟩ : ∃ V, V = V2.alloc (.cells #[.string ⟨#[]⟩, .int .i64 0] 39) := ⟨_, rfl⟩
  rw [← hV1, ← hV2, ← hV3] at b1 hc
  have s1 : V1.heap.size = w.heap.size + 1 := by rw [hV1, World.size_alloc]
  have s2 : V2.heap.size = w.heap.size + 1 + 1 := by rw [hV2, World.size_alloc, s1]
  have s3 : V3.heap.size = w.heap.size + 1 + 1 + 1 := by rw [hV3, World.size_alloc, s2]
  have kA : Blk V3 w.heap.size #[.string (ba l), .int .i64 s] 39 := by rw [hV3, hV2]; exact ((Blk.newE hV1).alloc _).alloc _
  have kS : Blk V3 (w.heap.size + 1) #[.int .i64 0, .slice none 0 0, .slice none 0 0] 27 := by rw [hV3]; exact (s1 ▸ Blk.newE hV2 : Blk V2 (w.heap.size + 1) _ _).alloc _
  have kD : Blk V3 (w.heap.size + 1 + 1) #[.string ⟨#[]⟩, .int .i64 0] 39 := s2 ▸ Blk.newE hV3
  have bV : Below w.heap.size w V3 := by rw [hV3, hV2, hV1]; exact (((Below.refl _ w).alloc (Nat.le_refl _) _).alloc (by simp) _).alloc (by simp; omega) _
  obtain ⟨W2, hW2⟩ : ∃ W2, W2 = w1.alloc (.cells #[.int .i64 f, .slice ga m gc, .int .i64 E, .bool t] 81) := ⟨_, rfl⟩
  have HW2 : Hid (W2 = w1.alloc (.cells #[.int .i64 f, .slice ga m gc, .int .i64 E, .bool t] 81)) := hW2
  have hw1 : Below w.heap.size w w1 := bV.trans (b1.mono bV.size)
  have HA2 : Hid (Blk W2 w.heap.size #[.string (ba l), .int .i64 s] 39) := by show Blk _ _ _ _; rw [hW2]; exact (kA.below b1 kA.lt).alloc _
  have HS2 : Hid (Blk W2 (w.heap.size + 1) #[.int .i64 0, .slice none 0 0, .slice none 0 0] 27) := by show Blk _ _ _ _; rw [hW2]; exact (kS.below b1 kS.lt).alloc _
  have HD2 : Hid (Blk W2 (w.heap.size + 1 + 1) #[.string ⟨#[]⟩, .int .i64 0] 39) := by show Blk _ _ _ _; rw [hW2]; exact (kD.below b1 kD.lt).alloc _
  have HLW : Hid (w.heap.size + 3 ≤ w1.heap.size ∧ W2.heap.size = w1.heap.size + 1) := ⟨by have := b1.size; omega, by rw [hW2, World.size_alloc]⟩
  have HB : Hid (Below w.heap.size w W2) := by show Below _ _ _; rw [hW2]; exact hw1.alloc hw1.size _
  have HCC : Hid (e = 0 → f = dFirst l ∧ E = k ∧ GrsIn (fun g => w.heap.size + 3 ≤ g) W2 (.slice ga m gc) (dGs l)) := fun h => by
    obtain ⟨h1, h2, h3⟩ := hc h
    refine ⟨h1, h2, ?_⟩
    rw [hW2]; exact (h3.mono (fun g _ hg => by have : V3.heap.size ≤ g := hg; show w.heap.size + 3 ≤ g; omega)).alloc _
  have HC0 : Hid (Blk W2 w1.heap.size #[.int .i64 f, .slice ga m gc, .int .i64 (E : Int), .bool t] 81) := Blk.newE hW2
  clear HRD b1 hc hV1 hV2 hV3 s1 s2 s3 kA kS kD bV hW2 hw1
  by_cases h : e = 0
  · obtain ⟨c1, c2, c3⟩ := HCC.out h
    obtain ⟨r1, r2, r3, r4, r5⟩ := HRT.out h
    have c2' := c2.symm
    subst h c2'
    obtain ⟨S, hS⟩ : ∃ S : Nat → Prop, S = fun g => w.heap.size + 3 ≤ g ∧ g < W2.heap.size := ⟨_, rfl⟩
    have HSS : Hid (∀ g, S g → w.heap.size + 3 ≤ g) := fun g hg => by rw [hS] at hg; exact hg.1
    have HWL : Hid (∀ V : World, Below W2.heap.size W2 V → Calls Try.prog 44 #[.int .i64 f, .slice ga m gc] V fun e w' => ∃ xa xm xc, e = .returned (.agg #[.int .i64 F, .slice xa xm xc, .slice none 0 0]) ∧ GrsIn S w' (.slice xa xm xc) LL ∧ Below V.heap.size V w') := fun V hV => by
      have g1 : GrsIn S V (.slice ga m gc) (dGs l) := (c3.mono (S' := S) (fun g hg hg2 => by rw [hS]; exact ⟨hg2, hg⟩)).below hV
      refine (withinLimits_any S f _ (dGs l) V g1 (fun g hg => by rw [hS] at hg; have := hV.size; omega) r4 r1 (by rw [c1]; exact r2) (by rw [c1]; exact r3)).mono ?_
      rintro e w' ⟨gv', rfl, h1, h2⟩
      obtain ⟨xa, xc, ex, _, _⟩ := h1.len
      rw [ex] at h1
      refine ⟨xa, _, xc, by rw [ex, HOF.out.1, c1], ?_, h2⟩
      rw [HOF.out.2]; exact h1
    have HSY2 : Hid (∀ W, Calls Try.prog 45 #[.string (ba a)] W fun e w' => e = .returned (.agg #[.string (ba a), .int .i64 (k : Int)]) ∧ Below W.heap.size W w') := HSY.out r5
    have FIN : Hid (∀ (V : World) (gv : Value), GrsIn S V gv LL → F = F ∧ GrsIn (fun g => w.heap.size ≤ g) V gv LL ∧ ba a = ba a ∧ (k : Int) = k) := fun V gv h => ⟨rfl, h.mono (fun g _ hg => by have := HSS.out g hg; show w.heap.size ≤ g; omega), rfl, rfl⟩
    have HKK : Hid ((k : Int) ≤ (ll : Int)) := by have := HKL.out; show _ ≤ _; omega
    have HC2 : Hid (Blk W2 w1.heap.size #[.int .i64 f, .slice ga m gc, .int .i64 (k : Int), .bool t] 81) := HC0.out
    clear c1 c2 c3 r1 r2 r3 r4 hS HCC HRT HC0 HSY HKL HOF
    have HSY := HSY2
    clear HSY2
    go_upto_region 4 with fail
    rw [← HW2.out]
    clear HW2
    have hex : (ba l).extract 0 k = ba a := HEX.out
    have hki : (k : Int) ≤ (ll : Int) := HKK.out
    refine region_chainG (by kernel_rfl) (by kernel_rfl) [.quiet (.pointer (some ⟨w1.heap.size, 0, none⟩)) 4, .quiet (.int .i64 f) 4, .quiet (.pointer (some ⟨w1.heap.size, 1, none⟩)) 4, .quiet (.slice ga m gc) 4, .step 0, .quiet (.pointer (some ⟨w.heap.size, 0, none⟩)) 4, .quiet (.string (ba l)) 4, .quiet (.pointer (some ⟨w1.heap.size, 2, none⟩)) 4, .quiet (.int .i64 (k : Int)) 4, .quiet (.string (ba a)) 4, .step 1, .step 2, .step 3, .quiet (.int .i64 0) 4] [4, 10, 11, 12] (by kernel_rfl)
      (fun s' r w' => match s' with
        | 0 => Below W2.heap.size W2 w'
        | 1 => ∃ xa xm xc, r 0 = .agg #[.int .i64 F, .slice xa xm xc, .slice none 0 0] ∧ GrsIn S w' (.slice xa xm xc) LL ∧ Below W2.heap.size W2 w'
        | 2 => ∃ xa xm xc, r 0 = .agg #[.int .i64 F, .slice xa xm xc, .slice none 0 0] ∧ GrsIn S w' (.slice xa xm xc) LL ∧ r 1 = .agg #[.string (ba a), .int .i64 (k : Int)] ∧ Below W2.heap.size W2 w'
        | 3 => ∃ xa xm xc V, GrsIn S V (.slice xa xm xc) LL ∧ r 1 = .agg #[.string (ba a), .int .i64 (k : Int)] ∧ Below W2.heap.size W2 V ∧ w' = ((V.setCell ⟨w.heap.size + 1, 0, none⟩ (.int .i64 F)).setCell ⟨w.heap.size + 1, 1, none⟩ (.slice xa xm xc)).setCell ⟨w.heap.size + 1, 2, none⟩ (.slice none 0 0)
        | _ => ∃ xa xm xc V, GrsIn S V (.slice xa xm xc) LL ∧ Below W2.heap.size W2 V ∧ w' = ((((V.setCell ⟨w.heap.size + 1, 0, none⟩ (.int .i64 F)).setCell ⟨w.heap.size + 1, 1, none⟩ (.slice xa xm xc)).setCell ⟨w.heap.size + 1, 2, none⟩ (.slice none 0 0)).setCell ⟨w.heap.size + 1 + 1, 0, none⟩ (.string (ba a))).setCell ⟨w.heap.size + 1 + 1, 1, none⟩ (.int .i64 (k : Int))
        ) ((Below.refl _ W2).drew) ?step ?fin
    case step =>
      intro i o ho a' w' s' r hI hfree hvals
      have KAC : Blk w' w.heap.size #[.string (ba l), .int .i64 s] 39 ∧ Blk w' w1.heap.size #[.int .i64 f, .slice ga m gc, .int .i64 (k : Int), .bool t] 81 := by
        have hlw := HLW.out
        have o : ∀ {V : World} {b : Nat} {C : Array Value} {t : TypeId} (n j : Nat) (v : Value), Blk V b C t → b ≠ n → Blk (V.setCell ⟨n, j, none⟩ v) b C t := fun n j v h hn => h.other (a := ⟨n, j, none⟩) hn v
        match s', hI with
        | 0, hI => exact ⟨HA2.out.below hI HA2.out.lt, HC2.out.below hI HC2.out.lt⟩
        | 1, ⟨_, _, _, _, _, hI⟩ => exact ⟨HA2.out.below hI HA2.out.lt, HC2.out.below hI HC2.out.lt⟩
        | 2, ⟨_, _, _, _, _, _, hI⟩ => exact ⟨HA2.out.below hI HA2.out.lt, HC2.out.below hI HC2.out.lt⟩
        | 3, ⟨_, _, _, V, _, _, hI, hw⟩ => rw [hw]; exact ⟨o _ _ _ (o _ _ _ (o _ _ _ (HA2.out.below hI HA2.out.lt) (by omega)) (by omega)) (by omega), o _ _ _ (o _ _ _ (o _ _ _ (HC2.out.below hI HC2.out.lt) (by omega)) (by omega)) (by omega)⟩
        | n + 4, ⟨_, _, _, V, _, hI, hw⟩ => rw [hw]; exact ⟨o _ _ _ (o _ _ _ (o _ _ _ (o _ _ _ (o _ _ _ (HA2.out.below hI HA2.out.lt) (by omega)) (by omega)) (by omega)) (by omega)) (by omega), o _ _ _ (o _ _ _ (o _ _ _ (o _ _ _ (o _ _ _ (HC2.out.below hI HC2.out.lt) (by omega)) (by omega)) (by omega)) (by omega)) (by omega)⟩
      have y0 := KAC.1.cell (j := 0) (u := .string (ba l)) rfl
      have x0 := KAC.2.cell (j := 0) (u := .int .i64 f) rfl
      have x1 := KAC.2.cell (j := 1) (u := .slice ga m gc) rfl
      have x2 := KAC.2.cell (j := 2) (u := .int .i64 (k : Int)) rfl
      clear KAC
      match i, ho with
      | 0, ho =>
        simp at ho; subst ho
        have e5 : a'.eval (.tmp 5) = .pointer (some ⟨w1.heap.size, 0, none⟩) := (hfree 5 (by kernel_rfl)).trans rfl
        show s' ≤ 4 → _
        intro hs
        refine .inl ⟨rfl, ?_⟩
        generalize a'.eval = ρ at *
        simp [execOp, go_sem, e5]
      | 1, ho =>
        simp at ho; subst ho
        have e17 : a'.eval (.tmp 17) = .pointer (some ⟨w1.heap.size, 0, none⟩) := hvals 0 _ _ (by kernel_rfl) rfl rfl
        show s' ≤ 4 → _
        intro hs
        refine .inl ⟨rfl, ?_⟩
        generalize a'.eval = ρ at *
        simp [execOp, go_sem, e17, x0]
      | 2, ho =>
        simp at ho; subst ho
        have e5 : a'.eval (.tmp 5) = .pointer (some ⟨w1.heap.size, 0, none⟩) := (hfree 5 (by kernel_rfl)).trans rfl
        show s' ≤ 4 → _
        intro hs
        refine .inl ⟨rfl, ?_⟩
        generalize a'.eval = ρ at *
        simp [execOp, go_sem, e5]
      | 3, ho =>
        simp at ho; subst ho
        have e19 : a'.eval (.tmp 19) = .pointer (some ⟨w1.heap.size, 1, none⟩) := hvals 2 _ _ (by kernel_rfl) rfl rfl
        show s' ≤ 4 → _
        intro hs
        refine .inl ⟨rfl, ?_⟩
        generalize a'.eval = ρ at *
        simp [execOp, go_sem, e19, x1]
      | 4, ho =>
        simp at ho; subst ho
        have e18 : a'.eval (.tmp 18) = .int .i64 f := hvals 1 _ _ (by kernel_rfl) rfl rfl
        have e20 : a'.eval (.tmp 20) = .slice ga m gc := hvals 3 _ _ (by kernel_rfl) rfl rfl
        show s' = 0 → _ ∧ Oper.wp _ _ _ _ _ _
        intro hs
        subst hs
        refine ⟨rfl, ?_⟩
        have hB : Below W2.heap.size W2 w' := hI
        have ef : a'.eval (.func 44) = .func (.func 44) #[] #[] := rfl
        refine oper_wp_call (f := 44) (args := #[.int .i64 f, .slice ga m gc]) ?_ ?_
        · generalize a'.eval = ρ at *
          simp [execOp, go_sem, e18, e20, ef]
        · refine (HWL.out w' hB).mono ?_
          rintro e w'' ⟨xa, xm, xc, rfl, hG, hb1⟩
          exact ⟨_, rfl, _, rfl, xa, xm, xc, updR_at _ _ _, hG, hB.trans (hb1.mono hB.size)⟩
      | 5, ho =>
        simp at ho; subst ho
        have e1 : a'.eval (.tmp 1) = .pointer (some ⟨w.heap.size, 0, none⟩) := (hfree 1 (by kernel_rfl)).trans rfl
        show s' ≤ 4 → _
        intro hs
        refine .inl ⟨rfl, ?_⟩
        generalize a'.eval = ρ at *
        simp [execOp, go_sem, e1]
      | 6, ho =>
        simp at ho; subst ho
        have e22 : a'.eval (.tmp 22) = .pointer (some ⟨w.heap.size, 0, none⟩) := hvals 5 _ _ (by kernel_rfl) rfl rfl
        show s' ≤ 4 → _
        intro hs
        refine .inl ⟨rfl, ?_⟩
        generalize a'.eval = ρ at *
        simp [execOp, go_sem, e22, y0]
      | 7, ho =>
        simp at ho; subst ho
        have e5 : a'.eval (.tmp 5) = .pointer (some ⟨w1.heap.size, 0, none⟩) := (hfree 5 (by kernel_rfl)).trans rfl
        show s' ≤ 4 → _
        intro hs
        refine .inl ⟨rfl, ?_⟩
        generalize a'.eval = ρ at *
        simp [execOp, go_sem, e5]
      | 8, ho =>
        simp at ho; subst ho
        have e24 : a'.eval (.tmp 24) = .pointer (some ⟨w1.heap.size, 2, none⟩) := hvals 7 _ _ (by kernel_rfl) rfl rfl
        show s' ≤ 4 → _
        intro hs
        refine .inl ⟨rfl, ?_⟩
        generalize a'.eval = ρ at *
        simp [execOp, go_sem, e24, x2]
      | 9, ho =>
        simp at ho; subst ho
        have e23 : a'.eval (.tmp 23) = .string (ba l) := hvals 6 _ _ (by kernel_rfl) rfl rfl
        have e25 : a'.eval (.tmp 25) = .int .i64 (k : Int) := hvals 8 _ _ (by kernel_rfl) rfl rfl
        show s' ≤ 4 → _
        intro hs
        refine .inl ⟨rfl, ?_⟩
        generalize a'.eval = ρ at *
        simp [execOp, go_sem, e23, e25, hex, hki, hsl]
      | 10, ho =>
        simp at ho; subst ho
        have e26 : a'.eval (.tmp 26) = .string (ba a) := hvals 9 _ _ (by kernel_rfl) rfl rfl
        show s' = 1 → _ ∧ Oper.wp _ _ _ _ _ _
        intro hs
        subst hs
        refine ⟨rfl, ?_⟩
        obtain ⟨xa, xm, xc, hr0, hG, hB⟩ := hI
        have ef : a'.eval (.func 45) = .func (.func 45) #[] #[] := rfl
        refine oper_wp_call (f := 45) (args := #[.string (ba a)]) ?_ ?_
        · generalize a'.eval = ρ at *
          simp [execOp, go_sem, e26, ef]
        · refine (HSY.out w').mono ?_
          rintro e w'' ⟨rfl, hb1⟩
          exact ⟨_, rfl, _, rfl, xa, xm, xc, (updR_ne (by omega)).trans hr0, hG.below hb1, updR_at _ _ _, hB.trans (hb1.mono hB.size)⟩
      | 11, ho =>
        simp at ho; subst ho
        have e2 : a'.eval (.tmp 2) = .pointer (some ⟨w.heap.size + 1, 0, none⟩) := (hfree 2 (by kernel_rfl)).trans rfl
        have e21 : a'.eval (.tmp 21) = r 0 := hvals 4 _ _ (by kernel_rfl) rfl rfl
        show s' = 2 → _ ∧ Oper.wp _ _ _ _ _ _
        intro hs
        subst hs
        refine ⟨rfl, ?_⟩
        obtain ⟨xa, xm, xc, hr0, hG, hr1, hB⟩ := hI
        rw [hr0] at e21
        have hk := HS2.out.below hB HS2.out.lt
        have v0 := hk.cell (j := 0) (u := .int .i64 0) rfl
        have v1 := hk.cell (j := 1) (u := .slice none 0 0) rfl
        have v2 := hk.cell (j := 2) (u := .slice none 0 0) rfl
        have vf := fun j => hk.free j
        refine oper_wp_skip (w' := ((w'.setCell ⟨w.heap.size + 1, 0, none⟩ (.int .i64 F)).setCell ⟨w.heap.size + 1, 1, none⟩ (.slice xa xm xc)).setCell ⟨w.heap.size + 1, 2, none⟩ (.slice none 0 0)) ?_ ⟨undef, rfl, xa, xm, xc, w', hG, (updR_ne (by omega)).trans hr1, hB, rfl⟩
        generalize a'.eval = ρ at *
        simp [execOp, go_sem, e2, e21, v0, v1, v2, vf]
      | 12, ho =>
        simp at ho; subst ho
        have e3 : a'.eval (.tmp 3) = .pointer (some ⟨w.heap.size + 1 + 1, 0, none⟩) := (hfree 3 (by kernel_rfl)).trans rfl
        have e27 : a'.eval (.tmp 27) = r 1 := hvals 10 _ _ (by kernel_rfl) rfl rfl
        show s' = 3 → _ ∧ Oper.wp _ _ _ _ _ _
        intro hs
        subst hs
        refine ⟨rfl, ?_⟩
        obtain ⟨xa, xm, xc, V, hG, hr1, hB, rfl⟩ := hI
        rw [hr1] at e27
        have hk := (((HD2.out.below hB HD2.out.lt).other (a := ⟨w.heap.size + 1, 0, none⟩) (by show w.heap.size + 1 + 1 ≠ w.heap.size + 1; omega) (.int .i64 F)).other (a := ⟨w.heap.size + 1, 1, none⟩) (by show w.heap.size + 1 + 1 ≠ w.heap.size + 1; omega) (.slice xa xm xc)).other (a := ⟨w.heap.size + 1, 2, none⟩) (by show w.heap.size + 1 + 1 ≠ w.heap.size + 1; omega) (.slice none 0 0)
        have v0 := hk.cell (j := 0) (u := .string ⟨#[]⟩) rfl
        have v1 := hk.cell (j := 1) (u := .int .i64 0) rfl
        have vf := fun j => hk.free j
        clear x0 x1 x2 y0
        obtain ⟨U, hU⟩ : ∃ U, U = ((V.setCell ⟨w.heap.size + 1, 0, none⟩ (.int .i64 F)).setCell ⟨w.heap.size + 1, 1, none⟩ (.slice xa xm xc)).setCell ⟨w.heap.size + 1, 2, none⟩ (.slice none 0 0) := ⟨_, rfl⟩
        rw [← hU] at v0 v1 vf
        refine oper_wp_skip (w' := (U.setCell ⟨w.heap.size + 1 + 1, 0, none⟩ (.string (ba a))).setCell ⟨w.heap.size + 1 + 1, 1, none⟩ (.int .i64 (k : Int))) ?_ ⟨undef, rfl, xa, xm, xc, V, hG, hB, by rw [hU]⟩
        rw [← hU]
        clear hU hk
        generalize a'.eval = ρ at *
        simp [execOp, go_sem, e3, e27, v0, v1, vf]
      | 13, ho =>
        simp at ho; subst ho
        have ec0 : a'.eval (.const (.int .i64 0)) = .int .i64 0 := rfl
        show s' ≤ 4 → _
        intro hs
        refine .inl ⟨rfl, ?_⟩
        generalize a'.eval = ρ at *
        simp [execOp, go_sem, ec0]
    case fin =>
      rintro r w7 ⟨xa, xm, xc, V, hG, hB, hw⟩
      simp only [putC, Ck.out, Act.put, List.setIfInBounds_toArray, List.set_cons_succ, List.set_cons_zero]
      have o : ∀ {V : World} {b : Nat} {C : Array Value} {t : TypeId} (n j : Nat) (v : Value), Blk V b C t → b ≠ n → Blk (V.setCell ⟨n, j, none⟩ v) b C t := fun n j v h hn => h.other (a := ⟨n, j, none⟩) hn v
      have g : ∀ {V : World} {n j : Nat} {v : Value}, w.heap.size ≤ n → Below w.heap.size w V → Below w.heap.size w (V.setCell ⟨n, j, none⟩ v) := fun hn hb => hb.setCell (p := ⟨_, _, none⟩) hn _
      have so : ∀ {V : World} {n j : Nat} {v : Value}, n < w.heap.size + 3 → GrsIn S V (.slice xa xm xc) LL → GrsIn S (V.setCell ⟨n, j, none⟩ v) (.slice xa xm xc) LL := fun {V n j v} hn h => h.to (SameOn.setCell (S := S) (a := ⟨n, j, none⟩) (fun g hg => by have := HSS.out g hg; show g ≠ n; omega) _) (fun _ _ h => h)
      have ks : Blk w7 (w.heap.size + 1) #[.int .i64 F, .slice xa xm xc, .slice none 0 0] 27 := by
        rw [hw]; exact o _ _ _ (o _ _ _ ((((HS2.out.below hB HS2.out.lt).set 0 (.int .i64 F)).set 1 (.slice xa xm xc)).set 2 (.slice none 0 0)) (by omega)) (by omega)
      have kd : Blk w7 (w.heap.size + 1 + 1) #[.string (ba a), .int .i64 (k : Int)] 39 := by
        rw [hw]; exact ((o _ _ _ (o _ _ _ (o _ _ _ (HD2.out.below hB HD2.out.lt) (by omega)) (by omega)) (by omega)).set 0 (.string (ba a))).set 1 (.int .i64 (k : Int))
      have hBB : Below w.heap.size w w7 := by rw [hw]; exact g (by omega) (g (by omega) (g (by omega) (g (by omega) (g (by omega) (HB.out.trans (hB.mono HB.out.size))))))
      have hGG : GrsIn S w7 (.slice xa xm xc) LL := by rw [hw]; exact so (by omega) (so (by omega) (so (by omega) (so (by omega) (so (by omega) hG))))
      have q0 := ks.cell (j := 0) (u := .int .i64 F) rfl
      have q1 := ks.cell (j := 1) (u := .slice xa xm xc) rfl
      have q2 := ks.cell (j := 2) (u := .slice none 0 0) rfl
      have q3 := kd.cell (j := 0) (u := .string (ba a)) rfl
      have q4 := kd.cell (j := 1) (u := .int .i64 (k : Int)) rfl
      clear hw
      go_wp2_with fail
      exact bodyPost_ret (v := .tuple #[.agg #[.int .i64 F, .slice xa xm xc, .slice none 0 0], .agg #[.string (ba a), .int .i64 (k : Int)], .int .i64 0]) (by simp [results, Try.results14, go_sem, q0, q1, q2, q3, q4]) rfl ⟨F, _, _, _, rfl, hBB, rfl, (FIN.out _ _ hGG).2.1, rfl, rfl⟩
  · have HK2 := HS2.out.cell (j := 0) (u := .int .i64 0) rfl
    have z1 := HS2.out.cell (j := 1) (u := .slice none 0 0) rfl
    have z2 := HS2.out.cell (j := 2) (u := .slice none 0 0) rfl
    have zf := fun j => HS2.out.free j
    have d0 := HD2.out.cell (j := 0) (u := .string ⟨#[]⟩) rfl
    have d1 := HD2.out.cell (j := 1) (u := .int .i64 0) rfl
    have df := fun j => HD2.out.free j
    rw [HW2.out] at HK2 z1 z2 zf d0 d1 df
    have heb : (e != 0) = true := by simpa using h
    clear HCC HRT HSY HOF HEX HKL HC0
    go_wp2_with fail
    rw [← HW2.out]
    clear HW2 HK2 z1 z2 zf d0 d1 df
    have o : ∀ {V : World} {b : Nat} {C : Array Value} {t : TypeId} (n j : Nat) (v : Value), Blk V b C t → b ≠ n → Blk (V.setCell ⟨n, j, none⟩ v) b C t := fun n j v h hn => h.other (a := ⟨n, j, none⟩) hn v
    have g : ∀ {V : World} {n j : Nat} {v : Value}, w.heap.size ≤ n → Below w.heap.size w V → Below w.heap.size w (V.setCell ⟨n, j, none⟩ v) := fun hn hb => hb.setCell (p := ⟨_, _, none⟩) hn _
    have ks := o (w.heap.size + 1 + 1) 1 (.int .i64 0) (o (w.heap.size + 1 + 1) 0 (.string ⟨#[]⟩) (((HS2.out.set 0 (.int .i64 0)).set 1 (.slice none 0 0)).set 2 (.slice none 0 0)) (by omega)) (by omega)
    have kd := ((o (w.heap.size + 1) 2 (.slice none 0 0) (o (w.heap.size + 1) 1 (.slice none 0 0) (o (w.heap.size + 1) 0 (.int .i64 0) HD2.out (by omega)) (by omega)) (by omega)).set 0 (.string ⟨#[]⟩)).set 1 (.int .i64 0)
    have q0 := ks.cell (j := 0) (u := .int .i64 0) rfl
    have q1 := ks.cell (j := 1) (u := .slice none 0 0) rfl
    have q2 := ks.cell (j := 2) (u := .slice none 0 0) rfl
    have q3 := kd.cell (j := 0) (u := .string ⟨#[]⟩) rfl
    have q4 := kd.cell (j := 1) (u := .int .i64 0) rfl
    have hBB := g (n := w.heap.size + 1 + 1) (j := 1) (v := .int .i64 0) (by omega) (g (n := w.heap.size + 1 + 1) (j := 0) (v := .string ⟨#[]⟩) (by omega) (g (n := w.heap.size + 1) (j := 2) (v := .slice none 0 0) (by omega) (g (n := w.heap.size + 1) (j := 1) (v := .slice none 0 0) (by omega) (g (n := w.heap.size + 1) (j := 0) (v := .int .i64 0) (by omega) HB.out))))
    exact bodyPost_ret (v := .tuple #[.agg #[.int .i64 0, .slice none 0 0, .slice none 0 0], .agg #[.string ⟨#[]⟩, .int .i64 0], .int .i64 e]) (by simp [results, Try.results14, go_sem, q0, q1, q2, q3, q4]) rfl ⟨0, _, _, _, rfl, hBB, fun h' => absurd h' h, fun _ => ⟨rfl, rfl, rfl, rfl⟩⟩

end Go.Proofs.Ytnpaejknoipicad

namespace Go.Proofs.Ytnpaejknoipicad
open Go.RowKit

/-- the law's own frame -/
def pf (t : Int) (k : Bool) : Fr := ⟨t, k, [⟨#[97, 98, 99]⟩]⟩

set_option maxHeartbeats 400000 in
theorem pic_any (t : Int) (k : Bool) (w : World) :
    Calls Try.prog 40 #[.int .i64 t, .bool k] w fun e w' => e = .returned (.agg #[.int .i64 t, .bool k, .slice (some ⟨w.heap.size + 1, 0, none⟩) 1 1]) ∧ StrsIn (fun g => w.heap.size ≤ g) w' (.slice (some ⟨w.heap.size + 1, 0, none⟩) 1 1) [⟨#[97, 98, 99]⟩] ∧ Below w.heap.size w w' := by
  go_enter Try.func40, Try.ntmps40
  go_wp2
  refine bodyPost_ret (v := .agg #[.int .i64 t, .bool k, .slice (some ⟨w.heap.size + 1, 0, none⟩) 1 1]) (by simp [results, Try.results40, go_sem]) rfl ⟨rfl, ?_, ?_⟩
  · have hk := Blk.new (w.alloc (.cells #[.int .i64 t, .bool k, .slice (some ⟨w.heap.size + 1, 0, none⟩) 1 1] 36)) #[.string ⟨#[97, 98, 99]⟩] 9
    simp only [World.size_alloc] at hk
    refine ⟨⟨rfl, .inr ⟨w.heap.size + 1, 0, 1, rfl, hk.lt, fun j u hj => ?_⟩⟩, by simp, fun g hg _ => ?_⟩
    · rw [Nat.zero_add]
      exact hk.cell (by simpa using hj)
    · simp [Value.ownBlock] at hg
      subst hg
      exact ⟨by omega, hk.lt⟩
  · exact ((Below.refl _ w).alloc (Nat.le_refl _) _).alloc (by simp) _

end Go.Proofs.Ytnpaejknoipicad

namespace Go.Proofs.Ytnpaejknoipicad
open Go.RowKit

/-- an operation of such a region -/
inductive Cm where
  | quiet (v : Value) (lim : Nat)
  | step (s : Nat)
  | fin (t : Nat) (f : Value → Value)
  | box
def cmAt (ks : List Cm) (i : Nat) : Cm := (ks[i]?).getD (.quiet undef 0)
def Cm.out (r : Nat → Value) (b : Nat → Option Nat) (i : Nat) : Cm → Value
  | .quiet v _ => v
  | .step s => r s
  | .fin t f => f (r t)
  | .box => match b i with
    | some g => .pointer (some ⟨g, 0, none⟩)
    | none => undef
def Cm.isBox : Cm → Bool
  | .box => true
  | _ => false
def putM (r : Nat → Value) (b : Nat → Option Nat) : Nat → List Cm → List Oper → Act → Act
  | k, d :: ks, o :: l, a => putM r b (k + 1) ks l (a.put o.dst (d.out r b k))
  | _, _, _, a => a
def updO (b : Nat → Option Nat) (i : Nat) (g : Nat) : Nat → Option Nat := fun j => if j = i then some g else b j
/-- the steps' places; what waits for what -/
def boxesOk (ks : List Cm) (l : List Oper) (st : List Nat) (n : Nat) : Bool :=
  decide (ks.length = l.length) && (l.all fun o => match o.dst with | some k => decide (k < n) | none => true) &&
  ((List.range st.length).all fun s => match st[s]? with
    | some i => decide (i < l.length) && (match cmAt ks i with | .step t => t == s | _ => false) && (s == 0 || (match st[s - 1]? with | some j => waits l i j | none => false))
    | none => false) &&
  ((List.range l.length).all fun i => match cmAt ks i with
    | .quiet _ lim => decide (st.length ≤ lim) || (match st[lim]? with | some j => waits l j i | none => false)
    | .step t => st[t]? == some i
    | .fin t _ => (List.range l.length).any fun j => waits l i j && (match cmAt ks j with | .step t' => t' == t | .fin t' _ => t' == t | _ => false)
    | .box => true)

section
variable {P : Program} {Q : Exit → Act → World → Prop}

structure RBx (ks : List Cm) (l : List Oper) (n m : Nat) (I : Nat → (Nat → Value) → (Nat → Option Nat) → World → Prop) (ls : Nat → Bool) (vs : Nat → Value) (s : Nat) (r : Nat → Value) (b : Nat → Option Nat) (w' : World) : Prop where
  lt : ∀ i, ls i = true → i < n
  steps : ∀ i t, i < n → cmAt ks i = .step t → (ls i = true ↔ t < s)
  fins : ∀ i t f, ls i = true → cmAt ks i = .fin t f → t < s
  box : ∀ i, i < n → cmAt ks i = .box → (ls i = true ↔ (b i).isSome = true)
  vals : ∀ i, ls i = true → vs i = (cmAt ks i).out r b i
  inv : I s r b w'
  le : s ≤ m
  closed : ∀ i j, ls j = true → waits l j i = true → ls i = true

theorem putM_all (L : Array Bool) (vs : Nat → Value) (r : Nat → Value) (b : Nat → Option Nat) : ∀ (l : List Oper) (k : Nat) (ks : List Cm) (a : Act), ks.length = l.length → (∀ i, i < l.length → L.getD (k + i) false = true) → (∀ i, i < l.length → vs (k + i) = (cmAt ks i).out r b (k + i)) → putL L vs k l a = putM r b k ks l a
  | [], _, [], _, _, _, _ => rfl
  | o :: l, k, d :: ks, a, hl, hL, hv => by
    simp only [putL, putM]
    rw [if_pos (by simpa using hL 0 (by simp)), show vs k = d.out r b k by simpa [cmAt] using hv 0 (by simp)]
    refine putM_all L vs r b l (k + 1) ks _ (by simpa using hl) (fun i hi => ?_) (fun i hi => ?_)
    · have := hL (i + 1) (by simpa using hi)
      rw [show k + (i + 1) = k + 1 + i by omega] at this; exact this
    · have := hv (i + 1) (by simpa using hi)
      rw [show k + (i + 1) = k + 1 + i by omega] at this
      simpa [cmAt] using this

theorem region_boxes {id : Nat} {a : Act} {w : World} {l : List Oper} (hm : P.follows .mixedOrders = true) (hB : regOk l = true) (ks : List Cm) (st : List Nat) (hK : boxesOk ks l st a.tmps.size = true)
    (I : Nat → (Nat → Value) → (Nat → Option Nat) → World → Prop) (h0 : I 0 (fun _ => undef) (fun _ => none) { w with drawn := w.drawn + 1 })
    (hstep : ∀ i o, l[i]? = some o → ∀ (a' : Act) (w' : World) (s : Nat) (r : Nat → Value) (b : Nat → Option Nat), I s r b w' → (∀ s, (l.all fun o => o.dst != some s) = true → a'.eval (.tmp s) = a.eval (.tmp s)) → (∀ j oj k, waits l i j = true → l[j]? = some oj → oj.dst = some k → a'.eval (.tmp k) = (cmAt ks j).out r b j) → (∀ j, waits l i j = true → cmAt ks j = .box → (b j).isSome = true) →
      match cmAt ks i with
      | .quiet v lim => s ≤ lim → (execOp a'.eval o).run P w' = .ok (.value v) w'
      | .step t => s = t → o.wp P a' w' (fun a'' w'' => ∃ v, a'' = a'.put o.dst v ∧ I (t + 1) (updR r t v) b w'') Q
      | .fin t f => t < s → (execOp a'.eval o).run P w' = .ok (.value (f (r t))) w'
      | .box => b i = none → ∃ ob, (execOp a'.eval o).run P w' = .ok (.value (.pointer (some ⟨w'.heap.size, 0, none⟩))) (w'.alloc ob) ∧ I s r (updO b i w'.heap.size) (w'.alloc ob))
    (hend : ∀ (r : Nat → Value) (b : Nat → Option Nat) (w' : World), I st.length r b w' → (∀ i, i < l.length → cmAt ks i = .box → ∃ g, b i = some g) → Q .normal (putM r b 0 ks l a) w') :
    (Code.region id l.toArray true).wp P Q a w := by
  simp only [boxesOk, Bool.and_eq_true, decide_eq_true_eq] at hK
  obtain ⟨⟨⟨hlen, hdst⟩, hst⟩, hall⟩ := hK
  have hap : dstsApart l = true := by simp only [regOk, Bool.and_eq_true] at hB; exact hB.1.1
  have hal : ∀ i, i < l.length → _ := fun i hi => List.all_eq_true.1 hall i (List.mem_range.2 hi)
  have hsl : ∀ s, s < st.length → _ := fun s hs => List.all_eq_true.1 hst s (List.mem_range.2 hs)
  have hstp : ∀ s, s < st.length → ∃ i, st[s]? = some i ∧ i < l.length ∧ cmAt ks i = .step s ∧ (0 < s → ∃ j, st[s - 1]? = some j ∧ waits l i j = true) := fun s hs => by
    have h := hsl s hs
    have e : st[s]? = some st[s] := List.getElem?_eq_getElem hs
    rw [e] at h
    simp only [Bool.and_eq_true, decide_eq_true_eq, Bool.or_eq_true, beq_iff_eq] at h
    refine ⟨st[s], e, h.1.1, ?_, fun h0 => ?_⟩
    · have h2 := h.1.2
      cases hk : cmAt ks st[s] with
      | quiet v lim => rw [hk] at h2; cases h2
      | fin t f => rw [hk] at h2; cases h2
      | box => rw [hk] at h2; cases h2
      | step t => rw [hk] at h2; simp at h2; rw [h2]
    · have h3 := h.2
      rcases h3 with h3 | h3
      · omega
      · have e2 : st[s - 1]? = some st[s - 1] := List.getElem?_eq_getElem (by omega)
        rw [e2] at h3
        exact ⟨_, e2, h3⟩
  have hst2 : ∀ i t, i < l.length → cmAt ks i = .step t → st[t]? = some i := fun i t hi hk => by
    have h := hal i hi
    rw [hk] at h
    simpa using h
  refine wp_region_inv hm hB (fun L vs w' => ∃ s r b, RBx ks l l.length st.length I (fun j => L.getD j false) vs s r b w') ?_ ?_ ?_
  · have hno : ∀ j, ¬ (Array.replicate l.length false).getD j false = true := fun j => by
      simp [Array.getD_eq_getD_getElem?, Array.getElem?_replicate]; split <;> simp
    exact ⟨0, fun _ => undef, fun _ => none, fun i h => absurd h (hno i), fun i t _ _ => ⟨fun h => absurd h (hno i), fun h => absurd h (Nat.not_lt_zero _)⟩, fun i _ _ h => absurd h (hno i), fun i _ _ => ⟨fun h => absurd h (hno i), fun h => by cases h⟩, fun i h => absurd h (hno i), h0, Nat.zero_le _, fun _ j h => absurd h (hno j)⟩
  · rintro L vs w' ⟨s, r, b, F⟩ i o ho hL hr
    have hi : i < l.length := (List.getElem?_eq_some_iff.1 ho).1
    have ni : L.getD i false = false := by simpa using listed_no hL
    have hset := setfun hL
    have hwt : ∀ j, waits l i j = true → L.getD j false = true := fun j hw => waits_spec hw ho hr
    have hfree : ∀ s, (l.all fun o => o.dst != some s) = true → (putL L vs 0 l a).eval (.tmp s) = a.eval (.tmp s) := fun s hs => putL_other l 0 a (fun p hp t ht e => by
      injection e with e
      subst e
      have := List.all_eq_true.1 hs p hp
      rw [ht] at this
      simp at this)
    have hvals : ∀ j oj k, waits l i j = true → l[j]? = some oj → oj.dst = some k → (putL L vs 0 l a).eval (.tmp k) = (cmAt ks j).out r b j := fun j oj k hw hoj hk => by
      have h1 := hwt j hw
      have hk2 := List.all_eq_true.1 hdst oj (List.mem_of_getElem? hoj)
      rw [hk] at hk2
      rw [putL_at h1 l 0 a oj hap (Nat.zero_le _) (by simpa using hoj) hk (by simpa using hk2)]
      exact F.vals j h1
    have hs := hstep i o ho (putL L vs 0 l a) w' s r b F.inv hfree hvals (fun j hw hj => (F.box j (F.lt j (hwt j hw)) hj).1 (hwt j hw))
    rw [hset]
    obtain ⟨ls, hls⟩ : ∃ ls : Nat → Bool, ls = fun j => L.getD j false := ⟨_, rfl⟩
    have hlsj : ∀ j, L.getD j false = ls j := fun j => by rw [hls]
    simp only [hlsj] at F ni hwt ⊢
    have hlt' : ∀ j, (decide (j = i) || ls j) = true → j < l.length := fun j hj => by
      simp only [Bool.or_eq_true, decide_eq_true_eq] at hj
      rcases hj with rfl | hj
      · exact hi
      · exact F.lt j hj
    have hcl : ∀ p j, (decide (j = i) || ls j) = true → waits l j p = true → (decide (p = i) || ls p) = true := fun p j hj hw => by
      simp only [Bool.or_eq_true, decide_eq_true_eq] at hj ⊢
      rcases hj with rfl | hj
      · exact .inr (hwt p hw)
      · exact .inr (F.closed p j hj hw)
    have hbxs : ∀ k, cmAt ks i = k → k.isBox = false → ∀ j, j < l.length → cmAt ks j = .box → ((decide (j = i) || ls j) = true ↔ (b j).isSome = true) := fun k h1 h2 j hj hjk => by
      have e : j ≠ i := fun e => by subst e; rw [h1] at hjk; subst hjk; cases h2
      simpa [e] using F.box j hj hjk
    have plain : ∀ (k : Cm) (v : Value), cmAt ks i = k → k.isBox = false → (∀ t, k ≠ .step t) → (∀ t f, k = .fin t f → t < s) → k.out r b i = v → ∃ s r b, RBx ks l l.length st.length I (fun j => decide (j = i) || ls j) (upd vs i v) s r b w' := fun k v hk h1 h2 h3 h4 => by
      refine ⟨s, r, b, hlt', ?_, ?_, hbxs k hk h1, ?_, F.inv, F.le, hcl⟩
      · intro j t hj hjk
        have e : j ≠ i := fun e => by subst e; rw [hk] at hjk; exact h2 t hjk
        simpa [e] using F.steps j t hj hjk
      · intro j t f hj hjk
        by_cases e : j = i
        · subst e; rw [hk] at hjk; exact h3 t f hjk
        · exact F.fins j t f (by simpa [e] using hj) hjk
      · intro j hj
        by_cases e : j = i
        · subst e; rw [upd_at, hk, h4]
        · rw [upd_ne e]; exact F.vals j (by simpa [e] using hj)
    cases hk : cmAt ks i with
    | fin t f =>
      rw [hk] at hs
      have hts : t < s := by
        have h := hal i hi
        rw [hk] at h
        obtain ⟨j, hjm, hj⟩ := List.any_eq_true.1 h
        simp only [Bool.and_eq_true] at hj
        have hjl := hwt j hj.1
        have h2 := hj.2
        cases hkj : cmAt ks j with
        | quiet v lim => rw [hkj] at h2; cases h2
        | box => rw [hkj] at h2; cases h2
        | step t' => rw [hkj] at h2; simp at h2; subst h2; exact (F.steps j t' (F.lt j hjl) hkj).1 hjl
        | fin t' f' => rw [hkj] at h2; simp at h2; subst h2; exact F.fins j t' f' hjl hkj
      exact oper_wp_ok (hs hts) ⟨_, rfl, plain (.fin t f) _ hk rfl (fun _ e => by cases e) (fun t' f' e => by injection e with e1; omega) rfl⟩
    | box =>
      rw [hk] at hs
      have hb0 : b i = none := by
        cases hbi : b i with
        | none => rfl
        | some g => have := (F.box i hi hk).2 (by rw [hbi]; rfl); rw [this] at ni; cases ni
      obtain ⟨ob, h1, h2⟩ := hs hb0
      refine oper_wp_ok h1 ⟨_, rfl, s, r, updO b i w'.heap.size, hlt', ?_, ?_, ?_, ?_, h2, F.le, hcl⟩
      · intro j t hj hjk
        have e : j ≠ i := fun e => by subst e; rw [hk] at hjk; cases hjk
        simpa [e] using F.steps j t hj hjk
      · intro j t f hj hjk
        have e : j ≠ i := fun e => by subst e; rw [hk] at hjk; cases hjk
        exact F.fins j t f (by simpa [e] using hj) hjk
      · intro j hj hjk
        by_cases e : j = i
        · subst e; simp [updO]
        · simpa [e, updO] using F.box j hj hjk
      · intro j hj
        by_cases e : j = i
        · subst e; rw [upd_at, hk]; simp [Cm.out, updO]
        · have hlj : ls j = true := by simpa [e] using hj
          rw [upd_ne e, F.vals j hlj]
          cases hkj : cmAt ks j with
          | quiet v' lim' => rfl
          | step t' => rfl
          | fin t' f' => rfl
          | box => simp [Cm.out, updO, e]
    | quiet v lim =>
      rw [hk] at hs
      have hle : s ≤ lim := by
        have h := hal i hi
        rw [hk] at h
        simp only [Bool.or_eq_true, decide_eq_true_eq] at h
        rcases h with h | h
        · exact Nat.le_trans F.le h
        · by_cases hlt : s ≤ lim
          · exact hlt
          · exfalso
            have hll : lim < st.length := by have := F.le; omega
            obtain ⟨j, e1, e2, e3, _⟩ := hstp lim hll
            rw [e1] at h
            have hlj := (F.steps j lim e2 e3).2 (by omega)
            rw [F.closed i j hlj h] at ni
            cases ni
      exact oper_wp_ok (hs hle) ⟨v, rfl, plain (.quiet v lim) v hk rfl (fun _ e => by cases e) (fun _ _ e => by cases e) rfl⟩
    | step t =>
      rw [hk] at hs
      have hti := hst2 i t hi hk
      have htl : t < st.length := (List.getElem?_eq_some_iff.1 hti).1
      have hst' : s = t := by
        have h1 : ¬ t < s := fun h => by rw [(F.steps i t hi hk).2 h] at ni; cases ni
        by_cases h0 : t = 0
        · omega
        · obtain ⟨i', e1, e2, e3, e4⟩ := hstp t htl
          rw [hti] at e1
          injection e1 with e1
          subst e1
          obtain ⟨j, q1, q2⟩ := e4 (by omega)
          obtain ⟨j', r1, r2, r3, _⟩ := hstp (t - 1) (by omega)
          rw [q1] at r1
          injection r1 with r1
          subst r1
          have := (F.steps j (t - 1) r2 r3).1 (hwt j q2)
          omega
      subst hst'
      refine Oper.wp_mono ?_ (hs rfl)
      rintro a'' w'' ⟨v, h1, h2⟩
      refine ⟨v, h1, s + 1, updR r s v, b, hlt', ?_, ?_, hbxs _ hk rfl, ?_, h2, htl, hcl⟩
      · intro j t' hj hjk
        by_cases e : j = i
        · subst e
          rw [hk] at hjk
          injection hjk with hjk
          subst hjk
          simp
        · have h3 := F.steps j t' hj hjk
          have hne : t' ≠ s := fun e' => by
            subst e'
            have := hst2 j t' hj hjk
            rw [hti] at this
            injection this with this
            exact e this.symm
          simp only [e, decide_false, Bool.false_or]
          rw [h3]; omega
      · intro j t' f hj hjk
        have e : j ≠ i := fun e => by subst e; rw [hk] at hjk; cases hjk
        have := F.fins j t' f (by simpa [e] using hj) hjk
        omega
      · intro j hj
        by_cases e : j = i
        · subst e; rw [upd_at, hk]; exact (updR_at r s v).symm
        · have hlj : ls j = true := by simpa [e] using hj
          rw [upd_ne e, F.vals j hlj]
          cases hkj : cmAt ks j with
          | quiet v' lim' => rfl
          | box => rfl
          | fin t' f' =>
            have := F.fins j t' f' hlj hkj
            exact congrArg f' (updR_ne (by omega)).symm
          | step t' =>
            have := (F.steps j t' (F.lt j hlj) hkj).1 hlj
            exact (updR_ne (by omega)).symm
  · rintro L vs w' ⟨s, r, b, F⟩ hlst
    have hs : s = st.length := by
      by_cases h : s < st.length
      · obtain ⟨i, e1, e2, e3, _⟩ := hstp s h
        have := (F.steps i s e2 e3).1 (hlst i e2)
        omega
      · have := F.le; omega
    subst hs
    rw [putM_all L vs r b l 0 ks a hlen (fun i hi => by rw [Nat.zero_add]; exact hlst i hi) (fun i hi => by rw [Nat.zero_add]; exact F.vals i (hlst i hi))]
    exact hend r b w' F.inv (fun i hi hk => Option.isSome_iff_exists.1 ((F.box i hi hk).1 (hlst i hi)))
end
end Go.Proofs.Ytnpaejknoipicad

namespace Go.Proofs.Ytnpaejknoipicad
open Go.RowKit

def dkA : List UInt8 := recB 7 [pf 5 true]
def dkB : List UInt8 := recB 8 [pf 6 true]
def dkD : List UInt8 := (dkA ++ dkB).take 19
theorem dk1 : appE [] 0 7 [pf 5 true] = 0 := by decide +kernel
theorem dk2 : syE dkA 0 = 0 := by decide +kernel
theorem dk3 : appE dkA 16 8 [pf 6 true] = 0 := by decide +kernel
theorem dk4 : crE (dkA ++ dkB) 16 3 = 0 ∧ crN (dkA ++ dkB) 16 3 = 19 := by decide +kernel
theorem dk5 : appE dkD 16 8 [pf 6 true] = 4 := by decide +kernel
theorem dk6 : diskE dkD 16 = 0 ∧ opF dkD = 7 ∧ (opL dkD).length = 1 ∧ dEnd dkD = 16 := by decide +kernel
theorem dk7 : recE 7 [pf 5 true] = 0 ∧ dkA.length = 16 ∧ (dkD.take 16).length = 16 := by decide +kernel

set_option maxHeartbeats 400000 in
theorem one_any (t : Int) (w : World) :
    Calls Try.prog 42 #[.int .i64 t] w fun e w' => ∃ b, e = .returned (.agg #[.slice (some ⟨b, 0, none⟩) 1 1]) ∧ FrsIn (fun g => w.heap.size ≤ g) w' (.slice (some ⟨b, 0, none⟩) 1 1) [pf t true] ∧ Below w.heap.size w w' := by
  have HP : Hid (∀ W, Calls Try.prog 40 #[.int .i64 t, .bool true] W fun e w' => e = .returned (.agg #[.int .i64 t, .bool true, .slice (some ⟨W.heap.size + 1, 0, none⟩) 1 1]) ∧ StrsIn (fun g => W.heap.size ≤ g) w' (.slice (some ⟨W.heap.size + 1, 0, none⟩) 1 1) [⟨#[97, 98, 99]⟩] ∧ Below W.heap.size W w') := fun W => pic_any t true W
  go_enter Try.func42, Try.ntmps42
  go_wp2_with fail
  refine (HP.out _).mono ?_
  rintro e w1 ⟨rfl, hs, b1⟩
  have K0 := Blk.new w #[.slice none 0 0] 25
  have K1 := K0.below b1 K0.lt
  have HB : Hid (Below w.heap.size w w1) := ((Below.refl _ w).alloc (Nat.le_refl _) _).trans (b1.mono (by simp))
  rw [World.size_alloc] at hs
  obtain ⟨P, hP⟩ : ∃ P, P = w.heap.size + 1 + 1 := ⟨_, rfl⟩
  rw [World.size_alloc]
  rw [← hP] at hs ⊢
  have HS : Hid (StrsIn (fun g => w.heap.size + 1 ≤ g) w1 (.slice (some ⟨P, 0, none⟩) 1 1) [⟨#[97, 98, 99]⟩]) := hs
  have HK : Hid (Blk w1 w.heap.size #[.slice none 0 0] 25) := K1
  have z0 := K1.cell (j := 0) (u := .slice none 0 0) rfl
  have zf := K1.free 0
  have hlw : w.heap.size < w1.heap.size := K1.lt
  clear HP hs b1 K0 K1 hP
  go_wp2_with fail
  obtain ⟨V, hV⟩ : ∃ V, V = w1.setCell ⟨w.heap.size, 0, none⟩ (.slice (some ⟨w1.heap.size, 0, none⟩) 1 1) := ⟨_, rfl⟩
  have hVs : V.heap.size = w1.heap.size := by rw [hV]; simp
  have kV : Blk V w.heap.size #[.slice (some ⟨w1.heap.size, 0, none⟩) 1 1] 25 := by rw [hV]; exact HK.out.set 0 _
  have sV : StrsIn (fun g => w.heap.size + 1 ≤ g) V (.slice (some ⟨P, 0, none⟩) 1 1) [⟨#[97, 98, 99]⟩] := by rw [hV]; exact HS.out.to (SameOn.setCell (fun g hg => by show g ≠ w.heap.size; omega) _) (fun _ _ h => h)
  have bV : Below w.heap.size w V := by rw [hV]; exact HB.out.setCell (p := ⟨w.heap.size, 0, none⟩) (Nat.le_refl _) _
  rw [← hV]
  obtain ⟨W2, hW2⟩ : ∃ W2, W2 = V.alloc (.cells #[.int .i64 t, .bool true, .slice (some ⟨P, 0, none⟩) 1 1] 36) := ⟨_, rfl⟩
  have f2 : Blk W2 w1.heap.size #[.int .i64 t, .bool true, .slice (some ⟨P, 0, none⟩) 1 1] 36 := by rw [← hVs]; exact Blk.newE hW2
  have k2 : Blk W2 w.heap.size #[.slice (some ⟨w1.heap.size, 0, none⟩) 1 1] 25 := by rw [hW2]; exact kV.alloc _
  have s2 : StrsIn (fun g => w.heap.size + 1 ≤ g) W2 (.slice (some ⟨P, 0, none⟩) 1 1) [⟨#[97, 98, 99]⟩] := by rw [hW2]; exact sV.alloc _
  have b2 : Below w.heap.size w W2 := by rw [hW2]; exact bV.alloc bV.size _
  rw [← hW2]
  have y0 := k2.cell (j := 0) (u := .slice (some ⟨w1.heap.size, 0, none⟩) 1 1) rfl
  refine bodyPost_ret (v := .agg #[.slice (some ⟨w1.heap.size, 0, none⟩) 1 1]) (by simp [results, Try.results42, go_sem, y0]) rfl ⟨_, rfl, ⟨some ⟨w1.heap.size, 0, none⟩, 1, rfl, Nat.le_refl _, by decide, fun k hk => ?_⟩, b2⟩
  have hk0 : k = 0 := by simpa using hk
  subst hk0
  exact ⟨w1.heap.size, 0, rfl, f2.lt, by show w.heap.size ≤ w1.heap.size; omega, _, f2.cell rfl, f2.cell rfl, f2.cell rfl, s2.mono (fun g _ hg => by show w.heap.size ≤ g; omega)⟩

/-- within such a region: the group made; what Append answers; the box of the disk -/
structure DkI (w1 : World) (t : Int) (X : ByteArray) (N E : Int) (s : Nat) (r : Nat → Value) (b : Nat → Option Nat) (w' : World) : Prop where
  bel : Below w1.heap.size w1 w'
  six : ∀ p, b 6 = some p → w1.heap.size ≤ p ∧ (s ≤ 2 → Blk w' p #[.string ⟨#[]⟩, .int .i64 0] 39) ∧ (3 ≤ s → Blk w' p #[.string X, .int .i64 N] 39)
  has : 3 ≤ s → ¬ b 6 = none
  one : s = 1 → ∃ g, r 0 = .agg #[.slice (some ⟨g, 0, none⟩) 1 1] ∧ FrsIn (fun _ => True) w' (.slice (some ⟨g, 0, none⟩) 1 1) [pf t true]
  two : 2 ≤ s → r 1 = .tuple #[.agg #[.string X, .int .i64 N], .int .i64 E]
theorem DkI.first {w1 : World} {t N E : Int} {X : ByteArray} {r : Nat → Value} {b : Nat → Option Nat} {w' w'' : World} (h : DkI w1 t X N E 0 r b w') (hb : Below w'.heap.size w' w'') (v : Value) (hv : ∃ g, v = .agg #[.slice (some ⟨g, 0, none⟩) 1 1] ∧ FrsIn (fun _ => True) w'' (.slice (some ⟨g, 0, none⟩) 1 1) [pf t true]) : DkI w1 t X N E 1 (updR r 0 v) b w'' :=
  ⟨h.bel.trans (hb.mono h.bel.size), fun p hp => ⟨(h.six p hp).1, fun _ => ((h.six p hp).2.1 (by omega)).below hb ((h.six p hp).2.1 (by omega)).lt, fun h => by omega⟩, fun h => by omega, fun _ => by rw [updR_at]; exact hv, fun h => by omega⟩
theorem DkI.second {w1 : World} {t N E : Int} {X : ByteArray} {r : Nat → Value} {b : Nat → Option Nat} {w' w'' : World} (h : DkI w1 t X N E 1 r b w') (hb : Below w'.heap.size w' w'') : DkI w1 t X N E 2 (updR r 1 (.tuple #[.agg #[.string X, .int .i64 N], .int .i64 E])) b w'' :=
  ⟨h.bel.trans (hb.mono h.bel.size), fun p hp => ⟨(h.six p hp).1, fun _ => ((h.six p hp).2.1 (by omega)).below hb ((h.six p hp).2.1 (by omega)).lt, fun h => by omega⟩, fun h => by omega, fun h => by omega, fun _ => updR_at _ _ _⟩
theorem DkI.box {w1 : World} {t N E : Int} {X : ByteArray} {s : Nat} {r : Nat → Value} {b : Nat → Option Nat} {w' : World} (h : DkI w1 t X N E s r b w') (hb : b 6 = none) : DkI w1 t X N E s r (updO b 6 w'.heap.size) (w'.alloc (.cells #[.string ⟨#[]⟩, .int .i64 0] 39)) := by
  have hs : s ≤ 2 := by
    by_cases h3 : 3 ≤ s
    · exact absurd hb (h.has h3)
    · omega
  refine ⟨h.bel.alloc h.bel.size _, fun p hp => ?_, fun h => by omega, fun h0 => ?_, h.two⟩
  · simp [updO] at hp
    subst hp
    exact ⟨h.bel.size, fun _ => Blk.new _ _ _, fun h => by omega⟩
  · obtain ⟨g, h1, h2⟩ := h.one h0
    exact ⟨g, h1, h2.alloc _⟩
theorem DkI.put {w1 : World} {t N E : Int} {X : ByteArray} {r : Nat → Value} {b : Nat → Option Nat} {w' : World} (h : DkI w1 t X N E 2 r b w') {p : Nat} (hp : b 6 = some p) (v : Value) : DkI w1 t X N E 3 (updR r 2 v) b ((w'.setCell ⟨p, 0, none⟩ (.string X)).setCell ⟨p, 1, none⟩ (.int .i64 N)) := by
  obtain ⟨h1, h2, _⟩ := h.six p hp
  refine ⟨(h.bel.setCell (p := ⟨p, 0, none⟩) h1 _).setCell (p := ⟨p, 1, none⟩) h1 _, fun q hq => ?_, fun _ hn => ?_, fun h => by omega, fun _ => (updR_ne (by omega)).trans (h.two (Nat.le_refl _))⟩
  · rw [hp] at hq
    injection hq with hq
    subst hq
    exact ⟨h1, fun h => by omega, fun _ => ((h2 (Nat.le_refl _)).set 0 _).set 1 _⟩
  · rw [hp] at hn; cases hn

end Go.Proofs.Ytnpaejknoipicad

namespace Go.Proofs.Ytnpaejknoipicad
open Go.RowKit

theorem diskApp_eq (l m : List UInt8) (s n s' : Int) (g : List Fr) (ga : Option Addr) (gm gc : Nat) (w : World) (hg : FrsIn (fun _ => True) w (.slice ga gm gc) g) (h : appE l s n g = 0) (hm : m = l ++ recB n g) (hs : s' = s) :
    Calls Try.prog 17 #[.agg #[.string (ba l), .int .i64 s], .int .i64 n, .agg #[.slice ga gm gc]] w fun e w' => e = .returned (.tuple #[.agg #[.string (ba m), .int .i64 s'], .int .i64 0]) ∧ Below w.heap.size w w' := by
  subst hm hs
  refine (diskAppend_any _ l s' n g _ w hg).mono ?_
  rintro e w' ⟨X, N, rfl, hB, h1, _⟩
  obtain ⟨rfl, rfl⟩ := h1 h
  rw [h]
  exact ⟨rfl, hB⟩
theorem diskApp_no (l : List UInt8) (s n E : Int) (g : List Fr) (ga : Option Addr) (gm gc : Nat) (w : World) (hg : FrsIn (fun _ => True) w (.slice ga gm gc) g) (h : appE l s n g = E) (hE : ¬ E = 0) :
    Calls Try.prog 17 #[.agg #[.string (ba l), .int .i64 s], .int .i64 n, .agg #[.slice ga gm gc]] w fun e w' => e = .returned (.tuple #[.agg #[.string ⟨#[]⟩, .int .i64 0], .int .i64 E]) ∧ Below w.heap.size w w' := by
  subst h
  refine (diskAppend_any _ l s n g _ w hg).mono ?_
  rintro e w' ⟨X, N, rfl, hB, _, h1⟩
  obtain ⟨rfl, rfl⟩ := h1 hE
  exact ⟨rfl, hB⟩

set_option maxHeartbeats 8000000 in
set_option maxRecDepth 100000 in
theorem diskBegun_any (w : World) :
    Calls Try.prog 12 #[] w fun e w' => e = .returned (.bool true) ∧ Below w.heap.size w w' := by
  have any : ∀ {S : Nat → Prop} {W : World} {v : Value} {l : List Fr}, FrsIn S W v l → FrsIn (fun _ => True) W v l := fun h => h.mono (fun _ _ _ => trivial)
  obtain ⟨LA, hLA⟩ : ∃ L, L = dkA := ⟨_, rfl⟩
  obtain ⟨LB, hLB⟩ : ∃ L, L = dkA ++ dkB := ⟨_, rfl⟩
  obtain ⟨LD, hLD⟩ : ∃ L, L = dkD := ⟨_, rfl⟩
  obtain ⟨LE, hLE⟩ : ∃ L, L = dkD.take 16 := ⟨_, rfl⟩
  have HO6 : Hid (∀ W, Calls Try.prog 42 #[.int .i64 6] W fun e w' => ∃ b, e = .returned (.agg #[.slice (some ⟨b, 0, none⟩) 1 1]) ∧ FrsIn (fun _ => True) w' (.slice (some ⟨b, 0, none⟩) 1 1) [pf 6 true] ∧ Below W.heap.size W w') := fun W => (one_any 6 W).mono (fun _ _ ⟨b, h1, h2, h3⟩ => ⟨b, h1, any h2, h3⟩)
  have HO5 : Hid (∀ W, Calls Try.prog 42 #[.int .i64 5] W fun e w' => ∃ b, e = .returned (.agg #[.slice (some ⟨b, 0, none⟩) 1 1]) ∧ FrsIn (fun _ => True) w' (.slice (some ⟨b, 0, none⟩) 1 1) [pf 5 true] ∧ Below W.heap.size W w') := fun W => (one_any 5 W).mono (fun _ _ ⟨b, h1, h2, h3⟩ => ⟨b, h1, any h2, h3⟩)
  have HA1 : Hid (∀ (W : World) (g : Nat), FrsIn (fun _ => True) W (.slice (some ⟨g, 0, none⟩) 1 1) [pf 5 true] → Calls Try.prog 17 #[.agg #[.string ⟨#[]⟩, .int .i64 0], .int .i64 7, .agg #[.slice (some ⟨g, 0, none⟩) 1 1]] W fun e w' => e = .returned (.tuple #[.agg #[.string (ba LA), .int .i64 0], .int .i64 0]) ∧ Below W.heap.size W w') := fun W g h => diskApp_eq [] LA 0 7 0 _ _ 1 1 W h dk1 hLA rfl
  have HA2 : Hid (∀ (W : World) (g : Nat), FrsIn (fun _ => True) W (.slice (some ⟨g, 0, none⟩) 1 1) [pf 6 true] → Calls Try.prog 17 #[.agg #[.string (ba LA), .int .i64 16], .int .i64 8, .agg #[.slice (some ⟨g, 0, none⟩) 1 1]] W fun e w' => e = .returned (.tuple #[.agg #[.string (ba LB), .int .i64 16], .int .i64 0]) ∧ Below W.heap.size W w') := fun W g h => diskApp_eq LA LB 16 8 16 _ _ 1 1 W h (by rw [hLA]; exact dk3) (by rw [hLB, hLA]; rfl) rfl
  have HA3 : Hid (∀ (W : World) (g : Nat), FrsIn (fun _ => True) W (.slice (some ⟨g, 0, none⟩) 1 1) [pf 6 true] → Calls Try.prog 17 #[.agg #[.string (ba LD), .int .i64 16], .int .i64 8, .agg #[.slice (some ⟨g, 0, none⟩) 1 1]] W fun e w' => e = .returned (.tuple #[.agg #[.string ⟨#[]⟩, .int .i64 0], .int .i64 4]) ∧ Below W.heap.size W w') := fun W g h => diskApp_no LD 16 8 4 _ _ 1 1 W h (by rw [hLD]; exact dk5) (by decide)
  have HSY : Hid (∀ W, Calls Try.prog 18 #[.agg #[.string (ba LA), .int .i64 0]] W fun e w' => e = .returned (.tuple #[.agg #[.string (ba LA), .int .i64 16], .int .i64 0]) ∧ Below W.heap.size W w') := fun W => by
    refine (diskSync_any LA 0 W).mono ?_
    have h0 : syE LA 0 = 0 := by rw [hLA]; exact dk2
    rintro e w' ⟨X, N, rfl, hB, h1, _⟩
    obtain ⟨rfl, rfl⟩ := h1 h0
    rw [h0, show (LA.length : Int) = 16 by rw [hLA, dk7.2.1]; rfl]
    exact ⟨rfl, hB⟩
  have HCR : Hid (∀ W, Calls Try.prog 19 #[.agg #[.string (ba LB), .int .i64 16], .int .i64 3] W fun e w' => e = .returned (.tuple #[.agg #[.string (ba LD), .int .i64 16], .int .i64 0]) ∧ Below W.heap.size W w') := fun W => by
    refine (diskCrash_any LB 16 3 W).mono ?_
    have h0 : crE LB 16 3 = 0 := by rw [hLB]; exact dk4.1
    rintro e w' ⟨X, N, rfl, hB, h1, _⟩
    obtain ⟨rfl, rfl⟩ := h1 h0
    rw [h0, show crN LB 16 3 = 19 by rw [hLB]; exact dk4.2, hLD, hLB]
    exact ⟨rfl, hB⟩
  have HOP : Hid (∀ W, Calls Try.prog 14 #[.agg #[.string (ba LD), .int .i64 16]] W fun e w' => ∃ ga gc, e = .returned (.tuple #[.agg #[.int .i64 7, .slice ga 1 gc, .slice none 0 0], .agg #[.string (ba LE), .int .i64 16], .int .i64 0]) ∧ Below W.heap.size W w') := fun W => by
    refine (diskOpen_any LD 16 W).mono ?_
    have h0 : diskE LD 16 = 0 := by rw [hLD]; exact dk6.1
    rintro e w' ⟨f, gv, X, N, rfl, hB, h1, _⟩
    obtain ⟨rfl, hG, rfl, rfl⟩ := h1 h0
    obtain ⟨ga, gc, eg, _, _⟩ := hG.len
    rw [h0, eg, hLD, dk6.2.1, dk6.2.2.1, dk6.2.2.2, hLE]
    exact ⟨ga, gc, rfl, hB⟩
  have HEN : Hid (∀ (W : World) (g : Nat), FrsIn (fun _ => True) W (.slice (some ⟨g, 0, none⟩) 1 1) [pf 5 true] → Calls Try.prog 16 #[.int .i64 7, .agg #[.slice (some ⟨g, 0, none⟩) 1 1]] W fun e w' => e = .returned (.tuple #[.string (ba LA), .int .i64 0]) ∧ Below W.heap.size W w') := fun W g h => by
    refine (diskEncode_any _ 7 _ _ W h).mono ?_
    rintro e w' ⟨rfl, hB⟩
    rw [dk7.1, if_pos rfl, hLA]
    exact ⟨rfl, hB⟩
  have HCK : Hid (∀ W, Calls Try.prog 13 #[.agg #[.string (ba LD), .int .i64 16]] W fun e w' => e = .returned (.int .i64 0) ∧ Below W.heap.size W w') := fun W => by
    have := diskCheck_any LD 16 W
    rw [show diskE LD 16 = 0 by rw [hLD]; exact dk6.1] at this
    exact this
  have hsA : (ba LA).size = 16 := by rw [ba_size, hLA]; exact dk7.2.1
  have hsE : (ba LE).size = 16 := by rw [ba_size, hLE]; exact dk7.2.2
  clear hLA hLB hLD hLE any
  go_enter Try.func12, Try.ntmps12
  go_wp2_with fail
  refine (HO5.out _).mono ?_
  rintro e w1 ⟨g1, rfl, F1, b1⟩
  have HB1 : Hid (Below w.heap.size w w1) := b1
  have HF1 : Hid (FrsIn (fun _ => True) w1 (.slice (some ⟨g1, 0, none⟩) 1 1) [pf 5 true]) := F1
  clear b1 F1
  go_wp2_with fail
  refine (HA1.out _ _ HF1.out).mono ?_
  rintro e w2 ⟨rfl, b2⟩
  obtain ⟨B1, hBE1⟩ : ∃ b, b = w2.heap.size := ⟨_, rfl⟩
  obtain ⟨W2, hW2⟩ : ∃ W, W = w2.alloc (.cells #[.string (ba LA), .int .i64 0] 39) := ⟨_, rfl⟩
  have HK1 : Hid (Blk W2 B1 #[.string (ba LA), .int .i64 0] 39) := by show Blk _ _ _ _; rw [hBE1]; exact Blk.newE hW2
  have HB2 : Hid (Below w.heap.size w W2) := by
    have h := HB1.out.trans (b2.mono HB1.out.size)
    show Below _ _ _; rw [hW2]; exact h.alloc h.size _
  have HW2 : Hid (W2 = w2.alloc (.cells #[.string (ba LA), .int .i64 0] 39)) := hW2
  have HE1 : Hid (B1 = w2.heap.size) := hBE1
  clear b2 hW2 hBE1 HF1 HB1
  go_wp2_with fail
  rw [← HW2.out, ← HE1.out]
  clear HW2 HE1
  refine (HSY.out _).mono ?_
  rintro e w3 ⟨rfl, b3⟩
  obtain ⟨B3, hBE3⟩ : ∃ b, b = w3.heap.size := ⟨_, rfl⟩
  obtain ⟨W3, hW3⟩ : ∃ W, W = w3.alloc (.cells #[.string (ba LA), .int .i64 16] 39) := ⟨_, rfl⟩
  have HK3 : Hid (Blk W3 B3 #[.string (ba LA), .int .i64 16] 39) := by show Blk _ _ _ _; rw [hBE3]; exact Blk.newE hW3
  have HB3 : Hid (Below w.heap.size w W3) := by
    have h := HB2.out.trans (b3.mono HB2.out.size)
    show Below _ _ _; rw [hW3]; exact h.alloc h.size _
  have HK13 : Hid (Blk W3 B1 #[.string (ba LA), .int .i64 0] 39) := by show Blk _ _ _ _; rw [hW3]; exact (HK1.out.below b3 HK1.out.lt).alloc _
  have HW3 : Hid (W3 = w3.alloc (.cells #[.string (ba LA), .int .i64 16] 39)) := hW3
  have HE3 : Hid (B3 = w3.heap.size) := hBE3
  clear b3 hW3 hBE3 HB2 HK1
  go_upto_region 3 with fail
  rw [← HW3.out, ← HE3.out]
  clear HW3 HE3
  refine region_boxes (by kernel_rfl) (by kernel_rfl) [.quiet (.agg #[.string (ba LA), .int .i64 16]) 3, .step 0, .step 1, .fin 1 (fun r => r), .fin 1 (exT 0), .fin 1 (exT 1), .box, .step 2, .fin 1 (exT 1)] [1, 2, 7] (by kernel_rfl)
    (DkI W3 6 (ba LB) 16 0) ?i0 ?step ?fin
  case i0 => exact ⟨⟨rfl, rfl, rfl, Nat.le_refl _, fun _ _ => rfl⟩, fun _ hp => (by cases hp), fun h => (by omega), fun h => (by omega), fun h => (by omega)⟩
  case step =>
    intro i o ho a' w' s r b hI hfree hvals hbx
    have f1 : a'.eval (.tmp 3) = .pointer (some ⟨B3, 0, none⟩) := (hfree 3 (by kernel_rfl)).trans rfl
    have kk := HK3.out.below hI.bel HK3.out.lt
    have y0 := kk.cell (j := 0) (u := .string (ba LA)) rfl
    have y1 := kk.cell (j := 1) (u := .int .i64 16) rfl
    clear kk
    match i, ho with
    | 0, ho =>
      simp at ho; subst ho
      show s ≤ 3 → (execOp a'.eval _).run _ w' = .ok (.value _) w'
      intro _
      generalize a'.eval = ρ at *
      simp [execOp, go_sem, f1, y0, y1]
    | 1, ho =>
      simp at ho; subst ho
      show s = 0 → _
      intro hs
      subst hs
      have ef : a'.eval (.func 42) = .func (.func 42) #[] #[] := rfl
      have ec : a'.eval (.const (.int .i64 6)) = .int .i64 6 := rfl
      refine oper_wp_call (f := 42) (args := #[.int .i64 6]) ?_ ((HO6.out w').mono ?_)
      · generalize a'.eval = ρ at *
        simp [execOp, go_sem, ef, ec]
      · rintro e w'' ⟨g, rfl, q1, b1⟩
        exact ⟨_, rfl, _, rfl, hI.first b1 _ ⟨g, rfl, q1⟩⟩
    | 2, ho =>
      simp at ho; subst ho
      show s = 1 → _
      intro hs
      subst hs
      obtain ⟨g, er, q1⟩ := hI.one rfl
      have e1 : a'.eval (.tmp 29) = .agg #[.slice (some ⟨g, 0, none⟩) 1 1] := (hvals 1 _ _ (by kernel_rfl) rfl rfl).trans er
      have e2 : a'.eval (.tmp 28) = .agg #[.string (ba LA), .int .i64 16] := hvals 0 _ _ (by kernel_rfl) rfl rfl
      have ef : a'.eval (.func 17) = .func (.func 17) #[] #[] := rfl
      have ec : a'.eval (.const (.int .i64 8)) = .int .i64 8 := rfl
      refine oper_wp_call (f := 17) (args := #[.agg #[.string (ba LA), .int .i64 16], .int .i64 8, .agg #[.slice (some ⟨g, 0, none⟩) 1 1]]) ?_ ((HA2.out w' g q1).mono ?_)
      · generalize a'.eval = ρ at *
        simp [execOp, go_sem, e1, e2, ef, ec]
      · rintro e w'' ⟨rfl, b1⟩
        exact ⟨_, rfl, _, rfl, hI.second b1⟩
    | 3, ho =>
      simp at ho; subst ho
      have e1 : a'.eval (.tmp 30) = r 1 := hvals 2 _ _ (by kernel_rfl) rfl rfl
      show 1 < s → (execOp a'.eval _).run _ w' = .ok (.value _) w'
      intro hs
      rw [hI.two hs] at e1 ⊢
      generalize a'.eval = ρ at *
      simp [execOp, go_sem, e1]
    | 4, ho =>
      simp at ho; subst ho
      have e1 : a'.eval (.tmp 27) = r 1 := hvals 3 _ _ (by kernel_rfl) rfl rfl
      show 1 < s → (execOp a'.eval _).run _ w' = .ok (.value _) w'
      intro hs
      rw [hI.two hs] at e1 ⊢
      simp only [exT] at e1 ⊢
      generalize a'.eval = ρ at *
      simp [execOp, go_sem, e1]
    | 5, ho =>
      simp at ho; subst ho
      have e1 : a'.eval (.tmp 27) = r 1 := hvals 3 _ _ (by kernel_rfl) rfl rfl
      show 1 < s → (execOp a'.eval _).run _ w' = .ok (.value _) w'
      intro hs
      rw [hI.two hs] at e1 ⊢
      simp only [exT] at e1 ⊢
      generalize a'.eval = ρ at *
      simp [execOp, go_sem, e1]
    | 8, ho =>
      simp at ho; subst ho
      have e1 : a'.eval (.tmp 32) = exT 1 (r 1) := hvals 5 _ _ (by kernel_rfl) rfl rfl
      show 1 < s → (execOp a'.eval _).run _ w' = .ok (.value _) w'
      intro hs
      rw [hI.two hs] at e1 ⊢
      simp only [exT] at e1 ⊢
      generalize a'.eval = ρ at *
      simp [execOp, go_sem, e1]
    | 6, ho =>
      simp at ho; subst ho
      show b 6 = none → _
      intro hb
      refine ⟨.cells #[.string ⟨#[]⟩, .int .i64 0] 39, ?_, hI.box hb⟩
      generalize a'.eval = ρ at *
      simp [execOp, go_sem]
    | 7, ho =>
      simp at ho; subst ho
      show s = 2 → _
      intro hs
      subst hs
      have er := hI.two (Nat.le_refl _)
      obtain ⟨p, hp⟩ := Option.isSome_iff_exists.1 (hbx 6 (by kernel_rfl) rfl)
      have kg := (hI.six p hp).2.1 (Nat.le_refl _)
      have e1 : a'.eval (.tmp 5) = .pointer (some ⟨p, 0, none⟩) := (hvals 6 _ _ (by kernel_rfl) rfl rfl).trans (by show Cm.out r b 6 .box = _; simp [Cm.out, hp])
      have e2 : a'.eval (.tmp 31) = .agg #[.string (ba LB), .int .i64 16] := (hvals 4 _ _ (by kernel_rfl) rfl rfl).trans (by show exT 0 (r 1) = _; rw [er]; rfl)
      have t0 := kg.cell (j := 0) (u := .string ⟨#[]⟩) rfl
      have t1 := kg.cell (j := 1) (u := .int .i64 0) rfl
      have fr := fun j => kg.free j
      refine oper_wp_skip (w' := (w'.setCell ⟨p, 0, none⟩ (.string (ba LB))).setCell ⟨p, 1, none⟩ (.int .i64 16)) ?_ ⟨undef, rfl, hI.put hp _⟩
      generalize a'.eval = ρ at *
      simp [execOp, go_sem, e1, e2, t0, t1, fr]
    | i + 9, ho => simp at ho
  case fin =>
    rintro r b W4 hI hbxs
    obtain ⟨B5, hp⟩ := hbxs 6 (by decide) rfl
    have er := hI.two (by decide)
    have HK5 : Hid (Blk W4 B5 #[.string (ba LB), .int .i64 16] 39) := (hI.six B5 hp).2.2 (by decide)
    have hbe := hI.bel
    have HB4 : Hid (Below w.heap.size w W4) := HB3.out.trans (hbe.mono HB3.out.size)
    have HK14 : Hid (Blk W4 B1 #[.string (ba LA), .int .i64 0] 39) := HK13.out.below hbe HK13.out.lt
    simp only [putM, Cm.out, er, hp, exT, Act.put, List.setIfInBounds_toArray, List.set_cons_succ, List.set_cons_zero, List.getElem?_toArray, List.getElem?_cons_zero, List.getElem?_cons_succ, Option.getD_some]
    have x0 := HK5.out.cell (j := 0) (u := .string (ba LB)) rfl
    have x1 := HK5.out.cell (j := 1) (u := .int .i64 16) rfl
    clear hI hbxs hp er hbe HB3 HK13 HK3
    go_wp2_with fail
    refine (HCR.out _).mono ?_
    rintro e w5 ⟨rfl, b5⟩
    obtain ⟨B7, hBE7⟩ : ∃ b, b = w5.heap.size := ⟨_, rfl⟩
    obtain ⟨W5, hW5⟩ : ∃ W, W = w5.alloc (.cells #[.string (ba LD), .int .i64 16] 39) := ⟨_, rfl⟩
    have HK7 : Hid (Blk W5 B7 #[.string (ba LD), .int .i64 16] 39) := by show Blk _ _ _ _; rw [hBE7]; exact Blk.newE hW5
    have HB5 : Hid (Below w.heap.size w W5) := by
      have h := HB4.out.trans (b5.mono HB4.out.size)
      show Below _ _ _; rw [hW5]; exact h.alloc h.size _
    have HK15 : Hid (Blk W5 B1 #[.string (ba LA), .int .i64 0] 39) := by show Blk _ _ _ _; rw [hW5]; exact (HK14.out.below b5 HK14.out.lt).alloc _
    have HW5 : Hid (W5 = w5.alloc (.cells #[.string (ba LD), .int .i64 16] 39)) := hW5
    have HE7 : Hid (B7 = w5.heap.size) := hBE7
    clear b5 hW5 hBE7 HB4 HK14 HK5 x0 x1 HCR
    go_upto_region 5 with fail
    rw [← HW5.out, ← HE7.out]
    clear HW5 HE7
    refine region_boxes (by kernel_rfl) (by kernel_rfl) [.quiet (.agg #[.string (ba LD), .int .i64 16]) 3, .step 0, .step 1, .fin 1 (fun r => r), .fin 1 (exT 0), .fin 1 (exT 1), .box, .step 2, .fin 1 (exT 1)] [1, 2, 7] (by kernel_rfl)
      (DkI W5 6 ⟨#[]⟩ 0 4) ?i0 ?step ?fin
    case i0 => exact ⟨⟨rfl, rfl, rfl, Nat.le_refl _, fun _ _ => rfl⟩, fun _ hp => (by cases hp), fun h => (by omega), fun h => (by omega), fun h => (by omega)⟩
    case step =>
      intro i o ho a' w' s r b hI hfree hvals hbx
      have f1 : a'.eval (.tmp 7) = .pointer (some ⟨B7, 0, none⟩) := (hfree 7 (by kernel_rfl)).trans rfl
      have kk := HK7.out.below hI.bel HK7.out.lt
      have y0 := kk.cell (j := 0) (u := .string (ba LD)) rfl
      have y1 := kk.cell (j := 1) (u := .int .i64 16) rfl
      clear kk
      match i, ho with
      | 0, ho =>
        simp at ho; subst ho
        show s ≤ 3 → (execOp a'.eval _).run _ w' = .ok (.value _) w'
        intro _
        generalize a'.eval = ρ at *
        simp [execOp, go_sem, f1, y0, y1]
      | 1, ho =>
        simp at ho; subst ho
        show s = 0 → _
        intro hs
        subst hs
        have ef : a'.eval (.func 42) = .func (.func 42) #[] #[] := rfl
        have ec : a'.eval (.const (.int .i64 6)) = .int .i64 6 := rfl
        refine oper_wp_call (f := 42) (args := #[.int .i64 6]) ?_ ((HO6.out w').mono ?_)
        · generalize a'.eval = ρ at *
          simp [execOp, go_sem, ef, ec]
        · rintro e w'' ⟨g, rfl, q1, b1⟩
          exact ⟨_, rfl, _, rfl, hI.first b1 _ ⟨g, rfl, q1⟩⟩
      | 2, ho =>
        simp at ho; subst ho
        show s = 1 → _
        intro hs
        subst hs
        obtain ⟨g, er, q1⟩ := hI.one rfl
        have e1 : a'.eval (.tmp 40) = .agg #[.slice (some ⟨g, 0, none⟩) 1 1] := (hvals 1 _ _ (by kernel_rfl) rfl rfl).trans er
        have e2 : a'.eval (.tmp 39) = .agg #[.string (ba LD), .int .i64 16] := hvals 0 _ _ (by kernel_rfl) rfl rfl
        have ef : a'.eval (.func 17) = .func (.func 17) #[] #[] := rfl
        have ec : a'.eval (.const (.int .i64 8)) = .int .i64 8 := rfl
        refine oper_wp_call (f := 17) (args := #[.agg #[.string (ba LD), .int .i64 16], .int .i64 8, .agg #[.slice (some ⟨g, 0, none⟩) 1 1]]) ?_ ((HA3.out w' g q1).mono ?_)
        · generalize a'.eval = ρ at *
          simp [execOp, go_sem, e1, e2, ef, ec]
        · rintro e w'' ⟨rfl, b1⟩
          exact ⟨_, rfl, _, rfl, hI.second b1⟩
      | 3, ho =>
        simp at ho; subst ho
        have e1 : a'.eval (.tmp 41) = r 1 := hvals 2 _ _ (by kernel_rfl) rfl rfl
        show 1 < s → (execOp a'.eval _).run _ w' = .ok (.value _) w'
        intro hs
        rw [hI.two hs] at e1 ⊢
        generalize a'.eval = ρ at *
        simp [execOp, go_sem, e1]
      | 4, ho =>
        simp at ho; subst ho
        have e1 : a'.eval (.tmp 38) = r 1 := hvals 3 _ _ (by kernel_rfl) rfl rfl
        show 1 < s → (execOp a'.eval _).run _ w' = .ok (.value _) w'
        intro hs
        rw [hI.two hs] at e1 ⊢
        simp only [exT] at e1 ⊢
        generalize a'.eval = ρ at *
        simp [execOp, go_sem, e1]
      | 5, ho =>
        simp at ho; subst ho
        have e1 : a'.eval (.tmp 38) = r 1 := hvals 3 _ _ (by kernel_rfl) rfl rfl
        show 1 < s → (execOp a'.eval _).run _ w' = .ok (.value _) w'
        intro hs
        rw [hI.two hs] at e1 ⊢
        simp only [exT] at e1 ⊢
        generalize a'.eval = ρ at *
        simp [execOp, go_sem, e1]
      | 8, ho =>
        simp at ho; subst ho
        have e1 : a'.eval (.tmp 43) = exT 1 (r 1) := hvals 5 _ _ (by kernel_rfl) rfl rfl
        show 1 < s → (execOp a'.eval _).run _ w' = .ok (.value _) w'
        intro hs
        rw [hI.two hs] at e1 ⊢
        simp only [exT] at e1 ⊢
        generalize a'.eval = ρ at *
        simp [execOp, go_sem, e1]
      | 6, ho =>
        simp at ho; subst ho
        show b 6 = none → _
        intro hb
        refine ⟨.cells #[.string ⟨#[]⟩, .int .i64 0] 39, ?_, hI.box hb⟩
        generalize a'.eval = ρ at *
        simp [execOp, go_sem]
      | 7, ho =>
        simp at ho; subst ho
        show s = 2 → _
        intro hs
        subst hs
        have er := hI.two (Nat.le_refl _)
        obtain ⟨p, hp⟩ := Option.isSome_iff_exists.1 (hbx 6 (by kernel_rfl) rfl)
        have kg := (hI.six p hp).2.1 (Nat.le_refl _)
        have e1 : a'.eval (.tmp 9) = .pointer (some ⟨p, 0, none⟩) := (hvals 6 _ _ (by kernel_rfl) rfl rfl).trans (by show Cm.out r b 6 .box = _; simp [Cm.out, hp])
        have e2 : a'.eval (.tmp 42) = .agg #[.string ⟨#[]⟩, .int .i64 0] := (hvals 4 _ _ (by kernel_rfl) rfl rfl).trans (by show exT 0 (r 1) = _; rw [er]; rfl)
        have t0 := kg.cell (j := 0) (u := .string ⟨#[]⟩) rfl
        have t1 := kg.cell (j := 1) (u := .int .i64 0) rfl
        have fr := fun j => kg.free j
        refine oper_wp_skip (w' := (w'.setCell ⟨p, 0, none⟩ (.string ⟨#[]⟩)).setCell ⟨p, 1, none⟩ (.int .i64 0)) ?_ ⟨undef, rfl, hI.put hp _⟩
        generalize a'.eval = ρ at *
        simp [execOp, go_sem, e1, e2, t0, t1, fr]
      | i + 9, ho => simp at ho
    case fin =>
      rintro r b W6 hI hbxs
      obtain ⟨B9, hp⟩ := hbxs 6 (by decide) rfl
      have er := hI.two (by decide)
      have hbe := hI.bel
      have HB6 : Hid (Below w.heap.size w W6) := HB5.out.trans (hbe.mono HB5.out.size)
      have HK16 : Hid (Blk W6 B1 #[.string (ba LA), .int .i64 0] 39) := HK15.out.below hbe HK15.out.lt
      have HK76 : Hid (Blk W6 B7 #[.string (ba LD), .int .i64 16] 39) := HK7.out.below hbe HK7.out.lt
      simp only [putM, Cm.out, er, hp, exT, Act.put, List.setIfInBounds_toArray, List.set_cons_succ, List.set_cons_zero, List.getElem?_toArray, List.getElem?_cons_zero, List.getElem?_cons_succ, Option.getD_some]
      have x0 := HK76.out.cell (j := 0) (u := .string (ba LD)) rfl
      have x1 := HK76.out.cell (j := 1) (u := .int .i64 16) rfl
      clear hI hbxs hp er hbe HB5 HK15 HK7 HO6 HA2 HA3 HA1 HSY
      go_wp2_with fail
      refine (HOP.out _).mono ?_
      rintro e w7 ⟨ga, gc, rfl, b7⟩
      obtain ⟨V7, hV7⟩ : ∃ W, W = w7.alloc (.cells #[.int .i64 7, .slice ga 1 gc, .slice none 0 0] 27) := ⟨_, rfl⟩
      obtain ⟨W7, hW7⟩ : ∃ W, W = V7.alloc (.cells #[.string (ba LE), .int .i64 16] 39) := ⟨_, rfl⟩
      have s7 : V7.heap.size = w7.heap.size + 1 := by rw [hV7, World.size_alloc]
      have HKS : Hid (Blk W7 w7.heap.size #[.int .i64 7, .slice ga 1 gc, .slice none 0 0] 27) := by show Blk _ _ _ _; rw [hW7]; exact (Blk.newE hV7).alloc _
      have HKE : Hid (Blk W7 (w7.heap.size + 1) #[.string (ba LE), .int .i64 16] 39) := s7 ▸ Blk.newE hW7
      have HB7 : Hid (Below w.heap.size w W7) := by
        have h := HB6.out.trans (b7.mono HB6.out.size)
        show Below _ _ _; rw [hW7, hV7]; exact (h.alloc h.size _).alloc (by have := h.size; simp; omega) _
      have HK17 : Hid (Blk W7 B1 #[.string (ba LA), .int .i64 0] 39) := by show Blk _ _ _ _; rw [hW7, hV7]; exact ((HK16.out.below b7 HK16.out.lt).alloc _).alloc _
      have HK77 : Hid (Blk W7 B7 #[.string (ba LD), .int .i64 16] 39) := by show Blk _ _ _ _; rw [hW7, hV7]; exact ((HK76.out.below b7 HK76.out.lt).alloc _).alloc _
      have HW7 : Hid (W7 = (w7.alloc (.cells #[.int .i64 7, .slice ga 1 gc, .slice none 0 0] 27)).alloc (.cells #[.string (ba LE), .int .i64 16] 39)) := by show _ = _; rw [hW7, hV7]
      clear b7 hV7 hW7 s7 HB6 HK16 HK76 x0 x1 HOP
      go_wp2_with fail
      rw [← HW7.out]
      clear HW7
      refine (HO5.out _).mono ?_
      rintro e w8 ⟨g8, rfl, F8, b8⟩
      have HF8 : Hid (FrsIn (fun _ => True) w8 (.slice (some ⟨g8, 0, none⟩) 1 1) [pf 5 true]) := F8
      have HB8 : Hid (Below w.heap.size w w8) := HB7.out.trans (b8.mono HB7.out.size)
      have HKS8 : Hid (Blk w8 w7.heap.size #[.int .i64 7, .slice ga 1 gc, .slice none 0 0] 27) := HKS.out.below b8 HKS.out.lt
      have HKE8 : Hid (Blk w8 (w7.heap.size + 1) #[.string (ba LE), .int .i64 16] 39) := HKE.out.below b8 HKE.out.lt
      have HK18 : Hid (Blk w8 B1 #[.string (ba LA), .int .i64 0] 39) := HK17.out.below b8 HK17.out.lt
      have HK78 : Hid (Blk w8 B7 #[.string (ba LD), .int .i64 16] 39) := HK77.out.below b8 HK77.out.lt
      clear F8 b8 HB7 HKS HKE HK17 HK77 HO5
      go_wp2_with fail
      refine (HEN.out _ _ HF8.out).mono ?_
      rintro e w9 ⟨rfl, b9⟩
      have HB9 : Hid (Below w.heap.size w w9) := HB8.out.trans (b9.mono HB8.out.size)
      have KS9 := HKS8.out.below b9 HKS8.out.lt
      have KE9 := HKE8.out.below b9 HKE8.out.lt
      have K19 := HK18.out.below b9 HK18.out.lt
      have K79 := HK78.out.below b9 HK78.out.lt
      have HKS9 : Hid (Blk w9 w7.heap.size #[.int .i64 7, .slice ga 1 gc, .slice none 0 0] 27) := KS9
      have HKE9 : Hid (Blk w9 (w7.heap.size + 1) #[.string (ba LE), .int .i64 16] 39) := KE9
      have HK19 : Hid (Blk w9 B1 #[.string (ba LA), .int .i64 0] 39) := K19
      have x0 := K79.cell (j := 0) (u := .string (ba LD)) rfl
      have x1 := K79.cell (j := 1) (u := .int .i64 16) rfl
      clear b9 HB8 HKS8 HKE8 HK18 HK78 KS9 KE9 K19 K79 HF8 HEN
      go_wp2_with fail
      refine (HCK.out _).mono ?_
      rintro e w10 ⟨rfl, b10⟩
      have HB10 : Hid (Below w.heap.size w w10) := HB9.out.trans (b10.mono HB9.out.size)
      have KS := HKS9.out.below b10 HKS9.out.lt
      have KE := HKE9.out.below b10 HKE9.out.lt
      have K1 := HK19.out.below b10 HK19.out.lt
      have s0 := KS.cell (j := 0) (u := .int .i64 7) rfl
      have s1 := KS.cell (j := 1) (u := .slice ga 1 gc) rfl
      have e0 := KE.cell (j := 0) (u := .string (ba LE)) rfl
      have e1 := KE.cell (j := 1) (u := .int .i64 16) rfl
      have d0 := K1.cell (j := 0) (u := .string (ba LA)) rfl
      clear b10 HB9 HKS9 HKE9 HK19 KS KE K1 x0 x1 HCK
      go_wp2_with fail
      go_ret
      exact ⟨rfl, HB10.out⟩

end Go.Proofs.Ytnpaejknoipicad

namespace Go.Proofs.Ytnpaejknoipicad
open Go.RowKit Go.Sort

/-- what a beginning of a right disk has -/
theorem parts_plain {l : List UInt8} {n : Nat} (hn : n ≤ l.length) :
    (0 < (opL (l.take n)).length → opF (l.take n) ≤ opF l) ∧ ∀ i, i < (opL (l.take n)).length → opF (l.take n) + i - opF l < (opL l).length ∧ ∀ j : Nat, opF (l.take n) + i - opF l = (j : Int) → (opL (l.take n))[i]?.getD [] = (opL l)[j]?.getD [] := by
  obtain ⟨k, hk, _, h2, _, _, _, h3⟩ := take_facts hn
  have hL : dGs l = (dGs l).take k ++ (dGs l).drop k := (List.take_append_drop k _).symm
  have ht : trimD ((dGs l).take k) ≤ trimD (dGs l) := by
    have := trimD_more ((dGs l).take k) ((dGs l).drop k)
    rwa [← hL] at this
  have hkl : k ≤ (dGs l).length := by rw [dGs_length]; exact hk
  have hlen : (opL (l.take n)).length = k - trimD ((dGs l).take k) := by
    unfold opL; rw [h2, List.length_drop, List.length_take]; omega
  have hfi : 0 < (opL (l.take n)).length → opF (l.take n) = dFirst l + trimD ((dGs l).take k) := fun h0 => by
    unfold opF; rw [h2, h3 (by omega)]
  refine ⟨fun h0 => by rw [hfi h0]; unfold opF; omega, fun i hi => ?_⟩
  rw [hfi (by omega)]
  have hl2 : (opL l).length = (dGs l).length - trimD (dGs l) := by unfold opL; rw [List.length_drop]
  have hF : opF l = dFirst l + trimD (dGs l) := rfl
  rw [hlen] at hi
  refine ⟨by rw [hl2, hF]; omega, fun j hj => ?_⟩
  rw [hF] at hj
  unfold opL
  rw [h2, List.getElem?_drop, List.getElem?_drop, List.getElem?_take_of_lt (by omega), show trimD ((dGs l).take k) + i = trimD (dGs l) + j by omega]

theorem wr_id {x : Int} (h : -1000000 ≤ x ∧ x ≤ 1000000) : wrap64 x = x := by obtain ⟨h1, h2⟩ := h; unfold wrap64; omega

set_option maxHeartbeats 8000000 in
set_option maxRecDepth 100000 in
theorem diskParts_law (l : List UInt8) (s n : Int) (w : World) :
    Calls Try.prog 4 #[.agg #[.string (ba l), .int .i64 s], .int .i64 n] w fun e w' => e = .returned (.bool true) ∧ Below w.heap.size w w' := by
  obtain ⟨E, hE⟩ : ∃ E, E = diskE l s := ⟨_, rfl⟩
  obtain ⟨ll, hll⟩ : ∃ x, x = l.length := ⟨_, rfl⟩
  have hsl : (ba l).size = ll := by rw [ba_size, hll]
  have HBG : Hid (∀ W, Calls Try.prog 12 #[] W fun e w' => e = .returned (.bool true) ∧ Below W.heap.size W w') := fun W => diskBegun_any W
  have HCK : Hid (∀ W, Calls Try.prog 13 #[.agg #[.string (ba l), .int .i64 s]] W fun e w' => e = .returned (.int .i64 E) ∧ Below W.heap.size W w') := fun W => by rw [hE]; exact diskCheck_any l s W
  have HE : Hid (E = diskE l s) := hE
  have HLL : Hid (ll = l.length) := hll
  clear hE hll
  go_enter Try.func4, Try.ntmps4
  go_wp2_with fail
  have K0 := Blk.new w #[.string (ba l), .int .i64 s] 39
  have HK0 : Hid (Blk (w.alloc (.cells #[.string (ba l), .int .i64 s] 39)) w.heap.size #[.string (ba l), .int .i64 s] 39) := K0
  refine (HBG.out _).mono ?_
  rintro e w1 ⟨rfl, b1⟩
  have HB1 : Hid (Below w.heap.size w w1) := ((Below.refl _ w).alloc (Nat.le_refl _) _).trans (b1.mono (by simp))
  have HK1 : Hid (Blk w1 w.heap.size #[.string (ba l), .int .i64 s] 39) := HK0.out.below b1 K0.lt
  have d0 := HK1.out.cell (j := 0) (u := .string (ba l)) rfl
  have d1 := HK1.out.cell (j := 1) (u := .int .i64 s) rfl
  clear HBG b1 K0 HK0
  go_wp2_with fail
  refine (HCK.out _).mono ?_
  rintro e w2 ⟨rfl, b2⟩
  have HB2 : Hid (Below w.heap.size w w2) := HB1.out.trans (b2.mono HB1.out.size)
  have HK2 : Hid (Blk w2 w.heap.size #[.string (ba l), .int .i64 s] 39) := HK1.out.below b2 HK1.out.lt
  have e0 := HK2.out.cell (j := 0) (u := .string (ba l)) rfl
  have e1 := HK2.out.cell (j := 1) (u := .int .i64 s) rfl
  clear HB1 HK1 HCK b2 d0 d1
  by_cases hE0 : E = 0
  · by_cases hn0 : n < 0
    · subst hE0
      go_wp2_with fail
      go_ret
      exact ⟨rfl, HB2.out⟩
    · by_cases hnl : (ll : Int) < n
      · subst hE0
        go_wp2_with fail
        go_ret
        exact ⟨rfl, HB2.out⟩
      · as_aux_lemma =>
          obtain ⟨k, rfl⟩ : ∃ k : Nat, n = (k : Int) := ⟨n.toNat, by omega⟩
          have hkl : k ≤ ll := by omega
          have hki : (k : Int) ≤ (ll : Int) := by omega
          have HD0 : Hid (diskE l s = 0) := by rw [← HE.out]; exact hE0
          obtain ⟨lt, hlt⟩ : ∃ x, x = l.take k := ⟨_, rfl⟩
          have hex : (ba l).extract 0 k = ba lt := by rw [hlt, ba_take]
          have HDT : Hid (diskE lt 0 = 0) := by show _ = _; rw [hlt]; exact take_zero (by rw [← HLL.out]; exact hkl) HD0.out
          obtain ⟨F1, hF1⟩ : ∃ x, x = opF lt := ⟨_, rfl⟩
          obtain ⟨F2, hF2⟩ : ∃ x, x = opF l := ⟨_, rfl⟩
          obtain ⟨L1, hL1⟩ : ∃ x, x = opL lt := ⟨_, rfl⟩
          obtain ⟨L2, hL2⟩ : ∃ x, x = opL l := ⟨_, rfl⟩
          have hpp := parts_plain (n := k) (by rw [← HLL.out]; exact hkl)
          rw [← hlt, ← hF1, ← hF2, ← hL1, ← hL2] at hpp
          have hr1 := stchk_zero.1 (op_right HDT.out)
          have hr2 := stchk_zero.1 (op_right HD0.out)
          rw [← hF1, ← hL1] at hr1
          rw [← hF2, ← hL2] at hr2
          obtain ⟨m1, hm1⟩ : ∃ x, x = L1.length := ⟨_, rfl⟩
          obtain ⟨m2, hm2⟩ : ∃ x, x = L2.length := ⟨_, rfl⟩
          have HBD : Hid (0 ≤ F1 ∧ F1 ≤ 100000 ∧ 0 ≤ F2 ∧ F2 ≤ 100000 ∧ m1 ≤ 5 ∧ m2 ≤ 5) := ⟨hr1.1, hr1.2.1, hr2.1, hr2.2.1, by rw [hm1]; exact hr1.2.2.1, by rw [hm2]; exact hr2.2.2.1⟩
          have HP1 : Hid (0 < m1 → F1 ≤ F2) := by rw [hm1]; exact hpp.1
          have HP2 : Hid (∀ i, i < m1 → F1 + i - F2 < m2 ∧ ∀ j : Nat, F1 + i - F2 = (j : Int) → L1[i]?.getD [] = L2[j]?.getD []) := by rw [hm1, hm2]; exact hpp.2
          have HO1 : Hid (∀ W, Calls Try.prog 14 #[.agg #[.string (ba lt), .int .i64 0]] W fun e w' => ∃ (gv : Value) (X : ByteArray) (N : Int), e = .returned (.tuple #[.agg #[.int .i64 F1, gv, .slice none 0 0], .agg #[.string X, .int .i64 N], .int .i64 0]) ∧ Below W.heap.size W w' ∧ GrsIn (fun _ => True) w' gv L1) := fun W => by
            refine (diskOpen_any lt 0 W).mono ?_
            rintro e w' ⟨f, gv, X, N, rfl, hB, h1, _⟩
            obtain ⟨rfl, hG, _⟩ := h1 HDT.out
            rw [HDT.out, ← hF1, hL1]
            exact ⟨gv, X, N, rfl, hB, hG.mono (fun _ _ _ => trivial)⟩
          have HO2 : Hid (∀ W, Calls Try.prog 14 #[.agg #[.string (ba l), .int .i64 s]] W fun e w' => ∃ (gv : Value) (X : ByteArray) (N : Int), e = .returned (.tuple #[.agg #[.int .i64 F2, gv, .slice none 0 0], .agg #[.string X, .int .i64 N], .int .i64 0]) ∧ Below W.heap.size W w' ∧ GrsIn (fun _ => True) w' gv L2) := fun W => by
            refine (diskOpen_any l s W).mono ?_
            rintro e w' ⟨f, gv, X, N, rfl, hB, h1, _⟩
            obtain ⟨rfl, hG, _⟩ := h1 HD0.out
            rw [HD0.out, ← hF2, hL2]
            exact ⟨gv, X, N, rfl, hB, hG.mono (fun _ _ _ => trivial)⟩
          have HCT : Hid (∀ W, Calls Try.prog 13 #[.agg #[.string (ba lt), .int .i64 0]] W fun e w' => e = .returned (.int .i64 0) ∧ Below W.heap.size W w') := fun W => by
            have := diskCheck_any lt 0 W
            rw [HDT.out] at this; exact this
          have HM : Hid (m1 = L1.length ∧ m2 = L2.length) := ⟨hm1, hm2⟩
          subst hE0
          clear hF1 hF2 hL1 hL2 hlt hpp hr1 hr2 hm1 hm2 HE HDT HD0
          go_wp2_with fail
          refine (HO1.out _).mono ?_
          rintro e w3 ⟨gv1, X1, N1, rfl, b3, hG1⟩
          obtain ⟨ga1, gc1, eg1, _, _⟩ := hG1.len
          rw [← HM.out.1] at eg1
          subst eg1
          obtain ⟨V1, hV1⟩ : ∃ V, V = w2.alloc (.cells #[.string (ba lt), .int .i64 0] 39) := ⟨_, rfl⟩
          obtain ⟨V3, hV3⟩ : ∃ V, V = w3.alloc (.cells #[.int .i64 F1, .slice ga1 m1 gc1, .slice none 0 0] 27) := ⟨_, rfl⟩
          obtain ⟨V4, hV4⟩ : ∃ V, V = V3.alloc (.cells #[.string X1, .int .i64 N1] 39) := ⟨_, rfl⟩
          rw [← hV1] at b3
          have s3 : V3.heap.size = w3.heap.size + 1 := by rw [hV3, World.size_alloc]
          have kP0 : Blk V1 w2.heap.size #[.string (ba lt), .int .i64 0] 39 := Blk.newE hV1
          have kD0 : Blk V1 w.heap.size #[.string (ba l), .int .i64 s] 39 := by rw [hV1]; exact HK2.out.alloc _
          have bV1 : Below w.heap.size w V1 := by rw [hV1]; exact HB2.out.alloc HB2.out.size _
          have to4 : ∀ {b : Nat} {C : Array Value} {t : TypeId}, Blk w3 b C t → Blk V4 b C t := fun h => by rw [hV4, hV3]; exact (h.alloc _).alloc _
          have HP4 : Hid (Blk V4 w2.heap.size #[.string (ba lt), .int .i64 0] 39) := to4 (kP0.below b3 kP0.lt)
          have HD4 : Hid (Blk V4 w.heap.size #[.string (ba l), .int .i64 s] 39) := to4 (kD0.below b3 kD0.lt)
          have HS4 : Hid (Blk V4 w3.heap.size #[.int .i64 F1, .slice ga1 m1 gc1, .slice none 0 0] 27) := by show Blk _ _ _ _; rw [hV4]; exact (Blk.newE hV3).alloc _
          have HG4 : Hid (GrsIn (fun _ => True) V4 (.slice ga1 m1 gc1) L1) := by show GrsIn _ _ _ _; rw [hV4, hV3]; exact (hG1.alloc _).alloc _
          have HB4 : Hid (Below w.heap.size w V4) := by
            have h := bV1.trans (b3.mono bV1.size)
            show Below _ _ _; rw [hV4, hV3]; exact (h.alloc h.size _).alloc (by have := h.size; simp; omega) _
          have HV4 : Hid (V4 = (w3.alloc (.cells #[.int .i64 F1, .slice ga1 m1 gc1, .slice none 0 0] 27)).alloc (.cells #[.string X1, .int .i64 N1] 39)) := by show _ = _; rw [hV4, hV3]
          have q0 := HD4.out.cell (j := 0) (u := .string (ba l)) rfl
          have q1 := HD4.out.cell (j := 1) (u := .int .i64 s) rfl
          rw [HV4.out] at q0 q1
          clear hV1 hV3 hV4 s3 kP0 kD0 bV1 to4 b3 hG1 HB2 HK2 e0 e1 HO1
          go_wp2_with fail
          rw [← HV4.out]
          clear HV4 q0 q1
          refine (HO2.out _).mono ?_
          rintro e w5 ⟨gv2, X2, N2, rfl, b5, hG2⟩
          obtain ⟨ga2, gc2, eg2, _, _⟩ := hG2.len
          rw [← HM.out.2] at eg2
          subst eg2
          obtain ⟨V5, hV5⟩ : ∃ V, V = w5.alloc (.cells #[.int .i64 F2, .slice ga2 m2 gc2, .slice none 0 0] 27) := ⟨_, rfl⟩
          obtain ⟨V6, hV6⟩ : ∃ V, V = V5.alloc (.cells #[.string X2, .int .i64 N2] 39) := ⟨_, rfl⟩
          have to6 : ∀ {b : Nat} {C : Array Value} {t : TypeId}, Blk w5 b C t → Blk V6 b C t := fun h => by rw [hV6, hV5]; exact (h.alloc _).alloc _
          have HP6 : Hid (Blk V6 w2.heap.size #[.string (ba lt), .int .i64 0] 39) := to6 (HP4.out.below b5 HP4.out.lt)
          have HS6 : Hid (Blk V6 w3.heap.size #[.int .i64 F1, .slice ga1 m1 gc1, .slice none 0 0] 27) := to6 (HS4.out.below b5 HS4.out.lt)
          have HT6 : Hid (Blk V6 w5.heap.size #[.int .i64 F2, .slice ga2 m2 gc2, .slice none 0 0] 27) := by show Blk _ _ _ _; rw [hV6]; exact (Blk.newE hV5).alloc _
          have HG6 : Hid (GrsIn (fun _ => True) V6 (.slice ga1 m1 gc1) L1) := by show GrsIn _ _ _ _; rw [hV6, hV5]; exact ((HG4.out.below b5).alloc _).alloc _
          have HH6 : Hid (GrsIn (fun _ => True) V6 (.slice ga2 m2 gc2) L2) := by show GrsIn _ _ _ _; rw [hV6, hV5]; exact (hG2.alloc _).alloc _
          have HB6 : Hid (Below w.heap.size w V6) := by
            have h := HB4.out.trans (b5.mono HB4.out.size)
            show Below _ _ _; rw [hV6, hV5]; exact (h.alloc h.size _).alloc (by have := h.size; simp; omega) _
          have HV6 : Hid (V6 = (w5.alloc (.cells #[.int .i64 F2, .slice ga2 m2 gc2, .slice none 0 0] 27)).alloc (.cells #[.string X2, .int .i64 N2] 39)) := by show _ = _; rw [hV6, hV5]
          have q0 := HP6.out.cell (j := 0) (u := .string (ba lt)) rfl
          have q1 := HP6.out.cell (j := 1) (u := .int .i64 0) rfl
          rw [HV6.out] at q0 q1
          clear hV5 hV6 to6 b5 hG2 HP4 HD4 HS4 HG4 HB4 HO2
          go_wp2_with fail
          rw [← HV6.out]
          clear HV6 q0 q1
          refine (HCT.out _).mono ?_
          rintro e w7 ⟨rfl, b7⟩
          have HS7 : Hid (Blk w7 w3.heap.size #[.int .i64 F1, .slice ga1 m1 gc1, .slice none 0 0] 27) := HS6.out.below b7 HS6.out.lt
          have HT7 : Hid (Blk w7 w5.heap.size #[.int .i64 F2, .slice ga2 m2 gc2, .slice none 0 0] 27) := HT6.out.below b7 HT6.out.lt
          have HG7 : Hid (GrsIn (fun _ => True) w7 (.slice ga1 m1 gc1) L1) := HG6.out.below b7
          have HH7 : Hid (GrsIn (fun _ => True) w7 (.slice ga2 m2 gc2) L2) := HH6.out.below b7
          have HB7 : Hid (Below w.heap.size w w7) := HB6.out.trans (b7.mono HB6.out.size)
          have a0 := HS7.out.cell (j := 0) (u := .int .i64 F1) rfl
          have a1 := HS7.out.cell (j := 1) (u := .slice ga1 m1 gc1) rfl
          have c0 := HT7.out.cell (j := 0) (u := .int .i64 F2) rfl
          clear b7 HP6 HS6 HT6 HG6 HH6 HB6 HCT
          have cut : ∀ (_ : Hid True), True := fun _ => trivial
          clear cut
          by_cases hm0 : 0 < m1
          · as_aux_lemma =>
              have hf := HP1.out hm0
              have hm0i : (0 : Int) < (m1 : Int) := by omega
              have hfn : ¬ F2 < F1 := by omega
              clear HP1
              go_wp2_with fail
              go_loopw [12, 13] (fun i _ wr => ∃ q : Nat, q ≤ m1 ∧ i = .int .i64 q ∧ Hid (Below w7.heap.size w7 wr))
                (fun i _ _ => m1 - (intOf i).toNat)
              case atStart => exact ⟨0, Nat.zero_le _, rfl, Below.refl _ _⟩
              case round =>
                obtain ⟨q, hq, rfl, HBR⟩ := hrel
                have KS := HS7.out.below HBR.out HS7.out.lt
                have KT := HT7.out.below HBR.out HT7.out.lt
                have x0 := KS.cell (j := 0) (u := .int .i64 F1) rfl
                have x1 := KS.cell (j := 1) (u := .slice ga1 m1 gc1) rfl
                have y0 := KT.cell (j := 0) (u := .int .i64 F2) rfl
                have y1 := KT.cell (j := 1) (u := .slice ga2 m2 gc2) rfl
                clear KS KT a0 a1 c0
                by_cases hqm : q < m1
                · as_aux_lemma =>
                    obtain ⟨hk2, hk3⟩ := HP2.out q hqm
                    have hqi : (q : Int) < (m1 : Int) := by omega
                    have hbd := HBD.out
                    have hv1 : -1000000 ≤ F1 + (q : Int) ∧ F1 + (q : Int) ≤ 1000000 := by omega
                    have hv2 : -1000000 ≤ F1 + (q : Int) - F2 ∧ F1 + (q : Int) - F2 ≤ 1000000 := by omega
                    have hq1m : q + 1 ≤ m1 := by omega
                    obtain ⟨K, hK⟩ : ∃ K, K = F1 + (q : Int) - F2 := ⟨_, rfl⟩
                    have HK : Hid (K < m2 ∧ ∀ j : Nat, K = (j : Int) → L1[q]?.getD [] = L2[j]?.getD []) := by
                      rw [hK]; exact ⟨hk2, hk3⟩
                    have hw1 := wr_id hv1
                    have hw2 : wrap64 (F1 + (q : Int) - F2) = K := (wr_id hv2).trans hK.symm
                    have HXY : Hid (wr.cell? ⟨w3.heap.size, 1, none⟩ = some (.slice ga1 m1 gc1) ∧ wr.cell? ⟨w5.heap.size, 1, none⟩ = some (.slice ga2 m2 gc2)) := ⟨x1, y1⟩
                    clear hk2 hk3 hv1 hv2 hK hbd
                    go_upto_region 14 with fail
                    rw [hw2]
                    clear hw1 hw2
                    go_cut [109] (fun s109 wq => s109 = .bool false ∧ Hid (Below w7.heap.size w7 wq))
                    case first =>
                      clear x0 y0
                      by_cases hneg : K < 0
                      · as_aux_lemma =>
                        have hk2 := HK.out.1
                        have g1 : decide ((m2 : Int) ≤ K) = false := decide_eq_false (by omega)
                        have g2 : decide (0 ≤ K) = false := decide_eq_false (by omega)
                        clear hk2
                        go_quiet (fail)
                        go_wp2_with fail
                        go_meet
                        case rel => exact ⟨rfl, HBR.out.trans (below_drewN (Below.refl _ _) _)⟩
                      · as_aux_lemma =>
                        obtain ⟨j, rfl⟩ : ∃ j : Nat, K = (j : Int) := ⟨K.toNat, by omega⟩
                        have hjm : j < m2 := by have := HK.out.1; omega
                        have HSAME : Hid (L1[q]?.getD [] = L2[j]?.getD []) := HK.out.2 j rfl
                        obtain ⟨_, _, e1, _, _, hg1⟩ := HG7.out
                        injection e1 with e1 e2 e3
                        subst e1
                        obtain ⟨b1, o1, rfl, hb1, _, sv1, c1, f1⟩ := hg1 q (by rw [← HM.out.1]; exact hqm)
                        obtain ⟨_, _, e4, _, _, hg2⟩ := HH7.out
                        injection e4 with e4 e5 e6
                        subst e4
                        obtain ⟨b2, o2, rfl, hb2, _, sv2, c2, f2⟩ := hg2 j (by rw [← HM.out.2]; exact hjm)
                        have c1' := (HBR.out.cell (p := ⟨b1, o1 + q, none⟩) hb1).trans c1
                        have c2' := (HBR.out.cell (p := ⟨b2, o2 + j, none⟩) hb2).trans c2
                        obtain ⟨pa, pc, ep, _, hpl⟩ := f1.len
                        obtain ⟨qa, qc, eq', _, hql⟩ := f2.len
                        have F1' := f1.below HBR.out
                        have F2' := f2.below HBR.out
                        have cF : ∀ d os, Calls Try.prog 15 #[sv1, sv2] (grow (redrawn wr d) os) fun e w'' => e = .returned (.bool true) ∧ ∃ p : Regrown, w'' = grow (redrawn wr p.d) p.os := fun d os =>
                          Calls.regrown_of (by
                            have := sameFrames_any sv1 sv2 _ _ _ ((F1'.below (below_regrown wr d os)).frs) ((F2'.below (below_regrown wr d os)).frs) hpl
                            rw [show sameFs (L1[q]?.getD []) (L2[j]?.getD []) = true from decide_eq_true HSAME.out] at this
                            exact this)
                        obtain ⟨n1, hn1⟩ : ∃ x, x = (L1[q]?.getD []).length := ⟨_, rfl⟩
                        obtain ⟨n2, hn2⟩ : ∃ x, x = (L2[j]?.getD []).length := ⟨_, rfl⟩
                        rw [← hn1] at ep
                        rw [← hn2] at eq'
                        subst ep eq'
                        have z2 := cell_regrown x1
                        have z4 := cell_regrown y1
                        have z5 := cell_regrown c1'
                        have z6 := cell_regrown c2'
                        have g1 : decide ((m2 : Int) ≤ (j : Int)) = false := decide_eq_false (by omega)
                        have g1' : decide (m2 ≤ j) = false := decide_eq_false (by omega)
                        have g2 : decide ((0 : Int) ≤ (j : Int)) = true := decide_eq_true (by omega)
                        have hKi : (j : Int) < (m2 : Int) := by omega
                        clear e2 e3 e5 e6 hg1 hg2 c1 c2 f1 f2 F1' F2' hn1 hn2 hpl hql c1' c2' hb1 hb2 x1 y1
                        refine wp_region_quiet_below (by kernel_rfl) (by kernel_rfl) ?_
                        iterate 25 (quiet_step (exact cF _ _))
                        refine wpQuiet_nil ?_
                        intro _ hw'
                        obtain ⟨⟨dq, osq⟩, hw''⟩ := hw'
                        subst hw''
                        have bR := below_regrown wr dq osq
                        obtain ⟨V, hV⟩ : ∃ V, V = grow (redrawn wr dq) osq := ⟨_, rfl⟩
                        rw [← hV] at bR
                        have bV : Hid (Below w7.heap.size w7 V) := HBR.out.trans (bR.mono HBR.out.size)
                        rw [← hV]
                        clear hV bR cF z2 z4 z5 z6
                        go_wp2_with fail
                        go_meet
                        case rel => exact ⟨rfl, bV⟩
                    case rest =>
                      as_aux_lemma =>
                        obtain ⟨rfl, HQ⟩ := hcut
                        have hw3 : wrap64 ((q : Int) + 1) = ((q + 1 : Nat) : Int) := (wr_id (by have := HBD.out; omega)).trans (Int.natCast_succ q).symm
                        clear x0 x1 y0 y1 HXY
                        clear HBD HP2 HK
                        go_wp2_with fail
                        rw [hw3]
                        clear hw3
                        go_roundw
                        case rel => exact ⟨q + 1, hq1m, rfl, HQ⟩
                        case measure =>
                          clear HQ HBR HB7
                          simp only [intOf]
                          omega
                · have hqe : q = m1 := by omega
                  subst hqe
                  go_wp2_with fail
                  go_ret
                  exact ⟨rfl, HB7.out.trans (HBR.out.mono HB7.out.size)⟩
          · as_aux_lemma =>
              have hmz : m1 = 0 := by omega
              subst hmz
              go_wp2_with fail
              go_loopw [12, 13] (fun i _ wr => i = .int .i64 0 ∧ Hid (Below w7.heap.size w7 wr)) (fun _ _ _ => 0)
              case atStart => exact ⟨rfl, Below.refl _ _⟩
              case round =>
                obtain ⟨rfl, HBR⟩ := hrel
                have KS := HS7.out.below HBR.out HS7.out.lt
                have x1 := KS.cell (j := 1) (u := .slice ga1 0 gc1) rfl
                clear KS a0 a1 c0
                go_wp2_with fail
                go_ret
                exact ⟨rfl, HB7.out.trans (HBR.out.mono HB7.out.size)⟩
  · have heb : (E != 0) = true := by simpa using hE0
    go_wp2_with fail
    go_ret
    exact ⟨rfl, HB2.out⟩

end Go.Proofs.Ytnpaejknoipicad
