/-
  The law DiskCrash (its walk is printed by reg/disklaw.py).
-/
import Derived.Test.YtnpaejknoipicadMgDiskCrash2
import Derived.Test.YtnpaejknoipicadMgDiskCrash1
import Derived.Test.YtnpaejknoipicadNest
import Derived.Test.YtnpaejknoipicadBlocks
import Derived.Test.YtnpaejknoipicadRegChain
import Derived.Deep.DeepCutAuto
import Derived.Test.YtnpaejknoipicadRefGroup

namespace Go.Proofs.Ytnpaejknoipicad
open Go.RowKit

/-- what Crash answers; how much stays -/
def crE (l : List UInt8) (s keep : Int) : Int := if diskE l s = 0 then (if keep < 0 then 3 else 0) else diskE l s
def crN (l : List UInt8) (s keep : Int) : Nat := (s + min keep (l.length - s)).toNat

set_option maxHeartbeats 8000000 in
set_option maxRecDepth 100000 in
theorem diskCrash_any (l : List UInt8) (s keep : Int) (w : World) :
    Calls Try.prog 19 #[.agg #[.string (ba l), .int .i64 s], .int .i64 keep] w fun e w' => ∃ (X : ByteArray) (N : Int), e = .returned (.tuple #[.agg #[.string X, .int .i64 N], .int .i64 (crE l s keep)]) ∧ Below w.heap.size w w' ∧ (crE l s keep = 0 → X = ba (l.take (crN l s keep)) ∧ N = s) ∧ (¬ crE l s keep = 0 → X = ⟨#[]⟩ ∧ N = 0) := by
  obtain ⟨e, he⟩ : ∃ e, e = diskE l s := ⟨_, rfl⟩
  obtain ⟨o, ho⟩ : ∃ e, e = crE l s keep := ⟨_, rfl⟩
  obtain ⟨ll, hll⟩ : ∃ x, x = l.length := ⟨_, rfl⟩
  obtain ⟨k, hk⟩ : ∃ k, k = crN l s keep := ⟨_, rfl⟩
  obtain ⟨a, ha⟩ : ∃ a, a = l.take k := ⟨_, rfl⟩
  have hsl : (ba l).size = ll := by rw [ba_size, hll]
  have H1 : Hid (¬ e = 0 → o = e) := fun h => by rw [ho]; unfold crE; rw [← he, if_neg h]
  have H2 : Hid (e = 0 → keep < 0 → o = 3) := fun h h2 => by rw [ho]; unfold crE; rw [← he, if_pos h, if_pos h2]
  have H3 : Hid (e = 0 → 0 ≤ keep → o = 0 ∧ ll ≤ 2000 ∧ 0 ≤ s ∧ s ≤ ll ∧ k ≤ ll ∧ (k : Int) = s + min keep (ll - s)) := fun h h2 => by
    have h0 : diskE l s = 0 := by rw [← he]; exact h
    obtain ⟨h3, _, j, h4, h5⟩ := diskE_zero.1 h0
    have h6 := recs_le l h4
    refine ⟨by rw [ho]; unfold crE; rw [← he, if_pos h, if_neg (by omega)], by omega, by omega, by omega, ?_, ?_⟩
    · rw [hk]; unfold crN; rw [← hll]; omega
    · rw [hk]; unfold crN; rw [← hll]; omega
  have HCK : Hid (∀ W, Calls Try.prog 13 #[.agg #[.string (ba l), .int .i64 s]] W fun r w' => r = .returned (.int .i64 e) ∧ Below W.heap.size W w') := fun W => by
    rw [he]; exact diskCheck_any l s W
  have HCL : Hid (ll ≤ 2000 → ∀ W, Calls Try.prog 50 #[.string (ba a)] W fun e w' => e = .returned (.string (ba a)) ∧ Below W.heap.size W w') := fun h W => strClone_any a W (by rw [ha, List.length_take]; omega)
  have HEX : Hid ((ba l).extract 0 k = ba a) := by show _ = _; rw [ha, ba_take]
  have HAE : Hid (ba a = ba (l.take k)) := by rw [ha]; trivial
  rw [← ho, ← hk]
  clear ho he hk ha hll
  go_enter Try.func19, Try.ntmps19
  go_wp2_with fail
  refine (HCK.out _).mono ?_
  rintro q w1 ⟨rfl, b1⟩
  have bb : Below w.heap.size w ((w.alloc (.cells #[.string (ba l), .int .i64 s] 39)).alloc (.cells #[.string ⟨#[]⟩, .int .i64 0] 39)) := ((Below.refl _ w).alloc (Nat.le_refl _) _).alloc (by simp) _
  have K0 := Blk.new (w.alloc (.cells #[.string (ba l), .int .i64 s] 39)) #[.string ⟨#[]⟩, .int .i64 0] 39
  rw [World.size_alloc] at K0
  have A0 := (Blk.new w #[.string (ba l), .int .i64 s] 39).alloc (.cells #[.string ⟨#[]⟩, .int .i64 0] 39)
  have K2 := K0.below b1 K0.lt
  have A2 := A0.below b1 A0.lt
  have HB : Hid (Below w.heap.size w w1) := bb.trans (b1.mono bb.size)
  have z0 := K2.cell (j := 0) (u := .string ⟨#[]⟩) rfl
  have z1 := K2.cell (j := 1) (u := .int .i64 0) rfl
  have zf := fun j => K2.free j
  have a0 := A2.cell (j := 0) (u := .string (ba l)) rfl
  have a1 := A2.cell (j := 1) (u := .int .i64 s) rfl
  have HK2 : Hid (Blk w1 (w.heap.size + 1) #[.string ⟨#[]⟩, .int .i64 0] 39) := K2
  have HA2 : Hid (Blk w1 w.heap.size #[.string (ba l), .int .i64 s] 39) := A2
  have NO : Hid (∀ V : World, V = (w1.setCell ⟨w.heap.size + 1, 0, none⟩ (.string ⟨#[]⟩)).setCell ⟨w.heap.size + 1, 1, none⟩ (.int .i64 0) → Below w.heap.size w V ∧ Blk V (w.heap.size + 1) #[.string ⟨#[]⟩, .int .i64 0] 39) := fun V hV => by
    rw [hV]; exact ⟨(HB.out.setCell (p := ⟨w.heap.size + 1, 0, none⟩) (Nat.le_succ _) _).setCell (p := ⟨w.heap.size + 1, 1, none⟩) (Nat.le_succ _) _, (HK2.out.set 0 _).set 1 _⟩
  clear HCK b1 bb K0 A0 K2 A2
  by_cases h : e = 0
  · by_cases hk0 : keep < 0
    · have ho := H2.out h hk0
      subst h ho
      clear H1 H2 H3 HCL HEX HAE
      go_wp2_with fail
      obtain ⟨hB, hK⟩ := NO.out _ rfl
      have y0 := hK.cell (j := 0) (u := .string ⟨#[]⟩) rfl
      have y1 := hK.cell (j := 1) (u := .int .i64 0) rfl
      exact bodyPost_ret (v := .tuple #[.agg #[.string ⟨#[]⟩, .int .i64 0], .int .i64 3]) (by simp [results, Try.results19, go_sem, y0, y1]) rfl ⟨⟨#[]⟩, 0, rfl, hB, fun h => absurd h (by decide), fun _ => ⟨rfl, rfl⟩⟩
    · obtain ⟨ho, h3, h4, h5, h6, h7⟩ := H3.out h (by omega)
      have HCL2 := HCL.out h3
      have w1' : wrap64 ((ll : Int) - s) = (ll : Int) - s := by unfold wrap64; omega
      have w2' : wrap64 (s + if (ll : Int) - s < keep then (ll : Int) - s else keep) = (k : Int) := by
        rw [show (if (ll : Int) - s < keep then (ll : Int) - s else keep) = min keep ((ll : Int) - s) by split <;> omega, ← h7]
        unfold wrap64; omega
      have HF : Hid (ll ≤ 2000 ∧ 0 ≤ s ∧ s ≤ ll ∧ k ≤ ll) := ⟨h3, h4, h5, h6⟩
      subst h ho
      clear H1 H2 H3 HCL h3 h4 h5 h7 NO
      have HW : Hid (wrap64 (s + if (ll : Int) - s < keep then (ll : Int) - s else keep) = (k : Int)) := w2'
      have HCC : Hid (∀ W, Calls Try.prog 50 #[.string (ba a)] W fun e w' => e = .returned (.string (ba a)) ∧ Below W.heap.size W w') := HCL2
      clear w2' HCL2
      go_upto_region 7 with fail
      rw [HW.out]
      clear HW
      have hex : (ba l).extract 0 k = ba a := HEX.out
      have hki : (k : Int) ≤ (ll : Int) := by omega
      refine region_chainG (by kernel_rfl) (by kernel_rfl) [.quiet (.pointer (some ⟨w.heap.size, 0, none⟩)) 3, .quiet (.string (ba l)) 3, .quiet (.int .i64 (k : Int)) 3, .quiet (.string (ba a)) 3, .step 0, .quiet (.pointer (some ⟨w.heap.size, 1, none⟩)) 3, .quiet (.int .i64 s) 3, .step 1, .step 2, .quiet (.int .i64 0) 3] [4, 7, 8] (by kernel_rfl)
        (fun s' r w' => match s' with
          | 0 => Below w1.heap.size w1 w'
          | 1 => r 0 = .string (ba a) ∧ Below w1.heap.size w1 w'
          | 2 => r 1 = .agg #[.string (ba a), .int .i64 s] ∧ Below w1.heap.size w1 w'
          | _ => ∃ V, Below w1.heap.size w1 V ∧ w' = (V.setCell ⟨w.heap.size + 1, 0, none⟩ (.string (ba a))).setCell ⟨w.heap.size + 1, 1, none⟩ (.int .i64 s)
          ) ((Below.refl _ w1).drew) ?step ?fin
      case step =>
        intro i o ho a' w' s' r hI hfree hvals
        have KAA : Blk w' w.heap.size #[.string (ba l), .int .i64 s] 39 := by
          match s', hI with
          | 0, hI => exact HA2.out.below hI HA2.out.lt
          | 1, hI => exact HA2.out.below hI.2 HA2.out.lt
          | 2, hI => exact HA2.out.below hI.2 HA2.out.lt
          | n + 3, ⟨V, hI, hw⟩ => rw [hw]; exact ((HA2.out.below hI HA2.out.lt).other (a := ⟨w.heap.size + 1, 0, none⟩) (by show w.heap.size ≠ w.heap.size + 1; omega) _).other (a := ⟨w.heap.size + 1, 1, none⟩) (by show w.heap.size ≠ w.heap.size + 1; omega) _
        have y0 := KAA.cell (j := 0) (u := .string (ba l)) rfl
        have y1 := KAA.cell (j := 1) (u := .int .i64 s) rfl
        clear KAA
        match i, ho with
        | 0, ho =>
          simp at ho; subst ho
          have e2 : a'.eval (.tmp 2) = .pointer (some ⟨w.heap.size, 0, none⟩) := (hfree 2 (by kernel_rfl)).trans rfl
          show s' ≤ 3 → _
          intro hs
          refine .inl ⟨rfl, ?_⟩
          generalize a'.eval = ρ at *
          simp [execOp, go_sem, e2]
        | 1, ho =>
          simp at ho; subst ho
          have e28 : a'.eval (.tmp 28) = .pointer (some ⟨w.heap.size, 0, none⟩) := hvals 0 _ _ (by kernel_rfl) rfl rfl
          show s' ≤ 3 → _
          intro hs
          refine .inl ⟨rfl, ?_⟩
          generalize a'.eval = ρ at *
          simp [execOp, go_sem, e28, y0]
        | 2, ho =>
          simp at ho; subst ho
          have e7 : a'.eval (.tmp 7) = .int .i64 (k : Int) := (hfree 7 (by kernel_rfl)).trans rfl
          show s' ≤ 3 → _
          intro hs
          refine .inl ⟨rfl, ?_⟩
          generalize a'.eval = ρ at *
          simp [execOp, go_sem, e7]
        | 3, ho =>
          simp at ho; subst ho
          have e29 : a'.eval (.tmp 29) = .string (ba l) := hvals 1 _ _ (by kernel_rfl) rfl rfl
          have e30 : a'.eval (.tmp 30) = .int .i64 (k : Int) := hvals 2 _ _ (by kernel_rfl) rfl rfl
          show s' ≤ 3 → _
          intro hs
          refine .inl ⟨rfl, ?_⟩
          generalize a'.eval = ρ at *
          simp [execOp, go_sem, e29, e30, hex, hki, hsl]
        | 4, ho =>
          simp at ho; subst ho
          have e31 : a'.eval (.tmp 31) = .string (ba a) := hvals 3 _ _ (by kernel_rfl) rfl rfl
          show s' = 0 → _ ∧ Oper.wp _ _ _ _ _ _
          intro hs
          subst hs
          refine ⟨rfl, ?_⟩
          have hB : Below w1.heap.size w1 w' := hI
          have ef : a'.eval (.func 50) = .func (.func 50) #[] #[] := rfl
          refine oper_wp_call (f := 50) (args := #[.string (ba a)]) ?_ ?_
          · generalize a'.eval = ρ at *
            simp [execOp, go_sem, e31, ef]
          · refine (HCC.out w').mono ?_
            rintro e w'' ⟨rfl, hb1⟩
            exact ⟨_, rfl, _, rfl, updR_at _ _ _, hB.trans (hb1.mono hB.size)⟩
        | 5, ho =>
          simp at ho; subst ho
          have e2 : a'.eval (.tmp 2) = .pointer (some ⟨w.heap.size, 0, none⟩) := (hfree 2 (by kernel_rfl)).trans rfl
          show s' ≤ 3 → _
          intro hs
          refine .inl ⟨rfl, ?_⟩
          generalize a'.eval = ρ at *
          simp [execOp, go_sem, e2]
        | 6, ho =>
          simp at ho; subst ho
          have e33 : a'.eval (.tmp 33) = .pointer (some ⟨w.heap.size, 1, none⟩) := hvals 5 _ _ (by kernel_rfl) rfl rfl
          show s' ≤ 3 → _
          intro hs
          refine .inl ⟨rfl, ?_⟩
          generalize a'.eval = ρ at *
          simp [execOp, go_sem, e33, y1]
        | 7, ho =>
          simp at ho; subst ho
          have e32 : a'.eval (.tmp 32) = r 0 := hvals 4 _ _ (by kernel_rfl) rfl rfl
          have e34 : a'.eval (.tmp 34) = .int .i64 s := hvals 6 _ _ (by kernel_rfl) rfl rfl
          show s' = 1 → _ ∧ Oper.wp _ _ _ _ _ _
          intro hs
          subst hs
          refine ⟨rfl, ?_⟩
          obtain ⟨hr0, hB⟩ := hI
          rw [hr0] at e32
          refine oper_wp_ok (v := .agg #[.string (ba a), .int .i64 s]) (w' := w') ?_ ⟨_, rfl, updR_at _ _ _, hB⟩
          generalize a'.eval = ρ at *
          simp [execOp, go_sem, e32, e34]
        | 8, ho =>
          simp at ho; subst ho
          have e4 : a'.eval (.tmp 4) = .pointer (some ⟨w.heap.size + 1, 0, none⟩) := (hfree 4 (by kernel_rfl)).trans rfl
          have e35 : a'.eval (.tmp 35) = r 1 := hvals 7 _ _ (by kernel_rfl) rfl rfl
          show s' = 2 → _ ∧ Oper.wp _ _ _ _ _ _
          intro hs
          subst hs
          refine ⟨rfl, ?_⟩
          obtain ⟨hr1, hB⟩ := hI
          rw [hr1] at e35
          have hk := HK2.out.below hB HK2.out.lt
          have x0 := hk.cell (j := 0) (u := .string ⟨#[]⟩) rfl
          have x1 := hk.cell (j := 1) (u := .int .i64 0) rfl
          have xf := fun j => hk.free j
          refine oper_wp_skip (w' := (w'.setCell ⟨w.heap.size + 1, 0, none⟩ (.string (ba a))).setCell ⟨w.heap.size + 1, 1, none⟩ (.int .i64 s)) ?_ ⟨undef, rfl, w', hB, rfl⟩
          generalize a'.eval = ρ at *
          simp [execOp, go_sem, e4, e35, x0, x1, xf]
        | 9, ho =>
          simp at ho; subst ho
          have ec0 : a'.eval (.const (.int .i64 0)) = .int .i64 0 := rfl
          show s' ≤ 3 → _
          intro hs
          refine .inl ⟨rfl, ?_⟩
          generalize a'.eval = ρ at *
          simp [execOp, go_sem, ec0]
      case fin =>
        rintro r w7 ⟨V, hB, rfl⟩
        simp only [putC, Ck.out, Act.put, List.setIfInBounds_toArray, List.set_cons_succ, List.set_cons_zero]
        have hk := ((HK2.out.below hB HK2.out.lt).set 0 (.string (ba a))).set 1 (.int .i64 s)
        have q0 := hk.cell (j := 0) (u := .string (ba a)) rfl
        have q1 := hk.cell (j := 1) (u := .int .i64 s) rfl
        have hBB := ((HB.out.trans (hB.mono HB.out.size)).setCell (p := ⟨w.heap.size + 1, 0, none⟩) (Nat.le_succ _) (.string (ba a))).setCell (p := ⟨w.heap.size + 1, 1, none⟩) (Nat.le_succ _) (.int .i64 s)
        go_wp2_with fail
        all_goals exact bodyPost_ret (v := .tuple #[.agg #[.string (ba a), .int .i64 s], .int .i64 0]) (by simp [results, Try.results19, go_sem, q0, q1]) rfl ⟨_, _, rfl, hBB, HAE.out, rfl⟩
  · have ho := H1.out h
    subst ho
    have heb : (o != 0) = true := by simpa using h
    clear H1 H2 H3 HCL HEX HAE
    go_wp2_with fail
    obtain ⟨hB, hK⟩ := NO.out _ rfl
    have y0 := hK.cell (j := 0) (u := .string ⟨#[]⟩) rfl
    have y1 := hK.cell (j := 1) (u := .int .i64 0) rfl
    exact bodyPost_ret (v := .tuple #[.agg #[.string ⟨#[]⟩, .int .i64 0], .int .i64 o]) (by simp [results, Try.results19, go_sem, y0, y1]) rfl ⟨⟨#[]⟩, 0, rfl, hB, fun h' => absurd h' h, fun _ => ⟨rfl, rfl⟩⟩

end Go.Proofs.Ytnpaejknoipicad

namespace Go.Proofs.Ytnpaejknoipicad
open Go.RowKit

/-- what Check says of a store whose numbers and groups are right -/
theorem stchk_right {f : Int} {L : List (List Fr)} (h0 : 0 ≤ f) (h1 : f ≤ 100000) (hL : ∀ g ∈ L, gchk g = 0) : stchk f L [] = if fullB L then 2 else 0 := by
  unfold stchk
  rw [if_neg (by omega), if_neg (by omega)]
  have hg : goN (fun k => gchk (grAt L k)) L.length 0 = 0 := goN_all _ _ fun j _ hj => hL _ (by
    have hj' : j < L.length := by omega
    show grAt L j ∈ L
    unfold grAt
    rw [List.getElem?_eq_getElem hj']
    exact List.getElem_mem hj')
  unfold fullB
  by_cases h5 : 5 < L.length
  · rw [if_pos h5]; simp [h5]
  · rw [if_neg h5, if_pos hg]
    cases tooB L <;> simp [h5]

set_option maxHeartbeats 4000000 in
set_option maxRecDepth 100000 in
theorem withinLimits_any (S : Nat → Prop) (f : Int) (gv : Value) (L : List (List Fr)) (w : World) (hg : GrsIn S w gv L) (hS : ∀ g, S g → g < w.heap.size) (hL : L.length ≤ 1000) (hr : ∀ g ∈ L, gchk g = 0) (h0 : 0 ≤ f) (h1 : f + (L.length - 1 : Nat) ≤ 100000) :
    Calls Try.prog 44 #[.int .i64 f, gv] w fun e w' => ∃ gv', e = .returned (.agg #[.int .i64 (f + trimD L), gv', .slice none 0 0]) ∧ GrsIn S w' gv' (L.drop (trimD L)) ∧ Below w.heap.size w w' := by
  obtain ⟨n, hn⟩ : ∃ n, n = L.length := ⟨_, rfl⟩
  have HN : Hid (n = L.length) := hn
  have hn1 : n ≤ 1000 := by omega
  obtain ⟨M, hM⟩ : ∃ M, M = w.heap.size + 1 := ⟨_, rfl⟩
  have HMw : Hid (M = w.heap.size + 1) := hM
  have HS : Hid (∀ g, S g → g < w.heap.size) := hS
  have HR : Hid (∀ g ∈ L, gchk g = 0) := hr
  have HF0 : Hid (0 ≤ f ∧ f + (n - 1 : Nat) ≤ 100000) := ⟨h0, by rw [hn]; exact h1⟩
  have HG : Hid (GrsIn S w gv L) := hg
  obtain ⟨ga0, gc0, eg0, _, _⟩ := hg.len
  obtain ⟨m0, hm0⟩ : ∃ m, m = L.length := ⟨_, rfl⟩
  rw [← hm0] at eg0
  subst eg0
  clear hn hg hS hr h0 h1 hL hm0
  go_enter Try.func44, Try.ntmps44
  go_wp2_with fail
  obtain ⟨W1, hW1⟩ : ∃ W1, W1 = w.alloc (.cells #[.int .i64 0, .slice none 0 0, .slice none 0 0] 27) := ⟨_, rfl⟩
  obtain ⟨W2, hW2⟩ : ∃ W2, W2 = W1.alloc (.cells #[.int .i64 f, .slice ga0 m0 gc0, .slice none 0 0] 27) := ⟨_, rfl⟩
  have s1 : W1.heap.size = w.heap.size + 1 := by rw [hW1, World.size_alloc]
  have KR0 : Blk W2 w.heap.size #[.int .i64 0, .slice none 0 0, .slice none 0 0] 27 := by rw [hW2]; exact (Blk.newE hW1).alloc _
  have KM0 : Blk W2 M #[.int .i64 f, .slice ga0 m0 gc0, .slice none 0 0] 27 := by rw [hM]; exact s1 ▸ Blk.newE hW2
  have B2 : Below w.heap.size w W2 := by rw [hW2, hW1]; exact ((Below.refl _ w).alloc (Nat.le_refl _) _).alloc (by simp) _
  have HG2 : Hid (GrsIn S W2 (.slice ga0 m0 gc0) L) := HG.out.below B2
  have HKR0 : Hid (Blk W2 w.heap.size #[.int .i64 0, .slice none 0 0, .slice none 0 0] 27) := KR0
  have HKM0 : Hid (Blk W2 M #[.int .i64 f, .slice ga0 m0 gc0, .slice none 0 0] 27) := KM0
  have HB2 : Hid (Below w.heap.size w W2) := B2
  rw [← hW1, ← hW2, ← hM]
  clear hW1 hW2 s1 KR0 KM0 B2 hM HG
  go_loopw [] (fun wr => ∃ (k : Nat) (gk : Value), k ≤ n ∧ Hid (∀ j, j < k → fullB (L.drop j) = true) ∧ Hid (Blk wr M #[.int .i64 (f + k), gk, .slice none 0 0] 27) ∧ Hid (Blk wr w.heap.size #[.int .i64 0, .slice none 0 0, .slice none 0 0] 27) ∧ Hid (GrsIn S wr gk (L.drop k)) ∧ Hid (Below w.heap.size w wr))
    (fun wr => n - (intOf ((wr.cell? ⟨M, 0, none⟩).getD undef) - f).toNat)
  case atStart => exact ⟨0, _, Nat.zero_le _, (show ∀ j, _ → _ from fun j hj => absurd hj (Nat.not_lt_zero _)), by simpa [Hid] using HKM0.out, HKR0.out, by simpa [Hid] using HG2.out, HB2.out⟩
  case round =>
    obtain ⟨k, gk, hk, HF, KB, KR, GK, KP⟩ := hrel
    obtain ⟨N, hN⟩ : ∃ N, N = L.drop k := ⟨_, rfl⟩
    have HNK : Hid (N = L.drop k) := hN
    rw [← hN] at GK
    obtain ⟨q, hq⟩ : ∃ q, q = N.length := ⟨_, rfl⟩
    have HQ : Hid (q = N.length) := hq
    have HQN : Hid (q = n - k) := by show _ = _; rw [hq, hN, List.length_drop, HN.out]
    have hql : q ≤ 1000 := by have := HQN.out; omega
    obtain ⟨ga, gc, eg, hgl, hg63⟩ := GK.out.len
    rw [← hq] at eg hgl hg63
    have hkt : fullB N = true → 1 < q := fun h => by rw [hq]; exact fullB_len h
    have hk0 : 0 < k → k < n := fun h => by
      have := fullB_len (HF.out (k - 1) (by omega))
      rw [List.length_drop, ← HN.out] at this
      omega
    have hst : stchk (f + k) N [] = if fullB N then 2 else 0 := by
      refine stchk_right ?_ ?_ (fun g hg => HR.out g (by rw [hN] at hg; exact List.mem_of_mem_drop hg))
      · have := HF0.out; omega
      · have := HF0.out; by_cases h : 0 < k
        · have := hk0 h; omega
        · omega
    clear hN hq
    subst eg
    obtain ⟨k0, k1, k2⟩ := KB.out.three
    have f0 := KB.out.free 0
    have f1 := KB.out.free 1
    have hms : (intOf ((wr.cell? ⟨M, 0, none⟩).getD undef) - f).toNat = k := by rw [k0]; simp [intOf]; omega
    obtain ⟨E, hE⟩ : ∃ E, E = stchk (f + k) N [] := ⟨_, rfl⟩
    have HCK : Hid (Calls Try.prog 29 #[.agg #[.int .i64 (f + k), .slice ga q gc, .slice none 0 0]] wr fun e w' => e = .returned (.int .i64 E) ∧ Below wr.heap.size wr w') := by
      rw [hE]; exact storeCheck_any S (f + k) _ _ N [] wr GK.out (FrsIn.nil _ _)
    rw [← hE] at hst
    clear hE
    go_wp2_with fail
    refine HCK.out.mono ?_
    rintro e w3 ⟨rfl, b3⟩
    have KB3 := KB.out.below b3 KB.out.lt
    have KR3 := KR.out.below b3 KR.out.lt
    have HKR3 : Hid (Blk w3 w.heap.size #[.int .i64 0, .slice none 0 0, .slice none 0 0] 27) := KR3
    have G3 : Hid (GrsIn S w3 (.slice ga q gc) N) := GK.out.below b3
    have P3 : Hid (Below w.heap.size w w3) := KP.out.trans (b3.mono KP.out.size)
    have HKB3 : Hid (Blk w3 M #[.int .i64 (f + k), .slice ga q gc, .slice none 0 0] 27) := KB3
    obtain ⟨k0', k1', k2'⟩ := KB3.three
    have f0' := KB3.free 0
    have f1' := KB3.free 1
    clear b3 HCK k0 k1 k2 f0 f1 KB3 KB KR KR3 GK KP HKR0 HKM0 HG2 HB2
    cases hfb : fullB N with
    | true =>
      have h1 := fullB_len hfb
      obtain ⟨b, off, e1, -, h3, h7⟩ := G3.out.tail h1
      subst e1
      have hq1 : 1 < q := hkt hfb
      have hE2 : E = 2 := by rw [hst, hfb]; rfl
      subst hE2
      have hd : L.drop (k + 1) = N.tail := by rw [HNK.out, List.tail_drop]
      have hq1i : (1 : Int) ≤ (q : Int) := by omega
      have hqg : (q : Int) ≤ (gc : Int) := by have := HQ.out; omega
      have hw1 : wrap64 (f + (k : Int) + 1) = f + k + 1 := by have := HF0.out; unfold wrap64; omega
      have HLL : Hid (Hid (∀ j, j < k + 1 → fullB (L.drop j) = true) ∧ k + 1 ≤ n ∧ N.tail = L.drop (k + 1) ∧ 1 < N.length) := ⟨fun j hj => by
        by_cases e : j = k
        · subst e; rw [← HNK.out]; exact hfb
        · exact HF.out j (by omega), by have := HQN.out; omega, hd.symm, h1⟩
      have HG7 : Hid (GrsIn S w3 (.slice (some ⟨b, off + 1, none⟩) (q - 1) (gc - 1)) N.tail) := by rw [HQ.out]; exact h7
      clear hfb hst hkt hk0 h3 h7 hd h1
      go_wp2_with fail
      have hSM : ∀ g, S g → g ≠ M := fun g hg => by have := HS.out g hg; have := HMw.out; omega
      have ne : w.heap.size ≠ M := by have := HMw.out; omega
      have K5 : Blk ((w3.setCell ⟨M, 1, none⟩ (.slice (some ⟨b, off + 1, none⟩) (q - 1) (gc - 1))).setCell ⟨M, 0, none⟩ (.int .i64 (f + k + 1))) M #[.int .i64 (f + k + 1), .slice (some ⟨b, off + 1, none⟩) (q - 1) (gc - 1), .slice none 0 0] 27 := (HKB3.out.set 1 _).set 0 _
      refine ⟨⟨k + 1, .slice (some ⟨b, off + 1, none⟩) (q - 1) (gc - 1), HLL.out.2.1, HLL.out.1, ?_, ?_, ?_, ?_⟩, ?_⟩
      · show Blk _ _ _ _
        rw [show f + ((k + 1 : Nat) : Int) = f + k + 1 by omega]; exact K5
      · exact (HKR3.out.other (a := ⟨M, 1, none⟩) ne _).other (a := ⟨M, 0, none⟩) ne _
      · show GrsIn _ _ _ _
        rw [← HLL.out.2.2.1]
        exact HG7.out.to ((SameOn.setCell (fun g hg => hSM g hg) _).trans (SameOn.setCell (fun g hg => hSM g hg) _)) (fun _ _ h => h)
      · exact (P3.out.setCell (p := ⟨M, 1, none⟩) (by have := HMw.out; show w.heap.size ≤ M; omega) _).setCell (p := ⟨M, 0, none⟩) (by have := HMw.out; show w.heap.size ≤ M; omega) _
      · rw [hms, K5.cell (j := 0) (u := .int .i64 (f + k + 1)) rfl]
        simp [intOf]
        have := HLL.out.2.1
        omega
    | false =>
      have hE2 : E = 0 := by rw [hst, hfb]; rfl
      subst hE2
      have ht : trimD L = k := by rw [trimD_drop L k HF.out, ← HNK.out, trimD_no hfb]; omega
      have HT : Hid (trimD L = k) := ht
      have r0 := HKR3.out.cell (j := 0) (u := .int .i64 0) rfl
      have r1 := HKR3.out.cell (j := 1) (u := .slice none 0 0) rfl
      have r2 := HKR3.out.cell (j := 2) (u := .slice none 0 0) rfl
      have rf := fun j => HKR3.out.free j
      clear ht hfb hst hkt hk0
      go_wp2_with fail
      have K6 := ((HKR3.out.set 0 (.int .i64 (f + k))).set 1 (.slice ga q gc)).set 2 (.slice none 0 0)
      have y0 := K6.cell (j := 0) (u := .int .i64 (f + k)) rfl
      have y1 := K6.cell (j := 1) (u := .slice ga q gc) rfl
      have y2 := K6.cell (j := 2) (u := .slice none 0 0) rfl
      rw [HT.out, ← HNK.out]
      exact bodyPost_ret (v := .agg #[.int .i64 (f + k), .slice ga q gc, .slice none 0 0]) (by simp [results, Try.results44, go_sem, y0, y1, y2]) rfl ⟨_, rfl, G3.out.to (((SameOn.setCell (fun g hg => by have := HS.out g hg; show g ≠ w.heap.size; omega) _).trans (SameOn.setCell (fun g hg => by have := HS.out g hg; show g ≠ w.heap.size; omega) _)).trans (SameOn.setCell (fun g hg => by have := HS.out g hg; show g ≠ w.heap.size; omega) _)) (fun _ _ h => h), ((P3.out.setCell (p := ⟨w.heap.size, 0, none⟩) (Nat.le_refl _) _).setCell (p := ⟨w.heap.size, 1, none⟩) (Nat.le_refl _) _).setCell (p := ⟨w.heap.size, 2, none⟩) (Nat.le_refl _) _⟩

end Go.Proofs.Ytnpaejknoipicad

namespace Go.Proofs.Ytnpaejknoipicad
open Go.RowKit

set_option maxHeartbeats 8000000 in
set_option maxRecDepth 100000 in
theorem diskOpen_any (l : List UInt8) (s : Int) (w : World) :
    Calls Try.prog 14 #[.agg #[.string (ba l), .int .i64 s]] w fun e w' => ∃ (f : Int) (gv : Value) (X : ByteArray) (N : Int), e = .returned (.tuple #[.agg #[.int .i64 f, gv, .slice none 0 0], .agg #[.string X, .int .i64 N], .int .i64 (diskE l s)]) ∧ Below w.heap.size w w' ∧
      (diskE l s = 0 → f = opF l ∧ GrsIn (fun g => w.heap.size ≤ g) w' gv (opL l) ∧ X = ba (l.take (dEnd l)) ∧ N = (dEnd l : Int)) ∧ (¬ diskE l s = 0 → f = 0 ∧ gv = .slice none 0 0 ∧ X = ⟨#[]⟩ ∧ N = 0) := by
  obtain ⟨e, he⟩ : ∃ e, e = diskE l s := ⟨_, rfl⟩
  obtain ⟨ll, hll⟩ : ∃ x, x = l.length := ⟨_, rfl⟩
  obtain ⟨k, hk⟩ : ∃ k, k = dEnd l := ⟨_, rfl⟩
  obtain ⟨a, ha⟩ : ∃ a, a = l.take k := ⟨_, rfl⟩
  obtain ⟨F, hF⟩ : ∃ F, F = opF l := ⟨_, rfl⟩
  obtain ⟨LL, hLL⟩ : ∃ L, L = opL l := ⟨_, rfl⟩
  have hsl : (ba l).size = ll := by rw [ba_size, hll]
  have HEX : Hid ((ba l).extract 0 k = ba a) := by show _ = _; rw [ha, ba_take]
  have HKL : Hid (k ≤ ll) := by show _ ≤ _; rw [hk, hll]; exact (whole_facts l).2.2.1
  have HRT : Hid (e = 0 → (∀ g ∈ dGs l, gchk g = 0) ∧ 0 ≤ dFirst l ∧ dFirst l + ((dGs l).length - 1 : Nat) ≤ 100000 ∧ (dGs l).length ≤ 1000 ∧ ll ≤ 2000) := fun h => by
    rw [he] at h
    obtain ⟨h1, h2, h3⟩ := dGs_right h
    have h4 := endK_ge (recs l) _ (Nat.le_refl _)
    have h5 := recs_le l (Nat.le_refl _)
    have h6 := dGs_length l
    have h7 := (diskE_zero.1 h).1
    exact ⟨h1, h2, h3, by omega, by omega⟩
  have HRD : Hid (∀ W, Calls Try.prog 43 #[.agg #[.string (ba l), .int .i64 s]] W fun r w' => ∃ (f : Int) (ga : Option Addr) (m gc E : Nat) (t : Bool), r = .returned (.tuple #[.agg #[.int .i64 f, .slice ga m gc, .int .i64 E, .bool t], .int .i64 e]) ∧ Below W.heap.size W w' ∧ (e = 0 → f = dFirst l ∧ E = k ∧ GrsIn (fun g => W.heap.size ≤ g) w' (.slice ga m gc) (dGs l))) := fun W => by
    rw [he, hk]; exact (rd_any l s W).mono (fun _ _ ⟨f, ga, m, gc, E, t, h1, h2, h3⟩ => ⟨f, ga, m, gc, E, t, h1, h2, fun h => ⟨(h3 h).1, (h3 h).2.2.1, (h3 h).2.2.2.2⟩⟩)
  have HSY : Hid (ll ≤ 2000 → ∀ W, Calls Try.prog 45 #[.string (ba a)] W fun e w' => e = .returned (.agg #[.string (ba a), .int .i64 (k : Int)]) ∧ Below W.heap.size W w') := fun h W => by
    have h1 : a.length = k := by have := HKL.out; rw [ha, List.length_take]; omega
    have := diskSynced_any a W (by have := HKL.out; omega)
    rw [h1] at this; exact this
  have HOF : Hid (F = dFirst l + trimD (dGs l) ∧ LL = (dGs l).drop (trimD (dGs l))) := ⟨hF, hLL⟩
  rw [← he, ← hF, ← hLL, ← hk, ← ha]
  clear he hk ha hll hF hLL
  go_enter Try.func14, Try.ntmps14
  go_wp2_with fail
  refine (HRD.out _).mono ?_
  rintro q w1 ⟨f, ga, m, gc, E, t, rfl, b1, hc⟩
  obtain ⟨V1, hV1⟩ : ∃ V, V = w.alloc (.cells #[.string (ba l), .int .i64 s] 39) := ⟨_, rfl⟩
  obtain ⟨V2, hV2⟩ : ∃ V, V = V1.alloc (.cells #[.int .i64 0, .slice none 0 0, .slice none 0 0] 27) := ⟨_, rfl⟩
  obtain ⟨V3, hV3⟩ : ∃ V, V = V2.alloc (.cells #[.string ⟨#[]⟩, .int .i64 0] 39) := ⟨_, rfl⟩
  rw [← hV1, ← hV2, ← hV3] at b1 hc
  have s1 : V1.heap.size = w.heap.size + 1 := by rw [hV1, World.size_alloc]
  have s2 : V2.heap.size = w.heap.size + 1 + 1 := by rw [hV2, World.size_alloc, s1]
  have s3 : V3.heap.size = w.heap.size + 1 + 1 + 1 := by rw [hV3, World.size_alloc, s2]
  have kA : Blk V3 w.heap.size #[.string (ba l), .int .i64 s] 39 := by rw [hV3, hV2]; exact ((Blk.newE hV1).alloc _).alloc _
  have kS : Blk V3 (w.heap.size + 1) #[.int .i64 0, .slice none 0 0, .slice none 0 0] 27 := by rw [hV3]; exact (s1 ▸ Blk.newE hV2 : Blk V2 (w.heap.size + 1) _ _).alloc _
  have kD : Blk V3 (w.heap.size + 1 + 1) #[.string ⟨#[]⟩, .int .i64 0] 39 := s2 ▸ Blk.newE hV3
  have bV : Below w.heap.size w V3 := by rw [hV3, hV2, hV1]; exact (((Below.refl _ w).alloc (Nat.le_refl _) _).alloc (by simp) _).alloc (by simp; omega) _
  obtain ⟨W2, hW2⟩ : ∃ W2, W2 = w1.alloc (.cells #[.int .i64 f, .slice ga m gc, .int .i64 E, .bool t] 81) := ⟨_, rfl⟩
  have HW2 : Hid (W2 = w1.alloc (.cells #[.int .i64 f, .slice ga m gc, .int .i64 E, .bool t] 81)) := hW2
  have hw1 : Below w.heap.size w w1 := bV.trans (b1.mono bV.size)
  have HA2 : Hid (Blk W2 w.heap.size #[.string (ba l), .int .i64 s] 39) := by show Blk _ _ _ _; rw [hW2]; exact (kA.below b1 kA.lt).alloc _
  have HS2 : Hid (Blk W2 (w.heap.size + 1) #[.int .i64 0, .slice none 0 0, .slice none 0 0] 27) := by show Blk _ _ _ _; rw [hW2]; exact (kS.below b1 kS.lt).alloc _
  have HD2 : Hid (Blk W2 (w.heap.size + 1 + 1) #[.string ⟨#[]⟩, .int .i64 0] 39) := by show Blk _ _ _ _; rw [hW2]; exact (kD.below b1 kD.lt).alloc _
  have HLW : Hid (w.heap.size + 3 ≤ w1.heap.size ∧ W2.heap.size = w1.heap.size + 1) := ⟨by have := b1.size; omega, by rw [hW2, World.size_alloc]⟩
  have HB : Hid (Below w.heap.size w W2) := by show Below _ _ _; rw [hW2]; exact hw1.alloc hw1.size _
  have HCC : Hid (e = 0 → f = dFirst l ∧ E = k ∧ GrsIn (fun g => w.heap.size + 3 ≤ g) W2 (.slice ga m gc) (dGs l)) := fun h => by
    obtain ⟨h1, h2, h3⟩ := hc h
    refine ⟨h1, h2, ?_⟩
    rw [hW2]; exact (h3.mono (fun g _ hg => by have : V3.heap.size ≤ g := hg; show w.heap.size + 3 ≤ g; omega)).alloc _
  have HC0 : Hid (Blk W2 w1.heap.size #[.int .i64 f, .slice ga m gc, .int .i64 (E : Int), .bool t] 81) := Blk.newE hW2
  clear HRD b1 hc hV1 hV2 hV3 s1 s2 s3 kA kS kD bV hW2 hw1
  by_cases h : e = 0
  · obtain ⟨c1, c2, c3⟩ := HCC.out h
    obtain ⟨r1, r2, r3, r4, r5⟩ := HRT.out h
    have c2' := c2.symm
    subst h c2'
    obtain ⟨S, hS⟩ : ∃ S : Nat → Prop, S = fun g => w.heap.size + 3 ≤ g ∧ g < W2.heap.size := ⟨_, rfl⟩
    have HSS : Hid (∀ g, S g → w.heap.size + 3 ≤ g) := fun g hg => by rw [hS] at hg; exact hg.1
    have HWL : Hid (∀ V : World, Below W2.heap.size W2 V → Calls Try.prog 44 #[.int .i64 f, .slice ga m gc] V fun e w' => ∃ xa xm xc, e = .returned (.agg #[.int .i64 F, .slice xa xm xc, .slice none 0 0]) ∧ GrsIn S w' (.slice xa xm xc) LL ∧ Below V.heap.size V w') := fun V hV => by
      have g1 : GrsIn S V (.slice ga m gc) (dGs l) := (c3.mono (S' := S) (fun g hg hg2 => by rw [hS]; exact ⟨hg2, hg⟩)).below hV
      refine (withinLimits_any S f _ (dGs l) V g1 (fun g hg => by rw [hS] at hg; have := hV.size; omega) r4 r1 (by rw [c1]; exact r2) (by rw [c1]; exact r3)).mono ?_
      rintro e w' ⟨gv', rfl, h1, h2⟩
      obtain ⟨xa, xc, ex, _, _⟩ := h1.len
      rw [ex] at h1
      refine ⟨xa, _, xc, by rw [ex, HOF.out.1, c1], ?_, h2⟩
      rw [HOF.out.2]; exact h1
    have HSY2 : Hid (∀ W, Calls Try.prog 45 #[.string (ba a)] W fun e w' => e = .returned (.agg #[.string (ba a), .int .i64 (k : Int)]) ∧ Below W.heap.size W w') := HSY.out r5
    have FIN : Hid (∀ (V : World) (gv : Value), GrsIn S V gv LL → F = F ∧ GrsIn (fun g => w.heap.size ≤ g) V gv LL ∧ ba a = ba a ∧ (k : Int) = k) := fun V gv h => ⟨rfl, h.mono (fun g _ hg => by have := HSS.out g hg; show w.heap.size ≤ g; omega), rfl, rfl⟩
    have HKK : Hid ((k : Int) ≤ (ll : Int)) := by have := HKL.out; show _ ≤ _; omega
    have HC2 : Hid (Blk W2 w1.heap.size #[.int .i64 f, .slice ga m gc, .int .i64 (k : Int), .bool t] 81) := HC0.out
    clear c1 c2 c3 r1 r2 r3 r4 hS HCC HRT HC0 HSY HKL HOF
    have HSY := HSY2
    clear HSY2
    go_upto_region 4 with fail
    rw [← HW2.out]
    clear HW2
    have hex : (ba l).extract 0 k = ba a := HEX.out
    have hki : (k : Int) ≤ (ll : Int) := HKK.out
    refine region_chainG (by kernel_rfl) (by kernel_rfl) [.quiet (.pointer (some ⟨w1.heap.size, 0, none⟩)) 4, .quiet (.int .i64 f) 4, .quiet (.pointer (some ⟨w1.heap.size, 1, none⟩)) 4, .quiet (.slice ga m gc) 4, .step 0, .quiet (.pointer (some ⟨w.heap.size, 0, none⟩)) 4, .quiet (.string (ba l)) 4, .quiet (.pointer (some ⟨w1.heap.size, 2, none⟩)) 4, .quiet (.int .i64 (k : Int)) 4, .quiet (.string (ba a)) 4, .step 1, .step 2, .step 3, .quiet (.int .i64 0) 4] [4, 10, 11, 12] (by kernel_rfl)
      (fun s' r w' => match s' with
        | 0 => Below W2.heap.size W2 w'
        | 1 => ∃ xa xm xc, r 0 = .agg #[.int .i64 F, .slice xa xm xc, .slice none 0 0] ∧ GrsIn S w' (.slice xa xm xc) LL ∧ Below W2.heap.size W2 w'
        | 2 => ∃ xa xm xc, r 0 = .agg #[.int .i64 F, .slice xa xm xc, .slice none 0 0] ∧ GrsIn S w' (.slice xa xm xc) LL ∧ r 1 = .agg #[.string (ba a), .int .i64 (k : Int)] ∧ Below W2.heap.size W2 w'
        | 3 => ∃ xa xm xc V, GrsIn S V (.slice xa xm xc) LL ∧ r 1 = .agg #[.string (ba a), .int .i64 (k : Int)] ∧ Below W2.heap.size W2 V ∧ w' = ((V.setCell ⟨w.heap.size + 1, 0, none⟩ (.int .i64 F)).setCell ⟨w.heap.size + 1, 1, none⟩ (.slice xa xm xc)).setCell ⟨w.heap.size + 1, 2, none⟩ (.slice none 0 0)
        | _ => ∃ xa xm xc V, GrsIn S V (.slice xa xm xc) LL ∧ Below W2.heap.size W2 V ∧ w' = ((((V.setCell ⟨w.heap.size + 1, 0, none⟩ (.int .i64 F)).setCell ⟨w.heap.size + 1, 1, none⟩ (.slice xa xm xc)).setCell ⟨w.heap.size + 1, 2, none⟩ (.slice none 0 0)).setCell ⟨w.heap.size + 1 + 1, 0, none⟩ (.string (ba a))).setCell ⟨w.heap.size + 1 + 1, 1, none⟩ (.int .i64 (k : Int))
        ) ((Below.refl _ W2).drew) ?step ?fin
    case step =>
      intro i o ho a' w' s' r hI hfree hvals
      have KAC : Blk w' w.heap.size #[.string (ba l), .int .i64 s] 39 ∧ Blk w' w1.heap.size #[.int .i64 f, .slice ga m gc, .int .i64 (k : Int), .bool t] 81 := by
        have hlw := HLW.out
        have o : ∀ {V : World} {b : Nat} {C : Array Value} {t : TypeId} (n j : Nat) (v : Value), Blk V b C t → b ≠ n → Blk (V.setCell ⟨n, j, none⟩ v) b C t := fun n j v h hn => h.other (a := ⟨n, j, none⟩) hn v
        match s', hI with
        | 0, hI => exact ⟨HA2.out.below hI HA2.out.lt, HC2.out.below hI HC2.out.lt⟩
        | 1, ⟨_, _, _, _, _, hI⟩ => exact ⟨HA2.out.below hI HA2.out.lt, HC2.out.below hI HC2.out.lt⟩
        | 2, ⟨_, _, _, _, _, _, hI⟩ => exact ⟨HA2.out.below hI HA2.out.lt, HC2.out.below hI HC2.out.lt⟩
        | 3, ⟨_, _, _, V, _, _, hI, hw⟩ => rw [hw]; exact ⟨o _ _ _ (o _ _ _ (o _ _ _ (HA2.out.below hI HA2.out.lt) (by omega)) (by omega)) (by omega), o _ _ _ (o _ _ _ (o _ _ _ (HC2.out.below hI HC2.out.lt) (by omega)) (by omega)) (by omega)⟩
        | n + 4, ⟨_, _, _, V, _, hI, hw⟩ => rw [hw]; exact ⟨o _ _ _ (o _ _ _ (o _ _ _ (o _ _ _ (o _ _ _ (HA2.out.below hI HA2.out.lt) (by omega)) (by omega)) (by omega)) (by omega)) (by omega), o _ _ _ (o _ _ _ (o _ _ _ (o _ _ _ (o _ _ _ (HC2.out.below hI HC2.out.lt) (by omega)) (by omega)) (by omega)) (by omega)) (by omega)⟩
      have y0 := KAC.1.cell (j := 0) (u := .string (ba l)) rfl
      have x0 := KAC.2.cell (j := 0) (u := .int .i64 f) rfl
      have x1 := KAC.2.cell (j := 1) (u := .slice ga m gc) rfl
      have x2 := KAC.2.cell (j := 2) (u := .int .i64 (k : Int)) rfl
      clear KAC
      match i, ho with
      | 0, ho =>
        simp at ho; subst ho
        have e5 : a'.eval (.tmp 5) = .pointer (some ⟨w1.heap.size, 0, none⟩) := (hfree 5 (by kernel_rfl)).trans rfl
        show s' ≤ 4 → _
        intro hs
        refine .inl ⟨rfl, ?_⟩
        generalize a'.eval = ρ at *
        simp [execOp, go_sem, e5]
      | 1, ho =>
        simp at ho; subst ho
        have e17 : a'.eval (.tmp 17) = .pointer (some ⟨w1.heap.size, 0, none⟩) := hvals 0 _ _ (by kernel_rfl) rfl rfl
        show s' ≤ 4 → _
        intro hs
        refine .inl ⟨rfl, ?_⟩
        generalize a'.eval = ρ at *
        simp [execOp, go_sem, e17, x0]
      | 2, ho =>
        simp at ho; subst ho
        have e5 : a'.eval (.tmp 5) = .pointer (some ⟨w1.heap.size, 0, none⟩) := (hfree 5 (by kernel_rfl)).trans rfl
        show s' ≤ 4 → _
        intro hs
        refine .inl ⟨rfl, ?_⟩
        generalize a'.eval = ρ at *
        simp [execOp, go_sem, e5]
      | 3, ho =>
        simp at ho; subst ho
        have e19 : a'.eval (.tmp 19) = .pointer (some ⟨w1.heap.size, 1, none⟩) := hvals 2 _ _ (by kernel_rfl) rfl rfl
        show s' ≤ 4 → _
        intro hs
        refine .inl ⟨rfl, ?_⟩
        generalize a'.eval = ρ at *
        simp [execOp, go_sem, e19, x1]
      | 4, ho =>
        simp at ho; subst ho
        have e18 : a'.eval (.tmp 18) = .int .i64 f := hvals 1 _ _ (by kernel_rfl) rfl rfl
        have e20 : a'.eval (.tmp 20) = .slice ga m gc := hvals 3 _ _ (by kernel_rfl) rfl rfl
        show s' = 0 → _ ∧ Oper.wp _ _ _ _ _ _
        intro hs
        subst hs
        refine ⟨rfl, ?_⟩
        have hB : Below W2.heap.size W2 w' := hI
        have ef : a'.eval (.func 44) = .func (.func 44) #[] #[] := rfl
        refine oper_wp_call (f := 44) (args := #[.int .i64 f, .slice ga m gc]) ?_ ?_
        · generalize a'.eval = ρ at *
          simp [execOp, go_sem, e18, e20, ef]
        · refine (HWL.out w' hB).mono ?_
          rintro e w'' ⟨xa, xm, xc, rfl, hG, hb1⟩
          exact ⟨_, rfl, _, rfl, xa, xm, xc, updR_at _ _ _, hG, hB.trans (hb1.mono hB.size)⟩
      | 5, ho =>
        simp at ho; subst ho
        have e1 : a'.eval (.tmp 1) = .pointer (some ⟨w.heap.size, 0, none⟩) := (hfree 1 (by kernel_rfl)).trans rfl
        show s' ≤ 4 → _
        intro hs
        refine .inl ⟨rfl, ?_⟩
        generalize a'.eval = ρ at *
        simp [execOp, go_sem, e1]
      | 6, ho =>
        simp at ho; subst ho
        have e22 : a'.eval (.tmp 22) = .pointer (some ⟨w.heap.size, 0, none⟩) := hvals 5 _ _ (by kernel_rfl) rfl rfl
        show s' ≤ 4 → _
        intro hs
        refine .inl ⟨rfl, ?_⟩
        generalize a'.eval = ρ at *
        simp [execOp, go_sem, e22, y0]
      | 7, ho =>
        simp at ho; subst ho
        have e5 : a'.eval (.tmp 5) = .pointer (some ⟨w1.heap.size, 0, none⟩) := (hfree 5 (by kernel_rfl)).trans rfl
        show s' ≤ 4 → _
        intro hs
        refine .inl ⟨rfl, ?_⟩
        generalize a'.eval = ρ at *
        simp [execOp, go_sem, e5]
      | 8, ho =>
        simp at ho; subst ho
        have e24 : a'.eval (.tmp 24) = .pointer (some ⟨w1.heap.size, 2, none⟩) := hvals 7 _ _ (by kernel_rfl) rfl rfl
        show s' ≤ 4 → _
        intro hs
        refine .inl ⟨rfl, ?_⟩
        generalize a'.eval = ρ at *
        simp [execOp, go_sem, e24, x2]
      | 9, ho =>
        simp at ho; subst ho
        have e23 : a'.eval (.tmp 23) = .string (ba l) := hvals 6 _ _ (by kernel_rfl) rfl rfl
        have e25 : a'.eval (.tmp 25) = .int .i64 (k : Int) := hvals 8 _ _ (by kernel_rfl) rfl rfl
        show s' ≤ 4 → _
        intro hs
        refine .inl ⟨rfl, ?_⟩
        generalize a'.eval = ρ at *
        simp [execOp, go_sem, e23, e25, hex, hki, hsl]
      | 10, ho =>
        simp at ho; subst ho
        have e26 : a'.eval (.tmp 26) = .string (ba a) := hvals 9 _ _ (by kernel_rfl) rfl rfl
        show s' = 1 → _ ∧ Oper.wp _ _ _ _ _ _
        intro hs
        subst hs
        refine ⟨rfl, ?_⟩
        obtain ⟨xa, xm, xc, hr0, hG, hB⟩ := hI
        have ef : a'.eval (.func 45) = .func (.func 45) #[] #[] := rfl
        refine oper_wp_call (f := 45) (args := #[.string (ba a)]) ?_ ?_
        · generalize a'.eval = ρ at *
          simp [execOp, go_sem, e26, ef]
        · refine (HSY.out w').mono ?_
          rintro e w'' ⟨rfl, hb1⟩
          exact ⟨_, rfl, _, rfl, xa, xm, xc, (updR_ne (by omega)).trans hr0, hG.below hb1, updR_at _ _ _, hB.trans (hb1.mono hB.size)⟩
      | 11, ho =>
        simp at ho; subst ho
        have e2 : a'.eval (.tmp 2) = .pointer (some ⟨w.heap.size + 1, 0, none⟩) := (hfree 2 (by kernel_rfl)).trans rfl
        have e21 : a'.eval (.tmp 21) = r 0 := hvals 4 _ _ (by kernel_rfl) rfl rfl
        show s' = 2 → _ ∧ Oper.wp _ _ _ _ _ _
        intro hs
        subst hs
        refine ⟨rfl, ?_⟩
        obtain ⟨xa, xm, xc, hr0, hG, hr1, hB⟩ := hI
        rw [hr0] at e21
        have hk := HS2.out.below hB HS2.out.lt
        have v0 := hk.cell (j := 0) (u := .int .i64 0) rfl
        have v1 := hk.cell (j := 1) (u := .slice none 0 0) rfl
        have v2 := hk.cell (j := 2) (u := .slice none 0 0) rfl
        have vf := fun j => hk.free j
        refine oper_wp_skip (w' := ((w'.setCell ⟨w.heap.size + 1, 0, none⟩ (.int .i64 F)).setCell ⟨w.heap.size + 1, 1, none⟩ (.slice xa xm xc)).setCell ⟨w.heap.size + 1, 2, none⟩ (.slice none 0 0)) ?_ ⟨undef, rfl, xa, xm, xc, w', hG, (updR_ne (by omega)).trans hr1, hB, rfl⟩
        generalize a'.eval = ρ at *
        simp [execOp, go_sem, e2, e21, v0, v1, v2, vf]
      | 12, ho =>
        simp at ho; subst ho
        have e3 : a'.eval (.tmp 3) = .pointer (some ⟨w.heap.size + 1 + 1, 0, none⟩) := (hfree 3 (by kernel_rfl)).trans rfl
        have e27 : a'.eval (.tmp 27) = r 1 := hvals 10 _ _ (by kernel_rfl) rfl rfl
        show s' = 3 → _ ∧ Oper.wp _ _ _ _ _ _
        intro hs
        subst hs
        refine ⟨rfl, ?_⟩
        obtain ⟨xa, xm, xc, V, hG, hr1, hB, rfl⟩ := hI
        rw [hr1] at e27
        have hk := (((HD2.out.below hB HD2.out.lt).other (a := ⟨w.heap.size + 1, 0, none⟩) (by show w.heap.size + 1 + 1 ≠ w.heap.size + 1; omega) (.int .i64 F)).other (a := ⟨w.heap.size + 1, 1, none⟩) (by show w.heap.size + 1 + 1 ≠ w.heap.size + 1; omega) (.slice xa xm xc)).other (a := ⟨w.heap.size + 1, 2, none⟩) (by show w.heap.size + 1 + 1 ≠ w.heap.size + 1; omega) (.slice none 0 0)
        have v0 := hk.cell (j := 0) (u := .string ⟨#[]⟩) rfl
        have v1 := hk.cell (j := 1) (u := .int .i64 0) rfl
        have vf := fun j => hk.free j
        clear x0 x1 x2 y0
        obtain ⟨U, hU⟩ : ∃ U, U = ((V.setCell ⟨w.heap.size + 1, 0, none⟩ (.int .i64 F)).setCell ⟨w.heap.size + 1, 1, none⟩ (.slice xa xm xc)).setCell ⟨w.heap.size + 1, 2, none⟩ (.slice none 0 0) := ⟨_, rfl⟩
        rw [← hU] at v0 v1 vf
        refine oper_wp_skip (w' := (U.setCell ⟨w.heap.size + 1 + 1, 0, none⟩ (.string (ba a))).setCell ⟨w.heap.size + 1 + 1, 1, none⟩ (.int .i64 (k : Int))) ?_ ⟨undef, rfl, xa, xm, xc, V, hG, hB, by rw [hU]⟩
        rw [← hU]
        clear hU hk
        generalize a'.eval = ρ at *
        simp [execOp, go_sem, e3, e27, v0, v1, vf]
      | 13, ho =>
        simp at ho; subst ho
        have ec0 : a'.eval (.const (.int .i64 0)) = .int .i64 0 := rfl
        show s' ≤ 4 → _
        intro hs
        refine .inl ⟨rfl, ?_⟩
        generalize a'.eval = ρ at *
        simp [execOp, go_sem, ec0]
    case fin =>
      rintro r w7 ⟨xa, xm, xc, V, hG, hB, hw⟩
      simp only [putC, Ck.out, Act.put, List.setIfInBounds_toArray, List.set_cons_succ, List.set_cons_zero]
      have o : ∀ {V : World} {b : Nat} {C : Array Value} {t : TypeId} (n j : Nat) (v : Value), Blk V b C t → b ≠ n → Blk (V.setCell ⟨n, j, none⟩ v) b C t := fun n j v h hn => h.other (a := ⟨n, j, none⟩) hn v
      have g : ∀ {V : World} {n j : Nat} {v : Value}, w.heap.size ≤ n → Below w.heap.size w V → Below w.heap.size w (V.setCell ⟨n, j, none⟩ v) := fun hn hb => hb.setCell (p := ⟨_, _, none⟩) hn _
      have so : ∀ {V : World} {n j : Nat} {v : Value}, n < w.heap.size + 3 → GrsIn S V (.slice xa xm xc) LL → GrsIn S (V.setCell ⟨n, j, none⟩ v) (.slice xa xm xc) LL := fun {V n j v} hn h => h.to (SameOn.setCell (S := S) (a := ⟨n, j, none⟩) (fun g hg => by have := HSS.out g hg; show g ≠ n; omega) _) (fun _ _ h => h)
      have ks : Blk w7 (w.heap.size + 1) #[.int .i64 F, .slice xa xm xc, .slice none 0 0] 27 := by
        rw [hw]; exact o _ _ _ (o _ _ _ ((((HS2.out.below hB HS2.out.lt).set 0 (.int .i64 F)).set 1 (.slice xa xm xc)).set 2 (.slice none 0 0)) (by omega)) (by omega)
      have kd : Blk w7 (w.heap.size + 1 + 1) #[.string (ba a), .int .i64 (k : Int)] 39 := by
        rw [hw]; exact ((o _ _ _ (o _ _ _ (o _ _ _ (HD2.out.below hB HD2.out.lt) (by omega)) (by omega)) (by omega)).set 0 (.string (ba a))).set 1 (.int .i64 (k : Int))
      have hBB : Below w.heap.size w w7 := by rw [hw]; exact g (by omega) (g (by omega) (g (by omega) (g (by omega) (g (by omega) (HB.out.trans (hB.mono HB.out.size))))))
      have hGG : GrsIn S w7 (.slice xa xm xc) LL := by rw [hw]; exact so (by omega) (so (by omega) (so (by omega) (so (by omega) (so (by omega) hG))))
      have q0 := ks.cell (j := 0) (u := .int .i64 F) rfl
      have q1 := ks.cell (j := 1) (u := .slice xa xm xc) rfl
      have q2 := ks.cell (j := 2) (u := .slice none 0 0) rfl
      have q3 := kd.cell (j := 0) (u := .string (ba a)) rfl
      have q4 := kd.cell (j := 1) (u := .int .i64 (k : Int)) rfl
      clear hw
      go_wp2_with fail
      exact bodyPost_ret (v := .tuple #[.agg #[.int .i64 F, .slice xa xm xc, .slice none 0 0], .agg #[.string (ba a), .int .i64 (k : Int)], .int .i64 0]) (by simp [results, Try.results14, go_sem, q0, q1, q2, q3, q4]) rfl ⟨F, _, _, _, rfl, hBB, rfl, (FIN.out _ _ hGG).2.1, rfl, rfl⟩
  · have HK2 := HS2.out.cell (j := 0) (u := .int .i64 0) rfl
    have z1 := HS2.out.cell (j := 1) (u := .slice none 0 0) rfl
    have z2 := HS2.out.cell (j := 2) (u := .slice none 0 0) rfl
    have zf := fun j => HS2.out.free j
    have d0 := HD2.out.cell (j := 0) (u := .string ⟨#[]⟩) rfl
    have d1 := HD2.out.cell (j := 1) (u := .int .i64 0) rfl
    have df := fun j => HD2.out.free j
    rw [HW2.out] at HK2 z1 z2 zf d0 d1 df
    have heb : (e != 0) = true := by simpa using h
    clear HCC HRT HSY HOF HEX HKL HC0
    go_wp2_with fail
    rw [← HW2.out]
    clear HW2 HK2 z1 z2 zf d0 d1 df
    have o : ∀ {V : World} {b : Nat} {C : Array Value} {t : TypeId} (n j : Nat) (v : Value), Blk V b C t → b ≠ n → Blk (V.setCell ⟨n, j, none⟩ v) b C t := fun n j v h hn => h.other (a := ⟨n, j, none⟩) hn v
    have g : ∀ {V : World} {n j : Nat} {v : Value}, w.heap.size ≤ n → Below w.heap.size w V → Below w.heap.size w (V.setCell ⟨n, j, none⟩ v) := fun hn hb => hb.setCell (p := ⟨_, _, none⟩) hn _
    have ks := o (w.heap.size + 1 + 1) 1 (.int .i64 0) (o (w.heap.size + 1 + 1) 0 (.string ⟨#[]⟩) (((HS2.out.set 0 (.int .i64 0)).set 1 (.slice none 0 0)).set 2 (.slice none 0 0)) (by omega)) (by omega)
    have kd := ((o (w.heap.size + 1) 2 (.slice none 0 0) (o (w.heap.size + 1) 1 (.slice none 0 0) (o (w.heap.size + 1) 0 (.int .i64 0) HD2.out (by omega)) (by omega)) (by omega)).set 0 (.string ⟨#[]⟩)).set 1 (.int .i64 0)
    have q0 := ks.cell (j := 0) (u := .int .i64 0) rfl
    have q1 := ks.cell (j := 1) (u := .slice none 0 0) rfl
    have q2 := ks.cell (j := 2) (u := .slice none 0 0) rfl
    have q3 := kd.cell (j := 0) (u := .string ⟨#[]⟩) rfl
    have q4 := kd.cell (j := 1) (u := .int .i64 0) rfl
    have hBB := g (n := w.heap.size + 1 + 1) (j := 1) (v := .int .i64 0) (by omega) (g (n := w.heap.size + 1 + 1) (j := 0) (v := .string ⟨#[]⟩) (by omega) (g (n := w.heap.size + 1) (j := 2) (v := .slice none 0 0) (by omega) (g (n := w.heap.size + 1) (j := 1) (v := .slice none 0 0) (by omega) (g (n := w.heap.size + 1) (j := 0) (v := .int .i64 0) (by omega) HB.out))))
    exact bodyPost_ret (v := .tuple #[.agg #[.int .i64 0, .slice none 0 0, .slice none 0 0], .agg #[.string ⟨#[]⟩, .int .i64 0], .int .i64 e]) (by simp [results, Try.results14, go_sem, q0, q1, q2, q3, q4]) rfl ⟨0, _, _, _, rfl, hBB, fun h' => absurd h' h, fun _ => ⟨rfl, rfl, rfl, rfl⟩⟩

end Go.Proofs.Ytnpaejknoipicad

namespace Go.Proofs.Ytnpaejknoipicad
open Go.RowKit

/-- the law's own frame -/
def pf (t : Int) (k : Bool) : Fr := ⟨t, k, [⟨#[97, 98, 99]⟩]⟩

set_option maxHeartbeats 400000 in
theorem pic_any (t : Int) (k : Bool) (w : World) :
    Calls Try.prog 40 #[.int .i64 t, .bool k] w fun e w' => e = .returned (.agg #[.int .i64 t, .bool k, .slice (some ⟨w.heap.size + 1, 0, none⟩) 1 1]) ∧ StrsIn (fun g => w.heap.size ≤ g) w' (.slice (some ⟨w.heap.size + 1, 0, none⟩) 1 1) [⟨#[97, 98, 99]⟩] ∧ Below w.heap.size w w' := by
  go_enter Try.func40, Try.ntmps40
  go_wp2
  refine bodyPost_ret (v := .agg #[.int .i64 t, .bool k, .slice (some ⟨w.heap.size + 1, 0, none⟩) 1 1]) (by simp [results, Try.results40, go_sem]) rfl ⟨rfl, ?_, ?_⟩
  · have hk := Blk.new (w.alloc (.cells #[.int .i64 t, .bool k, .slice (some ⟨w.heap.size + 1, 0, none⟩) 1 1] 36)) #[.string ⟨#[97, 98, 99]⟩] 9
    simp only [World.size_alloc] at hk
    refine ⟨⟨rfl, .inr ⟨w.heap.size + 1, 0, 1, rfl, hk.lt, fun j u hj => ?_⟩⟩, by simp, fun g hg _ => ?_⟩
    · rw [Nat.zero_add]
      exact hk.cell (by simpa using hj)
    · simp [Value.ownBlock] at hg
      subst hg
      exact ⟨by omega, hk.lt⟩
  · exact ((Below.refl _ w).alloc (Nat.le_refl _) _).alloc (by simp) _

end Go.Proofs.Ytnpaejknoipicad

namespace Go.Proofs.Ytnpaejknoipicad
open Go.RowKit

/-- an operation of such a region -/
inductive Cm where
  | quiet (v : Value) (lim : Nat)
  | step (s : Nat)
  | fin (t : Nat) (f : Value → Value)
  | box
def cmAt (ks : List Cm) (i : Nat) : Cm := (ks[i]?).getD (.quiet undef 0)
def Cm.out (r : Nat → Value) (b : Nat → Option Nat) (i : Nat) : Cm → Value
  | .quiet v _ => v
  | .step s => r s
  | .fin t f => f (r t)
  | .box => match b i with
    | some g => .pointer (some ⟨g, 0, none⟩)
    | none => undef
def Cm.isBox : Cm → Bool
  | .box => true
  | _ => false
def putM (r : Nat → Value) (b : Nat → Option Nat) : Nat → List Cm → List Oper → Act → Act
  | k, d :: ks, o :: l, a => putM r b (k + 1) ks l (a.put o.dst (d.out r b k))
  | _, _, _, a => a
def updO (b : Nat → Option Nat) (i : Nat) (g : Nat) : Nat → Option Nat := fun j => if j = i then some g else b j
/-- the steps' places; what waits for what -/
def boxesOk (ks : List Cm) (l : List Oper) (st : List Nat) (n : Nat) : Bool :=
  decide (ks.length = l.length) && (l.all fun o => match o.dst with | some k => decide (k < n) | none => true) &&
  ((List.range st.length).all fun s => match st[s]? with
    | some i => decide (i < l.length) && (match cmAt ks i with | .step t => t == s | _ => false) && (s == 0 || (match st[s - 1]? with | some j => waits l i j | none => false))
    | none => false) &&
  ((List.range l.length).all fun i => match cmAt ks i with
    | .quiet _ lim => decide (st.length ≤ lim) || (match st[lim]? with | some j => waits l j i | none => false)
    | .step t => st[t]? == some i
    | .fin t _ => (List.range l.length).any fun j => waits l i j && (match cmAt ks j with | .step t' => t' == t | .fin t' _ => t' == t | _ => false)
    | .box => true)

section
variable {P : Program} {Q : Exit → Act → World → Prop}

structure RBx (ks : List Cm) (l : List Oper) (n m : Nat) (I : Nat → (Nat → Value) → (Nat → Option Nat) → World → Prop) (ls : Nat → Bool) (vs : Nat → Value) (s : Nat) (r : Nat → Value) (b : Nat → Option Nat) (w' : World) : Prop where
  lt : ∀ i, ls i = true → i < n
  steps : ∀ i t, i < n → cmAt ks i = .step t → (ls i = true ↔ t < s)
  fins : ∀ i t f, ls i = true → cmAt ks i = .fin t f → t < s
  box : ∀ i, i < n → cmAt ks i = .box → (ls i = true ↔ (b i).isSome = true)
  vals : ∀ i, ls i = true → vs i = (cmAt ks i).out r b i
  inv : I s r b w'
  le : s ≤ m
  closed : ∀ i j, ls j = true → waits l j i = true → ls i = true

theorem putM_all (L : Array Bool) (vs : Nat → Value) (r : Nat → Value) (b : Nat → Option Nat) : ∀ (l : List Oper) (k : Nat) (ks : List Cm) (a : Act), ks.length = l.length → (∀ i, i < l.length → L.getD (k + i) false = true) → (∀ i, i < l.length → vs (k + i) = (cmAt ks i).out r b (k + i)) → putL L vs k l a = putM r b k ks l a
  | [], _, [], _, _, _, _ => rfl
  | o :: l, k, d :: ks, a, hl, hL, hv => by
    simp only [putL, putM]
    rw [if_pos (by simpa using hL 0 (by simp)), show vs k = d.out r b k by simpa [cmAt] using hv 0 (by simp)]
    refine putM_all L vs r b l (k + 1) ks _ (by simpa using hl) (fun i hi => ?_) (fun i hi => ?_)
    · have := hL (i + 1) (by simpa using hi)
      rw [show k + (i + 1) = k + 1 + i by omega] at this; exact this
    · have := hv (i + 1) (by simpa using hi)
      rw [show k + (i + 1) = k + 1 + i by omega] at this
      simpa [cmAt] using this

theorem region_boxes {id : Nat} {a : Act} {w : World} {l : List Oper} (hm : P.follows .mixedOrders = true) (hB : regOk l = true) (ks : List Cm) (st : List Nat) (hK : boxesOk ks l st a.tmps.size = true)
    (I : Nat → (Nat → Value) → (Nat → Option Nat) → World → Prop) (h0 : I 0 (fun _ => undef) (fun _ => none) { w with drawn := w.drawn + 1 })
    (hstep : ∀ i o, l[i]? = some o → ∀ (a' : Act) (w' : World) (s : Nat) (r : Nat → Value) (b : Nat → Option Nat), I s r b w' → (∀ s, (l.all fun o => o.dst != some s) = true → a'.eval (.tmp s) = a.eval (.tmp s)) → (∀ j oj k, waits l i j = true → l[j]? = some oj → oj.dst = some k → a'.eval (.tmp k) = (cmAt ks j).out r b j) → (∀ j, waits l i j = true → cmAt ks j = .box → (b j).isSome = true) →
      match cmAt ks i with
      | .quiet v lim => s ≤ lim → (execOp a'.eval o).run P w' = .ok (.value v) w'
      | .step t => s = t → o.wp P a' w' (fun a'' w'' => ∃ v, a'' = a'.put o.dst v ∧ I (t + 1) (updR r t v) b w'') Q
      | .fin t f => t < s → (execOp a'.eval o).run P w' = .ok (.value (f (r t))) w'
      | .box => b i = none → ∃ ob, (execOp a'.eval o).run P w' = .ok (.value (.pointer (some ⟨w'.heap.size, 0, none⟩))) (w'.alloc ob) ∧ I s r (updO b i w'.heap.size) (w'.alloc ob))
    (hend : ∀ (r : Nat → Value) (b : Nat → Option Nat) (w' : World), I st.length r b w' → (∀ i, i < l.length → cmAt ks i = .box → ∃ g, b i = some g) → Q .normal (putM r b 0 ks l a) w') :
    (Code.region id l.toArray true).wp P Q a w := by
  simp only [boxesOk, Bool.and_eq_true, decide_eq_true_eq] at hK
  obtain ⟨⟨⟨hlen, hdst⟩, hst⟩, hall⟩ := hK
  have hap : dstsApart l = true := by simp only [regOk, Bool.and_eq_true] at hB; exact hB.1.1
  have hal : ∀ i, i < l.length → _ := fun i hi => List.all_eq_true.1 hall i (List.mem_range.2 hi)
  have hsl : ∀ s, s < st.length → _ := fun s hs => List.all_eq_true.1 hst s (List.mem_range.2 hs)
  have hstp : ∀ s, s < st.length → ∃ i, st[s]? = some i ∧ i < l.length ∧ cmAt ks i = .step s ∧ (0 < s → ∃ j, st[s - 1]? = some j ∧ waits l i j = true) := fun s hs => by
    have h := hsl s hs
    have e : st[s]? = some st[s] := List.getElem?_eq_getElem hs
    rw [e] at h
    simp only [Bool.and_eq_true, decide_eq_true_eq, Bool.or_eq_true, beq_iff_eq] at h
    refine ⟨st[s], e, h.1.1, ?_, fun h0 => ?_⟩
    · have h2 := h.1.2
      cases hk : cmAt ks st[s] with
      | quiet v lim => rw [hk] at h2; cases h2
      | fin t f => rw [hk] at h2; cases h2
      | box => rw [hk] at h2; cases h2
      | step t => rw [hk] at h2; simp at h2; rw [h2]
    · have h3 := h.2
      rcases h3 with h3 | h3
      · omega
      · have e2 : st[s - 1]? = some st[s - 1] := List.getElem?_eq_getElem (by omega)
        rw [e2] at h3
        exact ⟨_, e2, h3⟩
  have hst2 : ∀ i t, i < l.length → cmAt ks i = .step t → st[t]? = some i := fun i t hi hk => by
    have h := hal i hi
    rw [hk] at h
    simpa using h
  refine wp_region_inv hm hB (fun L vs w' => ∃ s r b, RBx ks l l.length st.length I (fun j => L.getD j false) vs s r b w') ?_ ?_ ?_
  · have hno : ∀ j, ¬ (Array.replicate l.length false).getD j false = true := fun j => by
      simp [Array.getD_eq_getD_getElem?, Array.getElem?_replicate]; split <;> simp
    exact ⟨0, fun _ => undef, fun _ => none, fun i h => absurd h (hno i), fun i t _ _ => ⟨fun h => absurd h (hno i), fun h => absurd h (Nat.not_lt_zero _)⟩, fun i _ _ h => absurd h (hno i), fun i _ _ => ⟨fun h => absurd h (hno i), fun h => by cases h⟩, fun i h => absurd h (hno i), h0, Nat.zero_le _, fun _ j h => absurd h (hno j)⟩
  · rintro L vs w' ⟨s, r, b, F⟩ i o ho hL hr
    have hi : i < l.length := (List.getElem?_eq_some_iff.1 ho).1
    have ni : L.getD i false = false := by simpa using listed_no hL
    have hset := setfun hL
    have hwt : ∀ j, waits l i j = true → L.getD j false = true := fun j hw => waits_spec hw ho hr
    have hfree : ∀ s, (l.all fun o => o.dst != some s) = true → (putL L vs 0 l a).eval (.tmp s) = a.eval (.tmp s) := fun s hs => putL_other l 0 a (fun p hp t ht e => by
      injection e with e
      subst e
      have := List.all_eq_true.1 hs p hp
      rw [ht] at this
      simp at this)
    have hvals : ∀ j oj k, waits l i j = true → l[j]? = some oj → oj.dst = some k → (putL L vs 0 l a).eval (.tmp k) = (cmAt ks j).out r b j := fun j oj k hw hoj hk => by
      have h1 := hwt j hw
      have hk2 := List.all_eq_true.1 hdst oj (List.mem_of_getElem? hoj)
      rw [hk] at hk2
      rw [putL_at h1 l 0 a oj hap (Nat.zero_le _) (by simpa using hoj) hk (by simpa using hk2)]
      exact F.vals j h1
    have hs := hstep i o ho (putL L vs 0 l a) w' s r b F.inv hfree hvals (fun j hw hj => (F.box j (F.lt j (hwt j hw)) hj).1 (hwt j hw))
    rw [hset]
    obtain ⟨ls, hls⟩ : ∃ ls : Nat → Bool, ls = fun j => L.getD j false := ⟨_, rfl⟩
    have hlsj : ∀ j, L.getD j false = ls j := fun j => by rw [hls]
    simp only [hlsj] at F ni hwt ⊢
    have hlt' : ∀ j, (decide (j = i) || ls j) = true → j < l.length := fun j hj => by
      simp only [Bool.or_eq_true, decide_eq_true_eq] at hj
      rcases hj with rfl | hj
      · exact hi
      · exact F.lt j hj
    have hcl : ∀ p j, (decide (j = i) || ls j) = true → waits l j p = true → (decide (p = i) || ls p) = true := fun p j hj hw => by
      simp only [Bool.or_eq_true, decide_eq_true_eq] at hj ⊢
      rcases hj with rfl | hj
      · exact .inr (hwt p hw)
      · exact .inr (F.closed p j hj hw)
    have hbxs : ∀ k, cmAt ks i = k → k.isBox = false → ∀ j, j < l.length → cmAt ks j = .box → ((decide (j = i) || ls j) = true ↔ (b j).isSome = true) := fun k h1 h2 j hj hjk => by
      have e : j ≠ i := fun e => by subst e; rw [h1] at hjk; subst hjk; cases h2
      simpa [e] using F.box j hj hjk
    have plain : ∀ (k : Cm) (v : Value), cmAt ks i = k → k.isBox = false → (∀ t, k ≠ .step t) → (∀ t f, k = .fin t f → t < s) → k.out r b i = v → ∃ s r b, RBx ks l l.length st.length I (fun j => decide (j = i) || ls j) (upd vs i v) s r b w' := fun k v hk h1 h2 h3 h4 => by
      refine ⟨s, r, b, hlt', ?_, ?_, hbxs k hk h1, ?_, F.inv, F.le, hcl⟩
      · intro j t hj hjk
        have e : j ≠ i := fun e => by subst e; rw [hk] at hjk; exact h2 t hjk
        simpa [e] using F.steps j t hj hjk
      · intro j t f hj hjk
        by_cases e : j = i
        · subst e; rw [hk] at hjk; exact h3 t f hjk
        · exact F.fins j t f (by simpa [e] using hj) hjk
      · intro j hj
        by_cases e : j = i
        · subst e; rw [upd_at, hk, h4]
        · rw [upd_ne e]; exact F.vals j (by simpa [e] using hj)
    cases hk : cmAt ks i with
    | fin t f =>
      rw [hk] at hs
      have hts : t < s := by
        have h := hal i hi
        rw [hk] at h
        obtain ⟨j, hjm, hj⟩ := List.any_eq_true.1 h
        simp only [Bool.and_eq_true] at hj
        have hjl := hwt j hj.1
        have h2 := hj.2
        cases hkj : cmAt ks j with
        | quiet v lim => rw [hkj] at h2; cases h2
        | box => rw [hkj] at h2; cases h2
        | step t' => rw [hkj] at h2; simp at h2; subst h2; exact (F.steps j t' (F.lt j hjl) hkj).1 hjl
        | fin t' f' => rw [hkj] at h2; simp at h2; subst h2; exact F.fins j t' f' hjl hkj
      exact oper_wp_ok (hs hts) ⟨_, rfl, plain (.fin t f) _ hk rfl (fun _ e => by cases e) (fun t' f' e => by injection e with e1; omega) rfl⟩
    | box =>
      rw [hk] at hs
      have hb0 : b i = none := by
        cases hbi : b i with
        | none => rfl
        | some g => have := (F.box i hi hk).2 (by rw [hbi]; rfl); rw [this] at ni; cases ni
      obtain ⟨ob, h1, h2⟩ := hs hb0
      refine oper_wp_ok h1 ⟨_, rfl, s, r, updO b i w'.heap.size, hlt', ?_, ?_, ?_, ?_, h2, F.le, hcl⟩
      · intro j t hj hjk
        have e : j ≠ i := fun e => by subst e; rw [hk] at hjk; cases hjk
        simpa [e] using F.steps j t hj hjk
      · intro j t f hj hjk
        have e : j ≠ i := fun e => by subst e; rw [hk] at hjk; cases hjk
        exact F.fins j t f (by simpa [e] using hj) hjk
      · intro j hj hjk
        by_cases e : j = i
        · subst e; simp [updO]
        · simpa [e, updO] using F.box j hj hjk
      · intro j hj
        by_cases e : j = i
        · subst e; rw [upd_at, hk]; simp [Cm.out, updO]
        · have hlj : ls j = true := by simpa [e] using hj
          rw [upd_ne e, F.vals j hlj]
          cases hkj : cmAt ks j with
          | quiet v' lim' => rfl
          | step t' => rfl
          | fin t' f' => rfl
          | box => simp [Cm.out, updO, e]
    | quiet v lim =>
      rw [hk] at hs
      have hle : s ≤ lim := by
        have h := hal i hi
        rw [hk] at h
        simp only [Bool.or_eq_true, decide_eq_true_eq] at h
        rcases h with h | h
        · exact Nat.le_trans F.le h
        · by_cases hlt : s ≤ lim
          · exact hlt
          · exfalso
            have hll : lim < st.length := by have := F.le; omega
            obtain ⟨j, e1, e2, e3, _⟩ := hstp lim hll
            rw [e1] at h
            have hlj := (F.steps j lim e2 e3).2 (by omega)
            rw [F.closed i j hlj h] at ni
            cases ni
      exact oper_wp_ok (hs hle) ⟨v, rfl, plain (.quiet v lim) v hk rfl (fun _ e => by cases e) (fun _ _ e => by cases e) rfl⟩
    | step t =>
      rw [hk] at hs
      have hti := hst2 i t hi hk
      have htl : t < st.length := (List.getElem?_eq_some_iff.1 hti).1
      have hst' : s = t := by
        have h1 : ¬ t < s := fun h => by rw [(F.steps i t hi hk).2 h] at ni; cases ni
        by_cases h0 : t = 0
        · omega
        · obtain ⟨i', e1, e2, e3, e4⟩ := hstp t htl
          rw [hti] at e1
          injection e1 with e1
          subst e1
          obtain ⟨j, q1, q2⟩ := e4 (by omega)
          obtain ⟨j', r1, r2, r3, _⟩ := hstp (t - 1) (by omega)
          rw [q1] at r1
          injection r1 with r1
          subst r1
          have := (F.steps j (t - 1) r2 r3).1 (hwt j q2)
          omega
      subst hst'
      refine Oper.wp_mono ?_ (hs rfl)
      rintro a'' w'' ⟨v, h1, h2⟩
      refine ⟨v, h1, s + 1, updR r s v, b, hlt', ?_, ?_, hbxs _ hk rfl, ?_, h2, htl, hcl⟩
      · intro j t' hj hjk
        by_cases e : j = i
        · subst e
          rw [hk] at hjk
          injection hjk with hjk
          subst hjk
          simp
        · have h3 := F.steps j t' hj hjk
          have hne : t' ≠ s := fun e' => by
            subst e'
            have := hst2 j t' hj hjk
            rw [hti] at this
            injection this with this
            exact e this.symm
          simp only [e, decide_false, Bool.false_or]
          rw [h3]; omega
      · intro j t' f hj hjk
        have e : j ≠ i := fun e => by subst e; rw [hk] at hjk; cases hjk
        have := F.fins j t' f (by simpa [e] using hj) hjk
        omega
      · intro j hj
        by_cases e : j = i
        · subst e; rw [upd_at, hk]; exact (updR_at r s v).symm
        · have hlj : ls j = true := by simpa [e] using hj
          rw [upd_ne e, F.vals j hlj]
          cases hkj : cmAt ks j with
          | quiet v' lim' => rfl
          | box => rfl
          | fin t' f' =>
            have := F.fins j t' f' hlj hkj
            exact congrArg f' (updR_ne (by omega)).symm
          | step t' =>
            have := (F.steps j t' (F.lt j hlj) hkj).1 hlj
            exact (updR_ne (by omega)).symm
  · rintro L vs w' ⟨s, r, b, F⟩ hlst
    have hs : s = st.length := by
      by_cases h : s < st.length
      · obtain ⟨i, e1, e2, e3, _⟩ := hstp s h
        have := (F.steps i s e2 e3).1 (hlst i e2)
        omega
      · have := F.le; omega
    subst hs
    rw [putM_all L vs r b l 0 ks a hlen (fun i hi => by rw [Nat.zero_add]; exact hlst i hi) (fun i hi => by rw [Nat.zero_add]; exact F.vals i (hlst i hi))]
    exact hend r b w' F.inv (fun i hi hk => Option.isSome_iff_exists.1 ((F.box i hi hk).1 (hlst i hi)))
end
end Go.Proofs.Ytnpaejknoipicad

namespace Go.Proofs.Ytnpaejknoipicad
open Go.RowKit

def dkA : List UInt8 := recB 7 [pf 5 true]
def dkB : List UInt8 := recB 8 [pf 6 true]
def dkD : List UInt8 := (dkA ++ dkB).take 19
theorem dk1 : appE [] 0 7 [pf 5 true] = 0 := by decide +kernel
theorem dk2 : syE dkA 0 = 0 := by decide +kernel
theorem dk3 : appE dkA 16 8 [pf 6 true] = 0 := by decide +kernel
theorem dk4 : crE (dkA ++ dkB) 16 3 = 0 ∧ crN (dkA ++ dkB) 16 3 = 19 := by decide +kernel
theorem dk5 : appE dkD 16 8 [pf 6 true] = 4 := by decide +kernel
theorem dk6 : diskE dkD 16 = 0 ∧ opF dkD = 7 ∧ (opL dkD).length = 1 ∧ dEnd dkD = 16 := by decide +kernel
theorem dk7 : recE 7 [pf 5 true] = 0 ∧ dkA.length = 16 ∧ (dkD.take 16).length = 16 := by decide +kernel

set_option maxHeartbeats 400000 in
theorem one_any (t : Int) (w : World) :
    Calls Try.prog 42 #[.int .i64 t] w fun e w' => ∃ b, e = .returned (.agg #[.slice (some ⟨b, 0, none⟩) 1 1]) ∧ FrsIn (fun g => w.heap.size ≤ g) w' (.slice (some ⟨b, 0, none⟩) 1 1) [pf t true] ∧ Below w.heap.size w w' := by
  have HP : Hid (∀ W, Calls Try.prog 40 #[.int .i64 t, .bool true] W fun e w' => e = .returned (.agg #[.int .i64 t, .bool true, .slice (some ⟨W.heap.size + 1, 0, none⟩) 1 1]) ∧ StrsIn (fun g => W.heap.size ≤ g) w' (.slice (some ⟨W.heap.size + 1, 0, none⟩) 1 1) [⟨#[97, 98, 99]⟩] ∧ Below W.heap.size W w') := fun W => pic_any t true W
  go_enter Try.func42, Try.ntmps42
  go_wp2_with fail
  refine (HP.out _).mono ?_
  rintro e w1 ⟨rfl, hs, b1⟩
  have K0 := Blk.new w #[.slice none 0 0] 25
  have K1 := K0.below b1 K0.lt
  have HB : Hid (Below w.heap.size w w1) := ((Below.refl _ w).alloc (Nat.le_refl _) _).trans (b1.mono (by simp))
  rw [World.size_alloc] at hs
  obtain ⟨P, hP⟩ : ∃ P, P = w.heap.size + 1 + 1 := ⟨_, rfl⟩
  rw [World.size_alloc]
  rw [← hP] at hs ⊢
  have HS : Hid (StrsIn (fun g => w.heap.size + 1 ≤ g) w1 (.slice (some ⟨P, 0, none⟩) 1 1) [⟨#[97, 98, 99]⟩]) := hs
  have HK : Hid (Blk w1 w.heap.size #[.slice none 0 0] 25) := K1
  have z0 := K1.cell (j := 0) (u := .slice none 0 0) rfl
  have zf := K1.free 0
  have hlw : w.heap.size < w1.heap.size := K1.lt
  clear HP hs b1 K0 K1 hP
  go_wp2_with fail
  obtain ⟨V, hV⟩ : ∃ V, V = w1.setCell ⟨w.heap.size, 0, none⟩ (.slice (some ⟨w1.heap.size, 0, none⟩) 1 1) := ⟨_, rfl⟩
  have hVs : V.heap.size = w1.heap.size := by rw [hV]; simp
  have kV : Blk V w.heap.size #[.slice (some ⟨w1.heap.size, 0, none⟩) 1 1] 25 := by rw [hV]; exact HK.out.set 0 _
  have sV : StrsIn (fun g => w.heap.size + 1 ≤ g) V (.slice (some ⟨P, 0, none⟩) 1 1) [⟨#[97, 98, 99]⟩] := by rw [hV]; exact HS.out.to (SameOn.setCell (fun g hg => by show g ≠ w.heap.size; omega) _) (fun _ _ h => h)
  have bV : Below w.heap.size w V := by rw [hV]; exact HB.out.setCell (p := ⟨w.heap.size, 0, none⟩) (Nat.le_refl _) _
  rw [← hV]
  obtain ⟨W2, hW2⟩ : ∃ W2, W2 = V.alloc (.cells #[.int .i64 t, .bool true, .slice (some ⟨P, 0, none⟩) 1 1] 36) := ⟨_, rfl⟩
  have f2 : Blk W2 w1.heap.size #[.int .i64 t, .bool true, .slice (some ⟨P, 0, none⟩) 1 1] 36 := by rw [← hVs]; exact Blk.newE hW2
  have k2 : Blk W2 w.heap.size #[.slice (some ⟨w1.heap.size, 0, none⟩) 1 1] 25 := by rw [hW2]; exact kV.alloc _
  have s2 : StrsIn (fun g => w.heap.size + 1 ≤ g) W2 (.slice (some ⟨P, 0, none⟩) 1 1) [⟨#[97, 98, 99]⟩] := by rw [hW2]; exact sV.alloc _
  have b2 : Below w.heap.size w W2 := by rw [hW2]; exact bV.alloc bV.size _
  rw [← hW2]
  have y0 := k2.cell (j := 0) (u := .slice (some ⟨w1.heap.size, 0, none⟩) 1 1) rfl
  refine bodyPost_ret (v := .agg #[.slice (some ⟨w1.heap.size, 0, none⟩) 1 1]) (by simp [results, Try.results42, go_sem, y0]) rfl ⟨_, rfl, ⟨some ⟨w1.heap.size, 0, none⟩, 1, rfl, Nat.le_refl _, by decide, fun k hk => ?_⟩, b2⟩
  have hk0 : k = 0 := by simpa using hk
  subst hk0
  exact ⟨w1.heap.size, 0, rfl, f2.lt, by show w.heap.size ≤ w1.heap.size; omega, _, f2.cell rfl, f2.cell rfl, f2.cell rfl, s2.mono (fun g _ hg => by show w.heap.size ≤ g; omega)⟩

/-- within such a region: the group made; what Append answers; the box of the disk -/
structure DkI (w1 : World) (t : Int) (X : ByteArray) (N E : Int) (s : Nat) (r : Nat → Value) (b : Nat → Option Nat) (w' : World) : Prop where
  bel : Below w1.heap.size w1 w'
  six : ∀ p, b 6 = some p → w1.heap.size ≤ p ∧ (s ≤ 2 → Blk w' p #[.string ⟨#[]⟩, .int .i64 0] 39) ∧ (3 ≤ s → Blk w' p #[.string X, .int .i64 N] 39)
  has : 3 ≤ s → ¬ b 6 = none
  one : s = 1 → ∃ g, r 0 = .agg #[.slice (some ⟨g, 0, none⟩) 1 1] ∧ FrsIn (fun _ => True) w' (.slice (some ⟨g, 0, none⟩) 1 1) [pf t true]
  two : 2 ≤ s → r 1 = .tuple #[.agg #[.string X, .int .i64 N], .int .i64 E]
theorem DkI.first {w1 : World} {t N E : Int} {X : ByteArray} {r : Nat → Value} {b : Nat → Option Nat} {w' w'' : World} (h : DkI w1 t X N E 0 r b w') (hb : Below w'.heap.size w' w'') (v : Value) (hv : ∃ g, v = .agg #[.slice (some ⟨g, 0, none⟩) 1 1] ∧ FrsIn (fun _ => True) w'' (.slice (some ⟨g, 0, none⟩) 1 1) [pf t true]) : DkI w1 t X N E 1 (updR r 0 v) b w'' :=
  ⟨h.bel.trans (hb.mono h.bel.size), fun p hp => ⟨(h.six p hp).1, fun _ => ((h.six p hp).2.1 (by omega)).below hb ((h.six p hp).2.1 (by omega)).lt, fun h => by omega⟩, fun h => by omega, fun _ => by rw [updR_at]; exact hv, fun h => by omega⟩
theorem DkI.second {w1 : World} {t N E : Int} {X : ByteArray} {r : Nat → Value} {b : Nat → Option Nat} {w' w'' : World} (h : DkI w1 t X N E 1 r b w') (hb : Below w'.heap.size w' w'') : DkI w1 t X N E 2 (updR r 1 (.tuple #[.agg #[.string X, .int .i64 N], .int .i64 E])) b w'' :=
  ⟨h.bel.trans (hb.mono h.bel.size), fun p hp => ⟨(h.six p hp).1, fun _ => ((h.six p hp).2.1 (by omega)).below hb ((h.six p hp).2.1 (by omega)).lt, fun h => by omega⟩, fun h => by omega, fun h => by omega, fun _ => updR_at _ _ _⟩
theorem DkI.box {w1 : World} {t N E : Int} {X : ByteArray} {s : Nat} {r : Nat → Value} {b : Nat → Option Nat} {w' : World} (h : DkI w1 t X N E s r b w') (hb : b 6 = none) : DkI w1 t X N E s r (updO b 6 w'.heap.size) (w'.alloc (.cells #[.string ⟨#[]⟩, .int .i64 0] 39)) := by
  have hs : s ≤ 2 := by
    by_cases h3 : 3 ≤ s
    · exact absurd hb (h.has h3)
    · omega
  refine ⟨h.bel.alloc h.bel.size _, fun p hp => ?_, fun h => by omega, fun h0 => ?_, h.two⟩
  · simp [updO] at hp
    subst hp
    exact ⟨h.bel.size, fun _ => Blk.new _ _ _, fun h => by omega⟩
  · obtain ⟨g, h1, h2⟩ := h.one h0
    exact ⟨g, h1, h2.alloc _⟩
theorem DkI.put {w1 : World} {t N E : Int} {X : ByteArray} {r : Nat → Value} {b : Nat → Option Nat} {w' : World} (h : DkI w1 t X N E 2 r b w') {p : Nat} (hp : b 6 = some p) (v : Value) : DkI w1 t X N E 3 (updR r 2 v) b ((w'.setCell ⟨p, 0, none⟩ (.string X)).setCell ⟨p, 1, none⟩ (.int .i64 N)) := by
  obtain ⟨h1, h2, _⟩ := h.six p hp
  refine ⟨(h.bel.setCell (p := ⟨p, 0, none⟩) h1 _).setCell (p := ⟨p, 1, none⟩) h1 _, fun q hq => ?_, fun _ hn => ?_, fun h => by omega, fun _ => (updR_ne (by omega)).trans (h.two (Nat.le_refl _))⟩
  · rw [hp] at hq
    injection hq with hq
    subst hq
    exact ⟨h1, fun h => by omega, fun _ => ((h2 (Nat.le_refl _)).set 0 _).set 1 _⟩
  · rw [hp] at hn; cases hn

end Go.Proofs.Ytnpaejknoipicad

namespace Go.Proofs.Ytnpaejknoipicad
open Go.RowKit

theorem diskApp_eq (l m : List UInt8) (s n s' : Int) (g : List Fr) (ga : Option Addr) (gm gc : Nat) (w : World) (hg : FrsIn (fun _ => True) w (.slice ga gm gc) g) (h : appE l s n g = 0) (hm : m = l ++ recB n g) (hs : s' = s) :
    Calls Try.prog 17 #[.agg #[.string (ba l), .int .i64 s], .int .i64 n, .agg #[.slice ga gm gc]] w fun e w' => e = .returned (.tuple #[.agg #[.string (ba m), .int .i64 s'], .int .i64 0]) ∧ Below w.heap.size w w' := by
  subst hm hs
  refine (diskAppend_any _ l s' n g _ w hg).mono ?_
  rintro e w' ⟨X, N, rfl, hB, h1, _⟩
  obtain ⟨rfl, rfl⟩ := h1 h
  rw [h]
  exact ⟨rfl, hB⟩
theorem diskApp_no (l : List UInt8) (s n E : Int) (g : List Fr) (ga : Option Addr) (gm gc : Nat) (w : World) (hg : FrsIn (fun _ => True) w (.slice ga gm gc) g) (h : appE l s n g = E) (hE : ¬ E = 0) :
    Calls Try.prog 17 #[.agg #[.string (ba l), .int .i64 s], .int .i64 n, .agg #[.slice ga gm gc]] w fun e w' => e = .returned (.tuple #[.agg #[.string ⟨#[]⟩, .int .i64 0], .int .i64 E]) ∧ Below w.heap.size w w' := by
  subst h
  refine (diskAppend_any _ l s n g _ w hg).mono ?_
  rintro e w' ⟨X, N, rfl, hB, _, h1⟩
  obtain ⟨rfl, rfl⟩ := h1 hE
  exact ⟨rfl, hB⟩

set_option maxHeartbeats 8000000 in
set_option maxRecDepth 100000 in
theorem diskBegun_any (w : World) :
    Calls Try.prog 12 #[] w fun e w' => e = .returned (.bool true) ∧ Below w.heap.size w w' := by
  have any : ∀ {S : Nat → Prop} {W : World} {v : Value} {l : List Fr}, FrsIn S W v l → FrsIn (fun _ => True) W v l := fun h => h.mono (fun _ _ _ => trivial)
  obtain ⟨LA, hLA⟩ : ∃ L, L = dkA := ⟨_, rfl⟩
  obtain ⟨LB, hLB⟩ : ∃ L, L = dkA ++ dkB := ⟨_, rfl⟩
  obtain ⟨LD, hLD⟩ : ∃ L, L = dkD := ⟨_, rfl⟩
  obtain ⟨LE, hLE⟩ : ∃ L, L = dkD.take 16 := ⟨_, rfl⟩
  have HO6 : Hid (∀ W, Calls Try.prog 42 #[.int .i64 6] W fun e w' => ∃ b, e = .returned (.agg #[.slice (some ⟨b, 0, none⟩) 1 1]) ∧ FrsIn (fun _ => True) w' (.slice (some ⟨b, 0, none⟩) 1 1) [pf 6 true] ∧ Below W.heap.size W w') := fun W => (one_any 6 W).mono (fun _ _ ⟨b, h1, h2, h3⟩ => ⟨b, h1, any h2, h3⟩)
  have HO5 : Hid (∀ W, Calls Try.prog 42 #[.int .i64 5] W fun e w' => ∃ b, e = .returned (.agg #[.slice (some ⟨b, 0, none⟩) 1 1]) ∧ FrsIn (fun _ => True) w' (.slice (some ⟨b, 0, none⟩) 1 1) [pf 5 true] ∧ Below W.heap.size W w') := fun W => (one_any 5 W).mono (fun _ _ ⟨b, h1, h2, h3⟩ => ⟨b, h1, any h2, h3⟩)
  have HA1 : Hid (∀ (W : World) (g : Nat), FrsIn (fun _ => True) W (.slice (some ⟨g, 0, none⟩) 1 1) [pf 5 true] → Calls Try.prog 17 #[.agg #[.string ⟨#[]⟩, .int .i64 0], .int .i64 7, .agg #[.slice (some ⟨g, 0, none⟩) 1 1]] W fun e w' => e = .returned (.tuple #[.agg #[.string (ba LA), .int .i64 0], .int .i64 0]) ∧ Below W.heap.size W w') := fun W g h => diskApp_eq [] LA 0 7 0 _ _ 1 1 W h dk1 hLA rfl
  have HA2 : Hid (∀ (W : World) (g : Nat), FrsIn (fun _ => True) W (.slice (some ⟨g, 0, none⟩) 1 1) [pf 6 true] → Calls Try.prog 17 #[.agg #[.string (ba LA), .int .i64 16], .int .i64 8, .agg #[.slice (some ⟨g, 0, none⟩) 1 1]] W fun e w' => e = .returned (.tuple #[.agg #[.string (ba LB), .int .i64 16], .int .i64 0]) ∧ Below W.heap.size W w') := fun W g h => diskApp_eq LA LB 16 8 16 _ _ 1 1 W h (by rw [hLA]; exact dk3) (by rw [hLB, hLA]; rfl) rfl
  have HA3 : Hid (∀ (W : World) (g : Nat), FrsIn (fun _ => True) W (.slice (some ⟨g, 0, none⟩) 1 1) [pf 6 true] → Calls Try.prog 17 #[.agg #[.string (ba LD), .int .i64 16], .int .i64 8, .agg #[.slice (some ⟨g, 0, none⟩) 1 1]] W fun e w' => e = .returned (.tuple #[.agg #[.string ⟨#[]⟩, .int .i64 0], .int .i64 4]) ∧ Below W.heap.size W w') := fun W g h => diskApp_no LD 16 8 4 _ _ 1 1 W h (by rw [hLD]; exact dk5) (by decide)
  have HSY : Hid (∀ W, Calls Try.prog 18 #[.agg #[.string (ba LA), .int .i64 0]] W fun e w' => e = .returned (.tuple #[.agg #[.string (ba LA), .int .i64 16], .int .i64 0]) ∧ Below W.heap.size W w') := fun W => by
    refine (diskSync_any LA 0 W).mono ?_
    have h0 : syE LA 0 = 0 := by rw [hLA]; exact dk2
    rintro e w' ⟨X, N, rfl, hB, h1, _⟩
    obtain ⟨rfl, rfl⟩ := h1 h0
    rw [h0, show (LA.length : Int) = 16 by rw [hLA, dk7.2.1]; rfl]
    exact ⟨rfl, hB⟩
  have HCR : Hid (∀ W, Calls Try.prog 19 #[.agg #[.string (ba LB), .int .i64 16], .int .i64 3] W fun e w' => e = .returned (.tuple #[.agg #[.string (ba LD), .int .i64 16], .int .i64 0]) ∧ Below W.heap.size W w') := fun W => by
    refine (diskCrash_any LB 16 3 W).mono ?_
    have h0 : crE LB 16 3 = 0 := by rw [hLB]; exact dk4.1
    rintro e w' ⟨X, N, rfl, hB, h1, _⟩
    obtain ⟨rfl, rfl⟩ := h1 h0
    rw [h0, show crN LB 16 3 = 19 by rw [hLB]; exact dk4.2, hLD, hLB]
    exact ⟨rfl, hB⟩
  have HOP : Hid (∀ W, Calls Try.prog 14 #[.agg #[.string (ba LD), .int .i64 16]] W fun e w' => ∃ ga gc, e = .returned (.tuple #[.agg #[.int .i64 7, .slice ga 1 gc, .slice none 0 0], .agg #[.string (ba LE), .int .i64 16], .int .i64 0]) ∧ Below W.heap.size W w') := fun W => by
    refine (diskOpen_any LD 16 W).mono ?_
    have h0 : diskE LD 16 = 0 := by rw [hLD]; exact dk6.1
    rintro e w' ⟨f, gv, X, N, rfl, hB, h1, _⟩
    obtain ⟨rfl, hG, rfl, rfl⟩ := h1 h0
    obtain ⟨ga, gc, eg, _, _⟩ := hG.len
    rw [h0, eg, hLD, dk6.2.1, dk6.2.2.1, dk6.2.2.2, hLE]
    exact ⟨ga, gc, rfl, hB⟩
  have HEN : Hid (∀ (W : World) (g : Nat), FrsIn (fun _ => True) W (.slice (some ⟨g, 0, none⟩) 1 1) [pf 5 true] → Calls Try.prog 16 #[.int .i64 7, .agg #[.slice (some ⟨g, 0, none⟩) 1 1]] W fun e w' => e = .returned (.tuple #[.string (ba LA), .int .i64 0]) ∧ Below W.heap.size W w') := fun W g h => by
    refine (diskEncode_any _ 7 _ _ W h).mono ?_
    rintro e w' ⟨rfl, hB⟩
    rw [dk7.1, if_pos rfl, hLA]
    exact ⟨rfl, hB⟩
  have HCK : Hid (∀ W, Calls Try.prog 13 #[.agg #[.string (ba LD), .int .i64 16]] W fun e w' => e = .returned (.int .i64 0) ∧ Below W.heap.size W w') := fun W => by
    have := diskCheck_any LD 16 W
    rw [show diskE LD 16 = 0 by rw [hLD]; exact dk6.1] at this
    exact this
  have hsA : (ba LA).size = 16 := by rw [ba_size, hLA]; exact dk7.2.1
  have hsE : (ba LE).size = 16 := by rw [ba_size, hLE]; exact dk7.2.2
  clear hLA hLB hLD hLE any
  go_enter Try.func12, Try.ntmps12
  go_wp2_with fail
  refine (HO5.out _).mono ?_
  rintro e w1 ⟨g1, rfl, F1, b1⟩
  have HB1 : Hid (Below w.heap.size w w1) := b1
  have HF1 : Hid (FrsIn (fun _ => True) w1 (.slice (some ⟨g1, 0, none⟩) 1 1) [pf 5 true]) := F1
  clear b1 F1
  go_wp2_with fail
  refine (HA1.out _ _ HF1.out).mono ?_
  rintro e w2 ⟨rfl, b2⟩
  obtain ⟨B1, hBE1⟩ : ∃ b, b = w2.heap.size := ⟨_, rfl⟩
  obtain ⟨W2, hW2⟩ : ∃ W, W = w2.alloc (.cells #[.string (ba LA), .int .i64 0] 39) := ⟨_, rfl⟩
  have HK1 : Hid (Blk W2 B1 #[.string (ba LA), .int .i64 0] 39) := by show Blk _ _ _ _; rw [hBE1]; exact Blk.newE hW2
  have HB2 : Hid (Below w.heap.size w W2) := by
    have h := HB1.out.trans (b2.mono HB1.out.size)
    show Below _ _ _; rw [hW2]; exact h.alloc h.size _
  have HW2 : Hid (W2 = w2.alloc (.cells #[.string (ba LA), .int .i64 0] 39)) := hW2
  have HE1 : Hid (B1 = w2.heap.size) := hBE1
  clear b2 hW2 hBE1 HF1 HB1
  go_wp2_with fail
  rw [← HW2.out, ← HE1.out]
  clear HW2 HE1
  refine (HSY.out _).mono ?_
  rintro e w3 ⟨rfl, b3⟩
  obtain ⟨B3, hBE3⟩ : ∃ b, b = w3.heap.size := ⟨_, rfl⟩
  obtain ⟨W3, hW3⟩ : ∃ W, W = w3.alloc (.cells #[.string (ba LA), .int .i64 16] 39) := ⟨_, rfl⟩
  have HK3 : Hid (Blk W3 B3 #[.string (ba LA), .int .i64 16] 39) := by show Blk _ _ _ _; rw [hBE3]; exact Blk.newE hW3
  have HB3 : Hid (Below w.heap.size w W3) := by
    have h := HB2.out.trans (b3.mono HB2.out.size)
    show Below _ _ _; rw [hW3]; exact h.alloc h.size _
  have HK13 : Hid (Blk W3 B1 #[.string (ba LA), .int .i64 0] 39) := by show Blk _ _ _ _; rw [hW3]; exact (HK1.out.below b3 HK1.out.lt).alloc _
  have HW3 : Hid (W3 = w3.alloc (.cells #[.string (ba LA), .int .i64 16] 39)) := hW3
  have HE3 : Hid (B3 = w3.heap.size) := hBE3
  clear b3 hW3 hBE3 HB2 HK1
  go_upto_region 3 with fail
  rw [← HW3.out, ← HE3.out]
  clear HW3 HE3
  refine region_boxes (by kernel_rfl) (by kernel_rfl) [.quiet (.agg #[.string (ba LA), .int .i64 16]) 3, .step 0, .step 1, .fin 1 (fun r => r), .fin 1 (exT 0), .fin 1 (exT 1), .box, .step 2, .fin 1 (exT 1)] [1, 2, 7] (by kernel_rfl)
    (DkI W3 6 (ba LB) 16 0) ?i0 ?step ?fin
  case i0 => exact ⟨⟨rfl, rfl, rfl, Nat.le_refl _, fun _ _ => rfl⟩, fun _ hp => (by cases hp), fun h => (by omega), fun h => (by omega), fun h => (by omega)⟩
  case step =>
    intro i o ho a' w' s r b hI hfree hvals hbx
    have f1 : a'.eval (.tmp 3) = .pointer (some ⟨B3, 0, none⟩) := (hfree 3 (by kernel_rfl)).trans rfl
    have kk := HK3.out.below hI.bel HK3.out.lt
    have y0 := kk.cell (j := 0) (u := .string (ba LA)) rfl
    have y1 := kk.cell (j := 1) (u := .int .i64 16) rfl
    clear kk
    match i, ho with
    | 0, ho =>
      simp at ho; subst ho
      show s ≤ 3 → (execOp a'.eval _).run _ w' = .ok (.value _) w'
      intro _
      generalize a'.eval = ρ at *
      simp [execOp, go_sem, f1, y0, y1]
    | 1, ho =>
      simp at ho; subst ho
      show s = 0 → _
      intro hs
      subst hs
      have ef : a'.eval (.func 42) = .func (.func 42) #[] #[] := rfl
      have ec : a'.eval (.const (.int .i64 6)) = .int .i64 6 := rfl
      refine oper_wp_call (f := 42) (args := #[.int .i64 6]) ?_ ((HO6.out w').mono ?_)
      · generalize a'.eval = ρ at *
        simp [execOp, go_sem, ef, ec]
      · rintro e w'' ⟨g, rfl, q1, b1⟩
        exact ⟨_, rfl, _, rfl, hI.first b1 _ ⟨g, rfl, q1⟩⟩
    | 2, ho =>
      simp at ho; subst ho
      show s = 1 → _
      intro hs
      subst hs
      obtain ⟨g, er, q1⟩ := hI.one rfl
      have e1 : a'.eval (.tmp 29) = .agg #[.slice (some ⟨g, 0, none⟩) 1 1] := (hvals 1 _ _ (by kernel_rfl) rfl rfl).trans er
      have e2 : a'.eval (.tmp 28) = .agg #[.string (ba LA), .int .i64 16] := hvals 0 _ _ (by kernel_rfl) rfl rfl
      have ef : a'.eval (.func 17) = .func (.func 17) #[] #[] := rfl
      have ec : a'.eval (.const (.int .i64 8)) = .int .i64 8 := rfl
      refine oper_wp_call (f := 17) (args := #[.agg #[.string (ba LA), .int .i64 16], .int .i64 8, .agg #[.slice (some ⟨g, 0, none⟩) 1 1]]) ?_ ((HA2.out w' g q1).mono ?_)
      · generalize a'.eval = ρ at *
        simp [execOp, go_sem, e1, e2, ef, ec]
      · rintro e w'' ⟨rfl, b1⟩
        exact ⟨_, rfl, _, rfl, hI.second b1⟩
    | 3, ho =>
      simp at ho; subst ho
      have e1 : a'.eval (.tmp 30) = r 1 := hvals 2 _ _ (by kernel_rfl) rfl rfl
      show 1 < s → (execOp a'.eval _).run _ w' = .ok (.value _) w'
      intro hs
      rw [hI.two hs] at e1 ⊢
      generalize a'.eval = ρ at *
      simp [execOp, go_sem, e1]
    | 4, ho =>
      simp at ho; subst ho
      have e1 : a'.eval (.tmp 27) = r 1 := hvals 3 _ _ (by kernel_rfl) rfl rfl
      show 1 < s → (execOp a'.eval _).run _ w' = .ok (.value _) w'
      intro hs
      rw [hI.two hs] at e1 ⊢
      simp only [exT] at e1 ⊢
      generalize a'.eval = ρ at *
      simp [execOp, go_sem, e1]
    | 5, ho =>
      simp at ho; subst ho
      have e1 : a'.eval (.tmp 27) = r 1 := hvals 3 _ _ (by kernel_rfl) rfl rfl
      show 1 < s → (execOp a'.eval _).run _ w' = .ok (.value _) w'
      intro hs
      rw [hI.two hs] at e1 ⊢
      simp only [exT] at e1 ⊢
      generalize a'.eval = ρ at *
      simp [execOp, go_sem, e1]
    | 8, ho =>
      simp at ho; subst ho
      have e1 : a'.eval (.tmp 32) = exT 1 (r 1) := hvals 5 _ _ (by kernel_rfl) rfl rfl
      show 1 < s → (execOp a'.eval _).run _ w' = .ok (.value _) w'
      intro hs
      rw [hI.two hs] at e1 ⊢
      simp only [exT] at e1 ⊢
      generalize a'.eval = ρ at *
      simp [execOp, go_sem, e1]
    | 6, ho =>
      simp at ho; subst ho
      show b 6 = none → _
      intro hb
      refine ⟨.cells #[.string ⟨#[]⟩, .int .i64 0] 39, ?_, hI.box hb⟩
      generalize a'.eval = ρ at *
      simp [execOp, go_sem]
    | 7, ho =>
      simp at ho; subst ho
      show s = 2 → _
      intro hs
      subst hs
      have er := hI.two (Nat.le_refl _)
      obtain ⟨p, hp⟩ := Option.isSome_iff_exists.1 (hbx 6 (by kernel_rfl) rfl)
      have kg := (hI.six p hp).2.1 (Nat.le_refl _)
      have e1 : a'.eval (.tmp 5) = .pointer (some ⟨p, 0, none⟩) := (hvals 6 _ _ (by kernel_rfl) rfl rfl).trans (by show Cm.out r b 6 .box = _; simp [Cm.out, hp])
      have e2 : a'.eval (.tmp 31) = .agg #[.string (ba LB), .int .i64 16] := (hvals 4 _ _ (by kernel_rfl) rfl rfl).trans (by show exT 0 (r 1) = _; rw [er]; rfl)
      have t0 := kg.cell (j := 0) (u := .string ⟨#[]⟩) rfl
      have t1 := kg.cell (j := 1) (u := .int .i64 0) rfl
      have fr := fun j => kg.free j
      refine oper_wp_skip (w' := (w'.setCell ⟨p, 0, none⟩ (.string (ba LB))).setCell ⟨p, 1, none⟩ (.int .i64 16)) ?_ ⟨undef, rfl, hI.put hp _⟩
      generalize a'.eval = ρ at *
      simp [execOp, go_sem, e1, e2, t0, t1, fr]
    | i + 9, ho => simp at ho
  case fin =>
    rintro r b W4 hI hbxs
    obtain ⟨B5, hp⟩ := hbxs 6 (by decide) rfl
    have er := hI.two (by decide)
    have HK5 : Hid (Blk W4 B5 #[.string (ba LB), .int .i64 16] 39) := (hI.six B5 hp).2.2 (by decide)
    have hbe := hI.bel
    have HB4 : Hid (Below w.heap.size w W4) := HB3.out.trans (hbe.mono HB3.out.size)
    have HK14 : Hid (Blk W4 B1 #[.string (ba LA), .int .i64 0] 39) := HK13.out.below hbe HK13.out.lt
    simp only [putM, Cm.out, er, hp, exT, Act.put, List.setIfInBounds_toArray, List.set_cons_succ, List.set_cons_zero, List.getElem?_toArray, List.getElem?_cons_zero, List.getElem?_cons_succ, Option.getD_some]
    have x0 := HK5.out.cell (j := 0) (u := .string (ba LB)) rfl
    have x1 := HK5.out.cell (j := 1) (u := .int .i64 16) rfl
    clear hI hbxs hp er hbe HB3 HK13 HK3
    go_wp2_with fail
    refine (HCR.out _).mono ?_
    rintro e w5 ⟨rfl, b5⟩
    obtain ⟨B7, hBE7⟩ : ∃ b, b = w5.heap.size := ⟨_, rfl⟩
    obtain ⟨W5, hW5⟩ : ∃ W, W = w5.alloc (.cells #[.string (ba LD), .int .i64 16] 39) := ⟨_, rfl⟩
    have HK7 : Hid (Blk W5 B7 #[.string (ba LD), .int .i64 16] 39) := by show Blk _ _ _ _; rw [hBE7]; exact Blk.newE hW5
    have HB5 : Hid (Below w.heap.size w W5) := by
      have h := HB4.out.trans (b5.mono HB4.out.size)
      show Below _ _ _; rw [hW5]; exact h.alloc h.size _
    have HK15 : Hid (Blk W5 B1 #[.string (ba LA), .int .i64 0] 39) := by show Blk _ _ _ _; rw [hW5]; exact (HK14.out.below b5 HK14.out.lt).alloc _
    have HW5 : Hid (W5 = w5.alloc (.cells #[.string (ba LD), .int .i64 16] 39)) := hW5
    have HE7 : Hid (B7 = w5.heap.size) := hBE7
    clear b5 hW5 hBE7 HB4 HK14 HK5 x0 x1 HCR
    go_upto_region 5 with fail
    rw [← HW5.out, ← HE7.out]
    clear HW5 HE7
    refine region_boxes (by kernel_rfl) (by kernel_rfl) [.quiet (.agg #[.string (ba LD), .int .i64 16]) 3, .step 0, .step 1, .fin 1 (fun r => r), .fin 1 (exT 0), .fin 1 (exT 1), .box, .step 2, .fin 1 (exT 1)] [1, 2, 7] (by kernel_rfl)
      (DkI W5 6 ⟨#[]⟩ 0 4) ?i0 ?step ?fin
    case i0 => exact ⟨⟨rfl, rfl, rfl, Nat.le_refl _, fun _ _ => rfl⟩, fun _ hp => (by cases hp), fun h => (by omega), fun h => (by omega), fun h => (by omega)⟩
    case step =>
      intro i o ho a' w' s r b hI hfree hvals hbx
      have f1 : a'.eval (.tmp 7) = .pointer (some ⟨B7, 0, none⟩) := (hfree 7 (by kernel_rfl)).trans rfl
      have kk := HK7.out.below hI.bel HK7.out.lt
      have y0 := kk.cell (j := 0) (u := .string (ba LD)) rfl
      have y1 := kk.cell (j := 1) (u := .int .i64 16) rfl
      clear kk
      match i, ho with
      | 0, ho =>
        simp at ho; subst ho
        show s ≤ 3 → (execOp a'.eval _).run _ w' = .ok (.value _) w'
        intro _
        generalize a'.eval = ρ at *
        simp [execOp, go_sem, f1, y0, y1]
      | 1, ho =>
        simp at ho; subst ho
        show s = 0 → _
        intro hs
        subst hs
        have ef : a'.eval (.func 42) = .func (.func 42) #[] #[] := rfl
        have ec : a'.eval (.const (.int .i64 6)) = .int .i64 6 := rfl
        refine oper_wp_call (f := 42) (args := #[.int .i64 6]) ?_ ((HO6.out w').mono ?_)
        · generalize a'.eval = ρ at *
          simp [execOp, go_sem, ef, ec]
        · rintro e w'' ⟨g, rfl, q1, b1⟩
          exact ⟨_, rfl, _, rfl, hI.first b1 _ ⟨g, rfl, q1⟩⟩
      | 2, ho =>
        simp at ho; subst ho
        show s = 1 → _
        intro hs
        subst hs
        obtain ⟨g, er, q1⟩ := hI.one rfl
        have e1 : a'.eval (.tmp 40) = .agg #[.slice (some ⟨g, 0, none⟩) 1 1] := (hvals 1 _ _ (by kernel_rfl) rfl rfl).trans er
        have e2 : a'.eval (.tmp 39) = .agg #[.string (ba LD), .int .i64 16] := hvals 0 _ _ (by kernel_rfl) rfl rfl
        have ef : a'.eval (.func 17) = .func (.func 17) #[] #[] := rfl
        have ec : a'.eval (.const (.int .i64 8)) = .int .i64 8 := rfl
        refine oper_wp_call (f := 17) (args := #[.agg #[.string (ba LD), .int .i64 16], .int .i64 8, .agg #[.slice (some ⟨g, 0, none⟩) 1 1]]) ?_ ((HA3.out w' g q1).mono ?_)
        · generalize a'.eval = ρ at *
          simp [execOp, go_sem, e1, e2, ef, ec]
        · rintro e w'' ⟨rfl, b1⟩
          exact ⟨_, rfl, _, rfl, hI.second b1⟩
      | 3, ho =>
        simp at ho; subst ho
        have e1 : a'.eval (.tmp 41) = r 1 := hvals 2 _ _ (by kernel_rfl) rfl rfl
        show 1 < s → (execOp a'.eval _).run _ w' = .ok (.value _) w'
        intro hs
        rw [hI.two hs] at e1 ⊢
        generalize a'.eval = ρ at *
        simp [execOp, go_sem, e1]
      | 4, ho =>
        simp at ho; subst ho
        have e1 : a'.eval (.tmp 38) = r 1 := hvals 3 _ _ (by kernel_rfl) rfl rfl
        show 1 < s → (execOp a'.eval _).run _ w' = .ok (.value _) w'
        intro hs
        rw [hI.two hs] at e1 ⊢
        simp only [exT] at e1 ⊢
        generalize a'.eval = ρ at *
        simp [execOp, go_sem, e1]
      | 5, ho =>
        simp at ho; subst ho
        have e1 : a'.eval (.tmp 38) = r 1 := hvals 3 _ _ (by kernel_rfl) rfl rfl
        show 1 < s → (execOp a'.eval _).run _ w' = .ok (.value _) w'
        intro hs
        rw [hI.two hs] at e1 ⊢
        simp only [exT] at e1 ⊢
        generalize a'.eval = ρ at *
        simp [execOp, go_sem, e1]
      | 8, ho =>
        simp at ho; subst ho
        have e1 : a'.eval (.tmp 43) = exT 1 (r 1) := hvals 5 _ _ (by kernel_rfl) rfl rfl
        show 1 < s → (execOp a'.eval _).run _ w' = .ok (.value _) w'
        intro hs
        rw [hI.two hs] at e1 ⊢
        simp only [exT] at e1 ⊢
        generalize a'.eval = ρ at *
        simp [execOp, go_sem, e1]
      | 6, ho =>
        simp at ho; subst ho
        show b 6 = none → _
        intro hb
        refine ⟨.cells #[.string ⟨#[]⟩, .int .i64 0] 39, ?_, hI.box hb⟩
        generalize a'.eval = ρ at *
        simp [execOp, go_sem]
      | 7, ho =>
        simp at ho; subst ho
        show s = 2 → _
        intro hs
        subst hs
        have er := hI.two (Nat.le_refl _)
        obtain ⟨p, hp⟩ := Option.isSome_iff_exists.1 (hbx 6 (by kernel_rfl) rfl)
        have kg := (hI.six p hp).2.1 (Nat.le_refl _)
        have e1 : a'.eval (.tmp 9) = .pointer (some ⟨p, 0, none⟩) := (hvals 6 _ _ (by kernel_rfl) rfl rfl).trans (by show Cm.out r b 6 .box = _; simp [Cm.out, hp])
        have e2 : a'.eval (.tmp 42) = .agg #[.string ⟨#[]⟩, .int .i64 0] := (hvals 4 _ _ (by kernel_rfl) rfl rfl).trans (by show exT 0 (r 1) = _; rw [er]; rfl)
        have t0 := kg.cell (j := 0) (u := .string ⟨#[]⟩) rfl
        have t1 := kg.cell (j := 1) (u := .int .i64 0) rfl
        have fr := fun j => kg.free j
        refine oper_wp_skip (w' := (w'.setCell ⟨p, 0, none⟩ (.string ⟨#[]⟩)).setCell ⟨p, 1, none⟩ (.int .i64 0)) ?_ ⟨undef, rfl, hI.put hp _⟩
        generalize a'.eval = ρ at *
        simp [execOp, go_sem, e1, e2, t0, t1, fr]
      | i + 9, ho => simp at ho
    case fin =>
      rintro r b W6 hI hbxs
      obtain ⟨B9, hp⟩ := hbxs 6 (by decide) rfl
      have er := hI.two (by decide)
      have hbe := hI.bel
      have HB6 : Hid (Below w.heap.size w W6) := HB5.out.trans (hbe.mono HB5.out.size)
      have HK16 : Hid (Blk W6 B1 #[.string (ba LA), .int .i64 0] 39) := HK15.out.below hbe HK15.out.lt
      have HK76 : Hid (Blk W6 B7 #[.string (ba LD), .int .i64 16] 39) := HK7.out.below hbe HK7.out.lt
      simp only [putM, Cm.out, er, hp, exT, Act.put, List.setIfInBounds_toArray, List.set_cons_succ, List.set_cons_zero, List.getElem?_toArray, List.getElem?_cons_zero, List.getElem?_cons_succ, Option.getD_some]
      have x0 := HK76.out.cell (j := 0) (u := .string (ba LD)) rfl
      have x1 := HK76.out.cell (j := 1) (u := .int .i64 16) rfl
      clear hI hbxs hp er hbe HB5 HK15 HK7 HO6 HA2 HA3 HA1 HSY
      go_wp2_with fail
      refine (HOP.out _).mono ?_
      rintro e w7 ⟨ga, gc, rfl, b7⟩
      obtain ⟨V7, hV7⟩ : ∃ W, W = w7.alloc (.cells #[.int .i64 7, .slice ga 1 gc, .slice none 0 0] 27) := ⟨_, rfl⟩
      obtain ⟨W7, hW7⟩ : ∃ W, W = V7.alloc (.cells #[.string (ba LE), .int .i64 16] 39) := ⟨_, rfl⟩
      have s7 : V7.heap.size = w7.heap.size + 1 := by rw [hV7, World.size_alloc]
      have HKS : Hid (Blk W7 w7.heap.size #[.int .i64 7, .slice ga 1 gc, .slice none 0 0] 27) := by show Blk _ _ _ _; rw [hW7]; exact (Blk.newE hV7).alloc _
      have HKE : Hid (Blk W7 (w7.heap.size + 1) #[.string (ba LE), .int .i64 16] 39) := s7 ▸ Blk.newE hW7
      have HB7 : Hid (Below w.heap.size w W7) := by
        have h := HB6.out.trans (b7.mono HB6.out.size)
        show Below _ _ _; rw [hW7, hV7]; exact (h.alloc h.size _).alloc (by have := h.size; simp; omega) _
      have HK17 : Hid (Blk W7 B1 #[.string (ba LA), .int .i64 0] 39) := by show Blk _ _ _ _; rw [hW7, hV7]; exact ((HK16.out.below b7 HK16.out.lt).alloc _).alloc _
      have HK77 : Hid (Blk W7 B7 #[.string (ba LD), .int .i64 16] 39) := by show Blk _ _ _ _; rw [hW7, hV7]; exact ((HK76.out.below b7 HK76.out.lt).alloc _).alloc _
      have HW7 : Hid (W7 = (w7.alloc (.cells #[.int .i64 7, .slice ga 1 gc, .slice none 0 0] 27)).alloc (.cells #[.string (ba LE), .int .i64 16] 39)) := by show _ = _; rw [hW7, hV7]
      clear b7 hV7 hW7 s7 HB6 HK16 HK76 x0 x1 HOP
      go_wp2_with fail
      rw [← HW7.out]
      clear HW7
      refine (HO5.out _).mono ?_
      rintro e w8 ⟨g8, rfl, F8, b8⟩
      have HF8 : Hid (FrsIn (fun _ => True) w8 (.slice (some ⟨g8, 0, none⟩) 1 1) [pf 5 true]) := F8
      have HB8 : Hid (Below w.heap.size w w8) := HB7.out.trans (b8.mono HB7.out.size)
      have HKS8 : Hid (Blk w8 w7.heap.size #[.int .i64 7, .slice ga 1 gc, .slice none 0 0] 27) := HKS.out.below b8 HKS.out.lt
      have HKE8 : Hid (Blk w8 (w7.heap.size + 1) #[.string (ba LE), .int .i64 16] 39) := HKE.out.below b8 HKE.out.lt
      have HK18 : Hid (Blk w8 B1 #[.string (ba LA), .int .i64 0] 39) := HK17.out.below b8 HK17.out.lt
      have HK78 : Hid (Blk w8 B7 #[.string (ba LD), .int .i64 16] 39) := HK77.out.below b8 HK77.out.lt
      clear F8 b8 HB7 HKS HKE HK17 HK77 HO5
      go_wp2_with fail
      refine (HEN.out _ _ HF8.out).mono ?_
      rintro e w9 ⟨rfl, b9⟩
      have HB9 : Hid (Below w.heap.size w w9) := HB8.out.trans (b9.mono HB8.out.size)
      have KS9 := HKS8.out.below b9 HKS8.out.lt
      have KE9 := HKE8.out.below b9 HKE8.out.lt
      have K19 := HK18.out.below b9 HK18.out.lt
      have K79 := HK78.out.below b9 HK78.out.lt
      have HKS9 : Hid (Blk w9 w7.heap.size #[.int .i64 7, .slice ga 1 gc, .slice none 0 0] 27) := KS9
      have HKE9 : Hid (Blk w9 (w7.heap.size + 1) #[.string (ba LE), .int .i64 16] 39) := KE9
      have HK19 : Hid (Blk w9 B1 #[.string (ba LA), .int .i64 0] 39) := K19
      have x0 := K79.cell (j := 0) (u := .string (ba LD)) rfl
      have x1 := K79.cell (j := 1) (u := .int .i64 16) rfl
      clear b9 HB8 HKS8 HKE8 HK18 HK78 KS9 KE9 K19 K79 HF8 HEN
      go_wp2_with fail
      refine (HCK.out _).mono ?_
      rintro e w10 ⟨rfl, b10⟩
      have HB10 : Hid (Below w.heap.size w w10) := HB9.out.trans (b10.mono HB9.out.size)
      have KS := HKS9.out.below b10 HKS9.out.lt
      have KE := HKE9.out.below b10 HKE9.out.lt
      have K1 := HK19.out.below b10 HK19.out.lt
      have s0 := KS.cell (j := 0) (u := .int .i64 7) rfl
      have s1 := KS.cell (j := 1) (u := .slice ga 1 gc) rfl
      have e0 := KE.cell (j := 0) (u := .string (ba LE)) rfl
      have e1 := KE.cell (j := 1) (u := .int .i64 16) rfl
      have d0 := K1.cell (j := 0) (u := .string (ba LA)) rfl
      clear b10 HB9 HKS9 HKE9 HK19 KS KE K1 x0 x1 HCK
      go_wp2_with fail
      go_ret
      exact ⟨rfl, HB10.out⟩

end Go.Proofs.Ytnpaejknoipicad

namespace Go.Proofs.Ytnpaejknoipicad
open Go.RowKit

theorem open_again {l : List UInt8} {s : Int} (h : diskE l s = 0) : diskE (l.take (dEnd l)) (dEnd l) = 0 ∧ opF (l.take (dEnd l)) = opF l ∧ opL (l.take (dEnd l)) = opL l ∧ dEnd (l.take (dEnd l)) = dEnd l ∧ (l.take (dEnd l)).length = dEnd l := by
  obtain ⟨h1, h2, h3⟩ := whole_right h
  obtain ⟨_, h4, _, h5⟩ := whole_facts l
  exact ⟨h1, by unfold opF; rw [h2, h3], by unfold opL; rw [h2], h4, h5⟩
theorem append_last {l : List UInt8} {s n : Int} {g : List Fr} (h : appE l s n g = 0) :
    diskE (l ++ recB n g) s = 0 ∧ diskE (l ++ recB n g) (l ++ recB n g).length = 0 ∧ dEnd (l ++ recB n g) = (l ++ recB n g).length ∧ 0 < (opL (l ++ recB n g)).length ∧ opF (l ++ recB n g) + ((opL (l ++ recB n g)).length - 1 : Nat) = n ∧ grAt (opL (l ++ recB n g)) ((opL (l ++ recB n g)).length - 1) = g := by
  obtain ⟨a1, a2, a3, a4, a5, a6⟩ := app_facts h
  obtain ⟨b1, b2, b3, b4, b5⟩ := appE_zero h
  have hlen : (dGs l).length = (recs l).length := dGs_length l
  have ht := trimD_le (dGs l ++ [g])
  have hl : (opL (l ++ recB n g)).length = (dGs l).length + 1 - trimD (dGs l ++ [g]) := by unfold opL; rw [a3, List.length_drop, List.length_append]; rfl
  rw [List.length_append] at ht
  simp only [List.length_cons, List.length_nil] at ht
  refine ⟨a2, a6, a5, by omega, ?_, ?_⟩
  · unfold opF
    rw [hl, a3, a4]
    unfold goesB at b4
    simp only [Bool.or_eq_true, decide_eq_true_eq] at b4
    by_cases h0 : (recs l).length = 0
    · rw [if_pos h0]; omega
    · rw [if_neg h0]; omega
  · unfold grAt opL
    rw [a3, List.getElem?_drop, List.length_drop, List.length_append]
    simp only [List.length_cons, List.length_nil]
    rw [show trimD (dGs l ++ [g]) + ((dGs l).length + (0 + 1) - trimD (dGs l ++ [g]) - 1) = (dGs l).length by omega, List.getElem?_append_right (Nat.le_refl _)]
    simp
theorem crash_either {l : List UInt8} {s n keep : Int} {g : List Fr} (h : appE l s n g = 0) (hs : s = l.length) (hk : 0 ≤ keep) :
    crE (l ++ recB n g) s keep = 0 ∧ diskE ((l ++ recB n g).take (crN (l ++ recB n g) s keep)) s = 0 ∧
      ((opF ((l ++ recB n g).take (crN (l ++ recB n g) s keep)) = opF l ∧ opL ((l ++ recB n g).take (crN (l ++ recB n g) s keep)) = opL l) ∨
       (opF ((l ++ recB n g).take (crN (l ++ recB n g) s keep)) = opF (l ++ recB n g) ∧ opL ((l ++ recB n g).take (crN (l ++ recB n g) s keep)) = opL (l ++ recB n g))) := by
  obtain ⟨a1, a2, a3, a4, a5, a6⟩ := app_facts h
  obtain ⟨b1, b2, b3, b4, b5⟩ := appE_zero h
  obtain ⟨a, ha⟩ : ∃ a, a = l ++ recB n g := ⟨_, rfl⟩
  have hal : l.length ≤ a.length := by rw [ha, List.length_append]; omega
  rw [← ha] at a1 a2 a3 a4 a5 a6 ⊢
  obtain ⟨m, hm⟩ : ∃ m, m = crN a s keep := ⟨_, rfl⟩
  have hm1 : m ≤ a.length ∧ l.length ≤ m := by rw [hm]; unfold crN; omega
  rw [← hm]
  refine ⟨by unfold crE; rw [a2, if_pos rfl, if_neg (by omega)], take_right hm1.1 a2 (by omega), ?_⟩
  by_cases hmm : m = a.length
  · right
    rw [hmm, List.take_length]; exact ⟨rfl, rfl⟩
  · left
    obtain ⟨k, hk1, hk2, hk3, _, hk5, hk6, hk7⟩ := take_facts hm1.1
    have hra : (recs a).length = (recs l).length + 1 := by rw [a1, List.length_append]; rfl
    have hkl : k = (recs l).length := by
      have e1 : endK (recs a) (recs a).length = a.length := a5
      have e2 : endK (recs a) (recs l).length = l.length := by
        rw [a1, endK_left (Nat.le_refl _)]; exact b3
      by_cases hlt : k < (recs l).length
      · have h1 := hk6 (by omega)
        have h2 := endK_mono (b := recs a) (i := k + 1) (j := (recs l).length) (by omega) (by omega)
        omega
      · by_cases hgt : (recs l).length < k
        · have : k = (recs a).length := by omega
          rw [this, e1] at hk5
          omega
        · omega
    have hd : dGs (a.take m) = dGs l := by
      rw [hk3, hkl, a3, ← dGs_length, List.take_left]
    have hf : trimD (dGs l) = trimD (dGs l) → dFirst (a.take m) = dFirst l := fun _ => by
      by_cases h0 : (recs l).length = 0
      · rw [dFirst_none h0]
        exact dFirst_none (by rw [hk2, List.length_take]; omega)
      · rw [hk7 (by omega), a4, if_neg h0]
    exact ⟨by unfold opF; rw [hd, hf rfl], by unfold opL; rw [hd]⟩

theorem eql_disk (a : ByteArray) (b : Int) (w : World) : (binOp .eql 39 (.agg #[.string a, .int .i64 b]) (.agg #[.string a, .int .i64 b])).run Try.prog w = .ok (.bool true) w := by
  rw [run_eql_struct, run_equalIn_agg w 9999 39 _ _ (by kernel_rfl) (by kernel_rfl)]
  rw [show (Try.prog.fieldsOf 39) = _ by unfold Program.fieldsOf; rw [Try.underlying39]]
  simp [go_sem]
theorem neql_disk (a : ByteArray) (b : Int) (w : World) : (binOp .neq 39 (.agg #[.string a, .int .i64 b]) (.agg #[.string a, .int .i64 b])).run Try.prog w = .ok (.bool false) w := by
  rw [run_neq_struct, run_equalIn_agg w 9999 39 _ _ (by kernel_rfl) (by kernel_rfl)]
  rw [show (Try.prog.fieldsOf 39) = _ by unfold Program.fieldsOf; rw [Try.underlying39]]
  simp [go_sem]

end Go.Proofs.Ytnpaejknoipicad

namespace Go.Proofs.Ytnpaejknoipicad
open Go.RowKit

theorem gchk_first {l : List Fr} (h : gchk l = 0) : 0 < l.length ∧ l.length ≤ 6 ∧ (frAt l 0).key = true := by
  obtain ⟨h1, h2, h3⟩ := gchk_zero.1 h
  refine ⟨h1, h2, ?_⟩
  have := (h3 0 h1).2
  simpa [inPl] using this
theorem FrsIn.first {S : Nat → Prop} {w : World} {ao : Option Addr} {n c : Nat} {l : List Fr} (h : FrsIn S w (.slice ao n c) l) (h0 : 0 < l.length) : ∃ b off, ao = some ⟨b, off, none⟩ ∧ w.cell? ⟨b, off, none⟩ = some (.int .i64 (frAt l 0).time) ∧ w.cell? ⟨b, off + 1, none⟩ = some (.bool (frAt l 0).key) := by
  obtain ⟨ao', c', e, _, _, hc⟩ := h
  injection e with e1 _ _
  subst e1
  obtain ⟨b, off, e, _, _, pv, c0, c1, _⟩ := hc 0 h0
  exact ⟨b, off, e, by simpa using c0, by simpa using c1⟩
theorem grAt_mem {L : List (List Fr)} {k : Nat} (h : k < L.length) : grAt L k ∈ L := by
  unfold grAt; rw [List.getElem?_eq_getElem h]; exact List.getElem_mem _

end Go.Proofs.Ytnpaejknoipicad

namespace Go.Proofs.Ytnpaejknoipicad
open Go.RowKit

def sameSt (f f' : Int) (L L' : List (List Fr)) (O O' : List Fr) : Bool := decide (f = f') && (sameGs L L' && sameFs O O')
theorem sameSt_self (f : Int) (L : List (List Fr)) (O : List Fr) : sameSt f f L L O O = true := by simp [sameSt, sameGs, sameFs]

set_option maxHeartbeats 2000000 in
set_option maxRecDepth 100000 in
theorem sameStore_any (f f' : Int) (gv ov gv' ov' : Value) (L L' : List (List Fr)) (O O' : List Fr) (w : World) (hg : GrsIn (fun _ => True) w gv L) (ho : FrsIn (fun _ => True) w ov O) (hg' : GrsIn (fun _ => True) w gv' L') (ho' : FrsIn (fun _ => True) w ov' O') :
    Calls Try.prog 28 #[.agg #[.int .i64 f, gv, ov], .agg #[.int .i64 f', gv', ov']] w fun e w' => e = .returned (.bool (sameSt f f' L L' O O')) ∧ Below w.heap.size w w' := by
  obtain ⟨ga, gc, eg, _, _⟩ := hg.len
  obtain ⟨oa, oc, eo, _, hol⟩ := ho.len
  obtain ⟨ga', gc', eg', _, _⟩ := hg'.len
  obtain ⟨oa', oc', eo', _, _⟩ := ho'.len
  obtain ⟨ln, hln⟩ : ∃ n, n = L.length := ⟨_, rfl⟩
  obtain ⟨lo, hlo⟩ : ∃ n, n = O.length := ⟨_, rfl⟩
  obtain ⟨ln', hln'⟩ : ∃ n, n = L'.length := ⟨_, rfl⟩
  obtain ⟨lo', hlo'⟩ : ∃ n, n = O'.length := ⟨_, rfl⟩
  rw [← hln] at eg
  rw [← hlo] at eo
  rw [← hln'] at eg'
  rw [← hlo'] at eo'
  obtain ⟨X, hX⟩ : ∃ X, X = sameGs L L' := ⟨_, rfl⟩
  obtain ⟨Y, hY⟩ : ∃ Y, Y = sameFs O O' := ⟨_, rfl⟩
  obtain ⟨R, hR⟩ : ∃ R, R = sameSt f f' L L' O O' := ⟨_, rfl⟩
  have HR : Hid (R = (decide (f = f') && (X && Y))) := by show _ = _; rw [hR, hX, hY]; rfl
  have HX : Hid (∀ U, Below w.heap.size w U → Calls Try.prog 56 #[gv, gv'] U fun e w' => e = .returned (.bool X) ∧ Below U.heap.size U w') := fun U hU => by
    rw [hX]; exact sameGroups_any _ _ _ _ _ _ U (hg.below hU) (hg'.below hU)
  have HY : Hid (∀ U, Below w.heap.size w U → Calls Try.prog 15 #[ov, ov'] U fun e w' => e = .returned (.bool Y) ∧ Below U.heap.size U w') := fun U hU => by
    rw [hY]; exact sameFrames_any _ _ _ _ U (ho.below hU).frs (ho'.below hU).frs hol
  rw [← hR]
  clear hg ho hg' ho' hX hY hR hln hlo hln' hlo' hol
  subst eg eo eg' eo'
  go_enter Try.func28, Try.ntmps28
  obtain ⟨W0, hW0⟩ : ∃ W0, W0 = (w.alloc (.cells #[.int .i64 f, .slice ga ln gc, .slice oa lo oc] 27)).alloc (.cells #[.int .i64 f', .slice ga' ln' gc', .slice oa' lo' oc'] 27) := ⟨_, rfl⟩
  have HS0 : Hid (Stay W0 (fun U => Blk U w.heap.size #[.int .i64 f, .slice ga ln gc, .slice oa lo oc] 27 ∧ Blk U (w.heap.size + 1) #[.int .i64 f', .slice ga' ln' gc', .slice oa' lo' oc'] 27 ∧ Below w.heap.size w U)) := by
    have k2 := Blk.newE hW0
    simp only [World.size_alloc] at k2
    have hb : Below w.heap.size w W0 := by rw [hW0]; exact ((Below.refl _ _).alloc (Nat.le_refl _) _).alloc (by simp) _
    exact (show Blk W0 w.heap.size _ _ by rw [hW0]; exact (Blk.new _ _ _).alloc _).stay.and (k2.stay.and (below_stay hb hb.size))
  by_cases hf : f = f'
  · subst hf
    have HR2 : Hid (R = (X && Y)) := by show _ = _; rw [HR.out]; simp
    go_wp2_with fail
    rw [← hW0]
    clear hW0
    refine (HX.out _ HS0.out.now.2.2).mono ?_
    rintro e w1 ⟨rfl, b1⟩
    have HS1 := Stay.go HS0 b1
    obtain ⟨k0, k1, k2⟩ := HS1.out.now.1.three
    obtain ⟨j0, j1, j2⟩ := HS1.out.now.2.1.three
    clear b1 HS0
    cases X
    · have hr : R = false := HR2.out
      subst hr
      go_wp2_with fail
      go_ret
      exact ⟨rfl, HS1.out.now.2.2⟩
    · have hr : R = Y := by rw [HR2.out]; rfl
      subst hr
      go_wp2_with fail
      refine (HY.out _ HS1.out.now.2.2).mono ?_
      rintro e w2 ⟨rfl, b2⟩
      have HS2 := Stay.go HS1 b2
      clear b2 HS1
      go_wp2_with fail
      go_ret
      exact ⟨rfl, HS2.out.now.2.2⟩
  · have hr : R = false := by rw [HR.out]; simp [hf]
    subst hr
    have hb := HS0.out.now.2.2
    subst hW0
    go_wp2_with fail
    go_ret
    exact ⟨rfl, hb⟩

set_option maxHeartbeats 2000000 in
set_option maxRecDepth 100000 in
theorem storeIs_any (E f f' : Int) (gv ov gv' ov' : Value) (L L' : List (List Fr)) (O O' : List Fr) (w : World) (hg : GrsIn (fun _ => True) w gv L) (ho : FrsIn (fun _ => True) w ov O) (hg' : GrsIn (fun _ => True) w gv' L') (ho' : FrsIn (fun _ => True) w ov' O')
    (h0 : E = 0 → f = f' ∧ L = L' ∧ O = O') (h1 : ¬ E = 0 → f = 0 ∧ L = [] ∧ O = []) :
    Calls Try.prog 27 #[.agg #[.int .i64 f, gv, ov], .int .i64 E, .int .i64 E, .agg #[.int .i64 f', gv', ov']] w fun e w' => e = .returned (.bool true) ∧ Below w.heap.size w w' := by
  obtain ⟨ga, gc, eg, _, _⟩ := hg.len
  obtain ⟨oa, oc, eo, _, _⟩ := ho.len
  obtain ⟨ga', gc', eg', _, _⟩ := hg'.len
  obtain ⟨oa', oc', eo', _, _⟩ := ho'.len
  obtain ⟨ln, hln⟩ : ∃ n, n = L.length := ⟨_, rfl⟩
  obtain ⟨lo, hlo⟩ : ∃ n, n = O.length := ⟨_, rfl⟩
  obtain ⟨ln', hln'⟩ : ∃ n, n = L'.length := ⟨_, rfl⟩
  obtain ⟨lo', hlo'⟩ : ∃ n, n = O'.length := ⟨_, rfl⟩
  rw [← hln] at eg
  rw [← hlo] at eo
  rw [← hln'] at eg'
  rw [← hlo'] at eo'
  by_cases hE : E = 0
  · obtain ⟨e1, e2, e3⟩ := h0 hE
    have HS : Hid (∀ U, Below w.heap.size w U → Calls Try.prog 28 #[.agg #[.int .i64 f, gv, ov], .agg #[.int .i64 f', gv', ov']] U fun e w' => e = .returned (.bool true) ∧ Below U.heap.size U w') := fun U hU => by
      have := sameStore_any f f' gv ov gv' ov' L L' O O' U (hg.below hU) (ho.below hU) (hg'.below hU) (ho'.below hU)
      rw [e1, e2, e3, sameSt_self] at this
      rw [e1]
      exact this
    have HB : Hid (Below w.heap.size w ((w.alloc (.cells #[.int .i64 f, gv, ov] 27)).alloc (.cells #[.int .i64 f', gv', ov'] 27))) := ((Below.refl _ _).alloc (Nat.le_refl _) _).alloc (by simp) _
    clear hg ho hg' ho' h0 h1 e1 e2 e3 hln hlo hln' hlo'
    subst eg eo eg' eo' hE
    go_enter Try.func27, Try.ntmps27
    go_wp2_with fail
    refine (HS.out _ HB.out).mono ?_
    rintro e w1 ⟨rfl, b1⟩
    have B1 : Hid (Below w.heap.size w w1) := HB.out.trans (b1.mono HB.out.size)
    clear b1
    go_wp2_with fail
    go_ret
    exact ⟨rfl, B1.out⟩
  · obtain ⟨e1, e2, e3⟩ := h1 hE
    have HS : Hid (∀ U, Below w.heap.size w U → Calls Try.prog 28 #[.agg #[.int .i64 f, gv, ov], .agg #[.int .i64 0, .slice none 0 0, .slice none 0 0]] U fun e w' => e = .returned (.bool true) ∧ Below U.heap.size U w') := fun U hU => by
      have := sameStore_any f 0 gv ov (.slice none 0 0) (.slice none 0 0) L [] O [] U (hg.below hU) (ho.below hU) (GrsIn.nil _ _) (FrsIn.nil _ _)
      rw [e1, e2, e3, sameSt_self] at this
      rw [e1]
      exact this
    have HB : Hid (Below w.heap.size w ((w.alloc (.cells #[.int .i64 f, gv, ov] 27)).alloc (.cells #[.int .i64 0, .slice none 0 0, .slice none 0 0] 27))) := ((Below.refl _ _).alloc (Nat.le_refl _) _).alloc (by simp) _
    clear hg ho hg' ho' h0 h1 e1 e2 e3 hln hlo hln' hlo'
    subst eg eo eg' eo'
    go_enter Try.func27, Try.ntmps27
    go_wp2_with fail
    refine (HS.out _ HB.out).mono ?_
    rintro e w1 ⟨rfl, b1⟩
    have B1 : Hid (Below w.heap.size w w1) := HB.out.trans (b1.mono HB.out.size)
    clear b1
    go_wp2_with fail
    go_ret
    exact ⟨rfl, B1.out⟩

end Go.Proofs.Ytnpaejknoipicad

namespace Go.Proofs.Ytnpaejknoipicad
open Go.RowKit

set_option maxHeartbeats 8000000 in
set_option maxRecDepth 100000 in
theorem diskCrash_law (l : List UInt8) (s n keep more : Int) (g : List Fr) (gv : Value) (w : World) (hg : FrsIn (fun _ => True) w gv g) :
    Calls Try.prog 6 #[.agg #[.string (ba l), .int .i64 s], .int .i64 n, .agg #[gv], .int .i64 keep, .int .i64 more] w fun e w' => e = .returned (.bool true) ∧ Below w.heap.size w w' := by
  have anyG : ∀ {S : Nat → Prop} {W : World} {v : Value} {l : List (List Fr)}, GrsIn S W v l → GrsIn (fun _ => True) W v l := fun h => h.mono (fun _ _ _ => trivial)
  have HDB : Hid (∀ W, Calls Try.prog 12 #[] W fun e w' => e = .returned (.bool true) ∧ Below W.heap.size W w') := fun W => diskBegun_any W
  obtain ⟨xa, xc, ex, _, _⟩ := hg.len
  obtain ⟨xm, hxm⟩ : ∃ m, m = g.length := ⟨_, rfl⟩
  rw [← hxm] at ex
  subst ex
  obtain ⟨V0, hV0⟩ : ∃ V, V = (w.alloc (.cells #[.string (ba l), .int .i64 s] 39)).alloc (.cells #[.slice xa xm xc] 25) := ⟨_, rfl⟩
  have HBel : Hid (Below w.heap.size w V0) := by show Below _ _ _; rw [hV0]; exact ((Below.refl _ w).alloc (Nat.le_refl _) _).alloc (by simp) _
  have HFg : Hid (FrsIn (fun _ => True) V0 (.slice xa xm xc) g) := by show FrsIn _ _ _ _; rw [hV0]; exact (hg.alloc _).alloc _
  have HKg : Hid (Blk V0 (w.heap.size + 1) #[.slice xa xm xc] 25) := by
    have := Blk.new (w.alloc (.cells #[.string (ba l), .int .i64 s] 39)) #[.slice xa xm xc] 25
    rw [World.size_alloc] at this
    show Blk _ _ _ _; rw [hV0]; exact this
  have HK0 : Hid (Blk V0 w.heap.size #[.string (ba l), .int .i64 s] 39) := by show Blk _ _ _ _; rw [hV0]; exact (Blk.new w _ _).alloc _
  have HEq0 : Hid (V0 = (w.alloc (.cells #[.string (ba l), .int .i64 s] 39)).alloc (.cells #[.slice xa xm xc] 25)) := hV0
  by_cases hE : diskE l s = 0
  · obtain ⟨o1, o2, o3, o4, o5⟩ := open_again hE
    obtain ⟨LW, hLW⟩ : ∃ x, x = l.take (dEnd l) := ⟨_, rfl⟩
    obtain ⟨F, hF⟩ : ∃ x, x = opF l := ⟨_, rfl⟩
    obtain ⟨L, hL⟩ : ∃ x, x = opL l := ⟨_, rfl⟩
    obtain ⟨N, hN⟩ : ∃ x : Int, x = (dEnd l : Int) := ⟨_, rfl⟩
    rw [← hLW] at o1 o2 o3 o4 o5
    rw [← hF] at o2
    rw [← hL] at o3
    rw [← hN] at o1
    obtain ⟨m, hm⟩ : ∃ x, x = L.length := ⟨_, rfl⟩
    have HO1 : Hid (∀ W, Calls Try.prog 14 #[.agg #[.string (ba l), .int .i64 s]] W fun e w' => ∃ ga gc, e = .returned (.tuple #[.agg #[.int .i64 F, .slice ga m gc, .slice none 0 0], .agg #[.string (ba LW), .int .i64 N], .int .i64 0]) ∧ Below W.heap.size W w' ∧ GrsIn (fun _ => True) w' (.slice ga m gc) L) := fun W => by
      refine (diskOpen_any l s W).mono ?_
      rintro e w' ⟨f, gv, X, N', rfl, hB, h1, _⟩
      obtain ⟨rfl, hG, rfl, rfl⟩ := h1 hE
      obtain ⟨ga, gc, eg, _, _⟩ := hG.len
      have hG2 := anyG hG
      rw [eg, ← hL, ← hm] at hG2
      rw [hE, eg, ← hF, ← hL, ← hm, ← hLW, ← hN]
      exact ⟨ga, gc, rfl, hB, hG2⟩
    obtain ⟨E2, hE2⟩ : ∃ x, x = appE LW N n g := ⟨_, rfl⟩
    obtain ⟨A, hA⟩ : ∃ x, x = LW ++ recB n g := ⟨_, rfl⟩
    have HAP : Hid (∀ W, FrsIn (fun _ => True) W (.slice xa xm xc) g → Calls Try.prog 17 #[.agg #[.string (ba LW), .int .i64 N], .int .i64 n, .agg #[.slice xa xm xc]] W fun e w' => ∃ (X : ByteArray) (M : Int), e = .returned (.tuple #[.agg #[.string X, .int .i64 M], .int .i64 E2]) ∧ Below W.heap.size W w' ∧ (E2 = 0 → X = ba A ∧ M = N) ∧ (¬ E2 = 0 → X = ⟨#[]⟩)) := fun W h => by
      refine (diskAppend_any _ LW N n g _ W h).mono ?_
      rintro e w' ⟨X, M, rfl, hB, h1, h2⟩
      rw [← hE2, ← hA] at h1
      rw [← hE2] at h2
      rw [← hE2]
      exact ⟨X, M, rfl, hB, h1, fun h => (h2 h).1⟩
    -- what is known where keep and more are right
    have HALL : Hid (0 ≤ keep → 0 ≤ more → E2 = 0 → ∃ (C D : List UInt8) (M K : Int) (FC FA : Int) (LC LA : List (List Fr)) (mc ma : Nat),
        (∀ W, Calls Try.prog 19 #[.agg #[.string (ba A), .int .i64 N], .int .i64 keep] W fun e w' => e = .returned (.tuple #[.agg #[.string (ba C), .int .i64 N], .int .i64 0]) ∧ Below W.heap.size W w') ∧
        (∀ W, Calls Try.prog 14 #[.agg #[.string (ba C), .int .i64 N]] W fun e w' => ∃ ga gc, e = .returned (.tuple #[.agg #[.int .i64 FC, .slice ga mc gc, .slice none 0 0], .agg #[.string (ba D), .int .i64 M], .int .i64 0]) ∧ Below W.heap.size W w' ∧ GrsIn (fun _ => True) w' (.slice ga mc gc) LC) ∧
        (∀ W, Calls Try.prog 19 #[.agg #[.string (ba D), .int .i64 M], .int .i64 more] W fun e w' => e = .returned (.tuple #[.agg #[.string (ba D), .int .i64 M], .int .i64 0]) ∧ Below W.heap.size W w') ∧
        (∀ W, Calls Try.prog 13 #[.agg #[.string (ba C), .int .i64 N]] W fun e w' => e = .returned (.int .i64 0) ∧ Below W.heap.size W w') ∧
        (∀ W, Calls Try.prog 14 #[.agg #[.string (ba A), .int .i64 N]] W fun e w' => ∃ ga gc X Y, e = .returned (.tuple #[.agg #[.int .i64 FA, .slice ga ma gc, .slice none 0 0], .agg #[.string X, .int .i64 Y], .int .i64 0]) ∧ Below W.heap.size W w' ∧ GrsIn (fun _ => True) w' (.slice ga ma gc) LA) ∧
        (∀ W, Calls Try.prog 18 #[.agg #[.string (ba A), .int .i64 N]] W fun e w' => e = .returned (.tuple #[.agg #[.string (ba A), .int .i64 K], .int .i64 0]) ∧ Below W.heap.size W w') ∧
        (∀ W, Calls Try.prog 19 #[.agg #[.string (ba A), .int .i64 K], .int .i64 keep] W fun e w' => e = .returned (.tuple #[.agg #[.string (ba A), .int .i64 K], .int .i64 0]) ∧ Below W.heap.size W w') ∧
        (FC = F ∧ LC = L ∨ FC = FA ∧ LC = LA)) := fun hk hmo h2 => by
      rw [hE2] at h2
      have hNl : N = (LW.length : Int) := by rw [hN, o5]
      obtain ⟨c1, c2, c3⟩ := crash_either h2 hNl hk
      obtain ⟨a1, a2, a3, _, _, _⟩ := append_last h2
      rw [← hA] at c1 c2 c3 a1 a2 a3
      obtain ⟨C, hC⟩ : ∃ x, x = A.take (crN A N keep) := ⟨_, rfl⟩
      rw [← hC] at c2 c3
      obtain ⟨d1, d2, d3, d4, d5⟩ := open_again c2
      obtain ⟨D, hD⟩ : ∃ x, x = C.take (dEnd C) := ⟨_, rfl⟩
      rw [← hD] at d1 d2 d3 d4 d5
      have stays : ∀ (X : List UInt8) (k : Int), diskE X X.length = 0 → 0 ≤ k → crE X X.length k = 0 ∧ X.take (crN X X.length k) = X := fun X k hX hk => by
        refine ⟨by unfold crE; rw [hX, if_pos rfl, if_neg (by omega)], ?_⟩
        rw [show crN X X.length k = X.length by unfold crN; omega, List.take_length]
      have hcr : ∀ (X Y : List UInt8) (s k : Int), crE X s k = 0 → Y = X.take (crN X s k) → ∀ W, Calls Try.prog 19 #[.agg #[.string (ba X), .int .i64 s], .int .i64 k] W fun e w' => e = .returned (.tuple #[.agg #[.string (ba Y), .int .i64 s], .int .i64 0]) ∧ Below W.heap.size W w' := fun X Y s k h0 hY W => by
        refine (diskCrash_any X s k W).mono ?_
        rintro e w' ⟨Z, M, rfl, hB, h1, _⟩
        obtain ⟨rfl, rfl⟩ := h1 h0
        rw [h0, hY]; exact ⟨rfl, hB⟩
      have hop : ∀ (X : List UInt8) (s : Int), diskE X s = 0 → ∀ W, Calls Try.prog 14 #[.agg #[.string (ba X), .int .i64 s]] W fun e w' => ∃ ga gc, e = .returned (.tuple #[.agg #[.int .i64 (opF X), .slice ga (opL X).length gc, .slice none 0 0], .agg #[.string (ba (X.take (dEnd X))), .int .i64 (dEnd X : Int)], .int .i64 0]) ∧ Below W.heap.size W w' ∧ GrsIn (fun _ => True) w' (.slice ga (opL X).length gc) (opL X) := fun X s h0 W => by
        refine (diskOpen_any X s W).mono ?_
        rintro e w' ⟨f, gv, Z, N', rfl, hB, h1, _⟩
        obtain ⟨rfl, hG, rfl, rfl⟩ := h1 h0
        obtain ⟨ga, gc, eg, _, _⟩ := hG.len
        have hG2 := anyG hG
        rw [eg] at hG2
        rw [h0, eg]
        exact ⟨ga, gc, rfl, hB, hG2⟩
      have hDl : (dEnd C : Int) = (D.length : Int) := by rw [d5]
      have s1 := stays D more (by rw [← hDl]; exact d1) hmo
      have s2 := stays A keep a2 hk
      refine ⟨C, D, (dEnd C : Int), (A.length : Int), opF C, opF A, opL C, opL A, (opL C).length, (opL A).length, hcr A C N keep c1 hC, fun W => ?_, ?_, fun W => ?_, fun W => ?_, fun W => ?_, hcr A A _ keep s2.1 s2.2.symm, ?_⟩
      · have := hop C N c2 W
        rw [← hD] at this; exact this
      · rw [hDl]; exact hcr D D _ more s1.1 s1.2.symm
      · have := diskCheck_any C N W
        rw [c2] at this; exact this
      · exact (hop A N a1 W).mono (fun _ _ ⟨ga, gc, h1, h2, h3⟩ => ⟨ga, gc, _, _, h1, h2, h3⟩)
      · have h0 : syE A N = 0 := by unfold syE; rw [a1, if_pos rfl, a3, if_neg (Nat.lt_irrefl _)]
        refine (diskSync_any A N W).mono ?_
        rintro e w' ⟨X, M, rfl, hB, h1, _⟩
        obtain ⟨rfl, rfl⟩ := h1 h0
        rw [h0]; exact ⟨rfl, hB⟩
      · rw [o2, o3] at c3; exact c3
    have HST : Hid (∀ W F F' L L' m m' ga gc ga' gc', GrsIn (fun _ => True) W (.slice ga m gc) L → GrsIn (fun _ => True) W (.slice ga' m' gc') L' → Calls Try.prog 28 #[.agg #[.int .i64 F, .slice ga m gc, .slice none 0 0], .agg #[.int .i64 F', .slice ga' m' gc', .slice none 0 0]] W fun e w' => e = .returned (.bool (sameSt F F' L L' [] [])) ∧ Below W.heap.size W w') := fun W F F' L L' m m' ga gc ga' gc' h h' =>
      sameStore_any F F' _ (.slice none 0 0) _ (.slice none 0 0) L L' [] [] W h (FrsIn.nil _ _) h' (FrsIn.nil _ _)
    clear o1 o2 o3 o4 o5 hLW hF hL hN hm hE2 hA hxm anyG hV0 hg hE
    go_enter Try.func6, Try.ntmps6
    go_wp2_with fail
    rw [← HEq0.out]
    clear HEq0
    refine (HDB.out _).mono ?_
    rintro e w1 ⟨rfl, b1⟩
    obtain ⟨V1, hV1⟩ : ∃ V, V = w1 := ⟨_, rfl⟩
    have JFg : FrsIn (fun _ => True) V1 (.slice xa xm xc) (g) := by rw [hV1]; exact HFg.out.below b1
    have JKg : Blk V1 (w.heap.size + 1) #[.slice xa xm xc] 25 := by rw [hV1]; exact HKg.out.below b1 HKg.out.lt
    have JK0 : Blk V1 (w.heap.size) #[.string (ba l), .int .i64 s] 39 := by rw [hV1]; exact HK0.out.below b1 HK0.out.lt
    have JBel : Below w.heap.size w V1 := by
      have h := HBel.out.trans (b1.mono HBel.out.size)
      rw [hV1]; exact h
    have HEq1 : Hid (V1 = w1) := by show _ = _; rw [hV1]
    clear HFg HKg HK0 HBel HDB b1 hV1
    have HFg : Hid (FrsIn (fun _ => True) V1 (.slice xa xm xc) (g)) := JFg
    have HKg : Hid (Blk V1 (w.heap.size + 1) #[.slice xa xm xc] 25) := JKg
    have HK0 : Hid (Blk V1 (w.heap.size) #[.string (ba l), .int .i64 s] 39) := JK0
    have HBel : Hid (Below w.heap.size w V1) := JBel
    clear JFg JKg JK0 JBel
    have x0 := HK0.out.cell (j := 0) (u := .string (ba l)) rfl
    have x1 := HK0.out.cell (j := 1) (u := .int .i64 s) rfl
    rw [HEq1.out] at x0 x1
    go_wp2_with fail
    try rw [← HEq1.out]
    clear HEq1 x0 x1
    refine (HO1.out _).mono ?_
    rintro e w2 ⟨g2, c2, rfl, b2, h2⟩
    obtain ⟨U2_0, hU2_0⟩ : ∃ V, V = w2.alloc (.cells #[.int .i64 F, .slice g2 m c2, .slice none 0 0] 27) := ⟨_, rfl⟩
    obtain ⟨V2, hV2⟩ : ∃ V, V = U2_0.alloc (.cells #[.string (ba LW), .int .i64 N] 39) := ⟨_, rfl⟩
    have JFg : FrsIn (fun _ => True) V2 (.slice xa xm xc) (g) := by rw [hV2, hU2_0]; exact ((HFg.out.below b2).alloc _).alloc _
    have JKg : Blk V2 (w.heap.size + 1) #[.slice xa xm xc] 25 := by rw [hV2, hU2_0]; exact ((HKg.out.below b2 HKg.out.lt).alloc _).alloc _
    have JG2 : GrsIn (fun _ => True) V2 (.slice g2 m c2) (L) := by rw [hV2, hU2_0]; exact ((h2).alloc _).alloc _
    have Jt11 : Blk V2 (w2.heap.size) #[.int .i64 F, .slice g2 m c2, .slice none 0 0] 27 := by rw [hV2]; exact (Blk.newE hU2_0 : Blk U2_0 (w2.heap.size) #[.int .i64 F, .slice g2 m c2, .slice none 0 0] 27).alloc _
    have Jt12 : Blk V2 (w2.heap.size + 1) #[.string (ba LW), .int .i64 N] 39 := (show U2_0.heap.size = w2.heap.size + 1 from by rw [hU2_0]; simp) ▸ Blk.newE hV2
    have JBel : Below w.heap.size w V2 := by
      have h := HBel.out.trans (b2.mono HBel.out.size)
      rw [hV2, hU2_0]; exact ((h).alloc (by have := h.size; first | omega | (simp; omega)) _).alloc (by have := h.size; first | omega | (simp; omega)) _
    have HEq2 : Hid (V2 = ((w2.alloc (.cells #[.int .i64 F, .slice g2 m c2, .slice none 0 0] 27)).alloc (.cells #[.string (ba LW), .int .i64 N] 39))) := by show _ = _; rw [hV2, hU2_0]
    clear HFg HKg HBel HO1 b2 hU2_0 hV2
    have HFg : Hid (FrsIn (fun _ => True) V2 (.slice xa xm xc) (g)) := JFg
    have HKg : Hid (Blk V2 (w.heap.size + 1) #[.slice xa xm xc] 25) := JKg
    have HG2 : Hid (GrsIn (fun _ => True) V2 (.slice g2 m c2) (L)) := JG2
    have Ht11 : Hid (Blk V2 (w2.heap.size) #[.int .i64 F, .slice g2 m c2, .slice none 0 0] 27) := Jt11
    have Ht12 : Hid (Blk V2 (w2.heap.size + 1) #[.string (ba LW), .int .i64 N] 39) := Jt12
    have HBel : Hid (Below w.heap.size w V2) := JBel
    clear JFg JKg JG2 Jt11 Jt12 JBel
    clear h2
    by_cases hkeep : keep < 0
    · go_wp2_with fail
      have hb := HBel.out
      rw [HEq2.out] at hb
      go_ret
      exact ⟨rfl, hb⟩
    by_cases hmore : more < 0
    · go_wp2_with fail
      have hb := HBel.out
      rw [HEq2.out] at hb
      go_ret
      exact ⟨rfl, hb⟩
    have x0 := Ht12.out.cell (j := 0) (u := .string (ba LW)) rfl
    have x1 := Ht12.out.cell (j := 1) (u := .int .i64 N) rfl
    have x2 := HKg.out.cell (j := 0) (u := .slice xa xm xc) rfl
    rw [HEq2.out] at x0 x1 x2
    go_wp2_with fail
    try rw [← HEq2.out]
    clear HEq2 x0 x1 x2
    refine (HAP.out _ HFg.out).mono ?_
    rintro e w3 ⟨X3, M3, rfl, b3, h3, h3n⟩
    obtain ⟨V3, hV3⟩ : ∃ V, V = w3.alloc (.cells #[.string X3, .int .i64 M3] 39) := ⟨_, rfl⟩
    have JG2 : GrsIn (fun _ => True) V3 (.slice g2 m c2) (L) := by rw [hV3]; exact (HG2.out.below b3).alloc _
    have Jt11 : Blk V3 (w2.heap.size) #[.int .i64 F, .slice g2 m c2, .slice none 0 0] 27 := by rw [hV3]; exact (Ht11.out.below b3 Ht11.out.lt).alloc _
    have Jt14 : Blk V3 (w3.heap.size) #[.string X3, .int .i64 M3] 39 := Blk.newE hV3
    have JBel : Below w.heap.size w V3 := by
      have h := HBel.out.trans (b3.mono HBel.out.size)
      rw [hV3]; exact h.alloc h.size _
    have HEq3 : Hid (V3 = (w3.alloc (.cells #[.string X3, .int .i64 M3] 39))) := by show _ = _; rw [hV3]
    clear HG2 Ht11 HBel HAP b3 hV3
    have HG2 : Hid (GrsIn (fun _ => True) V3 (.slice g2 m c2) (L)) := JG2
    have Ht11 : Hid (Blk V3 (w2.heap.size) #[.int .i64 F, .slice g2 m c2, .slice none 0 0] 27) := Jt11
    have Ht14 : Hid (Blk V3 (w3.heap.size) #[.string X3, .int .i64 M3] 39) := Jt14
    have HBel : Hid (Below w.heap.size w V3) := JBel
    clear JG2 Jt11 Jt14 JBel
    by_cases hE3 : E2 = 0
    · obtain ⟨C, D, M, K, FC, FA, LC, LA, mc, ma, hc1, hc2, hc3, hc4, hc5, hc6, hc7, hc8⟩ := HALL.out (by omega) (by omega) hE3
      obtain ⟨e1, e2⟩ := h3 hE3
      have e3 := e2.symm
      subst e1 e3 hE3
      have HC1 := @id (Hid _) hc1
      have HC2 := @id (Hid _) hc2
      have HC3 := @id (Hid _) hc3
      have HC4 := @id (Hid _) hc4
      have HC5 := @id (Hid _) hc5
      have HC6 := @id (Hid _) hc6
      have HC7 := @id (Hid _) hc7
      have HC8 : Hid (FC = F ∧ LC = L ∨ FC = FA ∧ LC = LA) := hc8
      have n1 := neql_disk (ba D) M
      have n2 := eql_disk (ba A) K
      clear hc1 hc2 hc3 hc4 hc5 hc6 hc7 hc8 HALL h3 h3n hkeep hmore
      have x0 := Ht14.out.cell (j := 0) (u := .string (ba A)) rfl
      have x1 := Ht14.out.cell (j := 1) (u := .int .i64 N) rfl
      rw [HEq3.out] at x0 x1
      go_wp2_with fail
      try rw [← HEq3.out]
      clear HEq3 x0 x1
      refine (HC1.out _).mono ?_
      rintro e w4 ⟨rfl, b4⟩
      obtain ⟨V4, hV4⟩ : ∃ V, V = w4.alloc (.cells #[.string (ba C), .int .i64 N] 39) := ⟨_, rfl⟩
      have JG2 : GrsIn (fun _ => True) V4 (.slice g2 m c2) (L) := by rw [hV4]; exact (HG2.out.below b4).alloc _
      have Jt11 : Blk V4 (w2.heap.size) #[.int .i64 F, .slice g2 m c2, .slice none 0 0] 27 := by rw [hV4]; exact (Ht11.out.below b4 Ht11.out.lt).alloc _
      have Jt14 : Blk V4 (w3.heap.size) #[.string (ba A), .int .i64 N] 39 := by rw [hV4]; exact (Ht14.out.below b4 Ht14.out.lt).alloc _
      have Jt15 : Blk V4 (w4.heap.size) #[.string (ba C), .int .i64 N] 39 := Blk.newE hV4
      have JBel : Below w.heap.size w V4 := by
        have h := HBel.out.trans (b4.mono HBel.out.size)
        rw [hV4]; exact h.alloc h.size _
      have HEq4 : Hid (V4 = (w4.alloc (.cells #[.string (ba C), .int .i64 N] 39))) := by show _ = _; rw [hV4]
      clear HG2 Ht11 Ht14 HBel HC1 b4 hV4
      have HG2 : Hid (GrsIn (fun _ => True) V4 (.slice g2 m c2) (L)) := JG2
      have Ht11 : Hid (Blk V4 (w2.heap.size) #[.int .i64 F, .slice g2 m c2, .slice none 0 0] 27) := Jt11
      have Ht14 : Hid (Blk V4 (w3.heap.size) #[.string (ba A), .int .i64 N] 39) := Jt14
      have Ht15 : Hid (Blk V4 (w4.heap.size) #[.string (ba C), .int .i64 N] 39) := Jt15
      have HBel : Hid (Below w.heap.size w V4) := JBel
      clear JG2 Jt11 Jt14 Jt15 JBel
      have x0 := Ht15.out.cell (j := 0) (u := .string (ba C)) rfl
      have x1 := Ht15.out.cell (j := 1) (u := .int .i64 N) rfl
      rw [HEq4.out] at x0 x1
      go_wp2_with fail
      try rw [← HEq4.out]
      clear HEq4 x0 x1
      refine (HC2.out _).mono ?_
      rintro e w5 ⟨g5, c5, rfl, b5, h5⟩
      obtain ⟨U5_0, hU5_0⟩ : ∃ V, V = w5.alloc (.cells #[.int .i64 FC, .slice g5 mc c5, .slice none 0 0] 27) := ⟨_, rfl⟩
      obtain ⟨V5, hV5⟩ : ∃ V, V = U5_0.alloc (.cells #[.string (ba D), .int .i64 M] 39) := ⟨_, rfl⟩
      have JG2 : GrsIn (fun _ => True) V5 (.slice g2 m c2) (L) := by rw [hV5, hU5_0]; exact ((HG2.out.below b5).alloc _).alloc _
      have Jt11 : Blk V5 (w2.heap.size) #[.int .i64 F, .slice g2 m c2, .slice none 0 0] 27 := by rw [hV5, hU5_0]; exact ((Ht11.out.below b5 Ht11.out.lt).alloc _).alloc _
      have Jt14 : Blk V5 (w3.heap.size) #[.string (ba A), .int .i64 N] 39 := by rw [hV5, hU5_0]; exact ((Ht14.out.below b5 Ht14.out.lt).alloc _).alloc _
      have Jt15 : Blk V5 (w4.heap.size) #[.string (ba C), .int .i64 N] 39 := by rw [hV5, hU5_0]; exact ((Ht15.out.below b5 Ht15.out.lt).alloc _).alloc _
      have JG5 : GrsIn (fun _ => True) V5 (.slice g5 mc c5) (LC) := by rw [hV5, hU5_0]; exact ((h5).alloc _).alloc _
      have Jt17 : Blk V5 (w5.heap.size) #[.int .i64 FC, .slice g5 mc c5, .slice none 0 0] 27 := by rw [hV5]; exact (Blk.newE hU5_0 : Blk U5_0 (w5.heap.size) #[.int .i64 FC, .slice g5 mc c5, .slice none 0 0] 27).alloc _
      have Jt18 : Blk V5 (w5.heap.size + 1) #[.string (ba D), .int .i64 M] 39 := (show U5_0.heap.size = w5.heap.size + 1 from by rw [hU5_0]; simp) ▸ Blk.newE hV5
      have JBel : Below w.heap.size w V5 := by
        have h := HBel.out.trans (b5.mono HBel.out.size)
        rw [hV5, hU5_0]; exact ((h).alloc (by have := h.size; first | omega | (simp; omega)) _).alloc (by have := h.size; first | omega | (simp; omega)) _
      have HEq5 : Hid (V5 = ((w5.alloc (.cells #[.int .i64 FC, .slice g5 mc c5, .slice none 0 0] 27)).alloc (.cells #[.string (ba D), .int .i64 M] 39))) := by show _ = _; rw [hV5, hU5_0]
      clear HG2 Ht11 Ht14 Ht15 HBel HC2 b5 hU5_0 hV5
      have HG2 : Hid (GrsIn (fun _ => True) V5 (.slice g2 m c2) (L)) := JG2
      have Ht11 : Hid (Blk V5 (w2.heap.size) #[.int .i64 F, .slice g2 m c2, .slice none 0 0] 27) := Jt11
      have Ht14 : Hid (Blk V5 (w3.heap.size) #[.string (ba A), .int .i64 N] 39) := Jt14
      have Ht15 : Hid (Blk V5 (w4.heap.size) #[.string (ba C), .int .i64 N] 39) := Jt15
      have HG5 : Hid (GrsIn (fun _ => True) V5 (.slice g5 mc c5) (LC)) := JG5
      have Ht17 : Hid (Blk V5 (w5.heap.size) #[.int .i64 FC, .slice g5 mc c5, .slice none 0 0] 27) := Jt17
      have Ht18 : Hid (Blk V5 (w5.heap.size + 1) #[.string (ba D), .int .i64 M] 39) := Jt18
      have HBel : Hid (Below w.heap.size w V5) := JBel
      clear JG2 Jt11 Jt14 Jt15 JG5 Jt17 Jt18 JBel
      clear h5
      have x0 := Ht18.out.cell (j := 0) (u := .string (ba D)) rfl
      have x1 := Ht18.out.cell (j := 1) (u := .int .i64 M) rfl
      rw [HEq5.out] at x0 x1
      go_wp2_with fail
      try rw [← HEq5.out]
      clear HEq5 x0 x1
      refine (HC3.out _).mono ?_
      rintro e w6 ⟨rfl, b6⟩
      obtain ⟨V6, hV6⟩ : ∃ V, V = w6.alloc (.cells #[.string (ba D), .int .i64 M] 39) := ⟨_, rfl⟩
      have JG2 : GrsIn (fun _ => True) V6 (.slice g2 m c2) (L) := by rw [hV6]; exact (HG2.out.below b6).alloc _
      have Jt11 : Blk V6 (w2.heap.size) #[.int .i64 F, .slice g2 m c2, .slice none 0 0] 27 := by rw [hV6]; exact (Ht11.out.below b6 Ht11.out.lt).alloc _
      have Jt14 : Blk V6 (w3.heap.size) #[.string (ba A), .int .i64 N] 39 := by rw [hV6]; exact (Ht14.out.below b6 Ht14.out.lt).alloc _
      have Jt15 : Blk V6 (w4.heap.size) #[.string (ba C), .int .i64 N] 39 := by rw [hV6]; exact (Ht15.out.below b6 Ht15.out.lt).alloc _
      have JG5 : GrsIn (fun _ => True) V6 (.slice g5 mc c5) (LC) := by rw [hV6]; exact (HG5.out.below b6).alloc _
      have Jt17 : Blk V6 (w5.heap.size) #[.int .i64 FC, .slice g5 mc c5, .slice none 0 0] 27 := by rw [hV6]; exact (Ht17.out.below b6 Ht17.out.lt).alloc _
      have Jt18 : Blk V6 (w5.heap.size + 1) #[.string (ba D), .int .i64 M] 39 := by rw [hV6]; exact (Ht18.out.below b6 Ht18.out.lt).alloc _
      have Jt20 : Blk V6 (w6.heap.size) #[.string (ba D), .int .i64 M] 39 := Blk.newE hV6
      have JBel : Below w.heap.size w V6 := by
        have h := HBel.out.trans (b6.mono HBel.out.size)
        rw [hV6]; exact h.alloc h.size _
      have HEq6 : Hid (V6 = (w6.alloc (.cells #[.string (ba D), .int .i64 M] 39))) := by show _ = _; rw [hV6]
      clear HG2 Ht11 Ht14 Ht15 HG5 Ht17 Ht18 HBel HC3 b6 hV6
      have HG2 : Hid (GrsIn (fun _ => True) V6 (.slice g2 m c2) (L)) := JG2
      have Ht11 : Hid (Blk V6 (w2.heap.size) #[.int .i64 F, .slice g2 m c2, .slice none 0 0] 27) := Jt11
      have Ht14 : Hid (Blk V6 (w3.heap.size) #[.string (ba A), .int .i64 N] 39) := Jt14
      have Ht15 : Hid (Blk V6 (w4.heap.size) #[.string (ba C), .int .i64 N] 39) := Jt15
      have HG5 : Hid (GrsIn (fun _ => True) V6 (.slice g5 mc c5) (LC)) := JG5
      have Ht17 : Hid (Blk V6 (w5.heap.size) #[.int .i64 FC, .slice g5 mc c5, .slice none 0 0] 27) := Jt17
      have Ht18 : Hid (Blk V6 (w5.heap.size + 1) #[.string (ba D), .int .i64 M] 39) := Jt18
      have Ht20 : Hid (Blk V6 (w6.heap.size) #[.string (ba D), .int .i64 M] 39) := Jt20
      have HBel : Hid (Below w.heap.size w V6) := JBel
      clear JG2 Jt11 Jt14 Jt15 JG5 Jt17 Jt18 Jt20 JBel
      have x0 := Ht18.out.cell (j := 0) (u := .string (ba D)) rfl
      have x1 := Ht18.out.cell (j := 1) (u := .int .i64 M) rfl
      have x2 := Ht15.out.cell (j := 0) (u := .string (ba C)) rfl
      have x3 := Ht15.out.cell (j := 1) (u := .int .i64 N) rfl
      have x4 := Ht20.out.cell (j := 0) (u := .string (ba D)) rfl
      have x5 := Ht20.out.cell (j := 1) (u := .int .i64 M) rfl
      rw [HEq6.out] at x0 x1 x2 x3 x4 x5
      go_wp2_with fail
      try rw [← HEq6.out]
      clear HEq6 x0 x1 x2 x3 x4 x5
      refine (HC4.out _).mono ?_
      rintro e w7 ⟨rfl, b7⟩
      obtain ⟨V7, hV7⟩ : ∃ V, V = w7 := ⟨_, rfl⟩
      have JG2 : GrsIn (fun _ => True) V7 (.slice g2 m c2) (L) := by rw [hV7]; exact HG2.out.below b7
      have Jt11 : Blk V7 (w2.heap.size) #[.int .i64 F, .slice g2 m c2, .slice none 0 0] 27 := by rw [hV7]; exact Ht11.out.below b7 Ht11.out.lt
      have Jt14 : Blk V7 (w3.heap.size) #[.string (ba A), .int .i64 N] 39 := by rw [hV7]; exact Ht14.out.below b7 Ht14.out.lt
      have JG5 : GrsIn (fun _ => True) V7 (.slice g5 mc c5) (LC) := by rw [hV7]; exact HG5.out.below b7
      have Jt17 : Blk V7 (w5.heap.size) #[.int .i64 FC, .slice g5 mc c5, .slice none 0 0] 27 := by rw [hV7]; exact Ht17.out.below b7 Ht17.out.lt
      have JBel : Below w.heap.size w V7 := by
        have h := HBel.out.trans (b7.mono HBel.out.size)
        rw [hV7]; exact h
      have HEq7 : Hid (V7 = w7) := by show _ = _; rw [hV7]
      clear HG2 Ht11 Ht14 HG5 Ht17 HBel HC4 b7 hV7
      have HG2 : Hid (GrsIn (fun _ => True) V7 (.slice g2 m c2) (L)) := JG2
      have Ht11 : Hid (Blk V7 (w2.heap.size) #[.int .i64 F, .slice g2 m c2, .slice none 0 0] 27) := Jt11
      have Ht14 : Hid (Blk V7 (w3.heap.size) #[.string (ba A), .int .i64 N] 39) := Jt14
      have HG5 : Hid (GrsIn (fun _ => True) V7 (.slice g5 mc c5) (LC)) := JG5
      have Ht17 : Hid (Blk V7 (w5.heap.size) #[.int .i64 FC, .slice g5 mc c5, .slice none 0 0] 27) := Jt17
      have HBel : Hid (Below w.heap.size w V7) := JBel
      clear JG2 Jt11 Jt14 JG5 Jt17 JBel
      have x0 := Ht14.out.cell (j := 0) (u := .string (ba A)) rfl
      have x1 := Ht14.out.cell (j := 1) (u := .int .i64 N) rfl
      rw [HEq7.out] at x0 x1
      go_wp2_with fail
      try rw [← HEq7.out]
      clear HEq7 x0 x1
      refine (HC5.out _).mono ?_
      rintro e w8 ⟨g8, c8, X8, Y8, rfl, b8, h8⟩
      obtain ⟨U8_0, hU8_0⟩ : ∃ V, V = w8.alloc (.cells #[.int .i64 FA, .slice g8 ma c8, .slice none 0 0] 27) := ⟨_, rfl⟩
      obtain ⟨V8, hV8⟩ : ∃ V, V = U8_0.alloc (.cells #[.string X8, .int .i64 Y8] 39) := ⟨_, rfl⟩
      have JG2 : GrsIn (fun _ => True) V8 (.slice g2 m c2) (L) := by rw [hV8, hU8_0]; exact ((HG2.out.below b8).alloc _).alloc _
      have Jt11 : Blk V8 (w2.heap.size) #[.int .i64 F, .slice g2 m c2, .slice none 0 0] 27 := by rw [hV8, hU8_0]; exact ((Ht11.out.below b8 Ht11.out.lt).alloc _).alloc _
      have Jt14 : Blk V8 (w3.heap.size) #[.string (ba A), .int .i64 N] 39 := by rw [hV8, hU8_0]; exact ((Ht14.out.below b8 Ht14.out.lt).alloc _).alloc _
      have JG5 : GrsIn (fun _ => True) V8 (.slice g5 mc c5) (LC) := by rw [hV8, hU8_0]; exact ((HG5.out.below b8).alloc _).alloc _
      have Jt17 : Blk V8 (w5.heap.size) #[.int .i64 FC, .slice g5 mc c5, .slice none 0 0] 27 := by rw [hV8, hU8_0]; exact ((Ht17.out.below b8 Ht17.out.lt).alloc _).alloc _
      have JG8 : GrsIn (fun _ => True) V8 (.slice g8 ma c8) (LA) := by rw [hV8, hU8_0]; exact ((h8).alloc _).alloc _
      have Jt22 : Blk V8 (w8.heap.size) #[.int .i64 FA, .slice g8 ma c8, .slice none 0 0] 27 := by rw [hV8]; exact (Blk.newE hU8_0 : Blk U8_0 (w8.heap.size) #[.int .i64 FA, .slice g8 ma c8, .slice none 0 0] 27).alloc _
      have Jt23 : Blk V8 (w8.heap.size + 1) #[.string X8, .int .i64 Y8] 39 := (show U8_0.heap.size = w8.heap.size + 1 from by rw [hU8_0]; simp) ▸ Blk.newE hV8
      have JBel : Below w.heap.size w V8 := by
        have h := HBel.out.trans (b8.mono HBel.out.size)
        rw [hV8, hU8_0]; exact ((h).alloc (by have := h.size; first | omega | (simp; omega)) _).alloc (by have := h.size; first | omega | (simp; omega)) _
      have HEq8 : Hid (V8 = ((w8.alloc (.cells #[.int .i64 FA, .slice g8 ma c8, .slice none 0 0] 27)).alloc (.cells #[.string X8, .int .i64 Y8] 39))) := by show _ = _; rw [hV8, hU8_0]
      clear HG2 Ht11 Ht14 HG5 Ht17 HBel HC5 b8 hU8_0 hV8
      have HG2 : Hid (GrsIn (fun _ => True) V8 (.slice g2 m c2) (L)) := JG2
      have Ht11 : Hid (Blk V8 (w2.heap.size) #[.int .i64 F, .slice g2 m c2, .slice none 0 0] 27) := Jt11
      have Ht14 : Hid (Blk V8 (w3.heap.size) #[.string (ba A), .int .i64 N] 39) := Jt14
      have HG5 : Hid (GrsIn (fun _ => True) V8 (.slice g5 mc c5) (LC)) := JG5
      have Ht17 : Hid (Blk V8 (w5.heap.size) #[.int .i64 FC, .slice g5 mc c5, .slice none 0 0] 27) := Jt17
      have HG8 : Hid (GrsIn (fun _ => True) V8 (.slice g8 ma c8) (LA)) := JG8
      have Ht22 : Hid (Blk V8 (w8.heap.size) #[.int .i64 FA, .slice g8 ma c8, .slice none 0 0] 27) := Jt22
      have Ht23 : Hid (Blk V8 (w8.heap.size + 1) #[.string X8, .int .i64 Y8] 39) := Jt23
      have HBel : Hid (Below w.heap.size w V8) := JBel
      clear JG2 Jt11 Jt14 JG5 Jt17 JG8 Jt22 Jt23 JBel
      clear h8
      have x0 := Ht14.out.cell (j := 0) (u := .string (ba A)) rfl
      have x1 := Ht14.out.cell (j := 1) (u := .int .i64 N) rfl
      rw [HEq8.out] at x0 x1
      go_wp2_with fail
      try rw [← HEq8.out]
      clear HEq8 x0 x1
      refine (HC6.out _).mono ?_
      rintro e w9 ⟨rfl, b9⟩
      obtain ⟨V9, hV9⟩ : ∃ V, V = w9.alloc (.cells #[.string (ba A), .int .i64 K] 39) := ⟨_, rfl⟩
      have JG2 : GrsIn (fun _ => True) V9 (.slice g2 m c2) (L) := by rw [hV9]; exact (HG2.out.below b9).alloc _
      have Jt11 : Blk V9 (w2.heap.size) #[.int .i64 F, .slice g2 m c2, .slice none 0 0] 27 := by rw [hV9]; exact (Ht11.out.below b9 Ht11.out.lt).alloc _
      have JG5 : GrsIn (fun _ => True) V9 (.slice g5 mc c5) (LC) := by rw [hV9]; exact (HG5.out.below b9).alloc _
      have Jt17 : Blk V9 (w5.heap.size) #[.int .i64 FC, .slice g5 mc c5, .slice none 0 0] 27 := by rw [hV9]; exact (Ht17.out.below b9 Ht17.out.lt).alloc _
      have JG8 : GrsIn (fun _ => True) V9 (.slice g8 ma c8) (LA) := by rw [hV9]; exact (HG8.out.below b9).alloc _
      have Jt22 : Blk V9 (w8.heap.size) #[.int .i64 FA, .slice g8 ma c8, .slice none 0 0] 27 := by rw [hV9]; exact (Ht22.out.below b9 Ht22.out.lt).alloc _
      have Jt25 : Blk V9 (w9.heap.size) #[.string (ba A), .int .i64 K] 39 := Blk.newE hV9
      have JBel : Below w.heap.size w V9 := by
        have h := HBel.out.trans (b9.mono HBel.out.size)
        rw [hV9]; exact h.alloc h.size _
      have HEq9 : Hid (V9 = (w9.alloc (.cells #[.string (ba A), .int .i64 K] 39))) := by show _ = _; rw [hV9]
      clear HG2 Ht11 HG5 Ht17 HG8 Ht22 HBel HC6 b9 hV9
      have HG2 : Hid (GrsIn (fun _ => True) V9 (.slice g2 m c2) (L)) := JG2
      have Ht11 : Hid (Blk V9 (w2.heap.size) #[.int .i64 F, .slice g2 m c2, .slice none 0 0] 27) := Jt11
      have HG5 : Hid (GrsIn (fun _ => True) V9 (.slice g5 mc c5) (LC)) := JG5
      have Ht17 : Hid (Blk V9 (w5.heap.size) #[.int .i64 FC, .slice g5 mc c5, .slice none 0 0] 27) := Jt17
      have HG8 : Hid (GrsIn (fun _ => True) V9 (.slice g8 ma c8) (LA)) := JG8
      have Ht22 : Hid (Blk V9 (w8.heap.size) #[.int .i64 FA, .slice g8 ma c8, .slice none 0 0] 27) := Jt22
      have Ht25 : Hid (Blk V9 (w9.heap.size) #[.string (ba A), .int .i64 K] 39) := Jt25
      have HBel : Hid (Below w.heap.size w V9) := JBel
      clear JG2 Jt11 JG5 Jt17 JG8 Jt22 Jt25 JBel
      have x0 := Ht25.out.cell (j := 0) (u := .string (ba A)) rfl
      have x1 := Ht25.out.cell (j := 1) (u := .int .i64 K) rfl
      rw [HEq9.out] at x0 x1
      go_wp2_with fail
      try rw [← HEq9.out]
      clear HEq9 x0 x1
      refine (HC7.out _).mono ?_
      rintro e w10 ⟨rfl, b10⟩
      obtain ⟨V10, hV10⟩ : ∃ V, V = w10.alloc (.cells #[.string (ba A), .int .i64 K] 39) := ⟨_, rfl⟩
      have JG2 : GrsIn (fun _ => True) V10 (.slice g2 m c2) (L) := by rw [hV10]; exact (HG2.out.below b10).alloc _
      have Jt11 : Blk V10 (w2.heap.size) #[.int .i64 F, .slice g2 m c2, .slice none 0 0] 27 := by rw [hV10]; exact (Ht11.out.below b10 Ht11.out.lt).alloc _
      have JG5 : GrsIn (fun _ => True) V10 (.slice g5 mc c5) (LC) := by rw [hV10]; exact (HG5.out.below b10).alloc _
      have Jt17 : Blk V10 (w5.heap.size) #[.int .i64 FC, .slice g5 mc c5, .slice none 0 0] 27 := by rw [hV10]; exact (Ht17.out.below b10 Ht17.out.lt).alloc _
      have JG8 : GrsIn (fun _ => True) V10 (.slice g8 ma c8) (LA) := by rw [hV10]; exact (HG8.out.below b10).alloc _
      have Jt22 : Blk V10 (w8.heap.size) #[.int .i64 FA, .slice g8 ma c8, .slice none 0 0] 27 := by rw [hV10]; exact (Ht22.out.below b10 Ht22.out.lt).alloc _
      have Jt25 : Blk V10 (w9.heap.size) #[.string (ba A), .int .i64 K] 39 := by rw [hV10]; exact (Ht25.out.below b10 Ht25.out.lt).alloc _
      have Jt27 : Blk V10 (w10.heap.size) #[.string (ba A), .int .i64 K] 39 := Blk.newE hV10
      have JBel : Below w.heap.size w V10 := by
        have h := HBel.out.trans (b10.mono HBel.out.size)
        rw [hV10]; exact h.alloc h.size _
      have HEq10 : Hid (V10 = (w10.alloc (.cells #[.string (ba A), .int .i64 K] 39))) := by show _ = _; rw [hV10]
      clear HG2 Ht11 HG5 Ht17 HG8 Ht22 Ht25 HBel HC7 b10 hV10
      have HG2 : Hid (GrsIn (fun _ => True) V10 (.slice g2 m c2) (L)) := JG2
      have Ht11 : Hid (Blk V10 (w2.heap.size) #[.int .i64 F, .slice g2 m c2, .slice none 0 0] 27) := Jt11
      have HG5 : Hid (GrsIn (fun _ => True) V10 (.slice g5 mc c5) (LC)) := JG5
      have Ht17 : Hid (Blk V10 (w5.heap.size) #[.int .i64 FC, .slice g5 mc c5, .slice none 0 0] 27) := Jt17
      have HG8 : Hid (GrsIn (fun _ => True) V10 (.slice g8 ma c8) (LA)) := JG8
      have Ht22 : Hid (Blk V10 (w8.heap.size) #[.int .i64 FA, .slice g8 ma c8, .slice none 0 0] 27) := Jt22
      have Ht25 : Hid (Blk V10 (w9.heap.size) #[.string (ba A), .int .i64 K] 39) := Jt25
      have Ht27 : Hid (Blk V10 (w10.heap.size) #[.string (ba A), .int .i64 K] 39) := Jt27
      have HBel : Hid (Below w.heap.size w V10) := JBel
      clear JG2 Jt11 JG5 Jt17 JG8 Jt22 Jt25 Jt27 JBel
      have x0 := Ht25.out.cell (j := 0) (u := .string (ba A)) rfl
      have x1 := Ht25.out.cell (j := 1) (u := .int .i64 K) rfl
      have x2 := Ht27.out.cell (j := 0) (u := .string (ba A)) rfl
      have x3 := Ht27.out.cell (j := 1) (u := .int .i64 K) rfl
      have x4 := Ht17.out.cell (j := 0) (u := .int .i64 FC) rfl
      have x5 := Ht17.out.cell (j := 1) (u := .slice g5 mc c5) rfl
      have x6 := Ht17.out.cell (j := 2) (u := .slice none 0 0) rfl
      have x7 := Ht11.out.cell (j := 0) (u := .int .i64 F) rfl
      have x8 := Ht11.out.cell (j := 1) (u := .slice g2 m c2) rfl
      have x9 := Ht11.out.cell (j := 2) (u := .slice none 0 0) rfl
      rw [HEq10.out] at x0 x1 x2 x3 x4 x5 x6 x7 x8 x9
      go_wp2_with fail
      try rw [← HEq10.out]
      clear HEq10 x0 x1 x2 x3 x4 x5 x6 x7 x8 x9
      obtain ⟨q, hq⟩ : ∃ q, q = sameSt FC F LC L [] [] := ⟨_, rfl⟩
      have HQ : Hid (q = sameSt FC F LC L [] []) := hq
      have HS1 := HST.out _ FC F LC L mc m g5 c5 g2 c2 HG5.out HG2.out
      rw [← hq] at HS1
      clear hq
      refine (HS1).mono ?_
      rintro e w11 ⟨rfl, b11⟩
      obtain ⟨V11, hV11⟩ : ∃ V, V = w11 := ⟨_, rfl⟩
      have JG2 : GrsIn (fun _ => True) V11 (.slice g2 m c2) (L) := by rw [hV11]; exact HG2.out.below b11
      have Jt11 : Blk V11 (w2.heap.size) #[.int .i64 F, .slice g2 m c2, .slice none 0 0] 27 := by rw [hV11]; exact Ht11.out.below b11 Ht11.out.lt
      have JG5 : GrsIn (fun _ => True) V11 (.slice g5 mc c5) (LC) := by rw [hV11]; exact HG5.out.below b11
      have Jt17 : Blk V11 (w5.heap.size) #[.int .i64 FC, .slice g5 mc c5, .slice none 0 0] 27 := by rw [hV11]; exact Ht17.out.below b11 Ht17.out.lt
      have JG8 : GrsIn (fun _ => True) V11 (.slice g8 ma c8) (LA) := by rw [hV11]; exact HG8.out.below b11
      have Jt22 : Blk V11 (w8.heap.size) #[.int .i64 FA, .slice g8 ma c8, .slice none 0 0] 27 := by rw [hV11]; exact Ht22.out.below b11 Ht22.out.lt
      have JBel : Below w.heap.size w V11 := by
        have h := HBel.out.trans (b11.mono HBel.out.size)
        rw [hV11]; exact h
      have HEq11 : Hid (V11 = w11) := by show _ = _; rw [hV11]
      clear HG2 Ht11 HG5 Ht17 HG8 Ht22 HBel b11 hV11
      have HG2 : Hid (GrsIn (fun _ => True) V11 (.slice g2 m c2) (L)) := JG2
      have Ht11 : Hid (Blk V11 (w2.heap.size) #[.int .i64 F, .slice g2 m c2, .slice none 0 0] 27) := Jt11
      have HG5 : Hid (GrsIn (fun _ => True) V11 (.slice g5 mc c5) (LC)) := JG5
      have Ht17 : Hid (Blk V11 (w5.heap.size) #[.int .i64 FC, .slice g5 mc c5, .slice none 0 0] 27) := Jt17
      have HG8 : Hid (GrsIn (fun _ => True) V11 (.slice g8 ma c8) (LA)) := JG8
      have Ht22 : Hid (Blk V11 (w8.heap.size) #[.int .i64 FA, .slice g8 ma c8, .slice none 0 0] 27) := Jt22
      have HBel : Hid (Below w.heap.size w V11) := JBel
      clear JG2 Jt11 JG5 Jt17 JG8 Jt22 JBel
      dsimp only
      cases hqb : q with
      | true =>
        clear HST HQ HC8 HS1 hqb
        go_wp2_with fail
        have hb := HBel.out
        rw [HEq11.out] at hb
        go_ret
        exact ⟨rfl, hb⟩
      | false =>
        have h12 : FC = FA ∧ LC = LA := by
          rcases HC8.out with ⟨e1, e2⟩ | h
          · exfalso
            have := HQ.out
            rw [hqb, e1, e2, sameSt_self] at this
            cases this
          · exact h
        obtain ⟨e1, e2⟩ := h12
        subst e1 e2
        have HS2 : Hid (Calls Try.prog 28 #[.agg #[.int .i64 FC, .slice g5 mc c5, .slice none 0 0], .agg #[.int .i64 FC, .slice g8 ma c8, .slice none 0 0]] V11 fun e w' => e = .returned (.bool true) ∧ Below V11.heap.size V11 w') := by
          have := HST.out _ FC FC LC LC mc ma g5 c5 g8 c8 HG5.out HG8.out
          rw [sameSt_self] at this; exact this
        clear HS1 HST HQ HC8 hqb
        have x0 := Ht17.out.cell (j := 0) (u := .int .i64 FC) rfl
        have x1 := Ht17.out.cell (j := 1) (u := .slice g5 mc c5) rfl
        have x2 := Ht17.out.cell (j := 2) (u := .slice none 0 0) rfl
        have x3 := Ht22.out.cell (j := 0) (u := .int .i64 FC) rfl
        have x4 := Ht22.out.cell (j := 1) (u := .slice g8 ma c8) rfl
        have x5 := Ht22.out.cell (j := 2) (u := .slice none 0 0) rfl
        rw [HEq11.out] at x0 x1 x2 x3 x4 x5
        go_wp2_with fail
        try rw [← HEq11.out]
        clear HEq11 x0 x1 x2 x3 x4 x5
        refine (HS2.out).mono ?_
        rintro e w12 ⟨rfl, b12⟩
        obtain ⟨V12, hV12⟩ : ∃ V, V = w12 := ⟨_, rfl⟩
        have JBel : Below w.heap.size w V12 := by
          have h := HBel.out.trans (b12.mono HBel.out.size)
          rw [hV12]; exact h
        have HEq12 : Hid (V12 = w12) := by show _ = _; rw [hV12]
        clear HBel HS2 b12 hV12
        have HBel : Hid (Below w.heap.size w V12) := JBel
        clear JBel
        go_wp2_with fail
        have hb := HBel.out
        rw [HEq12.out] at hb
        go_ret
        exact ⟨rfl, hb⟩
    · have heb : (E2 != 0) = true := by simpa using hE3
      have hX := h3n hE3
      subst hX
      clear HALL h3 h3n hkeep hmore
      have x0 := Ht14.out.cell (j := 0) (u := .string ⟨#[]⟩) rfl
      rw [HEq3.out] at x0
      go_wp2_with fail
      have hb := HBel.out
      rw [HEq3.out] at hb
      go_ret
      exact ⟨rfl, hb⟩
  · have HO1 : Hid (∀ W, Calls Try.prog 14 #[.agg #[.string (ba l), .int .i64 s]] W fun e w' => e = .returned (.tuple #[.agg #[.int .i64 0, .slice none 0 0, .slice none 0 0], .agg #[.string ⟨#[]⟩, .int .i64 0], .int .i64 (diskE l s)]) ∧ Below W.heap.size W w') := fun W => by
      refine (diskOpen_any l s W).mono ?_
      rintro e w' ⟨f, gv, X, N', rfl, hB, _, h1⟩
      obtain ⟨rfl, rfl, rfl, rfl⟩ := h1 hE
      exact ⟨rfl, hB⟩
    obtain ⟨E, hEE⟩ : ∃ x, x = diskE l s := ⟨_, rfl⟩
    rw [← hEE] at hE HO1
    have heb : (E != 0) = true := by simpa using hE
    have heb2 : (E == 0) = false := by simpa using hE
    clear hxm anyG hV0 hg hEE HFg HKg
    go_enter Try.func6, Try.ntmps6
    go_wp2_with fail
    rw [← HEq0.out]
    clear HEq0
    refine (HDB.out _).mono ?_
    rintro e w1 ⟨rfl, b1⟩
    obtain ⟨V1, hV1⟩ : ∃ V, V = w1 := ⟨_, rfl⟩
    have JK0 : Blk V1 (w.heap.size) #[.string (ba l), .int .i64 s] 39 := by rw [hV1]; exact HK0.out.below b1 HK0.out.lt
    have JBel : Below w.heap.size w V1 := by
      have h := HBel.out.trans (b1.mono HBel.out.size)
      rw [hV1]; exact h
    have HEq1 : Hid (V1 = w1) := by show _ = _; rw [hV1]
    clear HK0 HBel HDB b1 hV1
    have HK0 : Hid (Blk V1 (w.heap.size) #[.string (ba l), .int .i64 s] 39) := JK0
    have HBel : Hid (Below w.heap.size w V1) := JBel
    clear JK0 JBel
    have x0 := HK0.out.cell (j := 0) (u := .string (ba l)) rfl
    have x1 := HK0.out.cell (j := 1) (u := .int .i64 s) rfl
    rw [HEq1.out] at x0 x1
    go_wp2_with fail
    try rw [← HEq1.out]
    clear HEq1 x0 x1
    refine (HO1.out _).mono ?_
    rintro e w2 ⟨rfl, b2⟩
    obtain ⟨U2_0, hU2_0⟩ : ∃ V, V = w2.alloc (.cells #[.int .i64 0, .slice none 0 0, .slice none 0 0] 27) := ⟨_, rfl⟩
    obtain ⟨V2, hV2⟩ : ∃ V, V = U2_0.alloc (.cells #[.string ⟨#[]⟩, .int .i64 0] 39) := ⟨_, rfl⟩
    have JK0 : Blk V2 (w.heap.size) #[.string (ba l), .int .i64 s] 39 := by rw [hV2, hU2_0]; exact ((HK0.out.below b2 HK0.out.lt).alloc _).alloc _
    have Jt11 : Blk V2 (w2.heap.size) #[.int .i64 0, .slice none 0 0, .slice none 0 0] 27 := by rw [hV2]; exact (Blk.newE hU2_0 : Blk U2_0 (w2.heap.size) #[.int .i64 0, .slice none 0 0, .slice none 0 0] 27).alloc _
    have Jt12 : Blk V2 (w2.heap.size + 1) #[.string ⟨#[]⟩, .int .i64 0] 39 := (show U2_0.heap.size = w2.heap.size + 1 from by rw [hU2_0]; simp) ▸ Blk.newE hV2
    have JBel : Below w.heap.size w V2 := by
      have h := HBel.out.trans (b2.mono HBel.out.size)
      rw [hV2, hU2_0]; exact ((h).alloc (by have := h.size; first | omega | (simp; omega)) _).alloc (by have := h.size; first | omega | (simp; omega)) _
    have HEq2 : Hid (V2 = ((w2.alloc (.cells #[.int .i64 0, .slice none 0 0, .slice none 0 0] 27)).alloc (.cells #[.string ⟨#[]⟩, .int .i64 0] 39))) := by show _ = _; rw [hV2, hU2_0]
    clear HK0 HBel HO1 b2 hU2_0 hV2
    have HK0 : Hid (Blk V2 (w.heap.size) #[.string (ba l), .int .i64 s] 39) := JK0
    have Ht11 : Hid (Blk V2 (w2.heap.size) #[.int .i64 0, .slice none 0 0, .slice none 0 0] 27) := Jt11
    have Ht12 : Hid (Blk V2 (w2.heap.size + 1) #[.string ⟨#[]⟩, .int .i64 0] 39) := Jt12
    have HBel : Hid (Below w.heap.size w V2) := JBel
    clear JK0 Jt11 Jt12 JBel
    have x0 := Ht11.out.cell (j := 1) (u := .slice none 0 0) rfl
    rw [HEq2.out] at x0
    go_wp2_with fail
    have hb := HBel.out
    rw [HEq2.out] at hb
    go_ret
    exact ⟨rfl, hb⟩

end Go.Proofs.Ytnpaejknoipicad
