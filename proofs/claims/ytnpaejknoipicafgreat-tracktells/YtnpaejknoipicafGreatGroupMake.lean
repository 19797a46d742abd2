/-
  Contracts: the maker of groups: close, goesOnWith, take.
-/
import Derived.Test.YtnpaejknoipicafGreatGroupCheck
import Derived.Test.YtnpaejknoipicafGreatCloneFrame
import Derived.Test.YtnpaejknoipicafGreatRegChain
import Derived.Test.YtnpaejknoipicafGreatCopyMany
namespace Go.Proofs.YtnpaejknoipicafGreat
open Go.RowKit

/-- blocks of what the maker's rows hold: none of them is its own, nor a row's that grows -/
def GS (base M : Nat) (fv cv : Value) : Nat → Prop := fun g => base ≤ g ∧ g ≠ M ∧ some g ≠ fv.ownBlock ∧ some g ≠ cv.ownBlock
def GMk (base M : Nat) (w : World) (fv cv : Value) (o : List Fr) (cl : List (List Fr)) : Prop := Blk w M #[fv, cv] 201 ∧ OwnFrs base (GS base M fv cv) w fv o ∧ OwnGrs base (GS base M fv cv) w cv cl
def GMake (base M : Nat) (w : World) (o : List Fr) (cl : List (List Fr)) : Prop := ∃ fv cv, GMk base M w fv cv o cl

theorem GMk.below {base M : Nat} {w w' : World} {fv cv : Value} {o : List Fr} {cl : List (List Fr)} (h : GMk base M w fv cv o cl) (hb : Below w.heap.size w w') : GMk base M w' fv cv o cl :=
  ⟨h.1.below hb h.1.lt, h.2.1.below hb, h.2.2.below hb⟩
theorem GMk.fneM {base M : Nat} {w : World} {fv cv : Value} {o : List Fr} {cl : List (List Fr)} (h : GMk base M w fv cv o cl) : fv.ownBlock ≠ some M := fun e => by
  obtain ⟨cur, hc⟩ := h.2.1.blk M e
  exact Apart_type h.1 hc (by decide) rfl
theorem GMk.cneM {base M : Nat} {w : World} {fv cv : Value} {o : List Fr} {cl : List (List Fr)} (h : GMk base M w fv cv o cl) : cv.ownBlock ≠ some M := fun e => by
  obtain ⟨cur, hc⟩ := h.2.2.blk M e
  exact Apart_type h.1 hc (by decide) rfl
theorem GMk.fnec {base M : Nat} {w : World} {fv cv : Value} {o : List Fr} {cl : List (List Fr)} (h : GMk base M w fv cv o cl) : ∀ g, fv.ownBlock = some g → cv.ownBlock ≠ some g := fun g e1 e2 => by
  obtain ⟨cur, hc⟩ := h.2.1.blk g e1
  obtain ⟨cur2, hc2⟩ := h.2.2.blk g e2
  exact Apart_type hc hc2 (by decide) rfl

/-- cells of groups: one each -/
theorem grp_one {S : Nat → Prop} {w : World} {ps : List (List Fr × Value)} (h : ∀ p ∈ ps, FrsIn S w p.2 p.1) : ∀ u ∈ ps.map Prod.snd, u.oneCell' = true := fun u hu => by
  obtain ⟨p, hp, rfl⟩ := List.mem_map.1 hu
  obtain ⟨a, c, e, _⟩ := (h p hp).len
  rw [e]; rfl

set_option maxHeartbeats 4000000 in
set_option maxRecDepth 100000 in
theorem groupClose_any (base M : Nat) (fv cv : Value) (o : List Fr) (cl : List (List Fr)) (w : World) (hM : GMk base M w fv cv o cl) (hbM : base ≤ M) (ho : o.length ≤ 6) (hcl : cl.length ≤ 1000) :
    Calls Tryz.prog 166 #[.pointer (some ⟨M, 0, none⟩)] w fun e w' => e = .returned (.tuple #[]) ∧ (∃ cv', GMk base M w' (.slice none 0 0) cv' [] (if 0 < o.length then cl ++ [o] else cl)) ∧ Below base w w' ∧ ∀ j, j < w.heap.size → j ≠ M → some j ≠ cv.ownBlock → w'.heap[j]? = w.heap[j]? := by
  obtain ⟨i0, hi, hz0, hz1, hz2⟩ := info_parts Tryz.infoGrp
  have HMK : Hid (GMk base M w fv cv o cl) := hM
  obtain ⟨kM, ⟨qs, fq1, fq2, fq3⟩, ⟨ps, cp1, cp2, cp3⟩⟩ := hM
  obtain ⟨fa, fc, efv, hfc, _⟩ := owns_cap fq2
  obtain ⟨ca, cc, ecv, hcc, _⟩ := owns_cap cp2
  have hql : qs.length = o.length := by rw [← fq1, List.length_map]
  have hpl : ps.length = cl.length := by rw [← cp1, List.length_map]
  obtain ⟨n, hn⟩ : ∃ n, n = o.length := ⟨_, rfl⟩
  obtain ⟨m, hm⟩ : ∃ m, m = cl.length := ⟨_, rfl⟩
  have HN : Hid (n = o.length) := hn
  have HM2 : Hid (m = cl.length) := hm
  rw [hql, ← hn] at efv hfc
  rw [hpl, ← hm] at ecv hcc cp2
  have k0 := kM.two
  obtain ⟨k0, k1⟩ := k0
  have kf := kM.free
  have hMw := kM.lt
  have KM : Hid (Blk w M #[fv, cv] 201) := kM
  have CP1 : Hid (ps.map Prod.fst = cl) := cp1
  have CP2 : Hid (w.ownsRow base 25 1 cv m (ps.map Prod.snd)) := cp2
  have CP3 : Hid (∀ p ∈ ps, FrsIn (GS base M fv cv) w p.2 p.1) := cp3
  have HPL : Hid (ps.length = m) := by show _ = _; rw [hpl, hm]
  have FIN0 : Hid (∀ (w' : World) (v' : Value) (L : List (List Fr)), Blk w' M #[fv, v'] 201 → OwnGrs base (GS base M (.slice none 0 0) v') w' v' L → v'.ownBlock ≠ some M → GMk base M (w'.setCell ⟨M, 0, none⟩ (.slice none 0 0)) (.slice none 0 0) v' [] L) := fun w' v' L h1 h2 h3 =>
    ⟨h1.set 0 _, OwnFrs.nil _ _ _, h2.to (SameOn.setCell (fun g hg => hg.2.1) _) (fun _ _ h => h) (fun g hg => Below.heap_setCell _ _ _ _ (fun e => h3 (by rw [hg]; exact congrArg some e)))⟩
  rw [← hn]
  rw [← hn] at ho
  rw [← hm] at hcl
  by_cases hn0 : 0 < n
  · rw [if_pos hn0]
    have hni : (0 : Int) < (n : Int) := by omega
    have hown : (w.drew.alloc (.cells #[fv] 25)).ownsRow base 25 1 cv m (ps.map Prod.snd) := cp2.alloc _
    have HOWN : Hid ((w.drew.alloc (.cells #[fv] 25)).ownsRow base 25 1 cv m (ps.map Prod.snd)) := hown
    have hfvs : ∃ a c, fv = .slice a n c := ⟨fa, fc, efv⟩
    have HFV1 : Hid (∀ u ∈ [fv], u.oneCell' = true) := fun u hu => by simp at hu; subst hu; rw [efv]; rfl
    have hbase : base ≤ w.heap.size := by omega
    clear hn hm hql hpl fq1 fq2 fq3 cp1 cp2 cp3 kM hown
    have HE1 : Hid (fv = .slice fa n fc) := efv
    have HE2 : Hid (cv = .slice ca m cc) := ecv
    rw [efv] at k0
    rw [ecv] at k1
    clear efv ecv
    go_enter Tryz.func166, Tryz.ntmps166
    go_wp2_with fail
    refine region_chain (by kernel_rfl) (by kernel_rfl) [.quiet (.pointer (some ⟨M, 0, none⟩)) 3, .quiet (.pointer (some ⟨M, 0, none⟩)) 3, .quiet (.pointer (some ⟨M, 0, none⟩)) 3, .quiet (.pointer (some ⟨M, 1, none⟩)) 3, .quiet (.slice ca m cc) 1, .quiet (.pointer (some ⟨M, 0, none⟩)) 3, .quiet (.pointer (some ⟨M, 0, none⟩)) 3, .quiet (.pointer (some ⟨M, 0, none⟩)) 3, .quiet (.agg #[.slice fa n fc]) 0, .step 0, .step 1, .quiet (.pointer (some ⟨M, 0, none⟩)) 3, .quiet (.pointer (some ⟨M, 1, none⟩)) 3, .step 2] [9, 10, 13] (by kernel_rfl)
      (fun s r w' => match s with
        | 0 => w' = w.drew
        | 1 => w' = w.drew.alloc (.cells #[fv] 25) ∧ r 0 = .slice (some ⟨w.heap.size, 0, none⟩) 1 1
        | 2 => w'.ownsRow base 25 1 (r 1) (m + 1) (ps.map Prod.snd ++ [fv]) ∧ (w.drew.alloc (.cells #[fv] 25)).grownBy w' cv.ownBlock ∧ ((r 1).ownBlock = cv.ownBlock ∨ ∀ g, (r 1).ownBlock = some g → (w.drew.alloc (.cells #[fv] 25)).heap.size ≤ g)
        | _ => ∃ (w2 : World) (v' : Value), w' = w2.setCell ⟨M, 1, none⟩ v' ∧ w2.ownsRow base 25 1 v' (m + 1) (ps.map Prod.snd ++ [fv]) ∧ (w.drew.alloc (.cells #[fv] 25)).grownBy w2 cv.ownBlock ∧ (v'.ownBlock = cv.ownBlock ∨ ∀ g, v'.ownBlock = some g → (w.drew.alloc (.cells #[fv] 25)).heap.size ≤ g)) rfl ?step ?fin
    case step =>
      intro i o ho a' w' s r hI hfree hvals
      have f0 : a'.eval (.tmp 0) = .pointer (some ⟨M, 0, none⟩) := (hfree 0 (by kernel_rfl)).trans rfl
      have hMd : w.drew.cell? ⟨M, 0, none⟩ = some (.slice fa n fc) := k0
      have hMd1 : w.drew.cell? ⟨M, 1, none⟩ = some (.slice ca m cc) := k1
      have hMs : M < w.drew.heap.size := hMw
      match i, ho with
      | 0, ho | 1, ho | 5, ho =>
        simp at ho; subst ho
        show s ≤ 3 → (execOp a'.eval _).run _ w' = .ok (.value _) w'
        intro _
        generalize a'.eval = ρ at *
        simp [execOp, go_sem, f0]
      | 2, ho =>
        simp at ho; subst ho
        have e1 : a'.eval (.tmp 10) = .pointer (some ⟨M, 0, none⟩) := hvals 1 _ _ (by kernel_rfl) rfl rfl
        show s ≤ 3 → (execOp a'.eval _).run _ w' = .ok (.value _) w'
        intro _
        generalize a'.eval = ρ at *
        simp [execOp, go_sem, e1]
      | 3, ho =>
        simp at ho; subst ho
        have e1 : a'.eval (.tmp 11) = .pointer (some ⟨M, 0, none⟩) := hvals 2 _ _ (by kernel_rfl) rfl rfl
        show s ≤ 3 → (execOp a'.eval _).run _ w' = .ok (.value _) w'
        intro _
        generalize a'.eval = ρ at *
        simp [execOp, go_sem, e1]
      | 4, ho =>
        simp at ho; subst ho
        have e1 : a'.eval (.tmp 12) = .pointer (some ⟨M, 1, none⟩) := hvals 3 _ _ (by kernel_rfl) rfl rfl
        show s ≤ 1 → (execOp a'.eval _).run _ w' = .ok (.value _) w'
        intro hs
        have hc : w'.cell? ⟨M, 1, none⟩ = some (.slice ca m cc) := by
          match s, hs, hI with
          | 0, _, hI => rw [show w' = w.drew from hI]; exact hMd1
          | 1, _, hI => rw [hI.1]; exact (World.cell?_alloc_past _ _ _ hMs).trans hMd1
        generalize a'.eval = ρ at *
        simp [execOp, go_sem, e1, hc]
      | 6, ho =>
        simp at ho; subst ho
        have e1 : a'.eval (.tmp 14) = .pointer (some ⟨M, 0, none⟩) := hvals 5 _ _ (by kernel_rfl) rfl rfl
        show s ≤ 3 → (execOp a'.eval _).run _ w' = .ok (.value _) w'
        intro _
        generalize a'.eval = ρ at *
        simp [execOp, go_sem, e1]
      | 7, ho =>
        simp at ho; subst ho
        have e1 : a'.eval (.tmp 15) = .pointer (some ⟨M, 0, none⟩) := hvals 6 _ _ (by kernel_rfl) rfl rfl
        show s ≤ 3 → (execOp a'.eval _).run _ w' = .ok (.value _) w'
        intro _
        generalize a'.eval = ρ at *
        simp [execOp, go_sem, e1]
      | 8, ho =>
        simp at ho; subst ho
        have e1 : a'.eval (.tmp 16) = .pointer (some ⟨M, 0, none⟩) := hvals 7 _ _ (by kernel_rfl) rfl rfl
        show s ≤ 0 → (execOp a'.eval _).run _ w' = .ok (.value _) w'
        intro hs
        have hc : w'.cell? ⟨M, 0, none⟩ = some (.slice fa n fc) := by
          match s, hs, hI with
          | 0, _, hI => rw [show w' = w.drew from hI]; exact hMd
        generalize a'.eval = ρ at *
        simp [execOp, go_sem, e1, hc]
      | 9, ho =>
        simp at ho; subst ho
        have e1 : a'.eval (.tmp 17) = .agg #[.slice fa n fc] := hvals 8 _ _ (by kernel_rfl) rfl rfl
        show s = 0 → Oper.wp _ _ _ _ _ _
        intro hs
        subst hs
        have hw : w' = w.drew := hI
        subst hw
        refine oper_wp_ok (v := .slice (some ⟨w.heap.size, 0, none⟩) 1 1) (w' := w.drew.alloc (.cells #[fv] 25)) ?_ ⟨_, rfl, rfl, updR_at _ _ _⟩
        generalize a'.eval = ρ at *
        rw [HE1.out]
        simp [execOp, go_sem, e1]
      | 10, ho =>
        simp at ho; subst ho
        have e1 : a'.eval (.tmp 13) = .slice ca m cc := hvals 4 _ _ (by kernel_rfl) rfl rfl
        have e2 : a'.eval (.tmp 18) = r 0 := hvals 9 _ _ (by kernel_rfl) rfl rfl
        show s = 1 → Oper.wp _ _ _ _ _ _
        intro hs
        subst hs
        obtain ⟨hw, hr0⟩ := hI
        rw [hr0] at e2
        subst hw
        obtain ⟨v', w2, hrun, g2, g3, g4⟩ := run_append_own2 (P := Tryz.prog) (w.drew.alloc (.cells #[fv] 25)) base 22 22 25 i0 _ 1 24 Tryz.underlying22 hi hz0 hz1 hz2 rfl (by decide) cv m (ps.map Prod.snd) HOWN.out ⟨w.heap.size, 0, none⟩ 1 1 [fv] rfl (news1 rfl) HFV1.out (by unfold maxLen; omega) (by omega) (by simp; omega)
        rw [HE2.out] at hrun
        refine oper_wp_ok (v := v') (w' := w2) ?_ ⟨_, rfl, ?_⟩
        · generalize a'.eval = ρ at *
          simp [execOp, resolve, invoke, builtin, e1, e2, hrun, Result.andThen]
        · show w2.ownsRow _ _ _ _ _ _ ∧ _ ∧ _
          rw [updR_at]
          exact ⟨g2, g3, g4⟩
      | 11, ho =>
        simp at ho; subst ho
        have e1 : a'.eval (.tmp 9) = .pointer (some ⟨M, 0, none⟩) := hvals 0 _ _ (by kernel_rfl) rfl rfl
        show s ≤ 3 → (execOp a'.eval _).run _ w' = .ok (.value _) w'
        intro _
        generalize a'.eval = ρ at *
        simp [execOp, go_sem, e1]
      | 12, ho =>
        simp at ho; subst ho
        have e1 : a'.eval (.tmp 20) = .pointer (some ⟨M, 0, none⟩) := hvals 11 _ _ (by kernel_rfl) rfl rfl
        show s ≤ 3 → (execOp a'.eval _).run _ w' = .ok (.value _) w'
        intro _
        generalize a'.eval = ρ at *
        simp [execOp, go_sem, e1]
      | 13, ho =>
        simp at ho; subst ho
        have e1 : a'.eval (.tmp 21) = .pointer (some ⟨M, 1, none⟩) := hvals 12 _ _ (by kernel_rfl) rfl rfl
        have e2 : a'.eval (.tmp 19) = r 1 := hvals 10 _ _ (by kernel_rfl) rfl rfl
        show s = 2 → Oper.wp _ _ _ _ _ _
        intro hs
        subst hs
        obtain ⟨g2, g3, g4⟩ := hI
        obtain ⟨va, vc, ev, _⟩ := owns_cap g2
        have kM2 : Blk w' M #[fv, cv] 201 := (g3.block M (by simp; omega) (fun e => HMK.out.cneM e.symm)).trans (KM.out.drew.alloc _)
        have y0 := kM2.two.2
        have y1 := kM2.free 1
        refine oper_wp_skip (w' := w'.setCell ⟨M, 1, none⟩ (r 1)) ?_ ⟨_, rfl, w', r 1, rfl, g2, g3, g4⟩
        rw [ev] at e2 ⊢
        generalize a'.eval = ρ at *
        simp [execOp, go_sem, e1, e2, y0, y1]
      | i + 14, ho => simp at ho
    case fin =>
      rintro r w' ⟨w2, v', hw, g2, g3, g4⟩
      have hk := HMK.out
      have kM2 : Blk w2 M #[fv, cv] 201 := (g3.block M (by simp; omega) (fun e => hk.cneM e.symm)).trans (KM.out.drew.alloc _)
      have hsz2 := g3.size
      simp only [World.size_alloc] at hsz2
      have hwd : w.drew.heap.size = w.heap.size := rfl
      have hvM : v'.ownBlock ≠ some M := fun e => by
        rcases g4 with g4 | g4
        · rw [g4] at e; exact hk.cneM e
        · have := g4 M e; simp at this; omega
      have hnew : ∀ g, g < w.heap.size → some g ≠ cv.ownBlock → some g ≠ v'.ownBlock := fun g hg h1 e => by
        rcases g4 with g4 | g4
        · rw [g4] at e; exact h1 e
        · have := g4 g e.symm; simp at this; omega
      have hsm : SameOn (fun g => g < w.heap.size ∧ some g ≠ cv.ownBlock) w w2 := ⟨by omega, fun g hg h2 => by
        rw [g3.block g (by simp; omega) h2.2]
        exact Below.heap_alloc w.drew _ g hg⟩
      have hfv : FrsIn (GS base M (.slice none 0 0) v') w2 fv o := by
        refine (hk.2.1.frsIn (S' := fun g => base ≤ g ∧ g ≠ M ∧ some g ≠ cv.ownBlock ∧ g < w.heap.size) (fun g h1 h2 => ⟨h2.1, h2.2.1, h2.2.2.2, h1⟩) (fun g hg => ⟨(hk.2.1.lt g hg).1, fun e => hk.fneM (by rw [hg, e]), fun e => hk.fnec g hg e.symm, (hk.2.1.lt g hg).2⟩)).to (hsm.mono (fun g h => ⟨h.2.2.2, h.2.2.1⟩)) (fun g h1 h2 => ⟨h2.1, h2.2.1, fun e => by simp [Value.ownBlock] at e, hnew g h1 h2.2.2.1⟩)
      have hps : ∀ p ∈ ps, FrsIn (GS base M (.slice none 0 0) v') w2 p.2 p.1 := fun p hp =>
        ((CP3.out p hp).mono (S' := fun g => base ≤ g ∧ g ≠ M ∧ some g ≠ cv.ownBlock ∧ g < w.heap.size) (fun g h1 h2 => ⟨h2.1, h2.2.1, h2.2.2.2, h1⟩)).to (hsm.mono (fun g h => ⟨h.2.2.2, h.2.2.1⟩)) (fun g h1 h2 => ⟨h2.1, h2.2.1, fun e => by simp [Value.ownBlock] at e, hnew g h1 h2.2.2.1⟩)
      have hog : OwnGrs base (GS base M (.slice none 0 0) v') w2 v' (cl ++ [o]) := ⟨ps ++ [(o, fv)], by rw [List.map_append, CP1.out]; rfl, by rw [List.length_append, List.map_append, HPL.out]; exact g2, fun p hp => by
        rcases List.mem_append.1 hp with hp | hp
        · exact hps p hp
        · simp at hp; subst hp; exact hfv⟩
      have hog3 : OwnGrs base (GS base M (.slice none 0 0) v') (w2.setCell ⟨M, 1, none⟩ v') v' (cl ++ [o]) := hog.to (SameOn.setCell (fun g hg => hg.2.1) _) (fun _ _ h => h) (fun g hg => Below.heap_setCell _ _ _ _ (fun e => hvM (by rw [hg]; exact congrArg some e)))
      have FIN : Hid (GMk base M ((w2.setCell ⟨M, 1, none⟩ v').setCell ⟨M, 0, none⟩ (.slice none 0 0)) (.slice none 0 0) v' [] (cl ++ [o])) := FIN0.out _ v' (cl ++ [o]) (kM2.set 1 _) hog3 hvM
      have BEL : Hid (Below base w ((w2.setCell ⟨M, 1, none⟩ v').setCell ⟨M, 0, none⟩ (.slice none 0 0))) := ((((Below.refl base w).drew.alloc (by show _ ≤ w.heap.size; omega) _).grown g3 (by simp; omega) (fun j hj => (CP2.out.lt j hj).1)).setCell (by exact hbM) _).setCell (by exact hbM) _
      have OTH : Hid (∀ j, j < w.heap.size → j ≠ M → some j ≠ cv.ownBlock → ((w2.setCell ⟨M, 1, none⟩ v').setCell ⟨M, 0, none⟩ (.slice none 0 0)).heap[j]? = w.heap[j]?) := fun j h1 h2 h3 => by
        rw [Below.heap_setCell _ _ _ _ (by exact h2), Below.heap_setCell _ _ _ _ (by exact h2)]
        exact hsm.2 j h1 ⟨h1, h3⟩
      have y0 := (kM2.set 1 v').two.1
      have y1 := (kM2.set 1 v').free 0
      subst hw
      simp only [putC, Ck.out]
      clear hog hog3 hps hfv hsm hnew g2 g3 g4 kM2 k0 k1 kf
      go_wp2
      go_end0
      exact ⟨rfl, ⟨v', FIN.out⟩, BEL.out, OTH.out⟩
  · rw [if_neg hn0]
    have hn00 : n = 0 := by omega
    have FIN : Hid (GMk base M (w.setCell ⟨M, 0, none⟩ (.slice none 0 0)) (.slice none 0 0) cv [] cl) := FIN0.out w cv cl KM.out (HMK.out.2.2.to (SameOn.refl _ _) (fun g _ h => ⟨h.1, h.2.1, fun e => by simp [Value.ownBlock] at e, h.2.2.2⟩) (fun _ _ => rfl)) HMK.out.cneM
    rw [efv] at k0
    subst hn00
    clear hn hm hql hpl fq1 fq2 fq3 cp1 cp2 cp3 kM efv ecv
    go_enter Tryz.func166, Tryz.ntmps166
    go_wp2
    go_end0
    exact ⟨rfl, ⟨cv, FIN.out⟩, (Below.refl base w).setCell (by exact hbM) _, fun j _ h2 _ => Below.heap_setCell _ _ _ _ h2⟩

end Go.Proofs.YtnpaejknoipicafGreat
