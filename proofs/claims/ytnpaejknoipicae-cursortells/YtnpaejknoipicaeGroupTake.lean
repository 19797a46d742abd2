/-
  Contracts: the maker of groups: goesOnWith, take.
-/
import Derived.Test.YtnpaejknoipicaeGroupMake
import Derived.Deep.Cut
import Derived.Deep.DeepCutAuto
namespace Go.Proofs.Ytnpaejknoipicae
open Go.RowKit

def gon (o : List Fr) (f : Fr) : Bool := decide (0 < o.length) && decide (o.length < 6) && decide ((frAt o (o.length - 1)).time ≤ f.time)
theorem gon_grow {o : List Fr} {f : Fr} (hk : f.key = false) : growG o f = if gon o f then o ++ [f] else o := by
  unfold growG gon
  rw [if_neg (by simp [hk])]
  by_cases h : o.length = 0 ∨ 6 ≤ o.length ∨ f.time < (frAt o (o.length - 1)).time
  · rw [if_pos h, if_neg]
    simp only [Bool.and_eq_true, decide_eq_true_eq]
    omega
  · rw [if_neg h, if_pos]
    simp only [Bool.and_eq_true, decide_eq_true_eq]
    omega

set_option maxHeartbeats 2000000 in
theorem goesOn_any (base M : Nat) (fv cv : Value) (o : List Fr) (cl : List (List Fr)) (f : Fr) (pa : Option Addr) (pn pc : Nat) (w : World) (hM : GMk base M w fv cv o cl) :
    Calls Try.prog 78 #[.pointer (some ⟨M, 0, none⟩), .agg #[.int .i64 f.time, .bool f.key, .slice pa pn pc]] w fun e w' => e = .returned (.bool (gon o f)) ∧ Below w.heap.size w w' := by
  obtain ⟨kM, hF, _⟩ := hM
  obtain ⟨ao, c, efv, h1, h2, hc⟩ := hF.frsIn (S' := fun _ => True) (fun _ _ _ => trivial) (fun _ _ => trivial)
  obtain ⟨n, hn⟩ : ∃ n, n = o.length := ⟨_, rfl⟩
  rw [← hn] at efv h1
  have k0 := kM.two.1
  have hMw := kM.lt
  have hMw1 : M < w.heap.size + 1 := by omega
  rw [efv] at k0
  unfold gon
  rw [← hn]
  obtain ⟨t, k, ps⟩ := f
  simp only
  by_cases h0 : n = 0
  · have hd : decide (0 < n) = false := decide_eq_false (by omega)
    rw [hd]
    subst h0
    clear hn hc efv kM hF
    go_enter Try.func78, Try.ntmps78
    go_wp2_with fail
    go_quiet (fail)
    go_wp2
    go_ret
    exact ⟨by simp, below_drewN ((Below.refl _ w).alloc (Nat.le_refl _) _) _⟩
  · have hd : decide (0 < n) = true := decide_eq_true (by omega)
    rw [hd, Bool.true_and]
    by_cases h6 : n < 6
    · have hd6 : decide (n < 6) = true := decide_eq_true h6
      rw [hd6, Bool.true_and]
      obtain ⟨b, off, e1, hb, _, pv, c0, _⟩ := hc (n - 1) (by omega)
      obtain ⟨n1, hn1⟩ : ∃ n1, n1 = n - 1 := ⟨_, rfl⟩
      rw [← hn1] at c0 ⊢
      obtain ⟨t', ht'⟩ : ∃ t', t' = (frAt o n1).time := ⟨_, rfl⟩
      rw [show (o[n1]?.getD Fr.zero).time = t' from ht'.symm] at c0
      rw [← ht']
      subst e1
      have hn1i : (n : Int) - 1 = (n1 : Int) := by omega
      have hn1l : (n1 : Int) < (n : Int) := by omega
      have hn1w : IntKind.i64.wrap (n1 : Int) = (n1 : Int) := by rw [IntKind.wrap_i64]; omega
      have hn6i : (n : Int) < 6 := by omega
      have hb1 : b < w.heap.size + 1 := by omega
      clear hn hc efv kM hF ht' hn1
      go_enter Try.func78, Try.ntmps78
      go_wp2_with fail
      go_quiet (fail)
      go_wp2
      go_ret
      exact ⟨by simp, below_drewN ((Below.refl _ w).alloc (Nat.le_refl _) _) _⟩
    · have hd6 : decide (n < 6) = false := decide_eq_false h6
      rw [hd6, Bool.false_and]
      have hn6i : ¬ (n : Int) < 6 := by omega
      have hd6i : decide ((n : Int) < 6) = false := decide_eq_false hn6i
      clear hn hc efv kM hF
      go_enter Try.func78, Try.ntmps78
      go_wp2_with fail
      go_quiet (fail)
      go_wp2
      go_ret
      exact ⟨by simp, below_drewN ((Below.refl _ w).alloc (Nat.le_refl _) _) _⟩

set_option maxHeartbeats 4000000 in
set_option maxRecDepth 100000 in
theorem groupTake_any (base M : Nat) (fv cv : Value) (o : List Fr) (cl : List (List Fr)) (f : Fr) (pv : Value) (w : World) (hM : GMk base M w fv cv o cl) (hbM : base ≤ M) (ho : o.length ≤ 6) (hcl : cl.length ≤ 1000) (hp : StrsIn (fun g => g < base) w pv f.parts) (hf : f.chk = 0) :
    Calls Try.prog 70 #[.pointer (some ⟨M, 0, none⟩), .agg #[.int .i64 f.time, .bool f.key, pv]] w fun e w' => e = .returned (.tuple #[]) ∧ GMake base M w' (growG o f) (if f.key && decide (0 < o.length) then cl ++ [o] else cl) ∧ Below base w w' := by
  obtain ⟨i0, hi, hz0, hz1, hz2⟩ := info_parts Try.infoFrm
  obtain ⟨pa, pc, ep⟩ := hp.1.len
  have HP : Hid (StrsIn (fun g => g < base) w pv f.parts) := hp
  obtain ⟨R, hR⟩ : ∃ R, R = growG o f := ⟨_, rfl⟩
  obtain ⟨C, hC⟩ : ∃ C, C = if f.key && decide (0 < o.length) then cl ++ [o] else cl := ⟨_, rfl⟩
  obtain ⟨o', ho'⟩ : ∃ o', o' = if f.key then [] else o := ⟨_, rfl⟩
  have HKEY : Hid (f.key = true → R = o' ++ [f] ∧ C = (if 0 < o.length then cl ++ [o] else cl) ∧ o' = []) := fun h => by
    refine ⟨?_, ?_, by rw [ho', if_pos h]⟩
    · rw [hR, ho', if_pos h]; unfold growG; rw [if_pos h]; rfl
    · rw [hC, h, Bool.true_and]
      by_cases h0 : 0 < o.length
      · rw [if_pos (decide_eq_true h0), if_pos h0]
      · rw [if_neg (by rw [decide_eq_true_eq]; exact h0), if_neg h0]
  have HNK : Hid (f.key = false → C = cl ∧ o' = o ∧ (gon o f = true → R = o' ++ [f]) ∧ (gon o f = false → R = o)) := fun h => by
    have e : o' = o := by rw [ho', h]; rfl
    refine ⟨by rw [hC, h]; rfl, e, fun h2 => ?_, fun h2 => ?_⟩
    · rw [hR, gon_grow h, h2, if_pos rfl, e]
    · rw [hR, gon_grow h, h2]; rfl
  have HO7 : Hid (o'.length ≤ 6) := by
    show _ ≤ _
    rw [ho']
    split
    · simp
    · exact ho
  have HGO : Hid (∀ w' : World, GMk base M w' fv cv o cl → Calls Try.prog 78 #[.pointer (some ⟨M, 0, none⟩), .agg #[.int .i64 f.time, .bool f.key, .slice pa f.parts.length pc]] w' fun e w'' => e = .returned (.bool (gon o f)) ∧ Below w'.heap.size w' w'') := fun w' h => goesOn_any base M fv cv o cl f _ _ _ w' h
  have HCL : Hid (∀ w' : World, GMk base M w' fv cv o cl → Calls Try.prog 77 #[.pointer (some ⟨M, 0, none⟩)] w' fun e w'' => e = .returned (.tuple #[]) ∧ (∃ cv', GMk base M w'' (.slice none 0 0) cv' [] (if 0 < o.length then cl ++ [o] else cl)) ∧ Below base w' w'' ∧ ∀ j, j < w'.heap.size → j ≠ M → some j ≠ cv.ownBlock → w''.heap[j]? = w'.heap[j]?) := fun w' h => groupClose_any base M fv cv o cl w' h hbM ho hcl
  have HCF : Hid (∀ w' : World, StrsIn (fun g => g < base) w' pv f.parts → Calls Try.prog 64 #[.agg #[.int .i64 f.time, .bool f.key, pv]] w' fun e w'' => ∃ a c, e = .returned (.agg #[.int .i64 f.time, .bool f.key, .slice a f.parts.length c]) ∧ StrsIn (fun g => w'.heap.size ≤ g) w'' (.slice a f.parts.length c) f.parts ∧ Below w'.heap.size w' w'') := fun w' h => cloneFrame_any _ f pv w' h hf
  have HMK : Hid (GMk base M w fv cv o cl) := hM
  have hMw := hM.1.lt
  obtain ⟨gg, hgg⟩ : ∃ gg, gg = gon o f := ⟨_, rfl⟩
  rw [← hgg] at HGO HNK
  rw [← hR, ← hC]
  obtain ⟨t, k, parts⟩ := f
  simp only at ep HP HGO HCF HKEY HNK ⊢
  obtain ⟨pn, hpn⟩ : ∃ pn, pn = parts.length := ⟨_, rfl⟩
  have HPN : Hid (pn = parts.length) := hpn
  rw [← hpn] at ep HGO HCF
  clear hM hp hf hR hC ho' hgg hpn ho hcl
  have HEP : Hid (pv = .slice pa pn pc) := ep
  subst ep
  go_enter Try.func70, Try.ntmps70
  go_upto_if 5 with fail
  go_cut [] (fun wc => ∃ fv' cv', Hid (GMk base M wc fv' cv' o' C) ∧ Hid (R = o' ++ [⟨t, k, parts⟩]) ∧ Hid (Blk wc w.heap.size #[.int .i64 t, .bool k, .slice pa pn pc] 39) ∧ Hid (∀ g, fv'.ownBlock = some g → g ≠ w.heap.size) ∧ Hid (StrsIn (fun g => g < base) wc (.slice pa pn pc) parts) ∧ Hid (Below base w wc))
  case first =>
    have MK1 : Hid (GMk base M (w.alloc (.cells #[.int .i64 t, .bool k, .slice pa pn pc] 39)) fv cv o cl) := HMK.out.below ((Below.refl _ w).alloc (Nat.le_refl _) _)
    cases k
    · have hnk := HNK.out rfl
      have HNK2 : Hid (C = cl ∧ o' = o ∧ (gg = true → R = o' ++ [⟨t, false, parts⟩]) ∧ (gg = false → R = o)) := hnk
      clear hnk
      go_wp2_with fail
      refine (HGO.out _ MK1.out).mono ?_
      rintro e w1 ⟨rfl, hb1⟩
      have B1 : Hid (Below w.heap.size w w1) := ((Below.refl _ w).alloc (Nat.le_refl _) _).trans (hb1.mono (by simp))
      have MK2 : Hid (GMk base M w1 fv cv o C) := by rw [HNK2.out.1]; exact MK1.out.below hb1
      have KF : Hid (Blk w1 w.heap.size #[.int .i64 t, .bool false, .slice pa pn pc] 39) := (Blk.new w _ _).below hb1 (by simp)
      have SP : Hid (StrsIn (fun g => g < base) w1 (.slice pa pn pc) parts) := HP.out.below B1.out
      clear hb1
      cases gg
      · have HRO : Hid (R = o) := HNK2.out.2.2.2 rfl
        go_wp2
        refine bodyPost_ret (v := .tuple #[]) (results_none rfl _ _ _) rfl ?_
        exact ⟨rfl, ⟨fv, cv, by rw [HRO.out]; exact MK2.out⟩, B1.out.mono (by omega)⟩
      · have HRO : Hid (R = o' ++ [⟨t, false, parts⟩]) := HNK2.out.2.2.1 rfl
        go_wp2_with fail
        go_meet
        case rel => exact ⟨fv, cv, (show GMk base M w1 fv cv o' C by rw [HNK2.out.2.1]; exact MK2.out), HRO, KF, (show ∀ g, _ → _ from fun g hg e => by have := (HMK.out.2.1.lt g hg).2; omega), SP, (show Below base w w1 from B1.out.mono (by omega))⟩
    · have hk := HKEY.out rfl
      have HK2 : Hid (R = o' ++ [⟨t, true, parts⟩] ∧ C = (if 0 < o.length then cl ++ [o] else cl) ∧ o' = []) := hk
      clear hk
      go_wp2_with fail
      refine (HCL.out _ MK1.out).mono ?_
      rintro e w1 ⟨rfl, ⟨cv', hmk⟩, hb1, oth⟩
      have B1 : Hid (Below base w w1) := ((Below.refl base w).alloc (by omega) _).trans hb1
      have KF : Hid (Blk w1 w.heap.size #[.int .i64 t, .bool true, .slice pa pn pc] 39) := (oth w.heap.size (by simp) (by omega) (fun e => by have := (HMK.out.2.2.lt _ e.symm).2; omega)).trans (Blk.new w _ _)
      have MK2 : Hid (GMk base M w1 (.slice none 0 0) cv' o' C) := by rw [HK2.out.2.1, HK2.out.2.2]; exact hmk
      have SP : Hid (StrsIn (fun g => g < base) w1 (.slice pa pn pc) parts) := HP.out.to ⟨B1.out.size, fun g _ h => B1.out.block g h⟩ (fun _ _ h => h)
      have HRO : Hid (R = o' ++ [⟨t, true, parts⟩]) := HK2.out.1
      clear hmk hb1 oth
      go_wp2_with fail
      go_meet
      case rel => exact ⟨.slice none 0 0, cv', MK2, HRO, KF, (show ∀ g, _ → _ from fun g hg => by simp [Value.ownBlock] at hg), SP, B1⟩
  case rest =>
    obtain ⟨fv', cv', MK, HR, KF, NF, SP, BC⟩ := hcut
    have hmk := MK.out
    obtain ⟨kM, hF, hCl⟩ := hmk
    obtain ⟨qs, fq1, fq2, fq3⟩ := hF
    obtain ⟨fa, fc, efv, hfc, _⟩ := owns_cap fq2
    have hql : qs.length = o'.length := by rw [← fq1, List.length_map]
    obtain ⟨n, hn⟩ : ∃ n, n = o'.length := ⟨_, rfl⟩
    have HN : Hid (n = o'.length) := hn
    have hn6 : n ≤ 6 := by rw [hn]; exact HO7.out
    rw [hql, ← hn] at efv hfc fq2
    have HE1 : Hid (fv' = .slice fa n fc) := efv
    have k0 := kM.two.1
    rw [efv] at k0
    have FQ1 : Hid (qs.map Prod.fst = o') := fq1
    have FQ2 : Hid (wc.ownsRow base 39 3 fv' n (frCells qs)) := fq2
    have FQ3 : Hid (∀ p ∈ qs, StrsIn (GS base M fv' cv') wc p.2 p.1.parts) := fq3
    have HQL : Hid (qs.length = n) := by show _ = _; rw [hql, hn]
    have hMc := kM.lt
    have hKl := KF.out.lt
    obtain ⟨y0, y1, y2⟩ := KF.out.three
    clear kM hCl fq1 fq2 fq3 efv hql hn
    go_wp2_with fail
    refine region_chain (by kernel_rfl) (by kernel_rfl) [.quiet (.pointer (some ⟨M, 0, none⟩)) 4, .quiet (.pointer (some ⟨M, 0, none⟩)) 4, .quiet (.pointer (some ⟨M, 0, none⟩)) 4, .quiet (.pointer (some ⟨M, 0, none⟩)) 4, .quiet (.pointer (some ⟨M, 0, none⟩)) 4, .quiet (.slice fa n fc) 2, .quiet (.agg #[.int .i64 t, .bool k, .slice pa pn pc]) 0, .step 0, .step 1, .step 2, .quiet (.pointer (some ⟨M, 0, none⟩)) 4, .quiet (.pointer (some ⟨M, 0, none⟩)) 4, .quiet (.pointer (some ⟨M, 0, none⟩)) 4, .step 3] [7, 8, 9, 13] (by kernel_rfl)
      (fun s r w' => match s with
        | 0 => Below wc.heap.size wc w'
        | 1 => ∃ a c, r 0 = .agg #[.int .i64 t, .bool k, .slice a pn c] ∧ StrsIn (fun g => wc.heap.size ≤ g) w' (.slice a pn c) parts ∧ Below wc.heap.size wc w'
        | 2 => ∃ a c V, StrsIn (fun g => wc.heap.size ≤ g) V (.slice a pn c) parts ∧ Below wc.heap.size wc V ∧ w' = V.alloc (.cells #[.int .i64 t, .bool k, .slice a pn c] 39) ∧ r 1 = .slice (some ⟨V.heap.size, 0, none⟩) 1 1
        | 3 => ∃ a c V, StrsIn (fun g => wc.heap.size ≤ g) V (.slice a pn c) parts ∧ Below wc.heap.size wc V ∧ w'.ownsRow base 39 3 (r 2) (n + 1) (frCells qs ++ [.int .i64 t, .bool k, .slice a pn c]) ∧ (V.alloc (.cells #[.int .i64 t, .bool k, .slice a pn c] 39)).grownBy w' fv'.ownBlock ∧ ((r 2).ownBlock = fv'.ownBlock ∨ ∀ g, (r 2).ownBlock = some g → (V.alloc (.cells #[.int .i64 t, .bool k, .slice a pn c] 39)).heap.size ≤ g)
        | _ => ∃ a c V w2 v', StrsIn (fun g => wc.heap.size ≤ g) V (.slice a pn c) parts ∧ Below wc.heap.size wc V ∧ w2.ownsRow base 39 3 v' (n + 1) (frCells qs ++ [.int .i64 t, .bool k, .slice a pn c]) ∧ (V.alloc (.cells #[.int .i64 t, .bool k, .slice a pn c] 39)).grownBy w2 fv'.ownBlock ∧ (v'.ownBlock = fv'.ownBlock ∨ ∀ g, v'.ownBlock = some g → (V.alloc (.cells #[.int .i64 t, .bool k, .slice a pn c] 39)).heap.size ≤ g) ∧ w' = w2.setCell ⟨M, 0, none⟩ v') ((Below.refl _ wc).drew) ?step ?fin
    case step =>
      intro i o ho a' w' s r hI hfree hvals
      have f0 : a'.eval (.tmp 0) = .pointer (some ⟨M, 0, none⟩) := (hfree 0 (by kernel_rfl)).trans rfl
      have f3 : a'.eval (.tmp 3) = .pointer (some ⟨w.heap.size, 0, none⟩) := (hfree 3 (by kernel_rfl)).trans rfl
      match i, ho with
      | 0, ho | 1, ho =>
        simp at ho; subst ho
        show s ≤ 4 → (execOp a'.eval _).run _ w' = .ok (.value _) w'
        intro _
        generalize a'.eval = ρ at *
        simp [execOp, go_sem, f0]
      | 2, ho =>
        simp at ho; subst ho
        have e1 : a'.eval (.tmp 13) = .pointer (some ⟨M, 0, none⟩) := hvals 1 _ _ (by kernel_rfl) rfl rfl
        show s ≤ 4 → (execOp a'.eval _).run _ w' = .ok (.value _) w'
        intro _
        generalize a'.eval = ρ at *
        simp [execOp, go_sem, e1]
      | 3, ho =>
        simp at ho; subst ho
        have e1 : a'.eval (.tmp 14) = .pointer (some ⟨M, 0, none⟩) := hvals 2 _ _ (by kernel_rfl) rfl rfl
        show s ≤ 4 → (execOp a'.eval _).run _ w' = .ok (.value _) w'
        intro _
        generalize a'.eval = ρ at *
        simp [execOp, go_sem, e1]
      | 4, ho =>
        simp at ho; subst ho
        have e1 : a'.eval (.tmp 15) = .pointer (some ⟨M, 0, none⟩) := hvals 3 _ _ (by kernel_rfl) rfl rfl
        show s ≤ 4 → (execOp a'.eval _).run _ w' = .ok (.value _) w'
        intro _
        generalize a'.eval = ρ at *
        simp [execOp, go_sem, e1]
      | 5, ho =>
        simp at ho; subst ho
        have e1 : a'.eval (.tmp 16) = .pointer (some ⟨M, 0, none⟩) := hvals 4 _ _ (by kernel_rfl) rfl rfl
        show s ≤ 2 → (execOp a'.eval _).run _ w' = .ok (.value _) w'
        intro hs
        have hc : w'.cell? ⟨M, 0, none⟩ = some (.slice fa n fc) := by
          match s, hs, hI with
          | 0, _, hI => exact (Below.cell hI (p := ⟨M, 0, none⟩) hMc).trans k0
          | 1, _, ⟨_, _, _, _, hI⟩ => exact (Below.cell hI (p := ⟨M, 0, none⟩) hMc).trans k0
          | 2, _, ⟨_, _, V, _, hI, hw, _⟩ => rw [hw]; exact (World.cell?_alloc_past _ _ _ (Nat.lt_of_lt_of_le hMc hI.size)).trans ((Below.cell hI (p := ⟨M, 0, none⟩) hMc).trans k0)
        generalize a'.eval = ρ at *
        simp [execOp, go_sem, e1, hc]
      | 6, ho =>
        simp at ho; subst ho
        show s ≤ 0 → (execOp a'.eval _).run _ w' = .ok (.value _) w'
        intro hs
        have hB : Below wc.heap.size wc w' := by
          match s, hs, hI with
          | 0, _, hI => exact hI
        have z0 := (hB.cell (p := ⟨w.heap.size, 0, none⟩) hKl).trans y0
        have z1 := (hB.cell (p := ⟨w.heap.size, 1, none⟩) hKl).trans y1
        have z2 := (hB.cell (p := ⟨w.heap.size, 2, none⟩) hKl).trans y2
        generalize a'.eval = ρ at *
        simp [execOp, go_sem, f3, z0, z1, z2]
      | 7, ho =>
        simp at ho; subst ho
        have e1 : a'.eval (.tmp 18) = .agg #[.int .i64 t, .bool k, .slice pa pn pc] := hvals 6 _ _ (by kernel_rfl) rfl rfl
        have ef : a'.eval (.func 64) = .func (.func 64) #[] #[] := rfl
        show s = 0 → Oper.wp _ _ _ _ _ _
        intro hs
        subst hs
        have hB : Below wc.heap.size wc w' := hI
        refine oper_wp_call (f := 64) (args := #[.agg #[.int .i64 t, .bool k, .slice pa pn pc]]) ?_ ?_
        · generalize a'.eval = ρ at *
          simp [execOp, go_sem, e1, ef]
        · refine (HCF.out w' (SP.out.below hB)).mono ?_
          rintro e w'' ⟨a, c, rfl, hs1, hb1⟩
          refine ⟨_, rfl, _, rfl, a, c, updR_at _ _ _, hs1.mono (fun g _ hg => Nat.le_trans hB.size hg), hB.trans (hb1.mono hB.size)⟩
      | 8, ho =>
        simp at ho; subst ho
        have e1 : a'.eval (.tmp 19) = r 0 := hvals 7 _ _ (by kernel_rfl) rfl rfl
        show s = 1 → Oper.wp _ _ _ _ _ _
        intro hs
        subst hs
        obtain ⟨a, c, hr0, h1, h2⟩ := hI
        rw [hr0] at e1
        refine oper_wp_ok (v := .slice (some ⟨w'.heap.size, 0, none⟩) 1 1) (w' := w'.alloc (.cells #[.int .i64 t, .bool k, .slice a pn c] 39)) ?_ ⟨_, rfl, a, c, w', h1, h2, rfl, updR_at _ _ _⟩
        generalize a'.eval = ρ at *
        simp [execOp, go_sem, e1]
      | 9, ho =>
        simp at ho; subst ho
        have e1 : a'.eval (.tmp 17) = .slice fa n fc := hvals 5 _ _ (by kernel_rfl) rfl rfl
        have e2 : a'.eval (.tmp 20) = r 1 := hvals 8 _ _ (by kernel_rfl) rfl rfl
        show s = 2 → Oper.wp _ _ _ _ _ _
        intro hs
        subst hs
        obtain ⟨a, c, V, h1, h2, hw, hr1⟩ := hI
        rw [hr1] at e2
        subst hw
        have hV := h2.size
        have hown : (V.alloc (.cells #[.int .i64 t, .bool k, .slice a pn c] 39)).ownsRow base 39 3 fv' n (frCells qs) := (owns_below FQ2.out h2 (Nat.le_refl _)).alloc _
        obtain ⟨v', w2, hrun, g2, g3, g4⟩ := run_append_own2 (P := Try.prog) (V.alloc (.cells #[.int .i64 t, .bool k, .slice a pn c] 39)) base 32 32 39 i0 _ 3 40 Try.underlying32 hi hz0 hz1 hz2 rfl (by decide) fv' n (frCells qs) hown ⟨V.heap.size, 0, none⟩ 1 1 [.int .i64 t, .bool k, .slice a pn c] rfl (fun j u hj => by
            rw [Addr.add_lit, Nat.zero_add]
            exact (Blk.new V #[.int .i64 t, .bool k, .slice a pn c] 39).cell (by simpa using hj)) (fun u hu => by simp at hu; rcases hu with rfl | rfl | rfl <;> rfl) (by unfold maxLen; omega) (by omega) (by simp; omega)
        rw [HE1.out] at hrun
        refine oper_wp_ok (v := v') (w' := w2) ?_ ⟨_, rfl, a, c, V, h1, h2, ?_⟩
        · generalize a'.eval = ρ at *
          simp [execOp, resolve, invoke, builtin, e1, e2, hrun, Result.andThen]
        · rw [updR_at]
          exact ⟨g2, g3, g4⟩
      | 10, ho =>
        simp at ho; subst ho
        have e1 : a'.eval (.tmp 12) = .pointer (some ⟨M, 0, none⟩) := hvals 0 _ _ (by kernel_rfl) rfl rfl
        show s ≤ 4 → (execOp a'.eval _).run _ w' = .ok (.value _) w'
        intro _
        generalize a'.eval = ρ at *
        simp [execOp, go_sem, e1]
      | 11, ho =>
        simp at ho; subst ho
        have e1 : a'.eval (.tmp 22) = .pointer (some ⟨M, 0, none⟩) := hvals 10 _ _ (by kernel_rfl) rfl rfl
        show s ≤ 4 → (execOp a'.eval _).run _ w' = .ok (.value _) w'
        intro _
        generalize a'.eval = ρ at *
        simp [execOp, go_sem, e1]
      | 12, ho =>
        simp at ho; subst ho
        have e1 : a'.eval (.tmp 23) = .pointer (some ⟨M, 0, none⟩) := hvals 11 _ _ (by kernel_rfl) rfl rfl
        show s ≤ 4 → (execOp a'.eval _).run _ w' = .ok (.value _) w'
        intro _
        generalize a'.eval = ρ at *
        simp [execOp, go_sem, e1]
      | 13, ho =>
        simp at ho; subst ho
        have e1 : a'.eval (.tmp 24) = .pointer (some ⟨M, 0, none⟩) := hvals 12 _ _ (by kernel_rfl) rfl rfl
        have e2 : a'.eval (.tmp 21) = r 2 := hvals 9 _ _ (by kernel_rfl) rfl rfl
        show s = 3 → Oper.wp _ _ _ _ _ _
        intro hs
        subst hs
        obtain ⟨a, c, V, h1, h2, g2, g3, g4⟩ := hI
        obtain ⟨va, vc, ev, _⟩ := owns_cap g2
        have hV := h2.size
        have kM2 : Blk w' M #[fv', cv'] 106 := (g3.block M (by simp; omega) (fun e => MK.out.fneM e.symm)).trans ((MK.out.1.below h2 hMc).alloc _)
        have z0 := kM2.two.1
        have z1 := kM2.free 0
        refine oper_wp_skip (w' := w'.setCell ⟨M, 0, none⟩ (r 2)) ?_ ⟨_, rfl, a, c, V, w', r 2, h1, h2, g2, g3, g4, rfl⟩
        rw [ev] at e2 ⊢
        generalize a'.eval = ρ at *
        simp [execOp, go_sem, e1, e2, z0, z1]
      | i + 14, ho => simp at ho
    case fin =>
      rintro r w' ⟨a, c, V, w2, v', h1, h2, g2, g3, g4, hw⟩
      have hmk := MK.out
      have hV := h2.size
      have hsz2 := g3.size
      simp only [World.size_alloc] at hsz2
      have kM2 : Blk w2 M #[fv', cv'] 106 := (g3.block M (by simp; omega) (fun e => hmk.fneM e.symm)).trans ((hmk.1.below h2 hMc).alloc _)
      have hvM : v'.ownBlock ≠ some M := fun e => by
        rcases g4 with g4 | g4
        · rw [g4] at e; exact hmk.fneM e
        · have := g4 M e; simp at this; omega
      have hnew : ∀ g, g < V.heap.size → some g ≠ fv'.ownBlock → some g ≠ v'.ownBlock := fun g hg h1 e => by
        rcases g4 with g4 | g4
        · rw [g4] at e; exact h1 e
        · have := g4 g e.symm; simp at this; omega
      have hsm : SameOn (fun g => g < V.heap.size ∧ some g ≠ fv'.ownBlock) V w2 := ⟨by omega, fun g hg h2 => by
        rw [g3.block g (by simp; omega) h2.2]
        exact Below.heap_alloc V _ g hg⟩
      have hsm2 : SameOn (GS base M fv' cv') wc w2 := (SameOn.of_below h2).trans (hsm.mono' (fun g hg hs => ⟨hg, hs.2.2.1⟩))
      have hSS : ∀ g, g < wc.heap.size → GS base M fv' cv' g → GS base M v' cv' g := fun g hg hs => ⟨hs.1, hs.2.1, hnew g (by omega) hs.2.2.1, hs.2.2.2⟩
      have hcb : ∀ g, cv'.ownBlock = some g → w2.heap[g]? = wc.heap[g]? := fun g hg => by
        have h3 := (hmk.2.2.lt g hg).2
        rw [hsm.2 g (by omega) ⟨by omega, fun e => hmk.fnec g e.symm hg⟩]
        exact h2.block g h3
      have hp2 : StrsIn (GS base M v' cv') w2 (.slice a pn c) parts := by
        refine (h1.mono (S' := fun g => wc.heap.size ≤ g ∧ g < V.heap.size) (fun g hg h => ⟨h, hg⟩)).to (hsm.mono (fun g hg => ⟨hg.2, fun e => by have := (hmk.2.1.lt g e.symm).2; omega⟩)) (fun g hg hs => ⟨?_, ?_, ?_, ?_⟩)
        · have := hmk.1.lt; omega
        · omega
        · exact hnew g hs.2 (fun e => by have := (hmk.2.1.lt g e.symm).2; omega)
        · exact fun e => by have := (hmk.2.2.lt g e.symm).2; omega
      have hof : OwnFrs base (GS base M v' cv') w2 v' (o' ++ [⟨t, k, parts⟩]) := by
        refine ⟨qs ++ [(⟨t, k, parts⟩, .slice a pn c)], by rw [List.map_append, FQ1.out]; rfl, by rw [List.length_append, frCells_append, HQL.out]; exact g2, fun p hp => ?_⟩
        rcases List.mem_append.1 hp with hp | hp
        · exact (FQ3.out p hp).to hsm2 hSS
        · simp at hp; subst hp; exact hp2
      have hoc : OwnGrs base (GS base M v' cv') w2 cv' C := hmk.2.2.to hsm2 hSS hcb
      have set0 : SameOn (GS base M v' cv') w2 (w2.setCell ⟨M, 0, none⟩ v') := SameOn.setCell (fun g hg => hg.2.1) _
      have FIN : Hid (GMake base M (w2.setCell ⟨M, 0, none⟩ v') R C) := ⟨v', cv', kM2.set 0 _, by
          rw [HR.out]
          exact hof.to set0 (fun _ _ h => h) (fun g hg => Below.heap_setCell _ _ _ _ (fun e => hvM (by rw [hg]; exact congrArg some e))),
        hoc.to set0 (fun _ _ h => h) (fun g hg => Below.heap_setCell _ _ _ _ (fun e => hmk.cneM (by rw [hg]; exact congrArg some e)))⟩
      have BEL : Hid (Below base w (w2.setCell ⟨M, 0, none⟩ v')) := (((BC.out.trans (h2.mono (by have := hmk.1.lt; omega))).alloc (by have := hmk.1.lt; omega) _).grown g3 (by have := hmk.1.lt; simp; omega) (fun j hj => (hmk.2.1.lt j hj).1)).setCell (by exact hbM) _
      subst hw
      simp only [putC, Ck.out]
      clear hof hoc hp2 hSS hsm2 hcb hsm hnew g2 g3 g4 kM2 k0 y0 y1 y2 set0
      go_wp2
      go_end0
      exact ⟨rfl, FIN.out, BEL.out⟩

end Go.Proofs.Ytnpaejknoipicae
