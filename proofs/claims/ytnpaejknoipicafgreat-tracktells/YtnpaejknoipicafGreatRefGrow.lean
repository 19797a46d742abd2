/-
  Contract: the document's GrowOf.
-/
import Derived.Test.YtnpaejknoipicafGreatNestApp
import Derived.Test.YtnpaejknoipicafGreatGroupPlain
import Derived.Test.YtnpaejknoipicafGreatRegApp3
import Derived.Test.YtnpaejknoipicafGreatQuietSkip
import Derived.Test.YtnpaejknoipicafGreatRegChain
namespace Go.Proofs.YtnpaejknoipicafGreat
open Go.RowKit

theorem Blk.drewN {w : World} {b : Nat} {C : Array Value} {t : TypeId} (h : Blk w b C t) (k : Nat) : Blk (w.drewN k) b C t := h

theorem FrsIn.one {S : Nat → Prop} {w : World} {b : Nat} {f : Fr} {pv : Value} (hb : Blk w b #[.int .i64 f.time, .bool f.key, pv] 30) (hS : S b) (hp : StrsIn S w pv f.parts) : FrsIn S w (.slice (some ⟨b, 0, none⟩) 1 1) [f] := by
  refine ⟨some ⟨b, 0, none⟩, 1, rfl, Nat.le_refl _, by omega, fun k hk => ⟨b, 0, rfl, hb.lt, hS, pv, ?_⟩⟩
  have : k = 0 := by simpa using hk
  subst this
  obtain ⟨c0, c1, c2⟩ := hb.three
  exact ⟨c0, c1, c2, hp⟩

set_option maxHeartbeats 4000000 in
set_option maxRecDepth 100000 in
theorem growOf_any (S : Nat → Prop) (gv : Value) (g : List Fr) (f : Fr) (pv : Value) (w : World) (hg : FrsIn S w gv g) (hp : StrsIn S w pv f.parts) (h6 : g.length ≤ 6) :
    Calls Tryz.prog 53 #[.agg #[gv], .agg #[.int .i64 f.time, .bool f.key, pv]] w fun e w' => ∃ a c, e = .returned (.tuple #[.agg #[.slice a (growG g f).length c], .bool (f.key && decide (0 < g.length))]) ∧ FrsIn (fun b => S b ∨ w.heap.size ≤ b) w' (.slice a (growG g f).length c) (growG g f) ∧ Below w.heap.size w w' := by
  obtain ⟨i0, hi, hz0, hz1, hz2⟩ := info_parts Tryz.infoFrm
  obtain ⟨ga, gc, eg, _, _⟩ := hg.len
  obtain ⟨pa, pc, ep⟩ := hp.1.len
  obtain ⟨n, hn⟩ : ∃ n, n = g.length := ⟨_, rfl⟩
  obtain ⟨pn, hpn⟩ : ∃ n, n = f.parts.length := ⟨_, rfl⟩
  rw [← hn] at eg h6
  rw [← hpn] at ep
  obtain ⟨R, hR⟩ : ∃ R, R = growG g f := ⟨_, rfl⟩
  obtain ⟨m, hm⟩ : ∃ m, m = R.length := ⟨_, rfl⟩
  rw [← hR, ← hm, ← hn]
  have HG : Hid (FrsIn S w gv g) := hg
  have HP : Hid (StrsIn S w pv f.parts) := hp
  have HN : Hid (n = g.length) := hn
  have HM : Hid (m = R.length) := hm
  obtain ⟨time, key, parts⟩ := f
  have HR : Hid (R = growG g ⟨time, key, parts⟩) := hR
  clear hg hp hn hR hm hpn
  simp only at HP ⊢
  subst eg ep
  cases key
  case true =>
    have e1 : R = [⟨time, true, parts⟩] := by rw [HR.out]; rfl
    have e2 : m = 1 := by rw [HM.out, e1]; rfl
    rw [e2, e1]
    go_enter Tryz.func53, Tryz.ntmps53
    go_wp2_with fail
    refine bodyPost_ret (v := .tuple #[.agg #[.slice (some ⟨w.heap.size + 1 + 1 + 1, 0, none⟩) 1 1], .bool (decide (0 < n))]) (by simp [results, Tryz.results53, go_sem]) rfl ⟨some ⟨w.heap.size + 1 + 1 + 1, 0, none⟩, 1, by simp, ?_, by repeat first | exact Below.refl _ _ | refine Below.alloc ?_ (by simp <;> omega) _⟩
    refine FrsIn.one (f := ⟨time, true, parts⟩) (pv := .slice pa pn pc) ?_ (.inr (by omega)) ?_
    · have := Blk.new (((w.alloc (.cells #[.slice ga n gc] 25)).alloc (.cells #[.int .i64 time, .bool true, .slice pa pn pc] 30)).alloc (.cells #[.slice (some ⟨w.heap.size + 1 + 1 + 1, 0, none⟩) 1 1] 25)) #[.int .i64 time, .bool true, .slice pa pn pc] 30
      simpa using this
    · exact ((((HP.out.alloc _).alloc _).alloc _).alloc _).mono fun _ _ h => .inl h
  have HSAME : Hid (∀ V : World, Below w.heap.size w V → R = g → ∃ a c, Value.tuple #[.agg #[.slice ga n gc], .bool false] = .tuple #[.agg #[.slice a m c], .bool (false && decide (0 < n))] ∧ FrsIn (fun b => S b ∨ w.heap.size ≤ b) V (.slice a m c) R) := fun V hV e => by
    have em : m = n := by rw [HM.out, HN.out, e]
    rw [em, e]
    exact ⟨ga, gc, by simp, (HG.out.below hV).mono fun _ _ h => .inl h⟩
  by_cases hn0 : n = 0
  · have hRg : R = g := by rw [HR.out]; unfold growG; rw [if_neg (by simp), if_pos (.inl (by rw [← HN.out]; exact hn0))]
    have HRG : Hid (R = g) := hRg
    clear hRg
    subst hn0
    go_enter Tryz.func53, Tryz.ntmps53
    go_wp2_with fail
    go_quiet (fail)
    go_wp2
    have bel : ∀ k, Below w.heap.size w (((((w.alloc (.cells #[.slice ga 0 gc] 25)).alloc (.cells #[.int .i64 time, .bool false, .slice pa pn pc] 30)).alloc (.cells #[.slice none 0 0] 25)).drewN k).setCell ⟨w.heap.size + 1 + 1, 0, none⟩ (.slice ga 0 gc)) := fun k => (by repeat first | exact Below.refl _ _ | refine Below.setCell ?_ (by simp <;> omega) _ | refine below_drewN ?_ _ | refine Below.alloc ?_ (by simp <;> omega) _)
    obtain ⟨a, c, e1, e2⟩ := HSAME.out _ (bel _) HRG.out
    exact bodyPost_ret (v := .tuple #[.agg #[.slice ga 0 gc], .bool false]) (by simp [results, Tryz.results53, go_sem]) rfl ⟨a, c, congrArg Ending.returned e1, e2, bel _⟩
  by_cases hn6 : n = 6
  · have hRg : R = g := by rw [HR.out]; unfold growG; rw [if_neg (by simp), if_pos (.inr (.inl (by rw [← HN.out]; omega)))]
    have HRG : Hid (R = g) := hRg
    clear hRg hn0
    subst hn6
    go_enter Tryz.func53, Tryz.ntmps53
    go_wp2_with fail
    go_quiet (fail)
    go_wp2
    have bel : ∀ k, Below w.heap.size w (((((w.alloc (.cells #[.slice ga 6 gc] 25)).alloc (.cells #[.int .i64 time, .bool false, .slice pa pn pc] 30)).alloc (.cells #[.slice none 0 0] 25)).drewN k).setCell ⟨w.heap.size + 1 + 1, 0, none⟩ (.slice ga 6 gc)) := fun k => (by repeat first | exact Below.refl _ _ | refine Below.setCell ?_ (by simp <;> omega) _ | refine below_drewN ?_ _ | refine Below.alloc ?_ (by simp <;> omega) _)
    obtain ⟨a, c, e1, e2⟩ := HSAME.out _ (bel _) HRG.out
    exact bodyPost_ret (v := .tuple #[.agg #[.slice ga 6 gc], .bool false]) (by simp [results, Tryz.results53, go_sem]) rfl ⟨a, c, congrArg Ending.returned e1, e2, bel _⟩
  obtain ⟨ao, c', eg, _, _, hc⟩ := HG.out
  rw [← HN.out] at eg
  injection eg with eg eg1 eg2
  subst eg eg2
  obtain ⟨b, off, e1, hb, hSb, pv', c0, _⟩ := hc (n - 1) (by rw [← HN.out]; omega)
  obtain ⟨n1, hn1⟩ : ∃ n1, n1 = n - 1 := ⟨_, rfl⟩
  rw [← hn1] at c0
  obtain ⟨t', ht'⟩ : ∃ t', t' = (frAt g n1).time := ⟨_, rfl⟩
  rw [show (g[n1]?.getD Fr.zero).time = t' from ht'.symm] at c0
  subst e1
  have HT : Hid (t' = (frAt g (g.length - 1)).time) := by show _ = _; rw [ht', hn1, HN.out]
  have hn1i : (n : Int) - 1 = (n1 : Int) := by omega
  have hn1l : (n1 : Int) < (n : Int) := by omega
  have hn1w : IntKind.i64.wrap (n1 : Int) = (n1 : Int) := by rw [IntKind.wrap_i64]; omega
  have hb1 : b < w.heap.size + 1 := by omega
  have hb2 : b < w.heap.size + 1 + 1 := by omega
  have hn0i : ((n : Int) == 0) = false := by simp; omega
  have hn6i : ((n : Int) == 6) = false := by simp; omega
  have hn0j : ¬ (n : Int) = 0 := by omega
  have hn6j : ¬ (n : Int) = 6 := by omega
  clear hc ht' hn1
  by_cases htl : time < t'
  · have hRg : R = g := by rw [HR.out]; unfold growG; rw [if_neg (by simp), if_pos (.inr (.inr (by rw [← HT.out]; exact htl)))]
    have HRG : Hid (R = g) := hRg
    clear hRg
    have htd : decide (time < t') = true := decide_eq_true htl
    go_enter Tryz.func53, Tryz.ntmps53
    go_wp2_with fail
    go_quiet (fail)
    go_wp2
    have bel : ∀ k, Below w.heap.size w (((((w.alloc (.cells #[.slice (some ⟨b, off, none⟩) n gc] 25)).alloc (.cells #[.int .i64 time, .bool false, .slice pa pn pc] 30)).alloc (.cells #[.slice none 0 0] 25)).drewN k).setCell ⟨w.heap.size + 1 + 1, 0, none⟩ (.slice (some ⟨b, off, none⟩) n gc)) := fun k => (by repeat first | exact Below.refl _ _ | refine Below.setCell ?_ (by simp <;> omega) _ | refine below_drewN ?_ _ | refine Below.alloc ?_ (by simp <;> omega) _)
    obtain ⟨a, c, e1, e2⟩ := HSAME.out _ (bel _) HRG.out
    exact bodyPost_ret (v := .tuple #[.agg #[.slice (some ⟨b, off, none⟩) n gc], .bool false]) (by simp [results, Tryz.results53, go_sem]) rfl ⟨a, c, congrArg Ending.returned e1, e2, bel _⟩
  · have hRg : R = g ++ [⟨time, false, parts⟩] := by
      rw [HR.out]; unfold growG
      rw [if_neg (by simp), if_neg (by rw [← HT.out, ← HN.out]; simp only; omega)]
    have HRG : Hid (R = g ++ [⟨time, false, parts⟩]) := hRg
    have HM1 : Hid (m = n + 1) := by show _ = _; rw [HM.out, hRg, HN.out]; simp
    clear hRg
    have htd : decide (time < t') = false := decide_eq_false htl
    go_enter Tryz.func53, Tryz.ntmps53
    go_wp2_with fail
    go_quiet (fail)
    obtain ⟨ps, q1, q2, q3⟩ := HG.out.sl
    have hpl : ps.length = n := by rw [HN.out, ← q1]; simp
    rw [hpl] at q2
    obtain ⟨V, hV⟩ : ∃ V, V = (((w.alloc (.cells #[.slice (some ⟨b, off, none⟩) n gc] 25)).alloc (.cells #[.int .i64 time, .bool false, .slice pa pn pc] 30)).alloc (.cells #[.slice none 0 0] 25)).drewN nq := ⟨_, rfl⟩
    have BV : Below w.heap.size w V := by rw [hV]; repeat first | exact Below.refl _ _ | refine below_drewN ?_ _ | refine Below.alloc ?_ (by simp <;> omega) _
    have KG : Blk V w.heap.size #[.slice (some ⟨b, off, none⟩) n gc] 25 := by rw [hV]; exact ((Blk.new w _ _).alloc _).alloc _
    have KF : Blk V (w.heap.size + 1) #[.int .i64 time, .bool false, .slice pa pn pc] 30 := by
      have := (Blk.new (w.alloc (.cells #[.slice (some ⟨b, off, none⟩) n gc] 25)) #[.int .i64 time, .bool false, .slice pa pn pc] 30).alloc (.cells #[.slice none 0 0] 25)
      rw [hV]; exact (by simpa using this : Blk _ _ _ _).drewN _
    have KR : Blk V (w.heap.size + 1 + 1) #[.slice none 0 0] 25 := by
      have := Blk.new ((w.alloc (.cells #[.slice (some ⟨b, off, none⟩) n gc] 25)).alloc (.cells #[.int .i64 time, .bool false, .slice pa pn pc] 30)) #[.slice none 0 0] 25
      rw [hV]; exact (by simpa using this : Blk _ _ _ _).drewN _
    have hpS : StrsIn S V (.slice pa pn pc) parts := HP.out.below BV
    have happ : App1 Tryz.prog V 23 30 23 3 n (frCells ps) (.slice (some ⟨b, off, none⟩) n gc) :=
      app1_any V _ _ _ i0 _ 3 40 Tryz.underlying23 hi hz0 hz1 hz2 rfl (by decide) n (frCells ps) _ (q2.below BV) (fr_one2 q3) (by unfold maxLen; omega) (by omega)
    go_wp2_with fail
    rw [← hV]
    clear hV c0
    refine region_app3 (t := [_, _]) (fun v => .agg #[v]) (by kernel_rfl) (by kernel_rfl) (by kernel_rfl) (by kernel_rfl) (by kernel_rfl) 23 30 i0 _ 3 40 Tryz.underlying23 hi hz0 hz1 hz2 rfl (by decide) 36 37 38 39 40 41 42 43 2 rfl rfl rfl rfl rfl rfl rfl rfl (by rfl) n (frCells ps) (.slice (some ⟨b, off, none⟩) n gc) happ
      [.int .i64 time, .bool false, .slice pa pn pc] rfl ?hx1 (.pointer (some ⟨w.heap.size, 0, none⟩)) (.agg #[.int .i64 time, .bool false, .slice pa pn pc]) 3 (by rfl) ?r0 ?r1 ?r2 rfl ?r4 ?r5 rfl ?r7 (by unfold maxLen; omega) (by omega) ?fin
    case hx1 => intro u hu; simp at hu; rcases hu with rfl | rfl | rfl <;> rfl
    case r0 =>
      intro a' w'
      generalize a'.eval = ρ
      simp [execOp, go_sem]
    case r1 =>
      intro a' w' h
      have h2 : a'.eval (.tmp 2) = .pointer (some ⟨w.heap.size, 0, none⟩) := h.trans rfl
      clear h
      generalize a'.eval = ρ at *
      simp [execOp, go_sem, h2]
    case r2 =>
      intro a' w' h hb
      have c1 := (KG.below hb KG.lt).one
      generalize a'.eval = ρ at *
      simp [execOp, go_sem, h, c1]
    case r4 =>
      intro a' w' h hb
      have h2 : a'.eval (.tmp 3) = .pointer (some ⟨w.heap.size + 1, 0, none⟩) := h.trans rfl
      obtain ⟨y0, y1, y2⟩ := (KF.below hb KF.lt).three
      clear h
      generalize a'.eval = ρ at *
      simp [execOp, go_sem, h2, y0, y1, y2]
    case r5 =>
      intro a' w' h
      generalize a'.eval = ρ at *
      simp [execOp, go_sem, h]
    case r7 =>
      intro a' w' x c h
      generalize a'.eval = ρ at *
      simp [execOp, go_sem, h]
    case fin =>
      intro u0 u3 u5 v7 w7 hown7 hb7
      obtain ⟨a2, c2, hv7⟩ := Sl.len (Sl.of_owns hown7)
      have B7 : Below w.heap.size w w7 := BV.trans (hb7.mono BV.size)
      have K7 := KR.below hb7 KR.lt
      have r1 := K7.one
      have r2 := K7.free 0
      have hsz7 := BV.size
      have hne : ∀ g, v7.ownBlock = some g → V.heap.size ≤ g := fun g hg => (hown7.lt g hg).1
      have hKR := KR.lt
      have O7 : OwnFrs V.heap.size (fun g => S g ∧ g < w.heap.size) w7 v7 (g ++ [⟨time, false, parts⟩]) := by
        refine ⟨ps ++ [(⟨time, false, parts⟩, .slice pa pn pc)], by rw [List.map_append, q1]; rfl, by rw [List.length_append, hpl, frCells_append]; exact hown7, fun p hpp => ?_⟩
        rcases List.mem_append.1 hpp with hpp | hpp
        · exact ((q3 p hpp).mono (S' := fun g => S g ∧ g < w.heap.size) fun g h1 h2 => ⟨h2, h1⟩).below B7
        · simp at hpp
          subst hpp
          exact (HP.out.mono (S' := fun g => S g ∧ g < w.heap.size) fun g h1 h2 => ⟨h2, h1⟩).below B7
      have F7 : FrsIn (fun g => (S g ∧ g < w.heap.size) ∨ V.heap.size ≤ g) w7 v7 (g ++ [⟨time, false, parts⟩]) := O7.frsIn (fun _ _ h => .inl h) (fun g hg => .inr (hne g hg))
      have F8 : FrsIn (fun b => S b ∨ w.heap.size ≤ b) (w7.setCell ⟨w.heap.size + 1 + 1, 0, none⟩ v7) v7 (g ++ [⟨time, false, parts⟩]) := by
        refine F7.to (SameOn.setCell (fun g hg => ?_) _) (fun g _ hg => ?_)
        · rcases hg with hg | hg
          · have := hg.2; simp; omega
          · simp; omega
        · rcases hg with hg | hg
          · exact .inl hg.1
          · exact .inr (by omega)
      have B8 : Below w.heap.size w (w7.setCell ⟨w.heap.size + 1 + 1, 0, none⟩ v7) := B7.setCell (by simp; omega) _
      have c8 : (w7.setCell ⟨w.heap.size + 1 + 1, 0, none⟩ v7).cell? ⟨w.heap.size + 1 + 1, 0, none⟩ = some v7 := (K7.set 0 v7).cell rfl
      have FR : Hid (FrsIn (fun b => S b ∨ w.heap.size ≤ b) (w7.setCell ⟨w.heap.size + 1 + 1, 0, none⟩ v7) v7 (g ++ [⟨time, false, parts⟩]) ∧ Below w.heap.size w (w7.setCell ⟨w.heap.size + 1 + 1, 0, none⟩ v7)) := ⟨F8, B8⟩
      subst hv7
      refine tl_skip2 (w7.setCell ⟨w.heap.size + 1 + 1, 0, none⟩ (.slice a2 (n + 1) c2)) (.tmp 4) (.tmp 43) (.pointer (some ⟨w.heap.size + 1 + 1, 0, none⟩)) (.agg #[.slice a2 (n + 1) c2]) (by kernel_rfl) (by kernel_rfl) (fun ρ e4 e43 => by simp [execOp, go_sem, e4, e43, r1, r2]) ?_
      refine tl_ok1 (.bool false) (.const (.bool false)) (.bool false) rfl (w' := w7.setCell ⟨w.heap.size + 1 + 1, 0, none⟩ (.slice a2 (n + 1) c2)) (fun ρ e => by simp [execOp, go_sem, e]) ?_
      generalize hU : w7.setCell ⟨w.heap.size + 1 + 1, 0, none⟩ _ = U at *
      clear hU r1 r2 K7 F7 O7 F8 B8 B7 hown7 hb7 happ
      refine tl_end ?_
      go_wp2_with fail
      rw [HM1.out, HRG.out]
      exact bodyPost_ret (v := .tuple #[.agg #[.slice a2 (n + 1) c2], .bool false]) (by simp [results, Tryz.results53, go_sem, c8]) rfl ⟨a2, c2, by simp, FR.out.1, FR.out.2⟩

end Go.Proofs.YtnpaejknoipicafGreat
