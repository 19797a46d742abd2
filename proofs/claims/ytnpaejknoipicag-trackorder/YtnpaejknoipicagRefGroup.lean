/-
  Contracts: the document's CheckGroup, SizeOf, SameGroups.
-/
import Derived.Test.YtnpaejknoipicagGroupPlain
import Derived.Test.YtnpaejknoipicagRefFrame
import Derived.BigQuiet
namespace Go.Proofs.Ytnpaejknoipicag
open Go.RowKit Go.Sort

set_option maxHeartbeats 1600000 in
theorem sameGroups_any (S S' : Nat → Prop) (u v : Value) (l m : List (List Fr)) (w : World) (hu : GrsIn S w u l) (hv : GrsIn S' w v m) :
    Calls Try.prog 39 #[u, v] w fun e w' => e = .returned (.bool (sameGs l m)) ∧ Below w.heap.size w w' := by
  obtain ⟨ao, c, rfl, hl1, hl2, hc⟩ := hu
  obtain ⟨bo, d, rfl, hm1, hm2, hd⟩ := hv
  by_cases hlm : l.length = m.length
  · have HC : Hid (∀ k, k < l.length → ∃ b off, ao = some ⟨b, off, none⟩ ∧ b < w.heap.size ∧ S b ∧ ∃ sv, w.cell? ⟨b, off + k, none⟩ = some sv ∧ FrsIn S w sv (l[k]?.getD [])) := hc
    have HD : Hid (∀ k, k < m.length → ∃ b off, bo = some ⟨b, off, none⟩ ∧ b < w.heap.size ∧ S' b ∧ ∃ sv, w.cell? ⟨b, off + k, none⟩ = some sv ∧ FrsIn S' w sv (m[k]?.getD [])) := hd
    obtain ⟨n, hn⟩ : ∃ n, n = l.length := ⟨_, rfl⟩
    have HN : Hid (n = l.length) := hn
    have HM : Hid (n = m.length) := hn.trans hlm
    rw [← hlm, ← hn]
    rw [← hlm] at hm1
    rw [← hn] at hl1 hm1
    clear hc hd hn hlm
    go_enter Try.func39, Try.ntmps39
    go_wp2
    go_loopw [5] (fun i wr => ∃ k : Nat, k ≤ n ∧ i = .int .i64 k ∧ Hid (∀ j, j < k → (l[j]?.getD []) = (m[j]?.getD [])) ∧ Hid (Below w.heap.size w wr))
      (fun i _ => n - (intOf i).toNat)
    case atStart => exact ⟨0, Nat.zero_le _, rfl, (show ∀ j, j < 0 → _ from fun j hj => absurd hj (Nat.not_lt_zero _)), Below.refl _ _⟩
    case round =>
      obtain ⟨k, hk, rfl, HK, HB⟩ := hrel
      by_cases hlt : k < n
      · obtain ⟨b, off, rfl, hb, _, sv, c0, hs⟩ := HC.out k (by rw [← HN.out]; exact hlt)
        obtain ⟨b2, off2, rfl, hb2, _, sv2, d0, hs2⟩ := HD.out k (by rw [← HM.out]; exact hlt)
        obtain ⟨x, hx⟩ : ∃ x, x = l[k]?.getD [] := ⟨_, rfl⟩
        obtain ⟨y, hy⟩ : ∃ y, y = m[k]?.getD [] := ⟨_, rfl⟩
        rw [← hx] at hs
        rw [← hy] at hs2
        have HX : Hid (x = l[k]?.getD []) := hx
        have HY : Hid (y = m[k]?.getD []) := hy
        have c1 := (HB.out.cell (p := ⟨b, off + k, none⟩) hb).trans c0
        have d1 := (HB.out.cell (p := ⟨b2, off2 + k, none⟩) hb2).trans d0
        obtain ⟨a1, a2, rfl, _, hxl⟩ := hs.len
        obtain ⟨b3, b4, rfl, _, _⟩ := hs2.len
        have f1 := (hs.below HB.out).frs
        have f2 := (hs2.below HB.out).frs
        obtain ⟨t, ht⟩ : ∃ t, t = sameFs x y := ⟨_, rfl⟩
        have HT : Hid (t = sameFs x y) := ht
        have cF : ∀ d os, Calls Try.prog 40 #[.slice a1 x.length a2, .slice b3 y.length b4] (grow (redrawn wr d) os) fun e w'' => e = .returned (.bool t) ∧ ∃ p : Regrown, w'' = grow (redrawn wr p.d) p.os := fun d os =>
          Calls.regrown_of (by
            rw [ht]
            exact sameFrames_any _ _ _ _ _ (f1.below (below_regrown wr d os)) (f2.below (below_regrown wr d os)) hxl)
        have z0 := cell_regrown c1
        have q0 := cell_regrown d1
        have hlti : (k : Int) < (n : Int) := by omega
        clear hx hy ht c0 c1 d0 d1 hs hs2 f1 f2
        go_wp2
        refine wp_region_quiet_below (by kernel_rfl) (by kernel_rfl) ?_
        repeat (quiet_step (exact cF _ _))
        refine wpQuiet_nil ?_
        intro _ hw'
        obtain ⟨⟨dq, osq⟩, hw''⟩ := hw'
        subst hw''
        have bR := below_regrown wr dq osq
        obtain ⟨V, hV⟩ : ∃ V, V = grow (redrawn wr dq) osq := ⟨_, rfl⟩
        rw [← hV] at bR
        have bV : Hid (Below w.heap.size w V) := HB.out.trans (bR.mono HB.out.size)
        rw [← hV]
        clear hV bR cF q0 z0
        cases t
        · go_wp2
          go_ret
          exact ⟨by rw [sameGs_at (k := k) (fun e => by rw [← HX.out, ← HY.out] at e; have := HT.out; rw [e] at this; simp [sameFs] at this)]; rfl, bV.out⟩
        · go_wp2
          go_roundw
          case rel =>
            refine ⟨k + 1, by omega, by go_num, (show ∀ j, j < k + 1 → _ from fun j hj => ?_), bV.out⟩
            by_cases e : j = k
            · subst e
              rw [← HX.out, ← HY.out]; exact of_decide_eq_true HT.out.symm
            · exact HK.out j (by omega)
          case measure => simp [intOf]; omega
      · have hkl : k = n := by omega
        subst hkl
        go_wp2
        go_ret
        exact ⟨by rw [sameGs_ext (HN.out.symm.trans HM.out) (fun j hj => HK.out j (by rw [HN.out]; exact hj))]; rfl, HB.out⟩
  · have hlm2 : ((l.length : Int) != (m.length : Int)) = true := by simp; omega
    have HLM : Hid (¬ l.length = m.length) := hlm
    clear hlm
    go_enter Try.func39, Try.ntmps39
    go_wp2
    go_ret
    exact ⟨by rw [sameGs_len HLM.out]; rfl, Below.refl _ _⟩

end Go.Proofs.Ytnpaejknoipicag
