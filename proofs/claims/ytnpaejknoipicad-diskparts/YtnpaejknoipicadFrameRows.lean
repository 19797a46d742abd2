/-
  Rows of frames, and a contract: the document's SameFrames.
-/
import Derived.Test.YtnpaejknoipicadRefFrame2
import Derived.Test.YtnpaejknoipicadMaker1
namespace Go.Proofs.Ytnpaejknoipicad
open Go.RowKit Go.Sort

structure Fr where
  time : Int
  key : Bool
  parts : List ByteArray
deriving DecidableEq
def Fr.zero : Fr := ⟨0, false, []⟩

/-- three cells that show a frame -/
def At3 (w : World) (b off : Nat) (f : Fr) : Prop := ∃ pv, w.cell? ⟨b, off, none⟩ = some (.int .i64 f.time) ∧ w.cell? ⟨b, off + 1, none⟩ = some (.bool f.key) ∧ w.cell? ⟨b, off + 2, none⟩ = some pv ∧ Strs w pv f.parts ∧ f.parts.length ≤ 9223372036854775807
theorem At3.below {w w' : World} {b off : Nat} {f : Fr} (h : At3 w b off f) (hb : Below w.heap.size w w') (hB : b < w.heap.size) : At3 w' b off f := by
  obtain ⟨pv, h0, h1, h2, h3, h4⟩ := h
  exact ⟨pv, (hb.cell hB).trans h0, (hb.cell hB).trans h1, (hb.cell hB).trans h2, h3.below hb, h4⟩
/-- v shows these frames in world w -/
def Frs (w : World) (v : Value) (l : List Fr) : Prop := ∃ ao c, v = .slice ao l.length c ∧ ∀ k, k < l.length → ∃ b off, ao = some ⟨b, off, none⟩ ∧ b < w.heap.size ∧ At3 w b (off + k * 3) (l[k]?.getD Fr.zero)
theorem Frs.below {w w' : World} {v : Value} {l : List Fr} (h : Frs w v l) (hb : Below w.heap.size w w') : Frs w' v l := by
  obtain ⟨ao, c, hv, hc⟩ := h
  refine ⟨ao, c, hv, fun k hk => ?_⟩
  obtain ⟨b, off, h1, h2, h3⟩ := hc k hk
  exact ⟨b, off, h1, Nat.lt_of_lt_of_le h2 hb.size, h3.below hb h2⟩
theorem Frs.len {w : World} {v : Value} {l : List Fr} (h : Frs w v l) : ∃ a c, v = .slice a l.length c := by
  obtain ⟨ao, c, hv, _⟩ := h
  exact ⟨ao, c, hv⟩
theorem Frs.nil (w : World) : Frs w (.slice none 0 0) [] := ⟨none, 0, rfl, fun _ hk => absurd hk (Nat.not_lt_zero _)⟩

theorem sameFB_iff (f g : Fr) : sameFB f.time g.time f.key g.key f.parts g.parts = true ↔ f = g := by
  obtain ⟨a, b, c⟩ := f
  obtain ⟨d, e, h⟩ := g
  simp [sameFB, sameS_iff]
def sameFs (l m : List Fr) : Bool := decide (l = m)
theorem sameFs_len {l m : List Fr} (h : ¬ l.length = m.length) : sameFs l m = false := decide_eq_false fun e => h (by rw [e])
theorem sameFs_at {l m : List Fr} {k : Nat} (hx : ¬ (l[k]?.getD Fr.zero) = (m[k]?.getD Fr.zero)) : sameFs l m = false := decide_eq_false fun e => hx (by rw [e])
theorem sameFs_ext {l m : List Fr} (hl : l.length = m.length) (h : ∀ k, k < l.length → (l[k]?.getD Fr.zero) = (m[k]?.getD Fr.zero)) : sameFs l m = true := by
  refine decide_eq_true (List.ext_getElem hl fun k h1 h2 => ?_)
  have := h k h1
  rw [List.getElem?_eq_getElem h1, List.getElem?_eq_getElem h2] at this
  exact this

set_option maxHeartbeats 1600000 in
theorem sameFrames_any (u v : Value) (l m : List Fr) (w : World) (hu : Frs w u l) (hv : Frs w v m) (hlen : l.length ≤ 9223372036854775807) :
    Calls Try.prog 15 #[u, v] w fun e w' => e = .returned (.bool (sameFs l m)) ∧ Below w.heap.size w w' := by
  obtain ⟨ao, c, rfl, hc⟩ := hu
  obtain ⟨bo, d, rfl, hd⟩ := hv
  by_cases hlm : l.length = m.length
  · have HC : Hid (∀ k, k < l.length → ∃ b off, ao = some ⟨b, off, none⟩ ∧ b < w.heap.size ∧ At3 w b (off + k * 3) (l[k]?.getD Fr.zero)) := hc
    have HD : Hid (∀ k, k < m.length → ∃ b off, bo = some ⟨b, off, none⟩ ∧ b < w.heap.size ∧ At3 w b (off + k * 3) (m[k]?.getD Fr.zero)) := hd
    obtain ⟨n, hn⟩ : ∃ n, n = l.length := ⟨_, rfl⟩
    have HN : Hid (n = l.length) := hn
    have HM : Hid (n = m.length) := hn.trans hlm
    rw [← hlm, ← hn]
    rw [← hn] at hlen
    clear hc hd hn hlm
    go_enter Try.func15, Try.ntmps15
    go_wp2
    go_loopw [5] (fun i wr => ∃ k : Nat, k ≤ n ∧ i = .int .i64 k ∧ Hid (∀ j, j < k → (l[j]?.getD Fr.zero) = (m[j]?.getD Fr.zero)) ∧ Hid (Below w.heap.size w wr))
      (fun i _ => n - (intOf i).toNat)
    case atStart => exact ⟨0, Nat.zero_le _, rfl, (show ∀ j, j < 0 → _ from fun j hj => absurd hj (Nat.not_lt_zero _)), Below.refl _ _⟩
    case round =>
      obtain ⟨k, hk, rfl, HK, HB⟩ := hrel
      by_cases hlt : k < n
      · obtain ⟨b, off, rfl, hb, hat⟩ := HC.out k (by rw [← HN.out]; exact hlt)
        obtain ⟨b2, off2, rfl, hb2, hat2⟩ := HD.out k (by rw [← HM.out]; exact hlt)
        obtain ⟨x, hx⟩ : ∃ x, x = l[k]?.getD Fr.zero := ⟨_, rfl⟩
        obtain ⟨y, hy⟩ : ∃ y, y = m[k]?.getD Fr.zero := ⟨_, rfl⟩
        rw [← hx] at hat
        rw [← hy] at hat2
        have HX : Hid (x = l[k]?.getD Fr.zero) := hx
        have HY : Hid (y = m[k]?.getD Fr.zero) := hy
        obtain ⟨pv, c0, c1, c2, c3, c4⟩ := hat.below HB.out hb
        obtain ⟨qv, d0, d1, d2, d3, d4⟩ := hat2.below HB.out hb2
        obtain ⟨a1, a2, rfl⟩ := c3.len
        obtain ⟨b3, b4, rfl⟩ := d3.len
        obtain ⟨t, ht⟩ : ∃ t, t = sameFB x.time y.time x.key y.key x.parts y.parts := ⟨_, rfl⟩
        have HT : Hid (t = sameFB x.time y.time x.key y.key x.parts y.parts) := ht
        have cF : ∀ d os, Calls Try.prog 46 #[.agg #[.int .i64 x.time, .bool x.key, .slice a1 x.parts.length a2], .agg #[.int .i64 y.time, .bool y.key, .slice b3 y.parts.length b4]] (grow (redrawn wr d) os) fun e w'' => e = .returned (.bool t) ∧ ∃ p : Regrown, w'' = grow (redrawn wr p.d) p.os := fun d os =>
          Calls.regrown_of (by
            rw [ht]
            exact sameFrame_any _ _ _ _ _ _ _ _ _ (c3.below (below_regrown wr d os)) (d3.below (below_regrown wr d os)) c4)
        have z0 := cell_regrown c0
        have z1 := cell_regrown c1
        have z2 := cell_regrown c2
        have q0 := cell_regrown d0
        have q1 := cell_regrown d1
        have q2 := cell_regrown d2
        have hlti : (k : Int) < (n : Int) := by omega
        clear hx hy ht c0 c1 c2 c3 c4 d0 d1 d2 d3 d4 hat hat2
        go_wp2
        refine wp_region_quiet_below (by kernel_rfl) (by kernel_rfl) ?_
        repeat (quiet_step (exact cF _ _))
        refine wpQuiet_nil ?_
        intro _ hw'
        obtain ⟨⟨dq, osq⟩, hw''⟩ := hw'
        subst hw''
        have bR := below_regrown wr dq osq
        obtain ⟨V, hV⟩ : ∃ V, V = grow (redrawn wr dq) osq := ⟨_, rfl⟩
        rw [← hV] at bR
        have bV : Hid (Below w.heap.size w V) := HB.out.trans (bR.mono HB.out.size)
        rw [← hV]
        clear hV bR cF q0 q1 q2 z0 z1 z2
        cases t
        · go_wp2
          go_ret
          exact ⟨by rw [sameFs_at (k := k) (fun e => by rw [← HX.out, ← HY.out, ← sameFB_iff, ← HT.out] at e; cases e)]; rfl, bV.out⟩
        · go_wp2
          go_roundw
          case rel =>
            refine ⟨k + 1, by omega, by go_num, (show ∀ j, j < k + 1 → _ from fun j hj => ?_), bV.out⟩
            by_cases e : j = k
            · subst e
              rw [← HX.out, ← HY.out, ← sameFB_iff]; exact HT.out.symm
            · exact HK.out j (by omega)
          case measure => simp [intOf]; omega
      · have hkl : k = n := by omega
        subst hkl
        go_wp2
        go_ret
        exact ⟨by rw [sameFs_ext (HN.out.symm.trans HM.out) (fun j hj => HK.out j (by rw [HN.out]; exact hj))]; rfl, HB.out⟩
  · have hlm2 : ((l.length : Int) != (m.length : Int)) = true := by simp; omega
    have HLM : Hid (¬ l.length = m.length) := hlm
    clear hlm
    go_enter Try.func15, Try.ntmps15
    go_wp2
    go_ret
    exact ⟨by rw [sameFs_len HLM.out]; rfl, Below.refl _ _⟩

end Go.Proofs.Ytnpaejknoipicad
