/-
  Contract: the document's PutOf.
-/
import Derived.Test.YtanefofheeecdabRefPut
import Derived.Test.YtanefofheeecdabRegApp
import Derived.Test.YtanefofheeecdabSwapRow
import Derived.Deep.DeepCutAuto
namespace Go.Proofs.Ytanefofheeecdab
open Go.RowKit

theorem sk_one (l : List Sk) : ∀ u ∈ skCells l, u.oneCell' = true := fun u hu => by
  obtain ⟨z, _, hz⟩ := List.mem_flatMap.1 hu
  exact oneSlot z u hz

set_option maxHeartbeats 4000000 in
set_option maxRecDepth 100000 in
theorem putOf_any (next : Int) (v : Value) (l : List Sk) (x : Sk) (w : World) (hv : Sls w v l) (hR : Right next l) (hx : x.chk = 0) :
    Calls Try.prog 17 #[.agg #[.int .i64 next, v], x.val] w fun e w' => ∃ hv' ov', e = .returned (.tuple #[.agg #[.int .i64 (putF next l x).1, hv'], ov']) ∧
      Sls w' hv' (putF next l x).2.1 ∧ Sls w' ov' (putF next l x).2.2 ∧ Below w.heap.size w w' ∧ (0 < (putF next l x).2.1.length → ∀ g, hv'.ownBlock = some g → (v.ownBlock = some g ∧ 0 < l.length) ∨ w.heap.size ≤ g) ∧ (∀ g, ov'.ownBlock = some g → w.heap.size ≤ g) := by
  obtain ⟨i0, hi, hz0, hz1, hz2⟩ := info_parts Try.infoSlot
  obtain ⟨ao, c, hva, hc⟩ := hv.parts
  have HV : Hid (Sls w v l) := hv
  have HRI : Hid (Right next l) := hR
  obtain ⟨n, hn⟩ : ∃ n, n = l.length := ⟨_, rfl⟩
  have HN : Hid (n = l.length) := hn
  have HC : Hid (∀ k, k < l.length → ∃ b off, ao = some ⟨b, off, none⟩ ∧ b < w.heap.size ∧ At7 w b (off + k * 7) (l[k]?.getD Sk.zero)) := hc
  have hn4 : n ≤ 4 := by rw [hn]; exact hR.2.1
  have hxn := Sk.chk_zero hx
  have hx1 : 65536 ≤ x.n ∧ x.n ≤ 1000000000 := ⟨hxn.1, hxn.2.1⟩
  rw [← hn] at hva
  obtain ⟨nx, hnx⟩ : ∃ nx : Int, nx = if next = 0 then x.n else next := ⟨_, rfl⟩
  have HNX : Hid (nx = if next = 0 then x.n else next) := hnx
  have hnx1 : 65536 ≤ nx ∧ nx ≤ 1000000001 := by
    rw [hnx]
    split
    · omega
    · rcases hR.1 with ⟨h, _⟩ | h
      · contradiction
      · exact h
  obtain ⟨R, hR'⟩ : ∃ R, R = putF next l x := ⟨_, rfl⟩
  have HR : Hid (R = putF next l x) := hR'
  rw [← hR']
  have HRR : Hid (x.n < nx → R = (nx, l, [])) := fun h => by rw [hR']; unfold putF; rw [← hnx, if_pos h]
  have HRR2 : Hid ((l.any fun y => y.n == x.n) = true → R = (nx, l, [])) := fun h => by
    rw [hR']; unfold putF; rw [← hnx, if_pos h]
    split <;> rfl
  have HRR3 : Hid (nx ≤ x.n → (l.any fun y => y.n == x.n) = false → R = relF 4 nx (insF l x) []) := fun h h2 => by
    rw [hR']; unfold putF; rw [← hnx, if_neg (by omega), h2, if_neg (by simp)]
  clear hv hn hc hnx hR' hR hxn hx
  subst hva
  obtain ⟨X, hX⟩ : ∃ X : Sk, X = x := ⟨_, rfl⟩
  have HX : Hid (X = x) := hX
  clear hX
  obtain ⟨xn, seq, time, xf, xe, xk, xt⟩ := x
  simp only [Sk.val] at hx1 HRR HRR3 HNX ⊢
  go_enter Try.func17, Try.ntmps17
  go_upto_if 11 with fail
  go_cut [] (fun wc => Hid (Blk wc w.heap.size #[.int .i64 nx, .slice ao n c] 31) ∧ Hid (Blk wc (w.heap.size + 1) #[.int .i64 xn, .int .i64 seq, .int .i64 time, .bool xf, .bool xe, .bool xk, .string xt] 35) ∧ Hid (Blk wc (w.heap.size + 1 + 1) #[.int .i64 0, .slice none 0 0] 31) ∧ Hid (Below w.heap.size w wc))
  case first =>
    obtain ⟨W, hW⟩ : ∃ W, W = (((w.alloc (.cells #[.int .i64 next, .slice ao n c] 31)).alloc (.cells #[.int .i64 xn, .int .i64 seq, .int .i64 time, .bool xf, .bool xe, .bool xk, .string xt] 35)).alloc (.cells #[.int .i64 0, .slice none 0 0] 31)) := ⟨_, rfl⟩
    rw [← hW]
    obtain ⟨kb, kx, kr, bW, sW⟩ := blocks3 (w := w) (w1 := W) (by rw [hW]; exact Below.refl _ _)
    clear hW
    obtain ⟨b0, b1⟩ := kb.two
    have x0 := kx.seven.1
    have fr := kb.free
    have KB : Hid (Blk W w.heap.size #[.int .i64 next, .slice ao n c] 31) := kb
    have KX : Hid (Blk W (w.heap.size + 1) #[.int .i64 xn, .int .i64 seq, .int .i64 time, .bool xf, .bool xe, .bool xk, .string xt] 35) := kx
    have KR : Hid (Blk W (w.heap.size + 1 + 1) #[.int .i64 0, .slice none 0 0] 31) := kr
    have BW : Hid (Below w.heap.size w W) := bW
    clear kb kx kr bW
    by_cases h0 : next = 0
    · have e : nx = xn := by rw [HNX.out, if_pos h0]
      subst h0
      go_wp2_with fail
      go_meet
      case rel =>
        rw [e]
        exact ⟨KB.out.set 0 _, KX.out.other (by simp) _, KR.out.other (by simp; omega) _, BW.out.setCell (by simp) _⟩
    · have e : nx = next := by rw [HNX.out, if_neg h0]
      go_wp2_with fail
      go_meet
      case rel =>
        rw [e]
        exact ⟨KB, KX, KR, BW⟩
  case rest =>
    obtain ⟨KB, KX, KR, BC⟩ := hcut
    go_wp2_with fail
    go_loopw [6] (fun i wr => ∃ k : Nat, k ≤ n ∧ i = .int .i64 k ∧ Hid (∀ j, j < k → ¬ (l[j]?.getD Sk.zero).n = xn) ∧ Hid (Below wc.heap.size wc wr))
      (fun i _ => n - (intOf i).toNat)
    case atStart => exact ⟨0, Nat.zero_le _, rfl, (show ∀ j, j < 0 → _ from fun j hj => absurd hj (Nat.not_lt_zero _)), Below.refl _ _⟩
    case round =>
      obtain ⟨k, hk, rfl, HK, HB⟩ := hrel
      have kb := Blk.below KB.out HB.out (Blk.lt KB.out)
      have kx := Blk.below KX.out HB.out (Blk.lt KX.out)
      have kr := Blk.below KR.out HB.out (Blk.lt KR.out)
      have BR : Hid (Below w.heap.size w wr) := BC.out.trans (HB.out.mono BC.out.size)
      have KB1 : Hid (Blk wr w.heap.size #[.int .i64 nx, .slice ao n c] 31) := kb
      have KX1 : Hid (Blk wr (w.heap.size + 1) #[.int .i64 xn, .int .i64 seq, .int .i64 time, .bool xf, .bool xe, .bool xk, .string xt] 35) := kx
      have KR1 : Hid (Blk wr (w.heap.size + 1 + 1) #[.int .i64 0, .slice none 0 0] 31) := kr
      obtain ⟨b0, b1⟩ := kb.two
      obtain ⟨x0, x1, x2, x3, x4, x5, x6⟩ := kx.seven
      obtain ⟨r0, r1⟩ := kr.two
      have rf := kr.free
      clear kb kx kr
      by_cases hlt : k < n
      · obtain ⟨b, off, rfl, hbb, hat⟩ := HC.out k (by rw [← HN.out]; exact hlt)
        have c0 := (hat.below BR.out hbb).1
        obtain ⟨y, hy⟩ : ∃ y, y = (l[k]?.getD Sk.zero).n := ⟨_, rfl⟩
        rw [← hy] at c0
        have HY : Hid (y = (l[k]?.getD Sk.zero).n) := hy
        have hlti : (k : Int) < (n : Int) := by omega
        clear hy hat
        by_cases he : y = xn
        · have hd : (y == xn) = true := by simpa using he
          have HRE : Hid (R = (nx, l, [])) := HRR2.out (by
            rw [List.any_eq_true]
            have hkl : k < l.length := by rw [← HN.out]; exact hlt
            refine ⟨l[k], List.getElem_mem hkl, ?_⟩
            have := HY.out
            rw [List.getElem?_eq_getElem hkl, Option.getD_some] at this
            simp [← this, he])
          go_wp2
          go_quiet (fail)
          go_wp2
          refine bodyPost_ret (v := .tuple #[.agg #[.int .i64 nx, .slice (some ⟨b, off, none⟩) n c], .slice none 0 0]) (by simp [results, Try.results17, go_sem, r0, r1]) rfl ?_
          rw [HRE.out]
          have b3 := ((below_drewN BR.out nq).setCell (p := ⟨w.heap.size + 1 + 1, 0, none⟩) (by simp; omega) (.int .i64 nx)).setCell (p := ⟨w.heap.size + 1 + 1, 1, none⟩) (by simp; omega) (.slice (some ⟨b, off, none⟩) n c)
          exact ⟨_, _, rfl, HV.out.below b3, Sls.nil _, b3, fun h0 g hg => .inl ⟨hg, h0⟩, fun g hg => by simp [Value.ownBlock] at hg⟩
        · have hd : (y == xn) = false := by simpa using he
          go_wp2
          go_quiet (fail)
          go_wp2
          go_roundw
          case rel =>
            refine ⟨k + 1, by omega, by go_num, (show ∀ j, j < k + 1 → _ from fun j hj => ?_), below_drewN HB.out _⟩
            by_cases e : j = k
            · subst e; rw [← HY.out]; exact he
            · exact HK.out j (by omega)
          case measure => simp [intOf]; omega
      · have hkl : k = n := by omega
        subst hkl
        have HANY : Hid ((l.any fun y => y.n == xn) = false) := by
          show _ = _
          rw [List.any_eq_false]
          intro y hy
          obtain ⟨j, hj, rfl⟩ := List.getElem_of_mem hy
          have := HK.out j (by rw [HN.out]; exact hj)
          rw [List.getElem?_eq_getElem hj, Option.getD_some] at this
          simpa using this
        by_cases hl : xn < nx
        · have HRE : Hid (R = (nx, l, [])) := HRR.out hl
          go_wp2
          refine bodyPost_ret (v := .tuple #[.agg #[.int .i64 nx, .slice ao k c], .slice none 0 0]) (by simp [results, Try.results17, go_sem, r0, r1]) rfl ?_
          rw [HRE.out]
          have b3 := (BR.out.setCell (p := ⟨w.heap.size + 1 + 1, 0, none⟩) (by simp; omega) (.int .i64 nx)).setCell (p := ⟨w.heap.size + 1 + 1, 1, none⟩) (by simp; omega) (.slice ao k c)
          exact ⟨_, _, rfl, HV.out.below b3, Sls.nil _, b3, fun h0 g hg => .inl ⟨hg, h0⟩, fun g hg => by simp [Value.ownBlock] at hg⟩
        · have HRE : Hid (R = relF 4 nx (insF l X) []) := by rw [HX.out]; exact HRR3.out (by omega) HANY.out
          go_wp2_with fail
          have happ : App1 Try.prog wr 29 35 29 7 k (skCells l) (.slice ao k c) := by
            refine app1_any wr _ _ _ i0 _ 7 48 Try.underlying29 hi hz0 hz1 hz2 rfl (by decide) k (skCells l) (.slice ao k c) ?_ (sk_one l) (by unfold maxLen; omega) (by omega)
            have := HV.out.below BR.out
            unfold Sls at this
            rw [← HN.out] at this
            exact this
          refine region_app2 (by kernel_rfl) (by kernel_rfl) (by kernel_rfl) 29 35 i0 _ 7 48 Try.underlying29 hi hz0 hz1 hz2 rfl (by decide) 38 39 40 41 42 43 44 7 2 rfl rfl rfl rfl rfl rfl rfl rfl (by rfl) k (skCells l) (.slice ao k c) happ
            [.int .i64 xn, .int .i64 seq, .int .i64 time, .bool xf, .bool xe, .bool xk, .string xt] rfl ?hx1 (.pointer (some ⟨w.heap.size, 1, none⟩)) (.agg #[.int .i64 xn, .int .i64 seq, .int .i64 time, .bool xf, .bool xe, .bool xk, .string xt]) 3 (by rfl) ?r0 ?r1 ?r2 rfl ?r4 ?r5 rfl ?r7 (by unfold maxLen; omega) (by omega) ?_
          case hx1 => exact oneSlot ⟨xn, ⟨seq, time, xf, xe, xk, xt⟩⟩
          case r0 =>
            intro a' w'
            generalize a'.eval = ρ
            simp [execOp, go_sem]
          case r1 =>
            intro a' w' h
            have h2 : a'.eval (.tmp 2) = .pointer (some ⟨w.heap.size, 0, none⟩) := h.trans rfl
            clear h
            generalize a'.eval = ρ at *
            simp [execOp, go_sem, h2]
          case r2 =>
            intro a' w' h hb
            have c1 := (hb.cell (p := ⟨w.heap.size, 1, none⟩) (Blk.lt KB1.out)).trans b1
            generalize a'.eval = ρ at *
            simp [execOp, go_sem, h, c1]
          case r4 =>
            intro a' w' h hb
            have h2 : a'.eval (.tmp 3) = .pointer (some ⟨w.heap.size + 1, 0, none⟩) := h.trans rfl
            obtain ⟨y0, y1, y2, y3, y4, y5, y6⟩ := (KX1.out.below hb (Blk.lt KX1.out)).seven
            clear h
            generalize a'.eval = ρ at *
            simp [execOp, go_sem, h2, y0, y1, y2, y3, y4, y5, y6]
          case r5 =>
            intro a' w' h
            generalize a'.eval = ρ at *
            simp [execOp, go_sem, h]
          case r7 =>
            intro a' w'
            generalize a'.eval = ρ at *
            simp [execOp, go_sem]
          intro u0 u3 u5 v7 w7 hown7 hb7
          have hlw := Blk.lt KR1.out
          obtain ⟨g, cap, hv7, hg7, hcap7⟩ : ∃ g cap, v7 = .slice (some ⟨g, 0, none⟩) (k + 1) cap ∧ wr.heap.size ≤ g ∧ k + 1 ≤ cap := by
            obtain ⟨_, ⟨_, h⟩ | ⟨g, cap, cur, h1, h2, _, h3, _⟩⟩ := hown7
            · omega
            · exact ⟨g, cap, h1, h2, h3⟩
          subst hv7
          have OW7 : Hid (w7.ownsRow wr.heap.size 35 7 (.slice (some ⟨g, 0, none⟩) (k + 1) cap) (k + 1) (skCells (putAt l k X))) := by
            show World.ownsRow _ _ _ _ _ _ _
            have e : skCells (putAt l k X) = skCells l ++ [.int .i64 xn, .int .i64 seq, .int .i64 time, .bool xf, .bool xe, .bool xk, .string xt] := by
              unfold putAt
              rw [HN.out, List.take_length, List.drop_length, skCells_append, skCells_one, HX.out]
              rfl
            rw [e]; exact hown7
          obtain ⟨Z, hZ⟩ : ∃ Z, Z = wr.heap.size := ⟨_, rfl⟩
          have B7 : Hid (Below w.heap.size w w7) := BR.out.trans (hb7.mono BR.out.size)
          have KB7 : Hid (Blk w7 w.heap.size #[.int .i64 nx, .slice ao k c] 31) := Blk.below KB1.out hb7 (Blk.lt KB1.out)
          have KR7 : Hid (Blk w7 (w.heap.size + 1 + 1) #[.int .i64 0, .slice none 0 0] 31) := Blk.below KR1.out hb7 (Blk.lt KR1.out)
          rw [← hZ] at OW7 hg7 hlw
          clear hown7 hb7 happ hZ KB1 KR1 KX1 BR b0 b1 x0 x1 x2 x3 x4 x5 x6 r0 r1 rf KB KX KR BC HB
          have hki : ((k + 1 : Nat) : Int) - 1 = (k : Int) := by omega
          have HREL : Hid (∀ U : World, Sls U (.slice (some ⟨g, 0, none⟩) (k + 1) cap) (insF l X) → Calls Try.prog 43 #[.agg #[.int .i64 nx, .slice (some ⟨g, 0, none⟩) (k + 1) cap], .int .i64 4] U fun e w' => ∃ hv' ov', e = .returned (.tuple #[.agg #[.int .i64 R.1, hv'], ov']) ∧
              Sls w' hv' R.2.1 ∧ Sls w' ov' R.2.2 ∧ Below U.heap.size U w' ∧ (0 < R.2.1.length → ∀ g', hv'.ownBlock = some g' → (Value.slice (some ⟨g, 0, none⟩) (k + 1) cap).ownBlock = some g' ∨ U.heap.size ≤ g') ∧ (∀ g', ov'.ownBlock = some g' → U.heap.size ≤ g')) := fun U hs => by
            have hnl : Nums l := fun y hy => by have := Sk.chk_zero (HRI.out.2.2.1 y hy); omega
            have := released_any 4 nx (.slice (some ⟨g, 0, none⟩) (k + 1) cap) (insF l X) U hs (fun a n c e => by injection e with _ e2 e3; omega) (nums_ins hnl (by rw [HX.out]; exact hx1)) (by omega) (by rw [insF_len, ← HN.out]; omega)
            rw [← HRE.out] at this
            exact this
          go_wp2_with fail
          go_loopw [8] (fun i w8 => ∃ j : Nat, j ≤ k ∧ i = .int .i64 j ∧ Hid (w8.ownsRow Z 35 7 (.slice (some ⟨g, 0, none⟩) (k + 1) cap) (k + 1) (skCells (putAt l j X))) ∧ Hid (∀ y ∈ l.drop j, xn < y.n) ∧ Hid (Blk w8 w.heap.size #[.int .i64 nx, .slice ao k c] 31) ∧ Hid (Blk w8 (w.heap.size + 1 + 1) #[.int .i64 0, .slice none 0 0] 31) ∧ Hid (Below w.heap.size w w8))
            (fun i _ => (intOf i).toNat)
          case atStart => exact ⟨k, Nat.le_refl _, by go_num, OW7.out, (show ∀ y ∈ _, _ from by rw [HN.out, List.drop_length]; intro y hy; cases hy), KB7.out, KR7.out, B7.out⟩
          case round =>
            obtain ⟨j, hj, rfl, HO, HU, KB8, KR8, B8⟩ := hrel
            obtain ⟨b0, b1⟩ := Blk.two KB8.out
            have hplen : (putAt l j X).length = k + 1 := by rw [putAt_len l j X (by rw [← HN.out]; exact hj), HN.out]
            have HPL : Hid ((putAt l j X).length = k + 1) := hplen
            have hsl : Sls wr (.slice (some ⟨g, 0, none⟩) (k + 1) cap) (putAt l j X) := Sls.of_owns (base := Z) (by rw [hplen]; exact HO.out)
            obtain ⟨a8, c8, e8, hat8⟩ := hsl.parts
            rw [hplen] at e8 hat8
            injection e8 with e8a _ e8c
            subst e8a
            clear e8c
            have HAT : Hid (∀ q, q < k + 1 → ∃ b off, some (⟨g, 0, none⟩ : Addr) = some ⟨b, off, none⟩ ∧ b < wr.heap.size ∧ At7 wr b (off + q * 7) ((putAt l j X)[q]?.getD Sk.zero)) := hat8
            clear hat8 hsl hplen
            have HEND : Hid (∀ (q : Nat), q = place l X → q = j → Sls wr (.slice (some ⟨g, 0, none⟩) (k + 1) cap) (insF l X)) := fun q h1 h2 => by
              have e : insF l X = putAt l j X := by unfold insF; rw [← h1, h2]
              rw [e]
              refine Sls.of_owns (base := Z) ?_
              rw [HPL.out]; exact HO.out
            cases j with
            | zero =>
              have hd : decide ((0 : Int) < 0) = false := rfl
              have HINS : Hid (Sls wr (.slice (some ⟨g, 0, none⟩) (k + 1) cap) (insF l X)) := HEND.out 0 (place_of X l 0 next HRI.out.2.2.2 (Nat.zero_le _) (by rw [HX.out]; exact HU.out) (.inl rfl)).symm rfl
              clear HAT HEND
              go_wp2_with fail
              go_quiet (fail)
              go_wp2_with fail
              refine (HREL.out _ (HINS.out.below (below_drewN (Below.refl _ _) _))).mono ?_
              rintro e w9 ⟨hv', ov', rfl, s1, s2, hb9, f1, f2⟩
              obtain ⟨a1, c1, e1⟩ := s1.len
              obtain ⟨a2, c2, e2⟩ := s2.len
              subst e1 e2
              have b89 := (below_drewN (Below.refl _ wr) nq).trans hb9
              have kr9 : Blk w9 (w.heap.size + 1 + 1) #[.int .i64 0, .slice none 0 0] 31 := KR8.out.below b89 KR8.out.lt
              obtain ⟨r0, r1⟩ := kr9.two
              have rf := kr9.free
              have hsz9 : Z ≤ wr.heap.size := Nat.le_of_lt (Nat.lt_of_le_of_lt hg7 ((HO.out.lt g rfl).2))
              have HF : Hid (∀ w3 : World, Hid (w3 = (w9.setCell ⟨w.heap.size + 1 + 1, 0, none⟩ (.int .i64 R.1)).setCell ⟨w.heap.size + 1 + 1, 1, none⟩ (.slice a1 R.2.1.length c1)) → Sls w3 (.slice a1 R.2.1.length c1) R.2.1 ∧ Sls w3 (.slice a2 R.2.2.length c2) R.2.2 ∧ Below w.heap.size w w3 ∧ (0 < R.2.1.length → ∀ g', (Value.slice a1 R.2.1.length c1).ownBlock = some g' → ((Value.slice ao k c).ownBlock = some g' ∧ 0 < l.length) ∨ w.heap.size ≤ g') ∧ (∀ g', (Value.slice a2 R.2.2.length c2).ownBlock = some g' → w.heap.size ≤ g')) := fun w3 hw3 => by
                have hblk : ∀ j, j ≠ w.heap.size + 1 + 1 → w3.heap[j]? = w9.heap[j]? := fun j hj => by rw [hw3.out, Below.heap_setCell _ _ _ _ (by exact hj), Below.heap_setCell _ _ _ _ (by exact hj)]
                have hs3 : w3.heap.size = w9.heap.size := by rw [hw3.out]; simp
                refine ⟨s1.same (by omega) (fun h0 g' hg' => hblk g' ?_), s2.same (by omega) (fun _ g' hg' => hblk g' (by have := f2 g' hg'; change wr.heap.size ≤ g' at this; omega)), ?_⟩
                · rcases f1 h0 g' hg' with h | h
                  · simp only [Value.ownBlock, Option.some.injEq] at h; omega
                  · change wr.heap.size ≤ g' at h; omega
                · refine ⟨by rw [hw3.out]; exact ((B8.out.trans (b89.mono B8.out.size)).setCell (by simp; omega) _).setCell (by simp; omega) _, fun h0 g' hg' => ?_, fun g' hg' => by have := f2 g' hg'; change wr.heap.size ≤ g' at this; omega⟩
                  rcases f1 h0 g' hg' with h | h
                  · right; simp only [Value.ownBlock, Option.some.injEq] at h; omega
                  · right; change wr.heap.size ≤ g' at h; omega
              clear hb9 kr9 b89 f1 f2 s1 s2
              go_wp2
              exact bodyPost_ret (v := .tuple #[.agg #[.int .i64 R.1, .slice a1 R.2.1.length c1], .slice a2 R.2.2.length c2]) (by simp [results, Try.results17, go_sem, r0, r1]) rfl ⟨_, _, rfl, HF.out _ rfl⟩
            | succ m =>
              obtain ⟨b', off', e', hb', hat'⟩ := HAT.out (m + 1) (by omega)
              cases e'
              obtain ⟨b', off', e', _, hat''⟩ := HAT.out m (by omega)
              cases e'
              rw [putAt_at l (m + 1) X (by rw [← HN.out]; exact hj), Option.getD_some, HX.out] at hat'
              rw [putAt_ahead l (m + 1) m X (by rw [← HN.out]; exact hj) (by omega)] at hat''
              obtain ⟨y, hy⟩ : ∃ y, y = l[m]?.getD Sk.zero := ⟨_, rfl⟩
              rw [← hy] at hat''
              have HY : Hid (y = l[m]?.getD Sk.zero) := hy
              simp only [Nat.zero_add] at hat' hat''
              obtain ⟨p0, p1, p2, p3, p4, p5, p6⟩ := hat'
              obtain ⟨q0, q1, q2, q3, q4, q5, q6⟩ := hat''
              have hmi : ((m + 1 : Nat) : Int) - 1 = (m : Int) := by omega
              have hmk : (m : Int) < ((k + 1 : Nat) : Int) := by omega
              have hmk2 : ((m + 1 : Nat) : Int) < ((k + 1 : Nat) : Int) := by omega
              have hd : decide ((0 : Int) < ((m + 1 : Nat) : Int)) = true := decide_eq_true (by omega)
              clear hy
              by_cases hlt2 : xn < y.n
              · have hd2 : decide (xn < y.n) = true := decide_eq_true hlt2
                have fz : ∀ q, wr.frozen? ⟨g, q, none⟩ = false := fun q => by
                  obtain ⟨_, cur, hcur⟩ := owns_blk HO.out (g := g) rfl
                  exact hcur.free q
                go_wp2_with fail
                go_quiet (fail)
                go_wp2_with fail
                go_region
                obtain ⟨w8, hw8⟩ : ∃ w8, w8 = World.put7 (World.put7 (wr.drewN (nq + 1)) g ((m + 1) * 7) y) g (m * 7) X := ⟨_, rfl⟩
                have e8 : World.put7 (World.put7 (wr.drewN (nq + 1)) g ((m + 1) * 7) y) g (m * 7) ⟨xn, ⟨seq, time, xf, xe, xk, xt⟩⟩ = w8 := by rw [hw8, HX.out]
                have O8 : Hid (w8.ownsRow Z 35 7 (.slice (some ⟨g, 0, none⟩) (k + 1) cap) (k + 1) (skCells (putAt l m X))) := by
                  show World.ownsRow _ _ _ _ _ _ _
                  have hml : m < l.length := by rw [← HN.out]; omega
                  rw [hw8, ← putAt_swap X l m hml, ← HY.out]
                  have hO : (wr.drewN (nq + 1)).ownsRow Z 35 7 (.slice (some ⟨g, 0, none⟩) (k + 1) cap) (k + 1) (skCells (putAt l (m + 1) X)) := owns_same HO.out (fun _ _ => rfl)
                  exact own_put7 (own_put7 hO (by rw [HPL.out]; omega) y) (by rw [List.length_set, HPL.out]; omega) X
                have hblk : ∀ j, j ≠ g → w8.heap[j]? = wr.heap[j]? := fun j hj => by rw [hw8, put7_block hj, put7_block hj]; rfl
                have K8 : Hid (Blk w8 w.heap.size #[.int .i64 nx, .slice ao k c] 31) := (hblk _ (by omega)).trans KB8.out
                have R8 : Hid (Blk w8 (w.heap.size + 1 + 1) #[.int .i64 0, .slice none 0 0] 31) := (hblk _ (by omega)).trans KR8.out
                have L8 : Hid (Below w.heap.size w w8) := by
                  show Below _ _ _
                  rw [hw8]; exact put7_below (put7_below (below_drewN B8.out _) (by omega)) (by omega)
                have U8 : Hid (∀ z ∈ l.drop m, xn < z.n) := fun z hz => by
                  have hml : m < l.length := by rw [← HN.out]; omega
                  rw [List.drop_eq_getElem_cons hml] at hz
                  rcases List.mem_cons.1 hz with rfl | hz
                  · have := HY.out
                    rw [List.getElem?_eq_getElem hml, Option.getD_some] at this
                    rw [← this]; exact hlt2
                  · exact HU.out z hz
                change Exit.inBlock _ _ _ _ (World.put7 (World.put7 (wr.drewN (nq + 1)) g ((m + 1) * 7) y) g (m * 7) ⟨xn, ⟨seq, time, xf, xe, xk, xt⟩⟩)
                rw [e8]
                clear hw8 e8 hblk p0 p1 p2 p3 p4 p5 p6 q0 q1 q2 q3 q4 q5 q6 fz b0 b1 HO KB8 KR8 B8 HU HAT HEND
                go_wp2_with fail
                go_roundw
                case rel => exact ⟨m, by omega, by go_num, O8.out, U8.out, K8.out, R8.out, L8.out⟩
                case measure => simp [intOf]
              · have hd2 : decide (xn < y.n) = false := decide_eq_false hlt2
                have HINS : Hid (Sls wr (.slice (some ⟨g, 0, none⟩) (k + 1) cap) (insF l X)) := HEND.out (m + 1) (place_of X l (m + 1) next HRI.out.2.2.2 (by rw [← HN.out]; exact hj) (by rw [HX.out]; exact HU.out) (.inr (by rw [show m + 1 - 1 = m by omega, ← HY.out, HX.out]; exact hlt2))).symm rfl
                clear HAT HEND
                go_wp2_with fail
                go_quiet (fail)
                go_wp2_with fail
                refine (HREL.out _ (HINS.out.below (below_drewN (Below.refl _ _) _))).mono ?_
                rintro e w9 ⟨hv', ov', rfl, s1, s2, hb9, f1, f2⟩
                obtain ⟨a1, c1, e1⟩ := s1.len
                obtain ⟨a2, c2, e2⟩ := s2.len
                subst e1 e2
                have b89 := (below_drewN (Below.refl _ wr) nq).trans hb9
                have kr9 : Blk w9 (w.heap.size + 1 + 1) #[.int .i64 0, .slice none 0 0] 31 := KR8.out.below b89 KR8.out.lt
                obtain ⟨r0, r1⟩ := kr9.two
                have rf := kr9.free
                have hsz9 : Z ≤ wr.heap.size := Nat.le_of_lt (Nat.lt_of_le_of_lt hg7 ((HO.out.lt g rfl).2))
                have HF : Hid (∀ w3 : World, Hid (w3 = (w9.setCell ⟨w.heap.size + 1 + 1, 0, none⟩ (.int .i64 R.1)).setCell ⟨w.heap.size + 1 + 1, 1, none⟩ (.slice a1 R.2.1.length c1)) → Sls w3 (.slice a1 R.2.1.length c1) R.2.1 ∧ Sls w3 (.slice a2 R.2.2.length c2) R.2.2 ∧ Below w.heap.size w w3 ∧ (0 < R.2.1.length → ∀ g', (Value.slice a1 R.2.1.length c1).ownBlock = some g' → ((Value.slice ao k c).ownBlock = some g' ∧ 0 < l.length) ∨ w.heap.size ≤ g') ∧ (∀ g', (Value.slice a2 R.2.2.length c2).ownBlock = some g' → w.heap.size ≤ g')) := fun w3 hw3 => by
                  have hblk : ∀ j, j ≠ w.heap.size + 1 + 1 → w3.heap[j]? = w9.heap[j]? := fun j hj => by rw [hw3.out, Below.heap_setCell _ _ _ _ (by exact hj), Below.heap_setCell _ _ _ _ (by exact hj)]
                  have hs3 : w3.heap.size = w9.heap.size := by rw [hw3.out]; simp
                  refine ⟨s1.same (by omega) (fun h0 g' hg' => hblk g' ?_), s2.same (by omega) (fun _ g' hg' => hblk g' (by have := f2 g' hg'; change wr.heap.size ≤ g' at this; omega)), ?_⟩
                  · rcases f1 h0 g' hg' with h | h
                    · simp only [Value.ownBlock, Option.some.injEq] at h; omega
                    · change wr.heap.size ≤ g' at h; omega
                  · refine ⟨by rw [hw3.out]; exact ((B8.out.trans (b89.mono B8.out.size)).setCell (by simp; omega) _).setCell (by simp; omega) _, fun h0 g' hg' => ?_, fun g' hg' => by have := f2 g' hg'; change wr.heap.size ≤ g' at this; omega⟩
                    rcases f1 h0 g' hg' with h | h
                    · right; simp only [Value.ownBlock, Option.some.injEq] at h; omega
                    · right; change wr.heap.size ≤ g' at h; omega
                clear hb9 kr9 b89 f1 f2 s1 s2
                go_wp2
                exact bodyPost_ret (v := .tuple #[.agg #[.int .i64 R.1, .slice a1 R.2.1.length c1], .slice a2 R.2.2.length c2]) (by simp [results, Try.results17, go_sem, r0, r1]) rfl ⟨_, _, rfl, HF.out _ rfl⟩

end Go.Proofs.Ytanefofheeecdab
