/-
  'switchbacklaw.CountBack' returns true, whatever it is handed.
-/
import Derived.Test.YtaabikjdockclaaCountInts
import Derived.Test.YtaabikjdockclaaGrow
namespace Go.Proofs.Ytaabikjdockclaa
open Go.RowKit

def Cn.rests (l : List Int) : List Int := l.map (· % 65536)
theorem Cn.rests_snoc (l : List Int) (x : Int) : Cn.rests (l ++ [x]) = Cn.rests l ++ [x % 65536] := by simp [Cn.rests]
theorem Cn.rests_len (l : List Int) : (Cn.rests l).length = l.length := by simp [Cn.rests]

theorem Cn.step_ok {n x : Int} (hn : Cn.isNB n = true) (h1 : -32767 ≤ x) (h2 : x ≤ 32767) (hm : Cn.isNB (n + x) = true) : Cn.okB n ((n + x) % 65536) = true ∧ Cn.raw n ((n + x) % 65536) = n + x := by
  have hr := Cn.isNB_iff.1 hn
  have hs := Cn.isNB_iff.1 hm
  have hraw : Cn.raw n ((n + x) % 65536) = n + x := Cn.raw_uniq _ _ _ rfl (by omega) (by omega)
  exact ⟨by rw [Cn.okB_iff, hraw]; omega, hraw⟩

theorem Cn.back_more {first n x : Int} {nums : List Int} (hg : Cn.goes first (Cn.rests nums) = some nums) (hn : n = Cn.lastOf first nums) (hb : Cn.isNB n = true) (h1 : -32767 ≤ x) (h2 : x ≤ 32767) (hm : Cn.isNB (n + x) = true) :
    Cn.goes first (Cn.rests (nums ++ [n + x])) = some (nums ++ [n + x]) ∧ n + x = Cn.lastOf first (nums ++ [n + x]) := by
  subst hn
  obtain ⟨ho, hr⟩ := Cn.step_ok hb h1 h2 hm
  refine ⟨?_, (Cn.lastOf_snoc _ _ _).symm⟩
  rw [Cn.rests_snoc, Cn.goes_snoc_ok hg ho, hr]

set_option maxHeartbeats 1600000 in
set_option maxRecDepth 1000000 in
theorem countBack_any (first : Int) (v : Value) (zs : List Int) (w : World) (hreach : zs.length * 8 ≤ 140737488351232) (hv : Sl w v zs.length 1 (zs.map (Value.int .i64))) :
    Calls Try.prog 7 #[.int .i64 first, v] w fun e w' => e = .returned (.bool true) ∧ Below w.heap.size w w' := by
  obtain ⟨i0, hi, hz0, hz1, hz2⟩ := info_parts Try.infoInt
  obtain ⟨ao, c, rfl, hc⟩ := hv.ints
  have HC : Hid (∀ j, j < zs.length → ∃ b off, ao = some ⟨b, off, none⟩ ∧ b < w.heap.size ∧ w.cell? ⟨b, off + j, none⟩ = some (.int .i64 (zs[j]?.getD 0))) := hc
  clear hc
  cases hb : Cn.isNB first
  · go_enter Try.func7, Try.ntmps7
    go_wp2_with (first
      | (go_at_call 21; refine (countBegun_any _).mono ?_; rintro e w1 ⟨rfl, hbel⟩)
      | (go_at_call 19; refine (refIsN_any _ _).mono ?_; rintro e w' ⟨rfl, rfl⟩))
    go_ret
    exact ⟨rfl, hbel⟩
  · go_enter Try.func7, Try.ntmps7
    go_wp2_with (first
      | (go_at_call 21; refine (countBegun_any _).mono ?_; rintro e w1 ⟨rfl, hbel⟩)
      | (go_at_call 19; refine (refIsN_any _ _).mono ?_; rintro e w' ⟨rfl, rfl⟩))
    have hsz1 := hbel.size
    go_loopw [5, 6, 7, 8] (fun vs vm vn i wr => ∃ (k : Nat) (nums : List Int) (n : Int), k ≤ zs.length ∧ i = .int .i64 k ∧ vn = .int .i64 n ∧ n = Cn.lastOf first nums ∧ Cn.goes first (Cn.rests nums) = some nums ∧ Cn.isNB n = true ∧ nums.length = k ∧
        wr.ownsRow w1.heap.size 3 1 vs nums.length ((Cn.rests nums).map (Value.int .i64)) ∧ wr.ownsRow w1.heap.size 3 1 vm nums.length (nums.map (Value.int .i64)) ∧ Apart vs vm ∧ Below w1.heap.size w1 wr)
      (fun _ _ _ i _ => zs.length - (intOf i).toNat)
    case atStart => exact ⟨0, [], first, Nat.zero_le _, rfl, rfl, rfl, rfl, hb, rfl, World.ownsRow_nil _ _ _ _, World.ownsRow_nil _ _ _ _, Apart.nil _, Below.refl _ _⟩
    case round =>
      obtain ⟨k, nums, n, hk, rfl, rfl, hn, hgo, hbn, hlen, hs5, hs6, hap, hnx⟩ := hrel
      have HN : Hid (n = Cn.lastOf first nums) := hn
      have HG : Hid (Cn.goes first (Cn.rests nums) = some nums) := hgo
      have HL : Hid (nums.length = k) := hlen
      have hle : nums.length ≤ k := Nat.le_of_eq hlen
      have hszr := hnx.size
      obtain ⟨hn1, hn2⟩ := Cn.isNB_iff.1 hbn
      clear hn hgo hlen
      by_cases hlt : k < zs.length
      · obtain ⟨b, off, hao, hbw, hcell⟩ := HC.out k hlt
        subst hao
        have hcx : wr.cell? ⟨b, off + k, none⟩ = some (.int .i64 (zs[k]?.getD 0)) := (hnx.cell (p := ⟨b, off + k, none⟩) (by show b < w1.heap.size; omega)).trans ((hbel.cell (p := ⟨b, off + k, none⟩) hbw).trans hcell)
        obtain ⟨x, hx⟩ : ∃ x, x = zs[k]?.getD 0 := ⟨_, rfl⟩
        rw [← hx] at hcx
        have hlt' : (k : Int) < (zs.length : Int) := by omega
        have hfin : Below w.heap.size w wr := hbel.trans (hnx.mono hsz1)
        clear hx hcell HC hv
        by_cases hx1 : x < -32767
        · go_wp2
          go_ret
          exact ⟨rfl, hfin⟩
        · by_cases hx2 : 32767 < x
          · go_wp2
            go_ret
            exact ⟨rfl, hfin⟩
          · cases hbx : Cn.isNB (n + x)
            · go_wp2_with (go_at_call 19; refine (refIsN_any _ _).mono ?_; rintro e w' ⟨rfl, rfl⟩)
              go_ret
              exact ⟨rfl, hfin⟩
            · have hWE : Cn.wrE (n + x) = 0 := by simp [Cn.wrE, hbx]
              have hWN : Cn.wrN (n + x) = (n + x) % 65536 := by simp [Cn.wrN, hbx]
              go_wp2_with (first
                | (go_at_call 19; refine (refIsN_any _ _).mono ?_; rintro e w' ⟨rfl, rfl⟩)
                | (go_at_call 16; refine (wrap_any _ _).mono ?_; rintro e w' ⟨rfl, rfl⟩)
                | (at_builtin; refine wpList_append_own2 _ rfl (.tmp 60) (.tmp 62) 34 rfl w1.heap.size 3 i0 (.int .i64 0) 1 8 Try.underlying34 hi hz0 hz1 hz2 rfl (by decide) u5 _ _ rfl (hs5.alloc _) ⟨wr.heap.size, 0, none⟩ 1 1 [.int .i64 ((n + x) % 65536)] rfl rfl (news1 rfl) one1 (by unfold maxLen; omega) (by omega) (by simp; omega) ?_; intro v5 w2 ho5 hg5 hd5)
                | (at_builtin; refine wpList_append_own2 _ rfl (.tmp 64) (.tmp 66) 34 rfl w1.heap.size 3 i0 (.int .i64 0) 1 8 Try.underlying34 hi hz0 hz1 hz2 rfl (by decide) u6 _ _ rfl ((kept_apart (hs6.alloc _) hg5 hap rfl).alloc _) ⟨w2.heap.size, 0, none⟩ 1 1 [.int .i64 (n + x)] rfl rfl (news1 rfl) one1 (by unfold maxLen; omega) (by omega) (by have := hg5.size; simp at this ⊢; omega) ?_; intro v6 w3 ho6 hg6 hd6))
              have A1 : Apart v5 u6 := Apart.grow hap (hs6.alloc _) hd5
              have A2 : Apart v6 v5 := Apart.grow A1.symm (ho5.alloc _) hd6
              have K5 := kept_apart (ho5.alloc _) hg6 A1.symm rfl
              have B2 : Below w1.heap.size w1 w2 := (hnx.alloc hszr _).grown hg5 (by simp; omega) (fun j hj => (hs5.lt j hj).1)
              have B3 : Below w1.heap.size w1 w3 := (B2.alloc B2.size _).grown hg6 (by have := B2.size; simp; omega) (fun j hj => (hs6.lt j hj).1)
              obtain ⟨G1, G2⟩ := Cn.back_more HG.out HN.out hbn hx1 hx2 hbx
              have hl2 : (nums ++ [n + x]).length = nums.length + 1 := by simp
              refine ⟨⟨k + 1, nums ++ [n + x], n + x, by omega, by go_num, rfl, G2, G1, hbx, by rw [hl2, HL.out], ?_, ?_, A2.symm, B3⟩, by simp [intOf]; omega⟩
              · rw [hl2, Cn.rests_snoc, List.map_append]; exact K5
              · rw [hl2, List.map_append]; exact ho6
      · have hkl : zs.length ≤ k := by omega
        have hrl := Cn.rests_len nums
        have hr8 : (Cn.rests nums).length * 8 ≤ 140737488351232 := by omega
        have hE := (Cn.allE_some HG.out).1
        have HA : Hid (Cn.allL first (Cn.rests nums) = nums) := (Cn.allE_some HG.out).2
        have S5 : Sl wr u5 (Cn.rests nums).length 1 ((Cn.rests nums).map (Value.int .i64)) := by rw [hrl]; exact Sl.of_owns hs5
        have S6 := Sl.of_owns hs6
        have hn8 : nums.length * 8 ≤ 140737488351232 := by omega
        have hfin : Below w.heap.size w wr := hbel.trans (hnx.mono hsz1)
        have hszf := hfin.size
        clear hrl HC hv hs5 hs6
        go_wp2_with (first
          | (go_at_call 18; refine (all_any _ _ (Cn.rests nums) _ hr8 S5).mono ?_; rintro e w2 ⟨u, rfl, hown, hb2⟩; rw [HA.out] at hown)
          | (go_at_call 22; refine (intsAre_any u u6 nums _ _ hn8 (Sl.of_owns hown) (.inl ⟨rfl, S6.below hb2⟩)).mono ?_; rintro e w4 ⟨rfl, hb4⟩))
        go_ret
        exact ⟨rfl, (hfin.trans (hb2.mono hszf)).trans (hb4.mono (Nat.le_trans hszf hb2.size))⟩

end Go.Proofs.Ytaabikjdockclaa
