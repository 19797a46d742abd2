/-
  Contracts: clone.all of texts, clone.Frame.
-/
import Derived.Test.YtnpaejknoipicadGroupPlain
import Derived.Test.YtnpaejknoipicadStrClone
namespace Go.Proofs.Ytnpaejknoipicad
open Go.RowKit

set_option maxHeartbeats 2000000 in
set_option maxRecDepth 100000 in
theorem cloneStrs_any (v : Value) (l : List ByteArray) (w : World) (hv : Strs w v l) (hlen : l.length ≤ 4) (h8 : ∀ s ∈ l, s.size ≤ 8) :
    Calls Try.prog 90 #[v, .func (.func 50) #[] #[]] w fun e w' => ∃ u, e = .returned u ∧ w'.ownsRow w.heap.size 9 1 u l.length (l.map Value.string) ∧ Below w.heap.size w w' := by
  obtain ⟨i0, hi, hz0, hz1, hz2⟩ := info_parts Try.infoStr
  obtain ⟨ao, c, hva, hc⟩ := hv.parts
  obtain ⟨n, hn⟩ : ∃ n, n = l.length := ⟨_, rfl⟩
  have HN : Hid (n = l.length) := hn
  have HC : Hid (∀ k, k < l.length → ∃ b off, ao = some ⟨b, off, none⟩ ∧ b < w.heap.size ∧ w.cell? ⟨b, off + k, none⟩ = some (.string (l[k]?.getD ByteArray.empty))) := hc
  have H8 : Hid (∀ k, k < l.length → (l[k]?.getD ByteArray.empty).size ≤ 8) := fun k hk => h8 _ (by rw [List.getElem?_eq_getElem hk]; exact List.getElem_mem hk)
  have eg : Enters Try.prog 50 := enters_of Try.func50 (by kernel_rfl) rfl
  have eg' : ∀ (args : Array Value) (w : World), (callFunc 50 args).run Try.prog w = .ok (.enter 50 args) w := eg
  rw [← hn] at hva hlen ⊢
  clear hc hv hn h8 eg
  subst hva
  go_enter Try.func90, Try.ntmps90
  go_wp2_with fail
  go_loopw [5, 10] (fun u i wr => ∃ k : Nat, k ≤ n ∧ i = .int .i64 k ∧ Hid (wr.ownsRow w.heap.size 9 1 u k ((l.take k).map Value.string)) ∧ Hid (Below w.heap.size w wr))
    (fun _ i _ => n - (intOf i).toNat)
  case atStart => exact ⟨0, Nat.zero_le _, rfl, (show World.ownsRow _ _ _ _ _ _ _ from World.ownsRow_nil _ _ _ _), Below.refl _ _⟩
  case round =>
    obtain ⟨k, hk, rfl, HO, HB⟩ := hrel
    by_cases hlt : k < n
    · obtain ⟨b, off, rfl, hb, hat⟩ := HC.out k (by rw [← HN.out]; exact hlt)
      have h8 := H8.out k (by rw [← HN.out]; exact hlt)
      have c0 := (HB.out.cell (p := ⟨b, off + k, none⟩) hb).trans hat
      obtain ⟨s, hs⟩ : ∃ s, s = l[k]?.getD ByteArray.empty := ⟨_, rfl⟩
      have HS : Hid (s = l[k]?.getD ByteArray.empty) := hs
      rw [← hs] at c0 h8
      have hcl : ∀ w : World, Calls Try.prog 50 #[.string s] w fun e w' => e = .returned (.string s) ∧ Below w.heap.size w w' := fun w => stringsClone_any s w h8
      have hlti : (k : Int) < (n : Int) := by omega
      clear hs hat
      go_wp2_with (first
        | (go_at_fn 50; refine (hcl _).mono ?_; rintro e w1 ⟨rfl, hbw⟩)
        | (at_builtin; refine wpList_append_own _ rfl _ _ 34 rfl w.heap.size 9 i0 _ 1 16 Try.underlying34 hi hz0 hz1 hz2 rfl (by decide) _ k ((l.take k).map Value.string) rfl ?c0 ⟨w1.heap.size, 0, none⟩ 1 1 [.string s] rfl rfl ?c1 ?c2 ?c3 ?c4 ?c5 ?_))
      case c0 => exact (owns_below HO.out hbw (Nat.le_refl _)).alloc _
      case c1 => exact news1 rfl
      case c2 => intro u hu; simp at hu; subst hu; rfl
      case c3 => unfold maxLen; omega
      case c4 => omega
      case c5 => have h1 := HB.out.size; have h2 := hbw.size; simp; omega
      · intro v' w2 hown' hgrow _
        have hb1 : Below w.heap.size w w1 := HB.out.trans (hbw.mono HB.out.size)
        have R1 : Hid (Below w.heap.size w w2) := (hb1.alloc hb1.size _).grown hgrow (by have := hb1.size; simp; omega) (fun j hj => (HO.out.lt j hj).1)
        have R2 : Hid (w2.ownsRow w.heap.size 9 1 v' (k + 1) ((l.take (k + 1)).map Value.string)) := by
          show World.ownsRow _ _ _ _ _ _ _
          rw [take_one (by rw [← HN.out]; exact hlt) ByteArray.empty, List.map_append, List.map_take, ← HS.out]
          exact hown'
        clear hown' hgrow c0 hbw hb1 HO HS
        go_wp2
        go_roundw
        case rel => exact ⟨k + 1, by omega, by go_num, R2, R1⟩
        case measure => simp [intOf]; omega
    · have hkl : k = n := by omega
      subst hkl
      go_wp2
      go_ret
      have ho := HO.out
      rw [HN.out, List.take_length, ← HN.out] at ho
      exact ⟨_, rfl, ho, HB.out⟩

/-- texts of a row of the call's own -/
theorem StrsIn.of_owns {base : Nat} {w : World} {v : Value} {l : List ByteArray} (h : w.ownsRow base 9 1 v l.length (l.map Value.string)) (hl : l.length ≤ 9223372036854775807) : StrsIn (fun g => base ≤ g) w v l :=
  ⟨Sl.of_owns h, hl, fun g hg _ => h.lt g hg⟩

set_option maxHeartbeats 2000000 in
theorem cloneFrame_any (S : Nat → Prop) (f : Fr) (pv : Value) (w : World) (hv : StrsIn S w pv f.parts) (hf : f.chk = 0) :
    Calls Try.prog 68 #[.agg #[.int .i64 f.time, .bool f.key, pv]] w fun e w' => ∃ a c, e = .returned (.agg #[.int .i64 f.time, .bool f.key, .slice a f.parts.length c]) ∧ StrsIn (fun g => w.heap.size ≤ g) w' (.slice a f.parts.length c) f.parts ∧ Below w.heap.size w w' := by
  obtain ⟨_, _, _, h4, h5⟩ := chkF_zero hf
  obtain ⟨pa, pc, ep⟩ := hv.1.len
  have HCS : Hid (∀ w' : World, Strs w' pv f.parts → Calls Try.prog 90 #[pv, .func (.func 50) #[] #[]] w' fun e w'' => ∃ u, e = .returned u ∧ w''.ownsRow w'.heap.size 9 1 u f.parts.length (f.parts.map Value.string) ∧ Below w'.heap.size w' w'') := fun w' hs => cloneStrs_any pv f.parts w' hs h4 h5
  have HV : Hid (Strs w pv f.parts) := hv.1
  obtain ⟨t, k, ps⟩ := f
  simp only at ep HCS HV h4 ⊢
  obtain ⟨n, hn⟩ : ∃ n, n = ps.length := ⟨_, rfl⟩
  have HN : Hid (n = ps.length) := hn
  rw [← hn] at ep HCS h4 ⊢
  clear hn hv hf h5
  subst ep
  go_enter Try.func68, Try.ntmps68
  go_wp2_with fail
  refine (HCS.out _ ((HV.out.alloc _).alloc _)).mono ?_
  rintro e w1 ⟨u, rfl, ho, hb1⟩
  obtain ⟨k1, k2, bb, hs⟩ := blocks2 hb1
  obtain ⟨a, c, eu⟩ := Sl.len (Sl.of_owns ho)
  subst eu
  obtain ⟨c0, c1, c2⟩ := k1.three
  obtain ⟨d0, d1, d2⟩ := k2.three
  have f1 := k1.free
  have f2 := k2.free
  have HO : Hid (w1.ownsRow (w.heap.size + 1 + 1) 9 1 (.slice a n c) n (ps.map Value.string)) := by
    have := ho
    simp only [World.size_alloc] at this
    exact this
  have BB : Hid (Below w.heap.size w w1) := bb
  clear hb1 k1 k2 bb ho HCS
  go_wp2
  refine bodyPost_ret (v := .agg #[.int .i64 t, .bool k, .slice a n c]) (by simp [results, Try.results68, go_sem, d0, d1, d2]) rfl ⟨a, c, rfl, ?_, ?_⟩
  · have h := ownsRow_setCell_below (ownsRow_setCell_below (ownsRow_setCell_below (ownsRow_setCell_below HO.out (a := ⟨w.heap.size, 2, none⟩) (by show w.heap.size < _; omega) (.slice a n c)) (a := ⟨w.heap.size + 1, 0, none⟩) (by show w.heap.size + 1 < _; omega) (.int .i64 t)) (a := ⟨w.heap.size + 1, 1, none⟩) (by show w.heap.size + 1 < _; omega) (.bool k)) (a := ⟨w.heap.size + 1, 2, none⟩) (by show w.heap.size + 1 < _; omega) (.slice a n c)
    rw [HN.out] at h ⊢
    exact (StrsIn.of_owns h (by rw [← HN.out]; omega)).mono (fun g _ hg => by omega)
  · exact (((BB.out.setCell (by simp) _).setCell (by simp) _).setCell (by simp) _).setCell (by simp) _

end Go.Proofs.Ytnpaejknoipicad
