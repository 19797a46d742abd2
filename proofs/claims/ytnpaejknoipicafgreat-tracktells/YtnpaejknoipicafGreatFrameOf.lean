/-
  Contract: frame.frameOf.
-/
import Derived.Test.YtnpaejknoipicafGreatFrameCheck
import Derived.Test.YtnpaejknoipicafGreatRowAux
import Derived.BigQuiet
import Derived.Deep.LoopGhost
namespace Go.Proofs.YtnpaejknoipicafGreat
open Go.RowKit

theorem Tryz.infoStr : (Tryz.prog.info? 9).map (fun i => (i.zero, i.size, i.bytes)) = some (some (.string ⟨#[]⟩), 1, 16) := by kernel_rfl
def texts (l : List Sk) : List ByteArray := l.map fun x => x.p.t

set_option maxHeartbeats 2000000 in
set_option maxRecDepth 100000 in
theorem frameOf_any (v : Value) (x : Sk) (r : List Sk) (w : World) (hv : Sls w v (x :: r)) (hlen : (x :: r).length ≤ 100) :
    Calls Tryz.prog 139 #[v] w fun e w' => ∃ pv, e = .returned (.agg #[.int .i64 x.p.time, .bool x.p.k, pv]) ∧ Strs w' pv (texts (x :: r)) ∧ (∀ g, pv.ownBlock = some g → w.heap.size ≤ g ∧ ∃ cur, Blk w' g cur 9) ∧ Below w.heap.size w w' := by
  obtain ⟨i0, hi, hz0, hz1, hz2⟩ := info_parts Tryz.infoStr
  obtain ⟨ao, c, hva, hc⟩ := hv.parts
  obtain ⟨l, hl⟩ : ∃ l, l = x :: r := ⟨_, rfl⟩
  rw [← hl] at hva hc hlen ⊢
  have HL : Hid (l = x :: r) := hl
  have HC : Hid (∀ k, k < l.length → ∃ b off, ao = some ⟨b, off, none⟩ ∧ b < w.heap.size ∧ At7 w b (off + k * 7) (l[k]?.getD Sk.zero)) := hc
  obtain ⟨n, hn⟩ : ∃ n, n = l.length := ⟨_, rfl⟩
  have HN : Hid (n = l.length) := hn
  have hn0 : 0 < n := by rw [hn, hl]; simp
  rw [← hn] at hva hlen
  obtain ⟨b, off, hao, hb, hat⟩ := hc 0 (by omega)
  have hx0 : l[0]?.getD Sk.zero = x := by rw [hl]; rfl
  rw [hx0] at hat
  simp only [Nat.zero_mul, Nat.add_zero] at hat
  obtain ⟨c0, c1, c2, c3, c4, c5, c6⟩ := hat
  subst hva
  subst hao
  have hni : (0 : Int) < (n : Int) := by omega
  have hlt1 : b < w.heap.size + 1 := by omega
  clear hv hc hn hl hx0
  go_enter Tryz.func139, Tryz.ntmps139
  go_wp2
  go_region
  go_wp2
  clear c0 c1 c2 c3 c4 c5 c6
  go_loopw [19] (fun i wr => ∃ (k : Nat) (pv : Value), k ≤ n ∧ i = .int .i64 k ∧ Hid (Blk wr w.heap.size #[.int .i64 0, .bool false, .slice none 0 0] 30) ∧ Hid (Blk wr (w.heap.size + 1) #[.int .i64 x.p.time, .bool x.p.k, pv] 30) ∧ Hid (wr.ownsRow (w.heap.size + 1 + 1) 9 1 pv k ((texts (l.take k)).map Value.string)) ∧ Hid (Below w.heap.size w wr))
    (fun i _ => n - (intOf i).toNat)
  case atStart =>
    refine ⟨0, .slice none 0 0, Nat.zero_le _, rfl, (Blk.new w _ _).alloc _, ?_, World.ownsRow_nil _ _ _ _, (((Below.refl _ w).alloc (Nat.le_refl _) _).alloc (by simp) _).drew⟩
    have := Blk.new (w.alloc (.cells #[.int .i64 0, .bool false, .slice none 0 0] 30)) #[.int .i64 x.p.time, .bool x.p.k, .slice none 0 0] 30
    simp only [World.size_alloc] at this
    exact this
  case round =>
    obtain ⟨k, pv, hk, rfl, K0, K1, HO, HB⟩ := hrel
    obtain ⟨d0, d1, d2⟩ := Blk.three K1.out
    have hsz := Blk.lt K1.out
    by_cases hlt : k < n
    · obtain ⟨b', off', hbo, hbb, hat⟩ := HC.out k (by rw [← HN.out]; exact hlt)
      cases hbo
      obtain ⟨c0, c1, c2, c3, c4, c5, c6⟩ := hat.below HB.out hbb
      obtain ⟨y, hy⟩ : ∃ y, y = l[k]?.getD Sk.zero := ⟨_, rfl⟩
      rw [← hy] at c0 c1 c2 c3 c4 c5 c6
      have HY : Hid (y = l[k]?.getD Sk.zero) := hy
      clear hy hat
      have hlti : (k : Int) < (n : Int) := by omega
      have WA : ∀ o1 o2 : Obj, w.heap.size + 1 < ((wr.alloc o1).alloc o2).heap.size := fun _ _ => by simp; omega
      have own1 : Hid (((wr.alloc (.cells #[.int .i64 y.n, .int .i64 y.p.seq, .int .i64 y.p.time, .bool y.p.f, .bool y.p.e, .bool y.p.k, .string y.p.t] 91)).alloc (.cells #[.string y.p.t] 9)).ownsRow (w.heap.size + 1 + 1) 9 1 pv k ((texts (l.take k)).map Value.string)) := (HO.out.alloc _).alloc _
      have new1 : Hid (∀ j u, [Value.string y.p.t][j]? = some u → ((wr.alloc (.cells #[.int .i64 y.n, .int .i64 y.p.seq, .int .i64 y.p.time, .bool y.p.f, .bool y.p.e, .bool y.p.k, .string y.p.t] 91)).alloc (.cells #[.string y.p.t] 9)).cell? ((⟨wr.heap.size + 1, 0, none⟩ : Addr).add j) = some u) := fun j u hj => by
        match j, hj with
        | 0, hj =>
          simp at hj; subst hj
          exact World.cell?_alloc_at (w := wr.alloc _) _ _ _ _ (by simp)
      have aft : Hid (∀ v' w2, w2.ownsRow (w.heap.size + 1 + 1) 9 1 v' (k + 1) ((texts (l.take k)).map Value.string ++ [.string y.p.t]) → ((wr.alloc (.cells #[.int .i64 y.n, .int .i64 y.p.seq, .int .i64 y.p.time, .bool y.p.f, .bool y.p.e, .bool y.p.k, .string y.p.t] 91)).alloc (.cells #[.string y.p.t] 9)).grownBy w2 pv.ownBlock →
          ∃ a' c', v' = .slice a' (k + 1) c' ∧ w2.cell? ⟨w.heap.size + 1, 2, none⟩ = some pv ∧ w2.frozen? ⟨w.heap.size + 1, 2, none⟩ = false ∧
            Hid (∀ w3, Hid (w3 = w2.setCell ⟨w.heap.size + 1, 2, none⟩ (.slice a' (k + 1) c')) → Blk w3 w.heap.size #[.int .i64 0, .bool false, .slice none 0 0] 30 ∧ Blk w3 (w.heap.size + 1) #[.int .i64 x.p.time, .bool x.p.k, .slice a' (k + 1) c'] 30 ∧ w3.ownsRow (w.heap.size + 1 + 1) 9 1 (.slice a' (k + 1) c') (k + 1) ((texts (l.take (k + 1))).map Value.string) ∧ Below w.heap.size w w3)) := fun v' w2 ho2 hg2 => by
        obtain ⟨a', c', hv'⟩ := Sl.len (Sl.of_owns ho2)
        have hlow : ∀ j, j < w.heap.size + 1 + 1 → some j ≠ pv.ownBlock := fun j hj e => by have := (HO.out.lt j e.symm).1; omega
        have hblk : ∀ j, j < w.heap.size + 1 + 1 → w2.heap[j]? = wr.heap[j]? := fun j hj => by
          rw [hg2.block j (by simp; omega) (hlow j hj), Below.heap_alloc _ _ _ (by simp; omega), Below.heap_alloc _ _ _ (by omega)]
        have k12 : Blk w2 (w.heap.size + 1) #[.int .i64 x.p.time, .bool x.p.k, pv] 30 := (hblk _ (by omega)).trans K1.out
        have k02 : Blk w2 w.heap.size #[.int .i64 0, .bool false, .slice none 0 0] 30 := (hblk _ (by omega)).trans K0.out
        refine ⟨a', c', hv', k12.three.2.2, k12.free 2, fun w3 hw3 => ?_⟩
        rw [hw3.out]
        refine ⟨k02.other (by simp) _, k12.set 2 _, ?_, ?_⟩
        · have e : (texts (l.take (k + 1))).map Value.string = (texts (l.take k)).map Value.string ++ [.string y.p.t] := by
            rw [take_one (by rw [← HN.out]; exact hlt) Sk.zero, ← HY.out]; simp [texts]
          rw [e, ← hv']
          exact ownsRow_setCell_below ho2 (by show w.heap.size + 1 < _; omega) _
        · exact (((HB.out.alloc HB.out.size _).alloc (by have := HB.out.size; simp; omega) _).grown hg2 (by have := HB.out.size; simp; omega) (fun j hj => by have := (HO.out.lt j hj).1; omega)).setCell (by simp) _
      have l1 : Hid (k + 1 ≤ maxLen) := by show _ ≤ _; unfold maxLen; omega
      have l2 : Hid ((k + 1) * 16 ≤ 140737488355328) := by show _ ≤ _; omega
      have l3 : Hid (w.heap.size + 1 + 1 ≤ ((wr.alloc (.cells #[.int .i64 y.n, .int .i64 y.p.seq, .int .i64 y.p.time, .bool y.p.f, .bool y.p.e, .bool y.p.k, .string y.p.t] 91)).alloc (.cells #[.string y.p.t] 9)).heap.size) := by show _ ≤ _; simp; omega
      clear HO K0 K1
      go_wp2_with (at_builtin; refine wpList_append_own2 _ rfl _ _ 28 rfl (w.heap.size + 1 + 1) 9 i0 _ 1 16 Tryz.underlying28 hi hz0 hz1 hz2 rfl (by decide) _ k ((texts (l.take k)).map Value.string) rfl own1.out ⟨wr.heap.size + 1, 0, none⟩ 1 1 [.string y.p.t] rfl rfl new1.out (by intro u hu; simp at hu; subst hu; rfl) l1.out l2.out l3.out ?_; intro v' w2 ho2 hg2 _; obtain ⟨a', c', hv', g0, g1, G⟩ := aft.out v' w2 ho2 hg2; clear ho2 hg2; subst hv')
      go_roundw
      case rel =>
        obtain ⟨e1, e2, e3, e4⟩ := G.out _ rfl
        exact ⟨k + 1, _, by omega, by go_num, e1, e2, e3, e4⟩
      case measure => simp [intOf]; omega
    · have hkl : k = n := by omega
      subst hkl
      obtain ⟨z0, z1, z2⟩ := Blk.three K0.out
      have zf := Blk.free K0.out
      have ho := HO.out
      rw [HN.out, List.take_length, ← HN.out] at ho
      obtain ⟨a', c', hpv⟩ := Sl.len (Sl.of_owns ho)
      subst hpv
      have HO2 : Hid (wr.ownsRow (w.heap.size + 1 + 1) 9 1 (.slice a' k c') k ((texts l).map Value.string)) := ho
      clear ho HO K0 K1
      go_wp2
      refine bodyPost_ret (v := .agg #[.int .i64 x.p.time, .bool x.p.k, .slice a' k c']) (by simp [results, Tryz.results139, go_sem, z0, z1, z2]) rfl ⟨_, rfl, ?_, ?_, ?_⟩
      · have h3 : World.ownsRow (((wr.setCell ⟨w.heap.size, 0, none⟩ (.int .i64 x.p.time)).setCell ⟨w.heap.size, 1, none⟩ (.bool x.p.k)).setCell ⟨w.heap.size, 2, none⟩ (.slice a' k c')) (w.heap.size + 1 + 1) 9 1 (.slice a' k c') k ((texts l).map Value.string) :=
          ownsRow_setCell_below (ownsRow_setCell_below (ownsRow_setCell_below HO2.out (by show w.heap.size < _; omega) _) (by show w.heap.size < _; omega) _) (by show w.heap.size < _; omega) _
        have := Sl.of_owns h3
        have e : (texts l).length = k := by rw [HN.out]; simp [texts]
        show Sl _ _ (texts l).length 1 _
        rw [e]
        exact this
      · intro g hg
        obtain ⟨hh1, cur, hh2⟩ := owns_blk HO2.out hg
        have hne : g ≠ w.heap.size := by omega
        exact ⟨by omega, cur, ((hh2.other (by exact hne) _).other (by exact hne) _).other (by exact hne) _⟩
      · exact ((HB.out.setCell (by simp) _).setCell (by simp) _).setCell (by simp) _

end Go.Proofs.YtnpaejknoipicafGreat
