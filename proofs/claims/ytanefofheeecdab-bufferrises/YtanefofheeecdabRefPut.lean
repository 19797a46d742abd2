/-
  Contracts: the document's FlushOf and PutOf.
-/
import Derived.Test.YtanefofheeecdabRefRel
namespace Go.Proofs.Ytanefofheeecdab
open Go.RowKit

theorem Sls.blk {w : World} {v : Value} {l : List Sk} (h : Sls w v l) : 0 < l.length → ∀ g, v.ownBlock = some g → g < w.heap.size := by
  intro h0 g hg
  obtain ⟨_, ⟨hl, _⟩ | ⟨b, off, c, rfl, hb, _⟩⟩ := h
  · omega
  · simp only [Value.ownBlock, Option.some.injEq] at hg; omega
theorem relF_len (most : Nat) : ∀ (h : List Sk) (next : Int) (o : List Sk), (relF most next h o).2.1.length ≤ h.length
  | [], _, _ => Nat.le_refl _
  | x :: r, next, o => by
    unfold relF
    split
    · have := relF_len most r (next + 1) (o ++ [x]); simp; omega
    · split
      · exact Nat.le_refl _
      · have := relF_len most r (x.n + 1) (o ++ [x]); simp; omega

set_option maxHeartbeats 1000000 in
theorem flushOf_any (next : Int) (v : Value) (l : List Sk) (w : World) (hv : Sls w v l) (hcap : ∀ a n c, v = .slice a n c → n ≤ c) (hnums : Nums l) (hn0 : 0 ≤ next ∧ next ≤ 1000000001) (hlen : l.length ≤ 50) :
    Calls Try.prog 18 #[.agg #[.int .i64 next, v]] w fun e w' => ∃ hv' ov', e = .returned (.tuple #[.agg #[.int .i64 (relF 0 next l []).1, hv'], ov']) ∧
      Sls w' hv' (relF 0 next l []).2.1 ∧ Sls w' ov' (relF 0 next l []).2.2 ∧ Below w.heap.size w w' ∧ (0 < (relF 0 next l []).2.1.length → ∀ g, hv'.ownBlock = some g → v.ownBlock = some g ∨ w.heap.size ≤ g) ∧ (∀ g, ov'.ownBlock = some g → w.heap.size ≤ g) := by
  obtain ⟨a, c, hva⟩ := hv.len
  have hrel := released_any 0 next v l ((w.alloc (.cells #[.int .i64 next, v] 31)).alloc (.cells #[.int .i64 0, .slice none 0 0] 31)) ((hv.alloc _).alloc _) hcap hnums hn0 hlen
  have HLT : Hid (0 < l.length → ∀ g, v.ownBlock = some g → g < w.heap.size) := hv.blk
  have HRL : Hid ((relF 0 next l []).2.1.length ≤ l.length) := relF_len 0 l next []
  obtain ⟨n, hn⟩ : ∃ n, n = l.length := ⟨_, rfl⟩
  rw [← hn] at hva
  obtain ⟨R, hR⟩ : ∃ R, R = relF 0 next l [] := ⟨_, rfl⟩
  rw [← hR] at hrel HRL ⊢
  clear hR hn hv hcap
  subst hva
  go_enter Try.func18, Try.ntmps18
  go_wp2_with fail
  refine hrel.mono ?_
  rintro e w1 ⟨hv', ov', rfl, s1, s2, hb1, f1, f2⟩
  obtain ⟨kb, kr, bb, hs1⟩ := blocks2 hb1
  obtain ⟨r0, r1⟩ := kr.two
  have rf := kr.free
  obtain ⟨a1, c1, e1⟩ := s1.len
  obtain ⟨a2, c2, e2⟩ := s2.len
  subst e1 e2
  have HF : Hid (∀ w3 : World, Hid (w3 = (w1.setCell ⟨w.heap.size + 1, 0, none⟩ (.int .i64 R.1)).setCell ⟨w.heap.size + 1, 1, none⟩ (.slice a1 R.2.1.length c1)) → Sls w3 (.slice a1 R.2.1.length c1) R.2.1 ∧ Sls w3 (.slice a2 R.2.2.length c2) R.2.2 ∧ Below w.heap.size w w3 ∧ (0 < R.2.1.length → ∀ g, (Value.slice a1 R.2.1.length c1).ownBlock = some g → (Value.slice a n c).ownBlock = some g ∨ w.heap.size ≤ g) ∧ (∀ g, (Value.slice a2 R.2.2.length c2).ownBlock = some g → w.heap.size ≤ g)) := fun w3 hw3 => by
    have hblk : ∀ j, j ≠ w.heap.size + 1 → w3.heap[j]? = w1.heap[j]? := fun j hj => by rw [hw3.out, Below.heap_setCell _ _ _ _ (by exact hj), Below.heap_setCell _ _ _ _ (by exact hj)]
    have hs3 : w3.heap.size = w1.heap.size := by rw [hw3.out]; simp
    refine ⟨s1.same (by omega) (fun h0 g hg => hblk g ?_), s2.same (by omega) (fun _ g hg => hblk g (by have := f2 g hg; simp at this; omega)), ?_⟩
    · rcases f1 h0 g hg with h | h
      · have := HLT.out (by have := HRL.out; omega) g h
        omega
      · simp at h; omega
    · refine ⟨by rw [hw3.out]; exact (bb.setCell (by simp) _).setCell (by simp) _, fun h0 g hg => ?_, fun g hg => by have := f2 g hg; simp at this; omega⟩
      rcases f1 h0 g hg with h | h
      · exact .inl h
      · right; simp at h; omega
  clear hb1 kb kr bb f1 f2 s1 s2 hrel
  go_wp2
  exact bodyPost_ret (v := .tuple #[.agg #[.int .i64 R.1, .slice a1 R.2.1.length c1], .slice a2 R.2.2.length c2]) (by simp [results, Try.results18, go_sem, r0, r1]) rfl ⟨_, _, rfl, HF.out _ rfl⟩

end Go.Proofs.Ytanefofheeecdab
