/-
  Contract: the store keeper's letGo.
-/
import Derived.Test.YtnpaejknoipicaeStoreCheck
import Derived.Test.YtnpaejknoipicaeCloneGroup
namespace Go.Proofs.Ytnpaejknoipicae
open Go.RowKit

/-- how many of the first groups go -/
def trimD : List (List Fr) → Nat
  | [] => 0
  | g :: r => if fullB (g :: r) then trimD r + 1 else 0
theorem fullB_nil : fullB [] = false := by simp [fullB, tooB]
theorem trimD_no {L : List (List Fr)} (h : fullB L = false) : trimD L = 0 := by
  cases L with
  | nil => rfl
  | cons g r => simp [trimD, h]
theorem trimD_yes {L : List (List Fr)} (h : fullB L = true) : trimD L = trimD L.tail + 1 := by
  cases L with
  | nil => rw [fullB_nil] at h; cases h
  | cons g r => simp [trimD, h]
theorem trimD_drop (L : List (List Fr)) : ∀ k, (∀ j, j < k → fullB (L.drop j) = true) → trimD L = k + trimD (L.drop k)
  | 0, _ => by simp
  | k + 1, h => by
    rw [trimD_drop L k (fun j hj => h j (by omega)), trimD_yes (h k (by omega)), List.tail_drop]
    omega
theorem fullB_len {L : List (List Fr)} (h : fullB L = true) : 1 < L.length := by
  simp only [fullB, tooB, Bool.or_eq_true, Bool.and_eq_true, decide_eq_true_eq] at h
  omega

theorem GrsIn.tail {S : Nat → Prop} {w : World} {ao : Option Addr} {n c : Nat} {L : List (List Fr)} (h : GrsIn S w (.slice ao n c) L) (h1 : 1 < L.length) : ∃ b off, ao = some ⟨b, off, none⟩ ∧ n = L.length ∧ L.length ≤ c ∧ GrsIn S w (.slice (some ⟨b, off + 1, none⟩) (L.length - 1) (c - 1)) L.tail := by
  obtain ⟨ao', c', e, hc1, hc2, hc⟩ := h
  injection e with e1 e2 e3
  subst e1 e2 e3
  obtain ⟨b, off, e, _⟩ := hc 0 (by omega)
  subst e
  refine ⟨b, off, rfl, rfl, hc1, some ⟨b, off + 1, none⟩, c - 1, by rw [List.length_tail], by rw [List.length_tail]; omega, by omega, fun k hk => ?_⟩
  rw [List.length_tail] at hk
  obtain ⟨b', off', e, hb, hS, sv, h1, h2⟩ := hc (k + 1) (by omega)
  injection e with e
  injection e with e1 e2
  subst e1 e2
  refine ⟨b, off + 1, rfl, hb, hS, sv, by rw [show off + 1 + k = off + (k + 1) by omega]; exact h1, ?_⟩
  rw [List.getElem?_tail]; exact h2

set_option maxHeartbeats 4000000 in
set_option maxRecDepth 100000 in
theorem letGo_any (M : Nat) (first : Int) (gv ov : Value) (L : List (List Fr)) (S : Nat → Prop) (w : World) (hM : Blk w M #[.int .i64 first, gv, ov] 82) (hg : GrsIn S w gv L) (hS : ∀ g, S g → g ≠ M) (hL : L.length ≤ 1000) (hf0 : 0 ≤ first) (hf1 : first ≤ 1000000) :
    Calls Try.prog 60 #[.pointer (some ⟨M, 0, none⟩)] w fun e w' => e = .returned (.tuple #[]) ∧ ∃ gv', Blk w' M #[.int .i64 (first + trimD L), gv', ov] 82 ∧ GrsIn S w' gv' (L.drop (trimD L)) ∧ Kept [M] w w' := by
  have HL : Hid (L.length ≤ 1000) := hL
  obtain ⟨n, hn⟩ : ∃ n, n = L.length := ⟨_, rfl⟩
  have HN : Hid (n = L.length) := hn
  have hn1 : n ≤ 1000 := by omega
  have HS : Hid (∀ g, S g → g ≠ M) := hS
  have HG : Hid (GrsIn S w gv L) := hg
  have HM : Hid (Blk w M #[.int .i64 first, gv, ov] 82) := hM
  clear hn hL hg hM hS
  go_enter Try.func60, Try.ntmps60
  go_wp2_with fail
  go_loopw [] (fun wr => ∃ (k : Nat) (gk : Value), k ≤ n ∧ Hid (∀ j, j < k → fullB (L.drop j) = true) ∧ Hid (Blk wr M #[.int .i64 (first + k), gk, ov] 82) ∧ Hid (GrsIn S wr gk (L.drop k)) ∧ Hid (Kept [M] w wr))
    (fun wr => n - (intOf ((wr.cell? ⟨M, 0, none⟩).getD undef) - first).toNat)
  case atStart => exact ⟨0, gv, Nat.zero_le _, (show ∀ j, _ → _ from fun j hj => absurd hj (Nat.not_lt_zero _)), by simpa [Hid] using HM.out, by simpa [Hid] using HG.out, Kept.refl _ _⟩
  case round =>
    obtain ⟨k, gk, hk, HF, KB, GK, KP⟩ := hrel
    obtain ⟨N, hN⟩ : ∃ N, N = L.drop k := ⟨_, rfl⟩
    have HNK : Hid (N = L.drop k) := hN
    rw [← hN] at GK
    obtain ⟨q, hq⟩ : ∃ q, q = N.length := ⟨_, rfl⟩
    have HQ : Hid (q = N.length) := hq
    have hql : q ≤ 1000 := by rw [hq, hN, List.length_drop]; have := HL.out; omega
    have HQN : Hid (q = n - k) := by show _ = _; rw [hq, hN, List.length_drop, HN.out]
    obtain ⟨ga, gc, eg, hgl, hg63⟩ := GK.out.len
    rw [← hq] at eg hgl hg63
    clear hN hq
    subst eg
    obtain ⟨k0, k1, k2⟩ := KB.out.three
    have f0 := KB.out.free 0
    have f1 := KB.out.free 1
    have hms : (intOf ((wr.cell? ⟨M, 0, none⟩).getD undef) - first).toNat = k := by rw [k0]; simp [intOf]; omega
    -- one goes
    have GO : Hid (fullB N = true → ∃ b off, ga = some ⟨b, off, none⟩ ∧ 1 < q ∧ q ≤ gc ∧ ∀ V : World, Blk V M #[.int .i64 (first + k), .slice ga q gc, ov] 82 → GrsIn S V (.slice ga q gc) N → Kept [M] w V → Hid (Blk ((V.setCell ⟨M, 1, none⟩ (.slice (some ⟨b, off + 1, none⟩) (q - 1) (gc - 1))).setCell ⟨M, 0, none⟩ (.int .i64 (first + k + 1))) M #[.int .i64 (first + (k + 1 : Nat)), .slice (some ⟨b, off + 1, none⟩) (q - 1) (gc - 1), ov] 82) ∧ Hid (GrsIn S ((V.setCell ⟨M, 1, none⟩ (.slice (some ⟨b, off + 1, none⟩) (q - 1) (gc - 1))).setCell ⟨M, 0, none⟩ (.int .i64 (first + k + 1))) (.slice (some ⟨b, off + 1, none⟩) (q - 1) (gc - 1)) (L.drop (k + 1))) ∧ Hid (Kept [M] w ((V.setCell ⟨M, 1, none⟩ (.slice (some ⟨b, off + 1, none⟩) (q - 1) (gc - 1))).setCell ⟨M, 0, none⟩ (.int .i64 (first + k + 1)))) ∧ Hid (∀ j, j < k + 1 → fullB (L.drop j) = true)) := fun hf => by
      have h1 := fullB_len hf
      obtain ⟨b, off, e1, _, h3, _⟩ := GK.out.tail h1
      refine ⟨b, off, e1, by rw [HQ.out]; exact h1, by rw [HQ.out]; exact h3, fun V h4 h5 h6 => ?_⟩
      obtain ⟨b', off', e2, _, _, h7⟩ := h5.tail h1
      rw [e1] at e2
      injection e2 with e2
      injection e2 with e2 e3
      subst e2 e3
      have hd : L.drop (k + 1) = N.tail := by rw [HNK.out, List.tail_drop]
      refine ⟨?_, ?_, (h6.setCell (by simp) _).setCell (by simp) _, fun j hj => ?_⟩
      · have := (h4.set 1 (.slice (some ⟨b, off + 1, none⟩) (q - 1) (gc - 1))).set 0 (.int .i64 (first + k + 1))
        rw [show first + ((k + 1 : Nat) : Int) = first + k + 1 by omega]
        simpa [Hid] using this
      · show GrsIn _ _ _ _
        rw [hd, HQ.out]
        exact h7.to ((SameOn.setCell (fun g hg => HS.out g hg) _).trans (SameOn.setCell (fun g hg => HS.out g hg) _)) (fun _ _ h => h)
      · by_cases e : j = k
        · subst e; rw [← HNK.out]; exact hf
        · exact HF.out j (by omega)
    -- nothing goes
    have END : Hid (fullB N = false → ∀ V : World, Blk V M #[.int .i64 (first + k), .slice ga q gc, ov] 82 → GrsIn S V (.slice ga q gc) N → Kept [M] w V → ∃ gv', Blk V M #[.int .i64 (first + trimD L), gv', ov] 82 ∧ GrsIn S V gv' (L.drop (trimD L)) ∧ Kept [M] w V) := fun hf V h1 h2 h3 => by
      have ht : trimD L = k := by rw [trimD_drop L k HF.out, ← HNK.out, trimD_no hf]; omega
      rw [ht]
      exact ⟨_, h1, by rw [← HNK.out]; exact h2, h3⟩
    by_cases h5 : 5 < q
    · have h5i : (5 : Int) < (q : Int) := by omega
      have hfull : fullB N = true := by unfold fullB; rw [← HQ.out]; simp [h5]
      obtain ⟨b, off, e1, h1q, hqc, hgo⟩ := GO.out hfull
      obtain ⟨r1, r2, r3, r4⟩ := hgo wr KB.out GK.out KP.out
      subst e1
      have h1i : (1 : Int) ≤ (q : Int) := by omega
      have hqci : (q : Int) ≤ (gc : Int) := by omega
      have c1 : (wr.setCell ⟨M, 1, none⟩ (.slice (some ⟨b, off + 1, none⟩) (q - 1) (gc - 1))).cell? ⟨M, 0, none⟩ = some (.int .i64 (first + k)) := (KB.out.set 1 _).cell rfl
      clear hfull hgo GO END HF
      go_wp2_with fail
      go_roundw
      case rel => exact ⟨k + 1, _, by have := HQN.out; omega, r4, r1, r2, r3⟩
      case measure =>
        have c2 := r1.out.cell (j := 0) rfl
        rw [hms, c2]
        simp [intOf]
        have := HQN.out
        omega
    · have h5i : ¬ (5 : Int) < (q : Int) := by omega
      obtain ⟨T, hT⟩ : ∃ T, T = tooB N := ⟨_, rfl⟩
      have HTG : Hid (Calls Try.prog 53 #[.slice ga q gc] wr fun e' w'' => e' = .returned (.bool T) ∧ Below wr.heap.size wr w'') := by
        show Calls _ _ _ _ _
        rw [hT]; exact areTooGreat_any S _ N wr GK.out (by rw [← HQ.out]; omega)
      have HFB : Hid (fullB N = T) := by show _ = _; unfold fullB; rw [← HQ.out, ← hT]; simp; omega
      clear hT
      go_wp2_with fail
      refine HTG.out.mono ?_
      rintro e' w2 ⟨rfl, hb2⟩
      have KB2 : Hid (Blk w2 M #[.int .i64 (first + k), .slice ga q gc, ov] 82) := KB.out.below hb2 KB.out.lt
      have GK2 : Hid (GrsIn S w2 (.slice ga q gc) N) := GK.out.below hb2
      have KP2 : Hid (Kept [M] w w2) := KP.out.below hb2
      clear hb2 HTG k0 k1 k2 f0 f1
      obtain ⟨k0, k1, k2⟩ := KB2.out.three
      have f0 := KB2.out.free 0
      have f1 := KB2.out.free 1
      cases T
      case true =>
        obtain ⟨b, off, e1, h1q, hqc, hgo⟩ := GO.out HFB.out
        obtain ⟨r1, r2, r3, r4⟩ := hgo w2 KB2.out GK2.out KP2.out
        subst e1
        have h1i : (1 : Int) ≤ (q : Int) := by omega
        have hqci : (q : Int) ≤ (gc : Int) := by omega
        have c1 : (w2.setCell ⟨M, 1, none⟩ (.slice (some ⟨b, off + 1, none⟩) (q - 1) (gc - 1))).cell? ⟨M, 0, none⟩ = some (.int .i64 (first + k)) := (KB2.out.set 1 _).cell rfl
        clear hgo GO END HF
        go_wp2_with fail
        go_roundw
        case rel => exact ⟨k + 1, _, by have := HQN.out; omega, r4, r1, r2, r3⟩
        case measure =>
          have c2 := r1.out.cell (j := 0) rfl
          rw [hms, c2]
          simp [intOf]
          have := HQN.out
          omega
      case false =>
        have HEND : Hid (∃ gv', Blk w2 M #[.int .i64 (first + trimD L), gv', ov] 82 ∧ GrsIn S w2 gv' (L.drop (trimD L)) ∧ Kept [M] w w2) := END.out HFB.out w2 KB2.out GK2.out KP2.out
        clear GO END HF
        go_wp2
        go_end0
        exact ⟨rfl, HEND.out⟩

end Go.Proofs.Ytnpaejknoipicae
