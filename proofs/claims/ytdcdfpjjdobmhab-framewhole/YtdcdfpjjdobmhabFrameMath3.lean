/-
  Plain facts on a frame that a slot makes whole.
-/
import Derived.Test.YtdcdfpjjdobmhabFrameMath2
import Derived.Test.YtdcdfpjjdobmhabFrameChk2
namespace Go.Proofs.Ytdcdfpjjdobmhab

theorem Pk.chk_time {p : Pk} (h : p.chk = 0) : 0 ≤ p.time ∧ p.time ≤ 1000000 ∧ p.t.size ≤ 8 := by
  unfold Pk.chk at h
  repeat' split at h
  all_goals first | omega | skip
  all_goals (refine ⟨by omega, by omega, ?_⟩; omega)
theorem texts_at (l : List Sk) (i : Nat) (h : i < l.length) : (texts l)[i]?.getD ByteArray.empty = (l[i]?.getD Sk.zero).p.t := by
  unfold texts
  rw [List.getElem?_map, List.getElem?_eq_getElem h]
  rfl
/-- what a frame that came to its end is made of: the slots of 'l ++ [x]' from k on -/
structure WholeOf (l : List Sk) (x : Sk) (k : Nat) : Prop where
  le : k ≤ l.length
  len : (addP l x).length + k = l.length + 1
  first : 0 < k → x.p.f = true
  last : x.p.e = true
  chk : chkF (addT l x) (addP l x) = 0
  opn : addO l x = []
  key : addK l x = ((l ++ [x])[k]?.getD Sk.zero).p.k
  each : ∀ i, k ≤ i → i < l.length + 1 → ((l ++ [x])[i]?.getD Sk.zero).p.f = decide (i = k) ∧ (addP l x)[i - k]?.getD ByteArray.empty = ((l ++ [x])[i]?.getD Sk.zero).p.t ∧ ((l ++ [x])[i]?.getD Sk.zero).p.time = addT l x ∧ (k < i → ((l ++ [x])[i]?.getD Sk.zero).n = ((l ++ [x])[i - 1]?.getD Sk.zero).n + 1 ∧ 0 ≤ ((l ++ [x])[i - 1]?.getD Sk.zero).n ∧ ((l ++ [x])[i - 1]?.getD Sk.zero).n ≤ 1000000000)

theorem whole_of {l : List Sk} {x : Sk} (hE : addE l x = 0) (hW : addW l x = true) : ∃ k, WholeOf l x k := by
  obtain ⟨h0, hx, h3, hl⟩ := addE_zero hE
  have hog : ogo none l = 0 := by unfold ochk at h0; rw [if_neg (by omega)] at h0; exact h0
  have hxe : x.p.e = true := by unfold addW at hW; simp at hW; exact hW.2
  have hT0 : 0 < (takeF l x).length := by unfold addW at hW; simp at hW; exact hW.1
  have hP : addP l x = texts (takeF l x) := by unfold addP; rw [if_pos hW]
  have hT : addT l x = ((takeF l x)[0]?.getD Sk.zero).p.time := by unfold addT; rw [if_pos hW]
  have hK : addK l x = ((takeF l x)[0]?.getD Sk.zero).p.k := by unfold addK; rw [hW]; rfl
  have hO : addO l x = [] := by unfold addO; rw [if_pos hW]
  have hchk : ∀ T : List Sk, takeF l x = T → (∀ y ∈ T, y.chk = 0) → T.length ≤ 4 → chkF (addT l x) (addP l x) = 0 := fun T e hy h4 => by
    rw [hT, hP, e]
    rw [e] at hT0
    have hl0 : ¬ (texts T).length = 0 := by simp [texts]; intro h; rw [h] at hT0; simp at hT0
    have ht := Pk.chk_time (Sk.chk_zero (hy T[0] (List.getElem_mem hT0))).2.2.1
    unfold chkF
    rw [List.getElem?_eq_getElem hT0, Option.getD_some, if_neg (by omega), if_neg hl0, if_neg (by simp [texts]; omega)]
    have : (texts T).any longB = false := by
      rw [List.any_eq_false]
      intro s hs
      obtain ⟨y, hy1, rfl⟩ := List.mem_map.1 hs
      have := (Pk.chk_time (Sk.chk_zero (hy y hy1)).2.2.1).2.2
      simp [longB]; omega
    rw [this]; rfl
  by_cases hf : x.p.f = true
  · have e : takeF l x = [x] := by unfold takeF; rw [if_pos hf]
    have eL : (l ++ [x])[l.length]? = some x := by simp
    refine ⟨l.length, Nat.le_refl _, by rw [hP, e]; simp [texts]; omega, fun _ => hf, hxe, hchk [x] e (fun y hy => by simp at hy; rw [hy]; exact hx) (by simp), hO, by rw [hK, e, eL]; rfl, fun i h1 h2 => ?_⟩
    have : i = l.length := by omega
    subst this
    rw [eL, hP, hT, e]
    exact ⟨by simp [hf], by simp [texts], rfl, fun h => absurd h (Nat.lt_irrefl _)⟩
  · have hf' : x.p.f = false := by simpa using hf
    have hcond : 0 < l.length ∧ folB (lastSk l) x = true := by
      unfold takeF at hT0
      rw [if_neg hf] at hT0
      by_cases h : 0 < l.length ∧ folB (lastSk l) x = true
      · exact h
      · rw [if_neg h] at hT0; simp at hT0
    have e : takeF l x = l ++ [x] := by unfold takeF; rw [if_neg hf, if_pos hcond]
    have hn : nextB (lastSk l) x = true := by unfold nextB; rw [hf', hcond.2]; rfl
    have hm := ogo_more hog hcond.1 hn
    refine ⟨0, Nat.zero_le _, by rw [hP, e]; simp [texts], fun h => absurd h (Nat.lt_irrefl _), hxe, hchk (l ++ [x]) e (fun y hy => ?_) (by simp; omega), hO, by rw [hK, e], fun i _ h2 => ?_⟩
    · rcases List.mem_append.1 hy with h | h
      · exact hl y h
      · simp at h; rw [h]; exact hx
    · obtain ⟨q1, q2, q3⟩ := hm i h2
      refine ⟨q1, by rw [hP, e, Nat.sub_zero]; exact texts_at _ i (by simp; omega), by rw [hT, e]; exact q2, fun h => ⟨q3 h, ?_⟩⟩
      have hlt : i - 1 < l.length := by omega
      have : (l ++ [x])[i - 1]? = some l[i - 1] := by rw [List.getElem?_append_left hlt, List.getElem?_eq_getElem hlt]
      rw [this, Option.getD_some]
      have := Sk.chk_zero (hl l[i - 1] (List.getElem_mem hlt))
      omega
/-- where no frame came: what is open ends with the slot -/
theorem open_last {l : List Sk} {x : Sk} (hE : addE l x = 0) (hW : addW l x = false) : addP l x = [] ∧ (addO l x).length ≤ 3 ∧ (0 < (addO l x).length → (addO l x)[(addO l x).length - 1]?.getD Sk.zero = x) := by
  have h3 := (addE_zero hE).2.2.1
  refine ⟨by unfold addP; rw [hW]; rfl, addO_len l x h3, ?_⟩
  unfold addO
  rw [hW]
  simp only [Bool.false_eq_true, if_false]
  split
  · intro h; simp at h
  · unfold takeF
    split
    · intro _; simp
    · split
      · intro _; simp
      · intro h; simp at h

end Go.Proofs.Ytdcdfpjjdobmhab
