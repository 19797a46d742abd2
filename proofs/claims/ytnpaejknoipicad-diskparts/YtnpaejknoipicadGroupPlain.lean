/-
  Plain mathematics of groups: no Go in sight.
-/
import Derived.Test.YtnpaejknoipicadNest
namespace Go.Proofs.Ytnpaejknoipicad

abbrev frAt (l : List Fr) (k : Nat) : Fr := l[k]?.getD Fr.zero
def Fr.chk (f : Fr) : Int := chkF f.time f.parts
/-- does the frame at a place begin, or go on with, a group? -/
def inPl (l : List Fr) (k : Nat) : Bool := if k = 0 then (frAt l k).key else !(frAt l k).key && decide ((frAt l (k - 1)).time ≤ (frAt l k).time)
def gerr (l : List Fr) (k : Nat) : Int := if (frAt l k).chk = 0 then (if inPl l k then 0 else 4) else (frAt l k).chk
/-- what Check says of a group -/
def gchk (l : List Fr) : Int := if l.length = 0 then 5 else if 6 < l.length then 2 else goN (gerr l) l.length 0
/-- bytes of texts, of a group -/
def szP (l : List ByteArray) : Nat := (l.map ByteArray.size).sum
def szG (l : List Fr) : Nat := (l.map fun f => szP f.parts).sum
def gsize (l : List Fr) : Nat := if gchk l = 0 then szG l else 0

theorem gerr_zero {l : List Fr} {k : Nat} : gerr l k = 0 ↔ (frAt l k).chk = 0 ∧ inPl l k = true := by
  unfold gerr
  by_cases h : (frAt l k).chk = 0
  · rw [if_pos h]
    cases inPl l k <;> simp [h]
  · rw [if_neg h]; simp [h]
theorem gchk_zero {l : List Fr} : gchk l = 0 ↔ 0 < l.length ∧ l.length ≤ 6 ∧ ∀ k, k < l.length → (frAt l k).chk = 0 ∧ inPl l k = true := by
  unfold gchk
  by_cases h0 : l.length = 0
  · rw [if_pos h0]; constructor
    · intro h; cases h
    · intro h; omega
  · rw [if_neg h0]
    by_cases h6 : 6 < l.length
    · rw [if_pos h6]; constructor
      · intro h; cases h
      · intro h; omega
    · rw [if_neg h6]
      constructor
      · intro h
        exact ⟨by omega, by omega, fun k hk => gerr_zero.1 (goN_zero _ _ h k (Nat.zero_le _) (by omega))⟩
      · rintro ⟨_, _, h⟩
        exact goN_all _ _ (fun j _ hj => gerr_zero.2 (h j (by omega)))
theorem chkF_zero {t : Int} {l : List ByteArray} (h : chkF t l = 0) : 0 ≤ t ∧ t ≤ 1000000 ∧ 0 < l.length ∧ l.length ≤ 4 ∧ ∀ s ∈ l, s.size ≤ 8 := by
  unfold chkF at h
  by_cases h1 : t < 0 ∨ 1000000 < t
  · rw [if_pos h1] at h; cases h
  rw [if_neg h1] at h
  by_cases h2 : l.length = 0
  · rw [if_pos h2] at h; cases h
  rw [if_neg h2] at h
  by_cases h3 : 4 < l.length
  · rw [if_pos h3] at h; cases h
  rw [if_neg h3] at h
  cases h4 : l.any longB
  · refine ⟨by omega, by omega, by omega, by omega, fun s hs => ?_⟩
    have := List.any_eq_false.1 h4 s hs
    simp [longB] at this; omega
  · rw [h4] at h; simp at h
theorem szP_le {l : List ByteArray} (h : ∀ s ∈ l, s.size ≤ 8) : szP l ≤ l.length * 8 := by
  induction l with
  | nil => simp [szP]
  | cons s r ih =>
    have h1 := h s List.mem_cons_self
    have h2 := ih (fun t ht => h t (List.mem_cons_of_mem _ ht))
    simp [szP] at h2 ⊢; omega
theorem szP_take (l : List ByteArray) (k : Nat) (hk : k < l.length) : szP (l.take (k + 1)) = szP (l.take k) + (l[k]?.getD ByteArray.empty).size := by
  unfold szP
  rw [take_one hk ByteArray.empty, List.map_append, List.sum_append]; simp
theorem szG_take (l : List Fr) (k : Nat) (hk : k < l.length) : szG (l.take (k + 1)) = szG (l.take k) + szP (frAt l k).parts := by
  unfold szG
  rw [take_one hk Fr.zero, List.map_append, List.sum_append]; simp
theorem szG_le {l : List Fr} (h : ∀ k, k < l.length → szP (frAt l k).parts ≤ 32) : ∀ n, n ≤ l.length → szG (l.take n) ≤ n * 32
  | 0, _ => by simp [szG]
  | n + 1, hn => by
    rw [szG_take l n (by omega)]
    have := szG_le h n (by omega)
    have := h n (by omega)
    omega
theorem fr_szP {f : Fr} (h : f.chk = 0) : szP f.parts ≤ 32 := by
  obtain ⟨_, _, _, h4, h5⟩ := chkF_zero h
  have := szP_le h5
  omega

/-- the open group behind a frame -/
def growG (g : List Fr) (f : Fr) : List Fr := if f.key then [f] else if g.length = 0 ∨ 6 ≤ g.length ∨ f.time < (frAt g (g.length - 1)).time then g else g ++ [f]
def stepG (s : List (List Fr) × List Fr) (f : Fr) : List (List Fr) × List Fr := (if f.key && decide (0 < s.2.length) then s.1 ++ [s.2] else s.1, growG s.2 f)
def upG (l : List Fr) (k : Nat) : List (List Fr) × List Fr := (l.take k).foldl stepG ([], [])
def groupsE (l : List Fr) : Int := if 100 < l.length then 2 else goN (fun k => (frAt l k).chk) l.length 0
def groupsR (l : List Fr) : List (List Fr) × List Fr := if groupsE l = 0 then upG l l.length else ([], [])
theorem upG_succ (l : List Fr) (k : Nat) (hk : k < l.length) : upG l (k + 1) = stepG (upG l k) (frAt l k) := by
  unfold upG
  rw [take_one hk Fr.zero, List.foldl_append]
  rfl
theorem growG_len (g : List Fr) (f : Fr) (h : g.length ≤ 6) : (growG g f).length ≤ 6 := by
  unfold growG
  split
  · simp
  · split
    · exact h
    · simp; omega
theorem upG_len (l : List Fr) : ∀ k, k ≤ l.length → (upG l k).2.length ≤ 6 ∧ (upG l k).1.length ≤ k
  | 0, _ => by simp [upG]
  | k + 1, hk => by
    obtain ⟨h1, h2⟩ := upG_len l k (by omega)
    rw [upG_succ l k (by omega)]
    refine ⟨growG_len _ _ h1, ?_⟩
    simp only [stepG]
    split
    · simp; omega
    · omega
/-- two groups' frames: the same? -/
def sameGs (L M : List (List Fr)) : Bool := decide (L = M)
theorem sameGs_len {l m : List (List Fr)} (h : ¬ l.length = m.length) : sameGs l m = false := decide_eq_false fun e => h (by rw [e])
theorem sameGs_at {l m : List (List Fr)} {k : Nat} (hx : ¬ (l[k]?.getD []) = (m[k]?.getD [])) : sameGs l m = false := decide_eq_false fun e => hx (by rw [e])
theorem sameGs_ext {l m : List (List Fr)} (hl : l.length = m.length) (h : ∀ k, k < l.length → (l[k]?.getD []) = (m[k]?.getD [])) : sameGs l m = true := by
  refine decide_eq_true (List.ext_getElem hl fun k h1 h2 => ?_)
  have := h k h1
  rw [List.getElem?_eq_getElem h1, List.getElem?_eq_getElem h2] at this
  exact this

end Go.Proofs.Ytnpaejknoipicad
