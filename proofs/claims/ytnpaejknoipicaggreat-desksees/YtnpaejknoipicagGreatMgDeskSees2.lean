/-
  Contract: buffer.Check, whole.
-/
import Derived.Test.YtnpaejknoipicagGreatMgDeskSees1
import Derived.Deep.QuietTactic
import Derived.BigQuiet
import Derived.Lib.Overlaps
import Derived.Lib.AppendZerosOnto
import Derived.Laws.NewBlocks
import Derived.Lib.QuietBelow
import Derived.Deep.LoopGhost

namespace Go.Proofs.YtnpaejknoipicagGreat
open Go.RowKit

/-- the first error of slots, one by one: by itself, then in its place -/
def chkFit (q : Nat → Bool) : Nat → List Sk → Int
  | _, [] => 0
  | i, x :: r => if x.chk = 0 then (if q i then chkFit q (i + 1) r else 4) else x.chk
theorem chkFit_append (q : Nat → Bool) (m : List Sk) : ∀ (l : List Sk) (i : Nat), chkFit q i l = 0 → chkFit q i (l ++ m) = chkFit q (i + l.length) m
  | [], i, _ => rfl
  | x :: r, i, h => by
    simp only [List.cons_append, chkFit] at h ⊢
    by_cases hx : x.chk = 0
    · rw [if_pos hx] at h ⊢
      cases hq : q i
      · rw [hq] at h; simp at h
      · rw [hq, if_pos rfl] at h
        rw [if_pos rfl, chkFit_append q m r (i + 1) h]
        congr 1
        simp only [List.length_cons]; omega
    · rw [if_neg hx] at h; exact absurd h hx
theorem split_at {l : List Sk} {k : Nat} (hk : k < l.length) : l = l.take k ++ (l[k]?.getD Sk.zero) :: l.drop (k + 1) := by
  rw [List.getElem?_eq_getElem hk, Option.getD_some, ← List.drop_eq_getElem_cons hk, List.take_append_drop]
theorem chkFit_no1 {q : Nat → Bool} {l : List Sk} {k : Nat} (hk : k < l.length) (h : chkFit q 0 (l.take k) = 0) (hx : ¬ (l[k]?.getD Sk.zero).chk = 0) : chkFit q 0 l = (l[k]?.getD Sk.zero).chk := by
  rw [split_at hk, chkFit_append q _ _ _ h, ← split_at hk]
  simp only [chkFit, if_neg hx]
theorem chkFit_no2 {q : Nat → Bool} {l : List Sk} {k : Nat} (hk : k < l.length) (h : chkFit q 0 (l.take k) = 0) (hx : (l[k]?.getD Sk.zero).chk = 0) (hq : q k = false) : chkFit q 0 l = 4 := by
  have hl : 0 + (l.take k).length = k := by simp; omega
  rw [split_at hk, chkFit_append q _ _ _ h, hl]
  simp only [chkFit, if_pos hx, hq]; simp
theorem chkFit_ok {q : Nat → Bool} {l : List Sk} {k : Nat} (hk : k < l.length) (h : chkFit q 0 (l.take k) = 0) (hx : (l[k]?.getD Sk.zero).chk = 0) (hq : q k = true) : chkFit q 0 (l.take (k + 1)) = 0 := by
  have hl : 0 + (l.take k).length = k := by simp; omega
  rw [take_one hk Sk.zero, chkFit_append q _ _ _ h, hl]
  simp only [chkFit, if_pos hx, hq]; simp

/-- a closure that tells q of a place below n, and changes nothing that was there -/
def Fits (g : Nat) (lb : Array Value) (q : Nat → Bool) (n : Nat) (w : World) : Prop :=
  ∀ (W : World) (k : Nat), k < n → Below w.heap.size w W → Calls Tryz.prog g (#[.int .i64 k] ++ lb) W fun e w' => e = .returned (.bool (q k)) ∧ Below W.heap.size W w'

set_option maxHeartbeats 1600000 in
theorem checkAll_any (g : Nat) (lb : Array Value) (q : Nat → Bool) (eg : Enters Tryz.prog g) (v : Value) (l : List Sk) (w : World) (hv : Sls w v l) (hlen : l.length ≤ 9223372036854775807) (hq : Fits g lb q l.length w) :
    Calls Tryz.prog 130 #[v, .func (.func g) #[] lb] w fun e w' => e = .returned (.int .i64 (chkFit q 0 l)) ∧ Below w.heap.size w w' := by
  obtain ⟨ao, c, rfl, hc⟩ := hv.parts
  have HC : Hid (∀ k, k < l.length → ∃ b off, ao = some ⟨b, off, none⟩ ∧ b < w.heap.size ∧ At7 w b (off + k * 7) (l[k]?.getD Sk.zero)) := hc
  have HQ : Hid (Fits g lb q l.length w) := hq
  obtain ⟨n, hn⟩ : ∃ n, n = l.length := ⟨_, rfl⟩
  have HN : Hid (n = l.length) := hn
  have eg' : ∀ (args : Array Value) (w : World), (callFunc g args).run Tryz.prog w = .ok (.enter g args) w := eg
  rw [← hn] at hlen ⊢
  clear hc hv hn hq eg
  go_enter Tryz.func130, Tryz.ntmps130
  go_wp2
  go_loopw [10] (fun i wr => ∃ k : Nat, k ≤ n ∧ i = .int .i64 k ∧ Hid (chkFit q 0 (l.take k) = 0) ∧ Below w.heap.size w wr)
    (fun i _ => n - (intOf i).toNat)
  case atStart => exact ⟨0, Nat.zero_le _, rfl, (show chkFit q 0 (l.take 0) = 0 from rfl), Below.refl _ _⟩
  case round =>
    obtain ⟨k, hk, rfl, HK, hbel⟩ := hrel
    by_cases hlt : k < n
    · obtain ⟨b, off, rfl, hb, hat⟩ := HC.out k (by rw [← HN.out]; exact hlt)
      obtain ⟨c0, c1, c2, c3, c4, c5, c6⟩ := hat.below hbel hb
      obtain ⟨x, hx⟩ : ∃ x, x = l[k]?.getD Sk.zero := ⟨_, rfl⟩
      rw [← hx] at c0 c1 c2 c3 c4 c5 c6
      have HX : Hid (x = l[k]?.getD Sk.zero) := hx
      clear hx hat
      obtain ⟨ch, hch⟩ : ∃ ch, ch = x.chk := ⟨_, rfl⟩
      have HCH : Hid (ch = x.chk) := hch
      have hck : ∀ w : World, Calls Tryz.prog 83 #[x.val] w fun e w' => e = .returned (.int .i64 ch) ∧ Below w.heap.size w w' := fun w => by rw [hch]; exact slotCheck_any x w
      clear hch
      obtain ⟨qk, hqk⟩ : ∃ qk, qk = q k := ⟨_, rfl⟩
      have HQK : Hid (qk = q k) := hqk
      have hfit : ∀ W : World, Below w.heap.size w W → Calls Tryz.prog g (#[.int .i64 k] ++ lb) W fun e w' => e = .returned (.bool qk) ∧ Below W.heap.size W w' := fun W hW => by rw [hqk]; exact HQ.out W k (by rw [← HN.out]; exact hlt) hW
      have HF : Hid (∀ W : World, Below w.heap.size w W → Calls Tryz.prog g (#[.int .i64 k] ++ lb) W fun e w' => e = .returned (.bool qk) ∧ Below W.heap.size W w') := hfit
      clear hqk hfit
      obtain ⟨xn, seq, time, xf, xe, xk, xt⟩ := x
      simp only [Sk.val] at hck c0 c1 c2 c3 c4 c5 c6
      have HB : Hid (Below w.heap.size w wr) := hbel
      clear hbel
      by_cases h0 : ch = 0
      · subst h0
        cases qk
        · go_wp2_with (first
            | (go_at_call 83; refine (hck _).mono ?_; rintro e w1 ⟨rfl, hbw⟩; have HB1 : Hid (Below w.heap.size w w1) := HB.out.trans (((Below.refl _ _).alloc HB.out.size _).trans (hbw.mono (by have := HB.out.size; simp; omega))))
            | (go_at_fn g; refine (HF.out _ HB1.out).mono ?_; rintro e w2 ⟨rfl, hbw2⟩))
          go_ret
          exact ⟨by rw [chkFit_no2 (by rw [← HN.out]; exact hlt) HK.out (by rw [← HX.out]; exact HCH.out.symm) HQK.out.symm]; rfl, HB1.out.trans (hbw2.mono HB1.out.size)⟩
        · go_wp2_with (first
            | (go_at_call 83; refine (hck _).mono ?_; rintro e w1 ⟨rfl, hbw⟩; have HB1 : Hid (Below w.heap.size w w1) := HB.out.trans (((Below.refl _ _).alloc HB.out.size _).trans (hbw.mono (by have := HB.out.size; simp; omega))))
            | (go_at_fn g; refine (HF.out _ HB1.out).mono ?_; rintro e w2 ⟨rfl, hbw2⟩))
          go_roundw
          case rel => exact ⟨k + 1, by omega, by go_num, (show chkFit q 0 (l.take (k + 1)) = 0 from chkFit_ok (by rw [← HN.out]; exact hlt) HK.out (by rw [← HX.out]; exact HCH.out.symm) HQK.out.symm), HB1.out.trans (hbw2.mono HB1.out.size)⟩
          case measure => simp [intOf]; omega
      · go_wp2_with (go_at_call 83; refine (hck _).mono ?_; rintro e w' ⟨rfl, hbw⟩)
        go_ret
        exact ⟨by rw [chkFit_no1 (by rw [← HN.out]; exact hlt) HK.out (by rw [← HX.out, ← HCH.out]; exact h0), ← HX.out, ← HCH.out]; rfl, HB.out.trans (((Below.refl _ _).alloc HB.out.size _).trans (hbw.mono (by have := HB.out.size; simp; omega)))⟩
    · have hkl : k = n := by omega
      subst hkl
      go_wp2
      go_ret
      have hk0 := HK.out
      rw [HN.out, List.take_length] at hk0
      rw [hk0]
      exact ⟨rfl, hbel⟩

end Go.Proofs.YtnpaejknoipicagGreat

namespace Go.Proofs.YtnpaejknoipicagGreat

/-- all whose turn it is -/
def letF : Int → List Sk → List Sk → Int × List Sk × List Sk
  | next, [], o => (next, [], o)
  | next, x :: r, o => if x.n = next then letF (next + 1) r (o ++ [x]) else (next, x :: r, o)
/-- what is missing is given up till at most so many are held -/
def giveF (most : Nat) : Nat → Int → List Sk → List Sk → Int × List Sk × List Sk
  | 0, next, h, o => (next, h, o)
  | _ + 1, next, [], o => (next, [], o)
  | f + 1, next, x :: r, o => if r.length + 1 ≤ most then (next, x :: r, o) else giveF most f (letF x.n (x :: r) o).1 (letF x.n (x :: r) o).2.1 (letF x.n (x :: r) o).2.2
/-- both in one: as the document has it -/
def relF (most : Nat) : Int → List Sk → List Sk → Int × List Sk × List Sk
  | next, [], o => (next, [], o)
  | next, x :: r, o => if x.n = next then relF most (next + 1) r (o ++ [x]) else if r.length + 1 ≤ most then (next, x :: r, o) else relF most (x.n + 1) r (o ++ [x])

theorem letF_len : ∀ (h : List Sk) (next : Int) (o : List Sk), (letF next h o).2.1.length ≤ h.length
  | [], _, _ => Nat.le_refl _
  | x :: r, next, o => by
    unfold letF
    split
    · have := letF_len r (next + 1) (o ++ [x]); simp; omega
    · exact Nat.le_refl _
theorem letF_first (x : Sk) (r o : List Sk) : letF x.n (x :: r) o = letF (x.n + 1) r (o ++ [x]) := by simp [letF]

theorem give_let (most : Nat) : ∀ (k : Nat) (h : List Sk), h.length ≤ k → ∀ (f : Nat) (next : Int) (o : List Sk), (letF next h o).2.1.length ≤ f →
    giveF most f (letF next h o).1 (letF next h o).2.1 (letF next h o).2.2 = relF most next h o
  | _, [], _, f, next, o, _ => by cases f <;> simp [letF, giveF, relF]
  | 0, _ :: _, hk, _, _, _, _ => by simp at hk
  | k + 1, x :: r, hk, f, next, o, hf => by
    simp only [List.length_cons] at hk
    by_cases h : x.n = next
    · simp only [letF, relF, if_pos h] at hf ⊢
      exact give_let most k r (by omega) f (next + 1) (o ++ [x]) hf
    · simp only [letF, relF, if_neg h] at hf ⊢
      cases f with
      | zero => simp at hf
      | succ f =>
        by_cases hm : r.length + 1 ≤ most
        · simp only [giveF, if_pos hm]
        · simp only [giveF, if_neg hm, letF_first]
          have := letF_len r (x.n + 1) (o ++ [x])
          simp only [List.length_cons] at hf
          exact give_let most k r (by omega) f (x.n + 1) (o ++ [x]) (by omega)
end Go.Proofs.YtnpaejknoipicagGreat

namespace Go.Proofs.YtnpaejknoipicagGreat

/-- each number is more than the one ahead of it, the first one more than n -/
def upB : Int → List Sk → Bool
  | _, [] => true
  | n, x :: r => decide (n < x.n) && upB x.n r
/-- numbers may be, at most four are held, each is right, and they rise -/
def Right (next : Int) (l : List Sk) : Prop :=
  (next = 0 ∧ l = [] ∨ 65536 ≤ next ∧ next ≤ 1000000001) ∧ l.length ≤ 4 ∧ (∀ x ∈ l, x.chk = 0) ∧ upB next l = true
/-- as the document has it: slot by slot -/
def bgo (next : Int) : Int → List Sk → Int
  | _, [] => 0
  | last, x :: r => if x.chk = 0 then (if x.n ≤ next ∨ x.n ≤ last then 4 else bgo next x.n r) else x.chk
def nextBad (next : Int) : Bool := !(next == 0) && !(decide (65536 ≤ next) && decide (next ≤ 1000000001))
def bchk (next : Int) (l : List Sk) : Int :=
  if nextBad next then 3 else if 4 < l.length then 2 else if bgo next next l = 0 then (if next = 0 ∧ 0 < l.length then 4 else 0) else bgo next next l

theorem bgo_zero (next : Int) : ∀ (l : List Sk) (last : Int), next ≤ last → (bgo next last l = 0 ↔ (∀ x ∈ l, x.chk = 0) ∧ upB last l = true)
  | [], _, _ => by simp [bgo, upB]
  | x :: r, last, hl => by
    simp only [bgo, upB, List.mem_cons, forall_eq_or_imp]
    by_cases h : x.chk = 0
    · rw [if_pos h]
      by_cases h2 : x.n ≤ next ∨ x.n ≤ last
      · rw [if_pos h2]
        have : decide (last < x.n) = false := decide_eq_false (by omega)
        rw [this]; simp
      · rw [if_neg h2, bgo_zero next r x.n (by omega)]
        have : decide (last < x.n) = true := decide_eq_true (by omega)
        rw [this]; simp [h]
    · rw [if_neg h]; simp [h]
theorem nextBad_false {next : Int} : nextBad next = false ↔ next = 0 ∨ 65536 ≤ next ∧ next ≤ 1000000001 := by
  simp [nextBad]; omega
theorem bchk_right (next : Int) (l : List Sk) : bchk next l = 0 ↔ Right next l := by
  unfold bchk Right
  cases hb : nextBad next
  · have hn := nextBad_false.1 hb
    rw [if_neg (by simp)]
    by_cases h4 : 4 < l.length
    · rw [if_pos h4]; simp; omega
    · rw [if_neg h4]
      by_cases hg : bgo next next l = 0
      · rw [if_pos hg]
        have h := (bgo_zero next l next (Int.le_refl _)).1 hg
        by_cases h0 : next = 0 ∧ 0 < l.length
        · rw [if_pos h0]
          constructor
          · intro h; omega
          · rintro ⟨h1, _⟩
            rcases h1 with ⟨_, h1⟩ | h1
            · rw [h1] at h0; simp at h0
            · omega
        · rw [if_neg h0]
          refine ⟨fun _ => ⟨?_, by omega, h.1, h.2⟩, fun _ => rfl⟩
          rcases hn with hn | hn
          · left; exact ⟨hn, List.eq_nil_of_length_eq_zero (by omega)⟩
          · right; exact hn
      · rw [if_neg hg]
        constructor
        · intro h; exact absurd h hg
        · rintro ⟨_, _, h1, h2⟩
          exact absurd ((bgo_zero next l next (Int.le_refl _)).2 ⟨h1, h2⟩) hg
  · rw [if_pos rfl]
    constructor
    · intro h; omega
    · rintro ⟨h1, _⟩
      have : nextBad next = false := nextBad_false.2 (by rcases h1 with ⟨h, _⟩ | h <;> omega)
      rw [this] at hb; cases hb

theorem Sk.chk_zero {x : Sk} (h : x.chk = 0) : 65536 ≤ x.n ∧ x.n ≤ 1000000000 ∧ x.p.chk = 0 ∧ x.n % 65536 = x.p.seq := by
  cases hb : Cn.isNB x.n
  · rw [Sk.chk_range hb] at h; omega
  · have := Cn.isNB_iff.1 hb
    by_cases hc : x.p.chk = 0
    · by_cases hs : x.n % 65536 = x.p.seq
      · exact ⟨this.1, this.2, hc, hs⟩
      · rw [Sk.chk_seq hb hc hs] at h; omega
    · rw [Sk.chk_pkt hb hc] at h; exact absurd h hc
theorem Sk.chk_short {x : Sk} (h : x.chk = 0) : x.p.t.size ≤ 8 := by
  have hc := (Sk.chk_zero h).2.2.1
  unfold Pk.chk at hc
  by_cases h1 : x.p.seq < 0
  · rw [if_pos h1] at hc; omega
  rw [if_neg h1] at hc
  by_cases h2 : 65535 < x.p.seq
  · rw [if_pos h2] at hc; omega
  rw [if_neg h2] at hc
  by_cases h3 : x.p.time < 0
  · rw [if_pos h3] at hc; omega
  rw [if_neg h3] at hc
  by_cases h4 : 1000000 < x.p.time
  · rw [if_pos h4] at hc; omega
  rw [if_neg h4] at hc
  by_cases h5 : 8 < (x.p.t.size : Int)
  · rw [if_pos h5] at hc; omega
  omega

end Go.Proofs.YtnpaejknoipicagGreat

namespace Go.Proofs.YtnpaejknoipicagGreat
open Go.RowKit

end Go.Proofs.YtnpaejknoipicagGreat

namespace Go.Proofs.YtnpaejknoipicagGreat
open Go.RowKit

end Go.Proofs.YtnpaejknoipicagGreat

namespace Go.Proofs.YtnpaejknoipicagGreat
open Go.RowKit

theorem Tryz.sizeSlot : (Tryz.prog.info? 106).map (·.size) = some 7 := by kernel_rfl

set_option maxHeartbeats 1000000 in
set_option maxRecDepth 100000 in
/-- at the end -/
theorem insert_end (base n : Nat) (v : Value) (l : List Sk) (x : Sk) (vb : Nat) (w : World) (hn : n = l.length) (hown : w.ownsRow base 106 7 v n (skCells l)) (hsm : n ≤ 1000) (hbase : base ≤ w.heap.size)
    (hvb : Blk w vb x.cells 106) :
    Calls Tryz.prog 177 #[v, .int .i64 n, .slice (some ⟨vb, 0, none⟩) 1 1] w fun e w' =>
      ∃ u, e = .returned u ∧ w'.ownsRow base 106 7 u (n + 1) (skCells (l ++ [x])) ∧ w.grownBy w' v.ownBlock := by
  obtain ⟨i0, hi, hz0, hz1, hz2⟩ := info_parts Tryz.infoSlot
  obtain ⟨a, c, hv⟩ : ∃ a c, v = .slice a n c := by
    obtain ⟨_, ⟨rfl, rfl⟩ | ⟨g, cap, cur, rfl, _⟩⟩ := hown
    · exact ⟨_, _, rfl⟩
    · exact ⟨_, _, rfl⟩
  have hnc : n ≤ c := by
    obtain ⟨_, ⟨h, h0⟩ | ⟨g, cap, cur, h, _, _, h1, _⟩⟩ := hown
    · omega
    · rw [hv] at h; cases h; exact h1
  have HO : Hid (w.ownsRow base 106 7 v n (skCells l)) := hown
  have HV : Hid (Blk w vb x.cells 106) := hvb
  obtain ⟨ob, hob⟩ : ∃ ob, ob = v.ownBlock := ⟨_, rfl⟩
  rw [← hob]
  clear hown hvb hn
  subst hv
  have HB : Hid (ob = (Value.slice a n c).ownBlock) := hob
  clear hob
  go_enter Tryz.func177, Tryz.ntmps177
  go_wp2_with (at_builtin; refine wpList_append_own2 _ rfl _ _ 22 rfl base 106 i0 _ 7 48 Tryz.underlying22 hi hz0 hz1 hz2 rfl (by decide) _ n (skCells l) rfl HO.out ⟨vb, 0, none⟩ 1 1 x.cells.toList rfl rfl (fun j u hj => by rw [Addr.add_lit, Nat.zero_add]; exact HV.out.cell (by simpa using hj)) (oneSlot x) (by unfold maxLen; omega) (by omega) hbase ?_; intro v' w2 hown' hgrow _; have HG : Hid (w.grownBy w2 ob) := (by show w.grownBy w2 ob; rw [HB.out]; exact hgrow); clear hgrow)
  all_goals
    go_ret
    rw [skCells_append, skCells_one]
    exact ⟨_, rfl, hown', HG.out⟩

/-- the row behind an insertion in place -/
theorem insert_row (cur : List Value) (l : List Sk) (x : Sk) (i cap : Nat) (hi : i < l.length) (hcap : l.length + 1 ≤ cap) (hs : cur.length = cap * 7) (ht : cur.take (l.length * 7) = skCells l)
    (r1 r2 : List Value) (h1 : r1 = cur.take ((i + 1) * 7) ++ skCells (l.drop i) ++ cur.drop ((i + 1) * 7 + (skCells (l.drop i)).length)) (h2 : r2 = r1.take (i * 7) ++ x.cells.toList ++ r1.drop (i * 7 + x.cells.toList.length)) :
    r2.length = cap * 7 ∧ r2.take ((l.length + 1) * 7) = skCells (l.take i ++ x :: l.drop i) := by
  have hx : x.cells.toList.length = 7 := rfl
  have hd : (skCells (l.drop i)).length = (l.length - i) * 7 := by rw [skCells_len, List.length_drop]
  have e0 : skCells l = skCells (l.take i) ++ skCells (l.drop i) := by rw [← skCells_append, List.take_append_drop]
  have hti : (skCells (l.take i)).length = i * 7 := by rw [skCells_len, List.length_take]; congr 1; omega
  have e1 : cur.take (i * 7) = skCells (l.take i) := by
    have : cur.take (i * 7) = (cur.take (l.length * 7)).take (i * 7) := by rw [List.take_take]; congr 1; omega
    rw [this, ht, e0, List.take_left' hti]
  have l1 : r1.length = cap * 7 := by
    rw [h1]; simp only [List.length_append, List.length_take, List.length_drop, hd, hs]; omega
  have e2 : r1.take (i * 7) = skCells (l.take i) := by
    rw [h1, List.append_assoc, List.take_append_of_le_length (by rw [List.length_take, hs]; omega), List.take_take, ← e1]; congr 1; omega
  have e3 : r1.drop (i * 7 + 7) = skCells (l.drop i) ++ cur.drop ((i + 1) * 7 + (skCells (l.drop i)).length) := by
    rw [h1, List.append_assoc]
    exact List.drop_left' (by rw [List.length_take, hs]; omega)
  rw [hx, e2, e3] at h2
  constructor
  · rw [h2]; simp only [List.length_append, List.length_drop, hti, hx, hd, hs]; omega
  · rw [h2, skCells_append, show skCells (x :: l.drop i) = x.cells.toList ++ skCells (l.drop i) from rfl, ← List.append_assoc, ← List.append_assoc]
    exact List.take_left' (by simp only [List.length_append, hti, hx, hd]; omega)

set_option maxHeartbeats 4000000 in
set_option maxRecDepth 100000 in
/-- in between, where there is room -/
theorem insert_room (base g cap i : Nat) (cur : Array Value) (l : List Sk) (x : Sk) (vb n : Nat) (w : World) (hn : n = l.length) (hbg : base ≤ g) (hg : Blk w g cur 106) (hcm : cap ≤ maxLen) (hcs : cur.size = cap * 7) (htk : cur.toList.take (n * 7) = skCells l)
    (hi : i < n) (hroom : n + 1 ≤ cap) (hsm : n ≤ 1000) (hvb : Blk w vb x.cells 106) (hne : vb ≠ g) :
    Calls Tryz.prog 177 #[.slice (some ⟨g, 0, none⟩) n cap, .int .i64 i, .slice (some ⟨vb, 0, none⟩) 1 1] w fun e w' =>
      ∃ u, e = .returned u ∧ w'.ownsRow base 106 7 u (n + 1) (skCells (l.take i ++ x :: l.drop i)) ∧ w.grownBy w' (some g) := by
  have hov : ∀ lb cb, (callFunc 180 #[.slice (some ⟨vb, 0, none⟩) 1 1, .slice (some ⟨g, (i + 1) * 7, none⟩) lb cb]).run Tryz.prog w = .ok (.value (.bool false)) w := fun lb cb => by
    have hsa : w.shape? vb = some (106, 7) := by
      have h : w.heap[vb]? = some (.cells x.cells 106 (0, 0)) := hvb
      unfold World.shape?; rw [h]; rfl
    have hsb : w.shape? g = some (106, cap * 7) := by
      have h : w.heap[g]? = some (.cells cur 106 (0, 0)) := hg
      unfold World.shape?; rw [h, ← hcs]
    rw [run_callFunc_extern Tryz.func180 (by kernel_rfl) (by kernel_rfl) (by kernel_rfl) (e := Extern.SlicesOverlaps.overlaps #[22, 22] #[4]) (by kernel_rfl),
      Lib.run_overlaps_apart w 22 4 106 Tryz.underlying22 7 (fun w => Tryz.sizeOf106 w) ⟨vb, 0, none⟩ ⟨g, (i + 1) * 7, none⟩ 1 1 lb cb hne 106 106 7 (cap * 7) hsa hsb (by omega) (hvb.free 0) (hvb.free 7)]
    rfl
  obtain ⟨Y, hY⟩ : ∃ Y, Y = skCells (l.drop i) := ⟨_, rfl⟩
  have hYl : Y.length = (n - i) * 7 := by rw [hY, skCells_len, List.length_drop, ← hn]
  obtain ⟨R1, hR1⟩ : ∃ R1, R1 = cur.toList.take ((i + 1) * 7) ++ Y ++ cur.toList.drop ((i + 1) * 7 + Y.length) := ⟨_, rfl⟩
  obtain ⟨R2, hR2⟩ : ∃ R2, R2 = R1.take (i * 7) ++ x.cells.toList ++ R1.drop (i * 7 + x.cells.toList.length) := ⟨_, rfl⟩
  obtain ⟨hL2, hT2⟩ := insert_row cur.toList l x i cap (by omega) (by omega) (by simpa using hcs) (by rw [← hn]; exact htk) R1 R2 (by rw [hR1, hY]) hR2
  have hYat : ∀ j v, Y[j]? = some v → w.cell? ((⟨g, i * 7, none⟩ : Addr).add j) = some v := fun j v hj => by
    have hj2 : j < Y.length := (List.getElem?_eq_some_iff.1 hj).1
    rw [Addr.add_lit]
    refine hg.cell ?_
    have : (skCells l)[i * 7 + j]? = some v := by
      rw [show skCells l = skCells (l.take i) ++ Y by rw [hY, ← skCells_append, List.take_append_drop], List.getElem?_append_right (by rw [skCells_len, List.length_take]; omega)]
      rw [skCells_len, List.length_take, show i * 7 + j - min i l.length * 7 = j by rw [Nat.min_eq_left (by omega)]; omega]
      exact hj
    rw [← htk, List.getElem?_take, if_pos (by omega)] at this
    simpa using this
  have hY1 : ∀ v ∈ Y, v.oneCell' = true := fun v hv => by
    rw [hY] at hv
    obtain ⟨y, _, hy⟩ := List.mem_flatMap.1 hv
    exact oneSlot y v hy
  have hcp1 : ∀ ty, (Builtin.copy_ #[22, 22] ty #[.slice (some ⟨g, (i + 1) * 7, none⟩) (n + 1 - (i + 1)) (cap - (i + 1)), .slice (some ⟨g, i * 7, none⟩) (n + 1 - i) (cap - i)]).run Tryz.prog w.drew = .ok (goInt ((n - i : Nat) : Int)) (w.drew.setRow g R1.toArray) := fun ty => by
    have hmin : Nat.min (n + 1 - i) (n + 1 - (i + 1)) = n - i := by simp only [Nat.min_def]; split <;> omega
    have h := run_copy_many (P := Tryz.prog) w.drew 22 22 ty 106 7 g ((i + 1) * 7) (n + 1 - (i + 1)) (cap - (i + 1)) ⟨g, i * 7, none⟩ (n + 1 - i) (cap - i) cur 106 Y Tryz.underlying22 Tryz.sizeSlot hg (by rw [hmin, hYl]) hYat (by omega) hY1
    rw [hmin, ← hR1] at h
    exact h
  have hl1 : R1.length = cap * 7 := by
    rw [hR1]; simp only [List.length_append, List.length_take, List.length_drop, hYl, Array.length_toList]; omega
  have hg1 : Blk (w.drew.setRow g R1.toArray) g R1.toArray 106 := setRow_heap _ _ cur _ _ _ hg
  have hcp2 : ∀ ty, (Builtin.copy_ #[22, 22] ty #[.slice (some ⟨g, i * 7, none⟩) (n + 1 - i) (cap - i), .slice (some ⟨vb, 0, none⟩) 1 1]).run Tryz.prog (w.drew.setRow g R1.toArray) = .ok (goInt 1) (w.drew.setRow g R2.toArray) := fun ty => by
    have hmin : Nat.min 1 (n + 1 - i) = 1 := by simp only [Nat.min_def]; split <;> omega
    have h := run_copy_many (P := Tryz.prog) (w.drew.setRow g R1.toArray) 22 22 ty 106 7 g (i * 7) (n + 1 - i) (cap - i) ⟨vb, 0, none⟩ 1 1 R1.toArray 106 x.cells.toList Tryz.underlying22 Tryz.sizeSlot hg1 (by rw [hmin]; rfl) (fun j v hj => by rw [Addr.add_lit, Nat.zero_add, cell_setRow_other _ _ _ _ hne]; exact hvb.cell (by simpa using hj)) (by have : x.cells.toList.length = 7 := rfl; simp only [List.size_toArray]; omega) (oneSlot x)
    rw [hmin, ← hR2, setRow_setRow] at h
    exact h
  have hfin : ∀ r, Hid (r = w.drew.setRow g R2.toArray) → r.ownsRow base 106 7 (.slice (some ⟨g, 0, none⟩) (n + 1) cap) (n + 1) (skCells (l.take i ++ x :: l.drop i)) ∧ w.grownBy r (some g) := fun r hr => by
    rw [hr.out]
    refine ⟨⟨?_, .inr ⟨g, cap, R2.toArray, rfl, hbg, setRow_heap _ _ cur _ _ _ hg, hroom, hcm, by simpa using hL2, by rw [hn]; exact hT2⟩⟩, ⟨rfl, rfl, rfl, by simp, fun k _ hk => setRow_other _ _ _ _ (fun e => hk (by rw [e]))⟩⟩
    rw [skCells_len, hn]; congr 1; simp; omega
  have HF : Hid _ := hfin
  clear hfin hL2 hT2 hg1 hl1 hYat hY1 hYl hR1 hR2 hY htk hcs hg hvb hn
  have hz2 : ¬ ((i : Int) = (n : Int)) := by omega
  have hw1 : IntKind.i64.wrap ((i : Int) + 1) = (i : Int) + 1 := by rw [IntKind.wrap_i64]; unfold maxLen at hcm; omega
  have hb1 : (0 : Int) ≤ (i : Int) + 1 := by omega
  have hin : i ≤ n := by omega
  have htn : ((i : Int) + 1).toNat = i + 1 := by omega
  have hb2 : ¬ (cap = i + 1) := by omega
  have hb3 : (i : Int) ≤ (n : Int) + 1 := by omega
  have hb4 : ¬ (cap = i) := by omega
  go_enter Tryz.func177, Tryz.ntmps177
  go_wp2_with (simp only [hov])
  go_region_law (refine step_run rfl (.tmp 73) (.tmp 76) 22 22 rfl (.slice (some ⟨g, (i + 1) * 7, none⟩) (n + 1 - (i + 1)) (cap - (i + 1))) (.slice (some ⟨g, i * 7, none⟩) (n + 1 - i) (cap - i)) (by simp [Act.eval, Act.put]) (by simp [Act.eval, Act.put]) (hcp1 _) ?_)
  go_wp2_with (at_builtin; refine wpList_run rfl _ _ 22 22 rfl _ _ rfl rfl (hcp2 _) ?_)
  go_ret
  exact ⟨_, rfl, HF.out _ rfl⟩

end Go.Proofs.YtnpaejknoipicagGreat

namespace Go.Proofs.YtnpaejknoipicagGreat
open Go.RowKit

/-- the new row behind an insertion -/
theorem insert_new (old Z : List Value) (l : List Sk) (x : Sk) (i G : Nat) (hi : i < l.length) (hG : l.length + 1 ≤ G) (ho : old = skCells (l.take i)) (hZ : Z.length = (G - i) * 7)
    (r0 r1 r2 : List Value) (h0 : r0 = old ++ Z) (h1 : r1 = r0.take (i * 7) ++ x.cells.toList ++ r0.drop (i * 7 + x.cells.toList.length)) (h2 : r2 = r1.take ((i + 1) * 7) ++ skCells (l.drop i) ++ r1.drop ((i + 1) * 7 + (skCells (l.drop i)).length)) :
    r0.length = G * 7 ∧ r1.length = G * 7 ∧ r2.length = G * 7 ∧ r2.take ((l.length + 1) * 7) = skCells (l.take i ++ x :: l.drop i) := by
  have hx : x.cells.toList.length = 7 := rfl
  have hd : (skCells (l.drop i)).length = (l.length - i) * 7 := by rw [skCells_len, List.length_drop]
  have hti : (skCells (l.take i)).length = i * 7 := by rw [skCells_len, List.length_take]; congr 1; omega
  have l0 : r0.length = G * 7 := by rw [h0, ho]; simp only [List.length_append, hti, hZ]; omega
  have e0 : r0.take (i * 7) = skCells (l.take i) := by rw [h0, ho]; exact List.take_left' hti
  have l1 : r1.length = G * 7 := by rw [h1]; simp only [List.length_append, List.length_take, List.length_drop, hx, l0]; omega
  rw [hx, e0] at h1
  have e1 : r1.take ((i + 1) * 7) = skCells (l.take i) ++ x.cells.toList := by
    rw [h1]; exact List.take_left' (by simp only [List.length_append, hti, hx]; omega)
  have l2 : r2.length = G * 7 := by rw [h2]; simp only [List.length_append, List.length_take, List.length_drop, hd, l1]; omega
  refine ⟨l0, l1, l2, ?_⟩
  rw [h2, e1, skCells_append, show skCells (x :: l.drop i) = x.cells.toList ++ skCells (l.drop i) from rfl, ← List.append_assoc]
  exact List.take_left' (by simp only [List.length_append, hti, hx, hd]; omega)

set_option maxHeartbeats 1000000 in
set_option maxRecDepth 100000 in
/-- in between, where there is no room -/
theorem insert_grow (base g cap i : Nat) (cur : Array Value) (l : List Sk) (x : Sk) (vb n : Nat) (w : World) (hn : n = l.length) (hbase : base ≤ w.heap.size) (hg : Blk w g cur 106) (hnc : n ≤ cap) (htk : cur.toList.take (n * 7) = skCells l)
    (hi : i < n) (hroom : cap < n + 1) (hsm : n ≤ 1000) (hvb : Blk w vb x.cells 106) :
    Calls Tryz.prog 177 #[.slice (some ⟨g, 0, none⟩) n cap, .int .i64 i, .slice (some ⟨vb, 0, none⟩) 1 1] w fun e w' =>
      ∃ u, e = .returned u ∧ w'.ownsRow base 106 7 u (n + 1) (skCells (l.take i ++ x :: l.drop i)) ∧ w.grownBy w' (some g) := by
  obtain ⟨i0, hinf, hz0, hz1, hz2⟩ := info_parts Tryz.infoSlot
  have hti : (skCells (l.take i)).length = i * 7 := by rw [skCells_len, List.length_take]; congr 1; omega
  have hall : ∀ j v, (skCells l)[j]? = some v → w.cell? ⟨g, j, none⟩ = some v := fun j v hj => by
    have hlt : j < (skCells l).length := (List.getElem?_eq_some_iff.1 hj).1
    rw [skCells_len] at hlt
    refine hg.cell ?_
    rw [← htk, List.getElem?_take, if_pos (by omega)] at hj
    simpa using hj
  have hsp : skCells l = skCells (l.take i) ++ skCells (l.drop i) := by rw [← skCells_append, List.take_append_drop]
  have hold : (Builtin.firstCells i0.size i (.slice (some ⟨g, 0, none⟩) i cap)).run Tryz.prog w.drew = .ok (skCells (l.take i)).toArray w.drew := by
    rw [hz1]
    exact run_firstCells_some w.drew 7 i ⟨g, 0, none⟩ i cap (skCells (l.take i)) hti (fun j v hj => by
      rw [Addr.add_lit, Nat.zero_add]
      exact hall j v (by rw [hsp, List.getElem?_append_left (List.getElem?_eq_some_iff.1 hj).1]; exact hj))
  have hik : i + (n + 1 - i) = n + 1 := by omega
  have hkk : (n : Int) + 1 - (i : Int) = ((n + 1 - i : Nat) : Int) := by omega
  obtain ⟨G, hG⟩ : ∃ G, G = grownCap w (n + 1) cap 106 := ⟨_, rfl⟩
  have hGn : n + 1 ≤ G := by rw [hG]; exact grownCap_ge w _ _ _
  have hGm : G ≤ maxLen := by rw [hG]; exact grownCap_le_maxLen w _ _ _ (by unfold maxLen; omega)
  obtain ⟨z, hz⟩ : ∃ z : Value, z = .agg #[.int .i64 0, .int .i64 0, .int .i64 0, .bool false, .bool false, .bool false, .string ByteArray.empty] := ⟨_, rfl⟩
  have hzc : z.cells.size = 7 := by rw [hz]; rfl
  rw [← hz] at hz0
  obtain ⟨Z, hZ⟩ : ∃ Z : Array Value, Z = Builtin.zeroCells z.cells (n + 1 - i) ++ Builtin.zeroCells z.cells (G - (n + 1)) := ⟨_, rfl⟩
  have hZl : Z.toList.length = (G - i) * 7 := by
    rw [hZ]; simp only [Array.toList_append, List.length_append, Array.length_toList, Builtin.zeroCells, Array.size_map, Array.size_range, hzc]; omega
  obtain ⟨R0, hR0⟩ : ∃ R0, R0 = skCells (l.take i) ++ Z.toList := ⟨_, rfl⟩
  obtain ⟨Y, hY⟩ : ∃ Y, Y = skCells (l.drop i) := ⟨_, rfl⟩
  have hYl : Y.length = (n - i) * 7 := by rw [hY, skCells_len, List.length_drop, ← hn]
  obtain ⟨R1, hR1⟩ : ∃ R1, R1 = R0.take (i * 7) ++ x.cells.toList ++ R0.drop (i * 7 + x.cells.toList.length) := ⟨_, rfl⟩
  obtain ⟨R2, hR2⟩ : ∃ R2, R2 = R1.take ((i + 1) * 7) ++ Y ++ R1.drop ((i + 1) * 7 + Y.length) := ⟨_, rfl⟩
  obtain ⟨l0, l1, l2, hT⟩ := insert_new _ Z.toList l x i G (by omega) (by omega) rfl hZl R0 R1 R2 hR0 hR1 (by rw [hR2, hY])
  have hrz : ∀ ty, (Builtin.append_ #[22, 3] ty #[.slice (some ⟨g, 0, none⟩) i cap, .int .i64 ((n + 1 - i : Nat) : Int)]).run Tryz.prog w =
      .ok (.slice (some ⟨w.heap.size, 0, none⟩) (n + 1) G) (w.drew.alloc (.cells R0.toArray 106)) := fun ty => by
    have h := Lib.run_append_grow_zeros w 22 3 ty 106 i0 z .i64 .i64 Tryz.underlying22 Tryz.underlying3 hinf hz0 (some ⟨g, 0, none⟩) i cap (skCells (l.take i)) hold (n + 1 - i) (by omega) (by omega) (by omega) (by omega) (by rw [hz2]; omega) (by rw [hz2, hik]; exact growslice_fits hroom (by omega))
    rw [hik, ← hG] at h
    rw [h, hR0, hZ]
    congr 3
    simp
  obtain ⟨W1, hW1⟩ : ∃ W1, W1 = w.drew.alloc (.cells R0.toArray 106) := ⟨_, rfl⟩
  have hs1 : W1.heap.size = w.heap.size + 1 := by rw [hW1]; simp
  have k0 : Blk W1 w.heap.size R0.toArray 106 := by rw [hW1]; exact Blk.new w.drew _ _
  have kv : Blk W1 vb x.cells 106 := by rw [hW1]; exact hvb.drew.alloc _
  have hvn : vb ≠ w.heap.size := by have := hvb.lt; omega
  have hgn : g ≠ w.heap.size := by have := hg.lt; omega
  have hcpA : ∀ ty dc, (Builtin.copy_ #[22, 22] ty #[.slice (some ⟨w.heap.size, i * 7, none⟩) (n + 1 - i) dc, .slice (some ⟨vb, 0, none⟩) 1 1]).run Tryz.prog W1 = .ok (goInt 1) (W1.setRow w.heap.size R1.toArray) := fun ty dc => by
    have hmin : Nat.min 1 (n + 1 - i) = 1 := by simp only [Nat.min_def]; split <;> omega
    have h := run_copy_many (P := Tryz.prog) W1 22 22 ty 106 7 w.heap.size (i * 7) (n + 1 - i) dc ⟨vb, 0, none⟩ 1 1 R0.toArray 106 x.cells.toList Tryz.underlying22 Tryz.sizeSlot k0 (by rw [hmin]; rfl) (fun j v hj => by rw [Addr.add_lit, Nat.zero_add]; exact kv.cell (by simpa using hj)) (by have : x.cells.toList.length = 7 := rfl; simp only [List.size_toArray]; omega) (oneSlot x)
    rw [hmin, ← hR1] at h
    exact h
  obtain ⟨W2, hW2⟩ : ∃ W2, W2 = W1.setRow w.heap.size R1.toArray := ⟨_, rfl⟩
  have k2 : Blk W2.drew w.heap.size R1.toArray 106 := by rw [hW2]; exact setRow_heap _ _ _ _ _ _ k0
  have kg : W2.heap[g]? = w.heap[g]? := by rw [hW2, setRow_other _ _ _ _ hgn, hW1, Below.heap_alloc _ _ _ (by exact hg.lt)]; rfl
  have hcpB : ∀ ty dc sc, (Builtin.copy_ #[22, 22] ty #[.slice (some ⟨w.heap.size, (i + 1) * 7, none⟩) (n + 1 - (i + 1)) dc, .slice (some ⟨g, i * 7, none⟩) (n - i) sc]).run Tryz.prog W2.drew = .ok (goInt ((n - i : Nat) : Int)) (W2.drew.setRow w.heap.size R2.toArray) := fun ty dc sc => by
    have hmin : Nat.min (n - i) (n + 1 - (i + 1)) = n - i := by simp only [Nat.min_def]; split <;> omega
    have h := run_copy_many (P := Tryz.prog) W2.drew 22 22 ty 106 7 w.heap.size ((i + 1) * 7) (n + 1 - (i + 1)) dc ⟨g, i * 7, none⟩ (n - i) sc R1.toArray 106 Y Tryz.underlying22 Tryz.sizeSlot k2 (by rw [hmin, hYl]) (fun j v hj => by
        rw [Addr.add_lit]
        have hc := hall (i * 7 + j) v (by
          rw [hsp, List.getElem?_append_right (by omega), hti, show i * 7 + j - i * 7 = j by omega, ← hY]; exact hj)
        exact (World.cell?_of_block (w := w) (a := ⟨g, i * 7 + j, none⟩) kg).trans hc) (by simp only [List.size_toArray]; omega) (fun v hv => by
        rw [hY] at hv
        obtain ⟨y, _, hy⟩ := List.mem_flatMap.1 hv
        exact oneSlot y v hy)
    rw [hmin, ← hR2] at h
    exact h
  have hfin : ∀ r, Hid (r = W2.drew.setRow w.heap.size R2.toArray) → r.ownsRow base 106 7 (.slice (some ⟨w.heap.size, 0, none⟩) (n + 1) G) (n + 1) (skCells (l.take i ++ x :: l.drop i)) ∧ w.grownBy r (some g) := fun r hr => by
    rw [hr.out]
    refine ⟨⟨?_, .inr ⟨w.heap.size, G, R2.toArray, rfl, hbase, setRow_heap _ _ _ _ _ _ k2, hGn, hGm, by simpa using l2, by rw [hn]; exact hT⟩⟩, ⟨?_, ?_, ?_, ?_, fun k hk _ => ?_⟩⟩
    · rw [skCells_len, hn]; congr 1; simp; omega
    · rw [hW2, hW1]; rfl
    · rw [hW2, hW1]; rfl
    · rw [hW2, hW1]; rfl
    · rw [hW2, hW1]; simp
    · rw [setRow_other _ _ _ _ (by omega)]
      show W2.heap[k]? = w.heap[k]?
      rw [hW2, setRow_other _ _ _ _ (by omega), hW1, Below.heap_alloc _ _ _ (by exact hk)]; rfl
  have HF : Hid _ := hfin
  have HW1 : Hid (W1 = w.drew.alloc (.cells R0.toArray 106)) := hW1
  have HW2 : Hid (W2 = W1.setRow w.heap.size R1.toArray) := hW2
  rw [← hW1] at hrz
  rw [← hW2] at hcpA
  have hG63 : G ≤ 9223372036854775807 := by unfold maxLen at hGm; omega
  clear hfin hT l0 l1 l2 hYl hR0 hR1 hR2 hY htk hg hvb hn k0 kv k2 kg hW1 hW2 hZl hZ hz hz0 hzc hall hsp hold hti hG hGm
  have hz2 : ¬ ((i : Int) = (n : Int)) := by omega
  have hz3 : (cap : Int) < (n : Int) + 1 := by omega
  have hw1 : IntKind.i64.wrap ((i : Int) + 1) = (i : Int) + 1 := by rw [IntKind.wrap_i64]; omega
  have hb1 : (0 : Int) ≤ (i : Int) + 1 := by omega
  have hin : i ≤ n := by omega
  have htn : ((i : Int) + 1).toNat = i + 1 := by omega
  have hb2 : ¬ (G = i + 1) := by omega
  have hb3 : (i : Int) ≤ (n : Int) + 1 := by omega
  have hb4 : ¬ (G = i) := by omega
  have hb5 : ¬ (cap = i) := by omega
  go_enter Tryz.func177, Tryz.ntmps177
  go_wp2_with (first | (at_builtin; refine Lib.wpList_append_run _ rfl _ _ _ _ rfl _ _ rfl rfl _ _ (hrz _) ?_) | (at_builtin; refine wpList_run rfl _ _ 22 22 rfl _ _ rfl rfl (hcpA _ _) ?_))
  go_region_law (refine step_run rfl (.tmp 50) (.tmp 53) 22 22 rfl (.slice (some ⟨w.heap.size, (i + 1) * 7, none⟩) (n + 1 - (i + 1)) (G - (i + 1))) (.slice (some ⟨g, i * 7, none⟩) (n - i) (cap - i)) (by simp [Act.eval, Act.put]) (by simp [Act.eval, Act.put]) (hcpB _ _ _) ?_)
  go_wp2
  go_ret
  exact ⟨_, rfl, HF.out _ rfl⟩

/-- a slot put in at a place -/
def putAt (l : List Sk) (i : Nat) (x : Sk) : List Sk := l.take i ++ x :: l.drop i

theorem insert_any (base n i : Nat) (v : Value) (l : List Sk) (x : Sk) (vb : Nat) (w : World) (hn : n = l.length) (hown : w.ownsRow base 106 7 v n (skCells l)) (hi : i ≤ n) (hsm : n ≤ 1000) (hbase : base ≤ w.heap.size)
    (hvb : Blk w vb x.cells 106) (hne : v.ownBlock ≠ some vb) :
    Calls Tryz.prog 177 #[v, .int .i64 i, .slice (some ⟨vb, 0, none⟩) 1 1] w fun e w' =>
      ∃ u, e = .returned u ∧ w'.ownsRow base 106 7 u (n + 1) (skCells (putAt l i x)) ∧ w.grownBy w' v.ownBlock := by
  by_cases h : i = n
  · subst h
    have e : putAt l i x = l ++ [x] := by unfold putAt; rw [hn, List.take_length, List.drop_length]
    rw [e]
    exact insert_end base i v l x vb w hn hown hsm hbase hvb
  · obtain ⟨hl, ⟨_, h0⟩ | ⟨g, cap, cur, rfl, hbg, hg, h1, h2, h3, h4⟩⟩ := hown
    · omega
    · by_cases hr : n + 1 ≤ cap
      · exact insert_room base g cap i cur l x vb n w hn hbg hg h2 h3 h4 (by omega) hr hsm hvb (fun e => hne (by rw [e]; rfl))
      · exact insert_grow base g cap i cur l x vb n w hn hbase hg h1 h4 (by omega) (by omega) hsm hvb

end Go.Proofs.YtnpaejknoipicagGreat

namespace Go.Proofs.YtnpaejknoipicagGreat
open Go.RowKit

theorem Blk.three {w : World} {b : Nat} {t : TypeId} {x0 x1 x2 : Value} (h : Blk w b #[x0, x1, x2] t) :
    w.cell? ⟨b, 0, none⟩ = some x0 ∧ w.cell? ⟨b, 1, none⟩ = some x1 ∧ w.cell? ⟨b, 2, none⟩ = some x2 := ⟨h.cell rfl, h.cell rfl, h.cell rfl⟩
theorem Sls.alloc {w : World} {v : Value} {l : List Sk} (h : Sls w v l) (o : Obj) : Sls (w.alloc o) v l := h.below ((Below.refl _ w).alloc (Nat.le_refl _) _)
theorem Apart_type {w : World} {K g : Nat} {C D : Array Value} {s t : TypeId} (hK : Blk w K C s) (hg : Blk w g D t) (hst : s ≠ t) : K ≠ g := fun e => by
  subst e
  have h1 : w.heap[K]? = some (.cells C s (0, 0)) := hK
  have h2 : w.heap[K]? = some (.cells D t (0, 0)) := hg
  rw [h1] at h2
  injection h2 with h2
  injection h2 with _ h2 _
  exact hst h2
theorem owns_blk {w : World} {base : Nat} {e : TypeId} {size : Nat} {v : Value} {n : Nat} {xs : List Value} (h : w.ownsRow base e size v n xs) {g : Nat} (hg : v.ownBlock = some g) : base ≤ g ∧ ∃ cur, Blk w g cur e := by
  obtain ⟨_, ⟨rfl, _⟩ | ⟨g', cap, cur, rfl, hb, hh, _⟩⟩ := h
  · simp [Value.ownBlock] at hg
  · simp [Value.ownBlock] at hg; subst hg; exact ⟨hb, cur, hh⟩
theorem heap_drewN (w : World) (q : Nat) : (w.drewN q).heap = w.heap := rfl
theorem below_drewN {B : Nat} {w w' : World} (h : Below B w w') (q : Nat) : Below B w (w'.drewN q) := h.trans ⟨rfl, rfl, rfl, Nat.le_refl _, fun _ _ => rfl⟩
theorem Blk.two {w : World} {b : Nat} {t : TypeId} {x0 x1 : Value} (h : Blk w b #[x0, x1] t) : w.cell? ⟨b, 0, none⟩ = some x0 ∧ w.cell? ⟨b, 1, none⟩ = some x1 := ⟨h.cell rfl, h.cell rfl⟩
theorem owns_base {w : World} {base base' : Nat} {e : TypeId} {size : Nat} {v : Value} {n : Nat} {xs : List Value} (h : w.ownsRow base e size v n xs) (hb : base' ≤ base) : w.ownsRow base' e size v n xs := by
  obtain ⟨hl, h | ⟨g, cap, cur, rfl, h0, hh, h1, h2, h3, h4⟩⟩ := h
  · exact ⟨hl, .inl h⟩
  · exact ⟨hl, .inr ⟨g, cap, cur, rfl, by omega, hh, h1, h2, h3, h4⟩⟩
/-- v shows these slots, in memory from base on -/
def Fresh (base : Nat) (w : World) (v : Value) (l : List Sk) : Prop := Sls w v l ∧ ∀ g, v.ownBlock = some g → base ≤ g ∧ g < w.heap.size
theorem Fresh.nil (base : Nat) (w : World) : Fresh base w (.slice none 0 0) [] := ⟨Sls.nil w, fun g hg => by simp [Value.ownBlock] at hg⟩
theorem Fresh.set {base : Nat} {w : World} {v : Value} {l : List Sk} (h : Fresh base w v l) {p : Addr} (hp : p.block < base) (u : Value) : Fresh base (w.setCell p u) v l := by
  obtain ⟨⟨hl, hs⟩, hg⟩ := h
  refine ⟨⟨hl, ?_⟩, fun g e => by have := hg g e; simpa using this⟩
  rcases hs with hs | ⟨b, off, c, rfl, hb, hc⟩
  · exact .inl hs
  · refine .inr ⟨b, off, c, rfl, by simpa using hb, fun j x hj => ?_⟩
    have := (hg b rfl).1
    exact (World.cell?_of_block (Below.heap_setCell w p u b (by omega))).trans (hc j x hj)
theorem Fresh.base {base base' : Nat} {w : World} {v : Value} {l : List Sk} (h : Fresh base w v l) (hb : base' ≤ base) : Fresh base' w v l := ⟨h.1, fun g hg => by have := h.2 g hg; omega⟩
theorem Fresh.below {base : Nat} {w w' : World} {v : Value} {l : List Sk} (h : Fresh base w v l) (hb : Below w.heap.size w w') : Fresh base w' v l := ⟨h.1.below hb, fun g hg => by have := h.2 g hg; have := hb.size; omega⟩
theorem blocks3 {w w1 : World} {A B C : Array Value} {s t u : TypeId} (hb : Below (((w.alloc (.cells A s)).alloc (.cells B t)).alloc (.cells C u)).heap.size (((w.alloc (.cells A s)).alloc (.cells B t)).alloc (.cells C u)) w1) :
    Blk w1 w.heap.size A s ∧ Blk w1 (w.heap.size + 1) B t ∧ Blk w1 (w.heap.size + 1 + 1) C u ∧ Below w.heap.size w w1 ∧ w.heap.size + 1 + 1 + 1 ≤ w1.heap.size := by
  have hs := hb.size
  simp only [World.size_alloc] at hs
  have h2 := (((Blk.new w A s).alloc (.cells B t)).alloc (.cells C u)).below hb (by simp; omega)
  have h3 := ((Blk.new (w.alloc (.cells A s)) B t).alloc (.cells C u)).below hb (by simp)
  have h4 := (Blk.new ((w.alloc (.cells A s)).alloc (.cells B t)) C u).below hb (by simp)
  simp only [World.size_alloc] at h3 h4
  exact ⟨h2, h3, h4, ((((Below.refl _ w).alloc (Nat.le_refl _) _).alloc (by simp) _).alloc (by simp; omega) _).trans (hb.mono (by simp; omega)), hs⟩
theorem blocks2 {w w1 : World} {A B : Array Value} {s t : TypeId} (hb : Below ((w.alloc (.cells A s)).alloc (.cells B t)).heap.size ((w.alloc (.cells A s)).alloc (.cells B t)) w1) :
    Blk w1 w.heap.size A s ∧ Blk w1 (w.heap.size + 1) B t ∧ Below w.heap.size w w1 ∧ w.heap.size + 1 + 1 ≤ w1.heap.size := by
  have hs := hb.size
  simp only [World.size_alloc] at hs
  have h2 := ((Blk.new w A s).alloc (.cells B t)).below hb (by simp; omega)
  have h3 := (Blk.new (w.alloc (.cells A s)) B t).below hb (by simp)
  simp only [World.size_alloc] at h3
  exact ⟨h2, h3, (((Below.refl _ w).alloc (Nat.le_refl _) _).alloc (by simp) _).trans (hb.mono (by simp; omega)), hs⟩

theorem Below.on {a b c : World} (h : Below a.heap.size a b) (k : Below b.heap.size b c) : Below a.heap.size a c := h.trans (k.mono h.size)
end Go.Proofs.YtnpaejknoipicagGreat

namespace Go.Proofs.YtnpaejknoipicagGreat
open Go.RowKit

set_option maxHeartbeats 400000 in
theorem holdsLit_tells (n : Int) (B : Nat) (w : World) (hB : B < w.heap.size) (hc : w.cell? ⟨B, 0, none⟩ = some (.int .i64 n)) :
    Tells 174 #[.pointer (some ⟨B, 0, none⟩)] (fun x => x.n == n) w := fun W x hb => by
  have hcW : W.cell? ⟨B, 0, none⟩ = some (.int .i64 n) := (hb.cell (p := ⟨B, 0, none⟩) hB).trans hc
  have hBW : B < W.heap.size := by have := hb.size; omega
  have hne : B ≠ W.heap.size := by omega
  obtain ⟨xn, seq, time, xf, xe, xk, xt⟩ := x
  show Calls Tryz.prog 174 #[.agg #[.int .i64 xn, .int .i64 seq, .int .i64 time, .bool xf, .bool xe, .bool xk, .string xt], .pointer (some ⟨B, 0, none⟩)] W _
  go_enter Tryz.func174, Tryz.ntmps174
  go_wp2
  go_ret
  exact ⟨rfl, by go_grown⟩

set_option maxHeartbeats 400000 in
theorem holdLit_tells (y : Sk) (B : Nat) (w : World) (hB : B < w.heap.size) (hc : w.cell? ⟨B, 0, none⟩ = some (.int .i64 y.n)) :
    Tells 176 #[.pointer (some ⟨B, 0, none⟩)] (fun x => decide (y.n < x.n)) w := fun W x hb => by
  have hcW : W.cell? ⟨B, 0, none⟩ = some (.int .i64 y.n) := (hb.cell (p := ⟨B, 0, none⟩) hB).trans hc
  have hBW : B < W.heap.size := by have := hb.size; omega
  have hne : B ≠ W.heap.size := by omega
  obtain ⟨xn, seq, time, xf, xe, xk, xt⟩ := x
  obtain ⟨yn, _⟩ := y
  show Calls Tryz.prog 176 #[.agg #[.int .i64 xn, .int .i64 seq, .int .i64 time, .bool xf, .bool xe, .bool xk, .string xt], .pointer (some ⟨B, 0, none⟩)] W _
  go_enter Tryz.func176, Tryz.ntmps176
  go_wp2
  go_ret
  exact ⟨rfl, by go_grown⟩

set_option maxHeartbeats 400000 in
theorem holds_any (K : Nat) (next : Int) (hv ov : Value) (h : List Sk) (n : Int) (w : World) (hK : Blk w K #[.int .i64 next, hv, ov] 194) (hh : Sls w hv h) (hlen : h.length ≤ 1000) :
    Calls Tryz.prog 162 #[.pointer (some ⟨K, 0, none⟩), .int .i64 n] w fun e w' => e = .returned (.bool (h.any fun x => x.n == n)) ∧ Below w.heap.size w w' := by
  have eg : Enters Tryz.prog 174 := enters_of Tryz.func174 (by kernel_rfl) rfl
  have hcon := containsFunc_any 174 #[.pointer (some ⟨w.heap.size, 0, none⟩)] (fun x => x.n == n) eg hv h (w.alloc (.cells #[.int .i64 n] 3)) (hh.alloc _) (by omega) (holdsLit_tells n w.heap.size _ (by simp) (by simp))
  obtain ⟨c0, c1, c2⟩ := hK.three
  have hKw := hK.lt
  obtain ⟨r, hr⟩ : ∃ r, r = h.any fun x => x.n == n := ⟨_, rfl⟩
  rw [← hr] at hcon ⊢
  clear hr eg
  go_enter Tryz.func162, Tryz.ntmps162
  go_wp2_with (go_at_call 173; refine hcon.mono ?_; rintro e w1 ⟨rfl, hbw⟩)
  go_ret
  exact ⟨rfl, ((Below.refl _ _).alloc (Nat.le_refl _) _).trans (hbw.mono (by simp))⟩

/-- where a slot belongs -/
def place (h : List Sk) (x : Sk) : Nat := (h.findIdx? fun y => decide (x.n < y.n)).getD h.length
def insF (h : List Sk) (x : Sk) : List Sk := putAt h (place h x) x
theorem place_le (h : List Sk) (x : Sk) : place h x ≤ h.length := by
  unfold place
  cases e : h.findIdx? fun y => decide (x.n < y.n) with
  | none => simp
  | some i =>
    rw [List.findIdx?_eq_some_iff_getElem] at e
    obtain ⟨h1, _⟩ := e
    simp; omega
theorem idx_place (h : List Sk) (x : Sk) : (idxOf (fun y => decide (x.n < y.n)) h = -1 ∧ place h x = h.length) ∨ idxOf (fun y => decide (x.n < y.n)) h = (place h x : Int) := by
  unfold place idxOf
  cases e : h.findIdx? fun y => decide (x.n < y.n) with
  | none => left; simp
  | some i => right; simp
theorem insF_len (h : List Sk) (x : Sk) : (insF h x).length = h.length + 1 := by
  have := place_le h x
  simp [insF, putAt]; omega

end Go.Proofs.YtnpaejknoipicagGreat

namespace Go.Proofs.YtnpaejknoipicagGreat
open Go.RowKit

/-- what the program's Check answers: as the document has it -/
def pchk (next : Int) (l : List Sk) : Int := bchk next l
theorem pchk_right (next : Int) (l : List Sk) : pchk next l = 0 ↔ Right next l := bchk_right next l

/-- the number ahead of a place -/
def aheadN (next : Int) (l : List Sk) (k : Nat) : Int := if k = 0 then next else (l[k - 1]?.getD Sk.zero).n
def qB (next : Int) (l : List Sk) (k : Nat) : Bool := decide (aheadN next l k < (l[k]?.getD Sk.zero).n)

theorem fit_bgo (next : Int) (l : List Sk) : ∀ (m : List Sk) (k : Nat) (last : Int), l.drop k = m → next ≤ last → aheadN next l k = last → chkFit (qB next l) k m = bgo next last m
  | [], _, _, _, _, _ => rfl
  | x :: r, k, last, hd, hle, hl => by
    have hk : k < l.length := by
      by_cases h : k < l.length
      · exact h
      · rw [List.drop_eq_nil_of_le (by omega)] at hd; cases hd
    have hx : l[k]?.getD Sk.zero = x := by
      rw [List.drop_eq_getElem_cons hk] at hd
      injection hd with h1 h2
      rw [List.getElem?_eq_getElem hk, Option.getD_some, h1]
    have hr : l.drop (k + 1) = r := by
      rw [List.drop_eq_getElem_cons hk] at hd
      injection hd
    simp only [chkFit, bgo]
    by_cases hc : x.chk = 0
    · rw [if_pos hc, if_pos hc]
      by_cases h2 : x.n ≤ next ∨ x.n ≤ last
      · have hq : qB next l k = false := by unfold qB; rw [hl, hx]; exact decide_eq_false (by omega)
        rw [hq, if_pos h2]; simp
      · have hq : qB next l k = true := by unfold qB; rw [hl, hx]; exact decide_eq_true (by omega)
        rw [hq, if_neg h2, if_pos rfl]
        exact fit_bgo next l r (k + 1) x.n hr (by omega) (by unfold aheadN; rw [if_neg (by omega), show k + 1 - 1 = k by omega, hx])
    · rw [if_neg hc, if_neg hc]
theorem fit_all (next : Int) (l : List Sk) : chkFit (qB next l) 0 l = bgo next next l := fit_bgo next l l 0 next rfl (Int.le_refl _) rfl

set_option maxHeartbeats 1600000 in
theorem rises_any (next : Int) (v : Value) (l : List Sk) (k : Nat) (w : World) (hv : Sls w v l) (hk : k < l.length) (hlen : l.length ≤ 9223372036854775807) :
    Calls Tryz.prog 132 #[.agg #[.int .i64 next, v], .int .i64 k] w fun e w' => e = .returned (.bool (qB next l k)) ∧ Below w.heap.size w w' := by
  obtain ⟨ao, c, rfl, hc⟩ := (hv.alloc (.cells #[.int .i64 next, v] 24)).parts
  obtain ⟨n, hn⟩ : ∃ n, n = l.length := ⟨_, rfl⟩
  have hkn : k < n := by omega
  have hki : (k : Int) < (n : Int) := by omega
  have hln : n ≤ 9223372036854775807 := by omega
  rw [← hn] at hc ⊢
  obtain ⟨b, off, rfl, hb, hat⟩ := hc k hkn
  have hb' : b < w.heap.size := by
    obtain ⟨_, ⟨h0, _⟩ | ⟨b1, off1, c1, h1, h2, _⟩⟩ := hv
    · omega
    · simp only [Value.slice.injEq, Option.some.injEq, Addr.mk.injEq] at h1
      omega
  have c0 := hat.1
  obtain ⟨xn, hxn⟩ : ∃ xn, xn = (l[k]?.getD Sk.zero).n := ⟨_, rfl⟩
  rw [← hxn] at c0
  obtain ⟨q, hq⟩ : ∃ q, q = qB next l k := ⟨_, rfl⟩
  rw [← hq]
  cases k with
  | zero =>
    have hq' : q = decide (next < xn) := by rw [hq, hxn]; rfl
    have hn0 : (0 : Int) < (n : Int) := by omega
    have c0' : (w.alloc (.cells #[.int .i64 next, .slice (some ⟨b, off, none⟩) n c] 24)).cell? ⟨b, off, none⟩ = some (.int .i64 xn) := by simpa using c0
    rw [hq']
    clear hq hq' hxn hat hc c0 hn hv hk hki
    go_enter Tryz.func132, Tryz.ntmps132
    go_wp2
    go_quiet (fail)
    go_wp2
    go_ret
    exact ⟨rfl, below_drewN ((Below.refl _ _).alloc (Nat.le_refl _) _) _⟩
  | succ j =>
    obtain ⟨b2, off2, e2, hb2, hat2⟩ := hc j (by omega)
    simp only [Option.some.injEq, Addr.mk.injEq, and_true] at e2
    obtain ⟨rfl, rfl⟩ := e2
    have d0 := hat2.1
    obtain ⟨yn, hyn⟩ : ∃ yn, yn = (l[j]?.getD Sk.zero).n := ⟨_, rfl⟩
    rw [← hyn] at d0
    have hq' : q = decide (yn < xn) := by rw [hq, hxn, hyn]; unfold qB aheadN; rw [if_neg (by omega)]; simp
    have hji : (j : Int) < (n : Int) := by omega
    have hj1 : ((j + 1 : Nat) : Int) - 1 = (j : Int) := by omega
    rw [hq']
    clear hq hq' hxn hyn hat hat2 hc hn hv hk
    go_enter Tryz.func132, Tryz.ntmps132
    go_wp2
    go_quiet (fail)
    go_wp2
    go_ret
    exact ⟨rfl, below_drewN ((Below.refl _ _).alloc (Nat.le_refl _) _) _⟩

end Go.Proofs.YtnpaejknoipicagGreat

namespace Go.Proofs.YtnpaejknoipicagGreat
open Go.RowKit

theorem hold_own {w : World} {base K n : Nat} {v u : Value} {xs : List Value} {C : Array Value} {i : Nat} (h : w.ownsRow base 106 7 v n xs) (hK : Blk w K C 194) (_hu : u = u) : (w.setCell ⟨K, i, none⟩ u).ownsRow base 106 7 v n xs :=
  owns_same h fun g hg => Below.heap_setCell w ⟨K, i, none⟩ u g (fun e => by
    obtain ⟨_, cur, h3⟩ := owns_blk h hg
    exact Apart_type hK h3 (by decide) e.symm)

set_option maxHeartbeats 2000000 in
set_option maxRecDepth 100000 in
/-- behind the search -/
theorem hold_rest (base K i n : Nat) (r next : Int) (hv ov : Value) (h : List Sk) (x : Sk) (w : World) (hn : n = h.length) (hK : Blk w K #[.int .i64 next, hv, ov] 194) (hown : w.ownsRow base 106 7 hv n (skCells h)) (hlen : n ≤ 100) (hbase : base ≤ w.heap.size) (hbK : base ≤ K)
    (hi : i ≤ n) (hr : (r = -1 ∧ i = n) ∨ r = (i : Int))
    (hcon : Calls Tryz.prog 175 #[hv, .func (.func 176) #[] #[.pointer (some ⟨w.heap.size, 0, none⟩)]] (w.alloc (.cells x.cells 106)) (fun e w' => e = .returned (.int .i64 r) ∧ Below (w.alloc (.cells x.cells 106)).heap.size (w.alloc (.cells x.cells 106)) w')) :
    Calls Tryz.prog 163 #[.pointer (some ⟨K, 0, none⟩), x.val] w fun e w' => e = .returned (.tuple #[]) ∧
      ∃ hv', Blk w' K #[.int .i64 next, hv', ov] 194 ∧ w'.ownsRow base 106 7 hv' (n + 1) (skCells (putAt h i x)) ∧ Below base w w' := by
  obtain ⟨c0, c1, c2⟩ := hK.three
  have hKw := hK.lt
  have HO : Hid (w.ownsRow base 106 7 hv n (skCells h)) := hown
  have HK : Hid (Blk w K #[.int .i64 next, hv, ov] 194) := hK
  have HN : Hid (n = h.length) := hn
  obtain ⟨a, c, hsl⟩ : ∃ a c, hv = .slice a n c := by rw [hn]; exact (Sls.of_owns (l := h) (by rw [← hn]; exact hown)).len
  have HX : Hid (Blk (w.alloc (.cells x.cells 106)) w.heap.size x.cells 106) := Blk.new w _ _
  obtain ⟨y, hy⟩ : ∃ y, y = x := ⟨_, rfl⟩
  have hyc : y.cells = x.cells := by rw [hy]
  have HY : Hid (y = x) := hy
  rw [← hyc] at HX
  obtain ⟨xn, seq, time, xf, xe, xk, xt⟩ := x
  simp only [Sk.cells, Sk.val] at hcon HX hyc ⊢
  clear hown hK hn hy
  subst hsl
  have hcy : Hid (Sk.cells y = #[.int .i64 xn, .int .i64 seq, .int .i64 time, .bool xf, .bool xe, .bool xk, .string xt]) := by show Sk.cells y = _; rw [HY.out]; rfl
  have hKne : ∀ (W : World), W.ownsRow base 106 7 (.slice a n c) n (skCells h) → Blk W K #[.int .i64 next, .slice a n c, ov] 194 → some K ≠ (Value.slice a n c).ownBlock := fun W h1 h2 e => by
    obtain ⟨_, cur, h3⟩ := owns_blk h1 e.symm
    exact Apart_type h2 h3 (by decide) rfl
  have KNE := @id (Hid _) hKne
  clear hKne hyc HX
  rcases hr with ⟨rfl, rfl⟩ | rfl
  · go_enter Tryz.func163, Tryz.ntmps163
    go_wp2_with fail
    refine hcon.mono ?_
    rintro e w1 ⟨rfl, hbw⟩
    have hsz1 := hbw.size
    simp only [World.size_alloc] at hsz1
    have kw1 : Blk w1 K #[.int .i64 next, .slice a i c, ov] 194 := (HK.out.alloc _).below hbw (by simp; omega)
    have xw1 : Blk w1 w.heap.size #[.int .i64 xn, .int .i64 seq, .int .i64 time, .bool xf, .bool xe, .bool xk, .string xt] 106 := (Blk.new w _ _).below hbw (by simp)
    have ow1 : w1.ownsRow base 106 7 (.slice a i c) i (skCells h) := owns_below (HO.out.alloc _) hbw (Nat.le_refl _)
    have bw1 : Below w.heap.size w w1 := ((Below.refl _ w).alloc (Nat.le_refl _) _).trans (hbw.mono (by simp))
    obtain ⟨d0, d1, d2⟩ := kw1.three
    obtain ⟨e0, e1, e2, e3, e4, e5, e6⟩ := xw1.seven
    have hKw1 := kw1.lt
    have kne := KNE.out w1 ow1 kw1
    have ins : Hid (Calls Tryz.prog 177 #[.slice a i c, .int .i64 i, .slice (some ⟨w1.heap.size, 0, none⟩) 1 1] (w1.alloc (.cells #[.int .i64 xn, .int .i64 seq, .int .i64 time, .bool xf, .bool xe, .bool xk, .string xt] 106)).drew fun e w2 =>
        ∃ a' c', e = .returned (.slice a' (i + 1) c') ∧ w2.cell? ⟨K, 1, none⟩ = some (.slice a i c) ∧ w2.frozen? ⟨K, 1, none⟩ = false ∧ Hid (Blk w2 K #[.int .i64 next, .slice a i c, ov] 194 ∧ w2.ownsRow base 106 7 (.slice a' (i + 1) c') (i + 1) (skCells (putAt h i y)) ∧ Below base w w2)) := by
      show Calls _ _ _ _ _
      refine (insert_any base i i (.slice a i c) h y w1.heap.size (w1.alloc (.cells #[.int .i64 xn, .int .i64 seq, .int .i64 time, .bool xf, .bool xe, .bool xk, .string xt] 106)).drew HN.out (ow1.alloc _) (by omega) (by omega) (by simp; omega) (by rw [hcy.out]; exact Blk.new w1 _ _) (fun e => by have := (ow1.lt _ e).2; omega)).mono ?_
      rintro e w2 ⟨u, rfl, ho2, hg2⟩
      have k2 : Blk w2 K #[.int .i64 next, .slice a i c, ov] 194 := (hg2.block K (by simp; omega) kne).trans (kw1.alloc _)
      obtain ⟨a', c', rfl⟩ := Sl.len (Sl.of_owns ho2)
      exact ⟨a', c', rfl, k2.three.2.1, k2.free 1, k2, ho2, ((bw1.mono hbase).alloc (by have := bw1.size; omega) _).drew.grown hg2 (by simp; omega) (fun j hj => (ow1.lt j hj).1)⟩
    clear hbw kw1 xw1 c0 c1 c2 hcon ow1 bw1 HO HK kne
    go_wp2_with fail
    go_region_with (go_at_call 177; refine ins.out.mono ?_; rintro e w2 ⟨a', c', rfl, g1, g2, G⟩)
    all_goals
      go_end0
      refine ⟨rfl, .slice a' (i + 1) c', ?_, ?_, ?_⟩
      · exact G.out.1.set 1 _
      · rw [← HY.out]; exact hold_own G.out.2.1 G.out.1 rfl
      · exact G.out.2.2.setCell (by exact hbK) _
  · have hii : ¬ ((i : Int) < 0) := by omega
    go_enter Tryz.func163, Tryz.ntmps163
    go_wp2_with fail
    refine hcon.mono ?_
    rintro e w1 ⟨rfl, hbw⟩
    have hsz1 := hbw.size
    simp only [World.size_alloc] at hsz1
    have kw1 : Blk w1 K #[.int .i64 next, .slice a n c, ov] 194 := (HK.out.alloc _).below hbw (by simp; omega)
    have xw1 : Blk w1 w.heap.size #[.int .i64 xn, .int .i64 seq, .int .i64 time, .bool xf, .bool xe, .bool xk, .string xt] 106 := (Blk.new w _ _).below hbw (by simp)
    have ow1 : w1.ownsRow base 106 7 (.slice a n c) n (skCells h) := owns_below (HO.out.alloc _) hbw (Nat.le_refl _)
    have bw1 : Below w.heap.size w w1 := ((Below.refl _ w).alloc (Nat.le_refl _) _).trans (hbw.mono (by simp))
    obtain ⟨d0, d1, d2⟩ := kw1.three
    obtain ⟨e0, e1, e2, e3, e4, e5, e6⟩ := xw1.seven
    have hKw1 := kw1.lt
    have kne := KNE.out w1 ow1 kw1
    have ins : Hid (Calls Tryz.prog 177 #[.slice a n c, .int .i64 i, .slice (some ⟨w1.heap.size, 0, none⟩) 1 1] (w1.alloc (.cells #[.int .i64 xn, .int .i64 seq, .int .i64 time, .bool xf, .bool xe, .bool xk, .string xt] 106)).drew fun e w2 =>
        ∃ a' c', e = .returned (.slice a' (n + 1) c') ∧ w2.cell? ⟨K, 1, none⟩ = some (.slice a n c) ∧ w2.frozen? ⟨K, 1, none⟩ = false ∧ Hid (Blk w2 K #[.int .i64 next, .slice a n c, ov] 194 ∧ w2.ownsRow base 106 7 (.slice a' (n + 1) c') (n + 1) (skCells (putAt h i y)) ∧ Below base w w2)) := by
      show Calls _ _ _ _ _
      refine (insert_any base n i (.slice a n c) h y w1.heap.size (w1.alloc (.cells #[.int .i64 xn, .int .i64 seq, .int .i64 time, .bool xf, .bool xe, .bool xk, .string xt] 106)).drew HN.out (ow1.alloc _) (by omega) (by omega) (by simp; omega) (by rw [hcy.out]; exact Blk.new w1 _ _) (fun e => by have := (ow1.lt _ e).2; omega)).mono ?_
      rintro e w2 ⟨u, rfl, ho2, hg2⟩
      have k2 : Blk w2 K #[.int .i64 next, .slice a n c, ov] 194 := (hg2.block K (by simp; omega) kne).trans (kw1.alloc _)
      obtain ⟨a', c', rfl⟩ := Sl.len (Sl.of_owns ho2)
      exact ⟨a', c', rfl, k2.three.2.1, k2.free 1, k2, ho2, ((bw1.mono hbase).alloc (by have := bw1.size; omega) _).drew.grown hg2 (by simp; omega) (fun j hj => (ow1.lt j hj).1)⟩
    clear hbw kw1 xw1 c0 c1 c2 hcon ow1 bw1 HO HK kne
    go_wp2_with fail
    go_region_with (go_at_call 177; refine ins.out.mono ?_; rintro e w2 ⟨a', c', rfl, g1, g2, G⟩)
    all_goals
      go_end0
      refine ⟨rfl, .slice a' (n + 1) c', ?_, ?_, ?_⟩
      · exact G.out.1.set 1 _
      · rw [← HY.out]; exact hold_own G.out.2.1 G.out.1 rfl
      · exact G.out.2.2.setCell (by exact hbK) _

set_option maxHeartbeats 2000000 in
set_option maxRecDepth 100000 in
theorem hold_any (base K : Nat) (next : Int) (hv ov : Value) (h : List Sk) (x : Sk) (w : World) (hK : Blk w K #[.int .i64 next, hv, ov] 194) (hown : w.ownsRow base 106 7 hv h.length (skCells h)) (hlen : h.length ≤ 100) (hbase : base ≤ w.heap.size) (hbK : base ≤ K) :
    Calls Tryz.prog 163 #[.pointer (some ⟨K, 0, none⟩), x.val] w fun e w' => e = .returned (.tuple #[]) ∧
      ∃ hv', Blk w' K #[.int .i64 next, hv', ov] 194 ∧ w'.ownsRow base 106 7 hv' (h.length + 1) (skCells (insF h x)) ∧ Below base w w' := by
  have eg : Enters Tryz.prog 176 := enters_of Tryz.func176 (by kernel_rfl) rfl
  have hcon := indexFunc_any 176 #[.pointer (some ⟨w.heap.size, 0, none⟩)] (fun y => decide (x.n < y.n)) eg hv h (w.alloc (.cells x.cells 106)) ((Sls.of_owns hown).alloc _) (by omega) (holdLit_tells x w.heap.size _ (by simp) (by simp [Sk.cells]))
  rcases idx_place h x with ⟨hix, hpx⟩ | hix
  · rw [hix] at hcon
    exact hold_rest base K (place h x) h.length (-1) next hv ov h x w rfl hK hown hlen hbase hbK (place_le h x) (.inl ⟨rfl, hpx⟩) hcon
  · rw [hix] at hcon
    exact hold_rest base K (place h x) h.length _ next hv ov h x w rfl hK hown hlen hbase hbK (place_le h x) (.inr rfl) hcon

end Go.Proofs.YtnpaejknoipicagGreat

namespace Go.Proofs.YtnpaejknoipicagGreat
open Go.RowKit

/-- a keeper's block and what its slices show -/
def Keep (base K : Nat) (w : World) (next : Int) (h o : List Sk) : Prop :=
  ∃ (a : Option Addr) (c : Nat) (ov : Value), Blk w K #[.int .i64 next, .slice a h.length c, ov] 194 ∧ Sls w (.slice a h.length c) h ∧ h.length ≤ c ∧
    (∀ g, (Value.slice a h.length c).ownBlock = some g → base ≤ g ∧ ∃ cur, Blk w g cur 106) ∧ w.ownsRow base 106 7 ov o.length (skCells o) ∧ Apart ov (.slice a h.length c)

theorem Keep.heap {base K : Nat} {w w' : World} {next : Int} {h o : List Sk} (hk : Keep base K w next h o) (e : w'.heap = w.heap) : Keep base K w' next h o := by
  obtain ⟨a, c, ov, kK, kS, kc, kB, kO, kA⟩ := hk
  have eb : ∀ {g : Nat} {C : Array Value} {t : TypeId}, Blk w g C t → Blk w' g C t := fun h => by unfold Blk at h ⊢; rw [e]; exact h
  refine ⟨a, c, ov, eb kK, ?_, kc, fun g hg => ?_, owns_same kO (fun g _ => by rw [e]), kA⟩
  · obtain ⟨hl, h | ⟨b, off, c, hv, hb, hc⟩⟩ := kS
    · exact ⟨hl, .inl h⟩
    · exact ⟨hl, .inr ⟨b, off, c, hv, by rw [e]; exact hb, fun j u hj => (World.cell?_of_block (by rw [e])).trans (hc j u hj)⟩⟩
  · obtain ⟨h1, cur, h2⟩ := kB g hg
    exact ⟨h1, cur, eb h2⟩
theorem Keep.drewN {base K : Nat} {w : World} {next : Int} {h o : List Sk} (hk : Keep base K w next h o) (q : Nat) : Keep base K (w.drewN q) next h o := hk.heap (heap_drewN w q)

/-- numbers that may be -/
def Nums (h : List Sk) : Prop := ∀ x ∈ h, 65536 ≤ x.n ∧ x.n ≤ 1000000000

theorem Sls.cons {w : World} {a : Option Addr} {c : Nat} {x : Sk} {r : List Sk} (h : Sls w (.slice a (x :: r).length c) (x :: r)) :
    ∃ g off, a = some ⟨g, off, none⟩ ∧ g < w.heap.size ∧ At7 w g off x := by
  obtain ⟨ao, c', hv, hc⟩ := h.parts
  cases hv
  obtain ⟨g, off, h1, h2, h3⟩ := hc 0 (by simp)
  refine ⟨g, off, h1, h2, ?_⟩
  simpa using h3
theorem Sls.tail {w : World} {g off c : Nat} {x : Sk} {r : List Sk} (h : Sls w (.slice (some ⟨g, off, none⟩) (x :: r).length c) (x :: r)) : Sls w (.slice (some ⟨g, off + 7, none⟩) r.length (c - 1)) r := by
  obtain ⟨hl, ⟨h0, _⟩ | ⟨b, o, c', hv, hb, hc⟩⟩ := h
  · simp at h0
  · cases hv
    refine ⟨skCells_len r, .inr ⟨g, off + 7, c - 1, rfl, hb, fun j u hj => ?_⟩⟩
    rw [Nat.add_assoc]
    refine hc (7 + j) u ?_
    show (x.cells.toList ++ skCells r)[7 + j]? = some u
    rw [List.getElem?_append_right (by simp [Sk.cells]), show 7 + j - x.cells.toList.length = j by simp [Sk.cells]]
    exact hj

/-- one more has gone out -/
theorem letOut_more {base K g off m c c' : Nat} {next' : Int} {x : Sk} {r o' : List Sk} {R : Int × List Sk × List Sk} {w w2 : World} {ov : Value} {a' : Option Addr} (hbK : base ≤ K) (hbg : base ≤ g) (hnu : Nums (x :: r)) (hne : 0 ≤ next' ∧ next' ≤ 1000000001) (hle : (x :: r).length + o'.length ≤ 100)
    (HL : letF next' (x :: r) o' = R) (hxn : x.n = next') (hxr : r.length + 1 = m) (kc : (x :: r).length ≤ c)
    (G : Blk w2 K #[.int .i64 next', .slice (some ⟨g, off, none⟩) m c, ov] 194 ∧ Sls w2 (.slice (some ⟨g, off, none⟩) (x :: r).length c) (x :: r) ∧ (∃ cur, Blk w2 g cur 106) ∧ w2.ownsRow base 106 7 (.slice a' (o'.length + 1) c') (o'.length + 1) (skCells o' ++ x.cells.toList) ∧
      (Value.slice a' (o'.length + 1) c').ownBlock ≠ some g ∧ Below base w w2)
    (H : Value) (w3 : World) (hH : H = .slice (some ⟨g, off + 7, none⟩) (m - 1) (c - 1) ∨ H = .slice (some ⟨g, off, none⟩) 0 0 ∧ c = 1) (hw3 : w3 = ((w2.setCell ⟨K, 2, none⟩ (.slice a' (o'.length + 1) c')).setCell ⟨K, 1, none⟩ H).setCell ⟨K, 0, none⟩ (.int .i64 (next' + 1))) :
    Keep base K w3 (next' + 1) r (o' ++ [x]) ∧ letF (next' + 1) r (o' ++ [x]) = R ∧ Nums r ∧ (0 ≤ next' + 1 ∧ next' + 1 ≤ 1000000001) ∧ r.length + (o' ++ [x]).length ≤ 100 ∧ Below base w w3 ∧ r.length ≤ r.length := by
  obtain ⟨g1, g2, ⟨cur, g3⟩, g4, g5, g6⟩ := G
  have hx := hnu x (by simp)
  have hKg : K ≠ g := Apart_type g1 g3 (by decide)
  have hblk : ∀ j, j ≠ K → w3.heap[j]? = w2.heap[j]? := fun j hj => by
    rw [hw3, Below.heap_setCell _ _ _ _ (by exact hj), Below.heap_setCell _ _ _ _ (by exact hj), Below.heap_setCell _ _ _ _ (by exact hj)]
  have hsz : w3.heap.size = w2.heap.size := by rw [hw3]; simp
  have k3 : Blk w3 K #[.int .i64 (next' + 1), H, .slice a' (o'.length + 1) c'] 194 := by rw [hw3]; exact ((g1.set 2 _).set 1 _).set 0 _
  have hm : r.length = m - 1 := by omega
  have hol : (o' ++ [x]).length = o'.length + 1 := by simp
  have hsl : Sls w3 (.slice (some ⟨g, off + 7, none⟩) r.length (c - 1)) r := by
    obtain ⟨hl, ⟨h0, b, cc, hv⟩ | ⟨b, of2, c3, hv, hb, hc⟩⟩ := g2.tail
    · exact ⟨hl, .inl ⟨h0, b, cc, hv⟩⟩
    · cases hv
      exact ⟨hl, .inr ⟨g, off + 7, c - 1, rfl, by rw [hsz]; exact hb, fun j u hj => (World.cell?_of_block (hblk g (Ne.symm hKg))).trans (hc j u hj)⟩⟩
  have hrow : w3.ownsRow base 106 7 (.slice a' (o'.length + 1) c') (o' ++ [x]).length (skCells (o' ++ [x])) := by
    rw [hol, skCells_append, skCells_one]
    refine owns_same g4 fun j hj => hblk j (fun e => ?_)
    obtain ⟨_, cu, h3⟩ := owns_blk g4 hj
    exact Apart_type g1 h3 (by decide) e.symm
  refine ⟨?_, by rw [← HL]; simp only [letF, if_pos hxn], fun y hy => hnu y (by simp [hy]), by omega, by simp at hle ⊢; omega, by rw [hw3]; exact ((g6.setCell (by exact hbK) _).setCell (by exact hbK) _).setCell (by exact hbK) _, Nat.le_refl _⟩
  simp only [List.length_cons] at kc
  rcases hH with rfl | ⟨rfl, rfl⟩
  · refine ⟨some ⟨g, off + 7, none⟩, c - 1, .slice a' (o'.length + 1) c', by rw [hm]; exact k3, hsl, by omega, fun g' hg' => ?_, hrow, fun g' h1 h2 => ?_⟩
    · simp [Value.ownBlock] at hg'; subst hg'
      exact ⟨hbg, cur, (hblk g (Ne.symm hKg)).trans g3⟩
    · simp only [Value.ownBlock, Option.some.injEq] at h2; subst h2; exact g5 h1
  · have hr0 : r = [] := List.eq_nil_of_length_eq_zero (by omega)
    subst hr0
    refine ⟨some ⟨g, off, none⟩, 0, .slice a' (o'.length + 1) c', k3, ⟨rfl, .inl ⟨rfl, _, _, rfl⟩⟩, by simp, fun g' hg' => ?_, hrow, fun g' h1 h2 => ?_⟩
    · simp [Value.ownBlock] at hg'; subst hg'
      exact ⟨hbg, cur, (hblk g (Ne.symm hKg)).trans g3⟩
    · simp only [Value.ownBlock, Option.some.injEq] at h2; subst h2; exact g5 h1

set_option maxHeartbeats 2000000 in
set_option maxRecDepth 100000 in
theorem letOut_any (base K : Nat) (next : Int) (h o : List Sk) (w : World) (hk : Keep base K w next h o) (hbK : base ≤ K) (hnums : Nums h) (hn0 : 0 ≤ next ∧ next ≤ 1000000001) (hlen : h.length + o.length ≤ 100) :
    Calls Tryz.prog 164 #[.pointer (some ⟨K, 0, none⟩)] w fun e w' => e = .returned (.tuple #[]) ∧ Keep base K w' (letF next h o).1 (letF next h o).2.1 (letF next h o).2.2 ∧ Below base w w' := by
  obtain ⟨i0, hi, hz0, hz1, hz2⟩ := info_parts Tryz.infoSlot
  obtain ⟨R, hR⟩ : ∃ R, R = letF next h o := ⟨_, rfl⟩
  rw [← hR]
  go_enter Tryz.func164, Tryz.ntmps164
  go_wp2
  go_loopg [] h.length (fun gg wr => ∃ next' h' o', Hid (Keep base K wr next' h' o') ∧ Hid (letF next' h' o' = R) ∧ Nums h' ∧ (0 ≤ next' ∧ next' ≤ 1000000001) ∧ h'.length + o'.length ≤ 100 ∧ Hid (Below base w wr) ∧ h'.length ≤ gg)
  case atStart => exact ⟨next, h, o, hk, hR.symm, hnums, hn0, hlen, Below.refl _ _, Nat.le_refl _⟩
  case round =>
    obtain ⟨next', h', o', HK, HL, hnu, hne, hle, HB, hgg⟩ := hrel
    obtain ⟨a, c, ov, kK, kS, kc, kB, kO, kA⟩ := HK.out
    obtain ⟨d0, d1, d2⟩ := kK.three
    have hKw := kK.lt
    cases h' with
    | nil =>
      simp only [List.length_nil] at d1
      have hd : decide ((0 : Int) < 0) = false := rfl
      clear kK kS kc kB kO kA hk hR
      go_wp2
      go_quiet (fail)
      go_wp2
      go_end0
      rw [← HL.out]
      exact ⟨rfl, HK.out.drewN nq, HB.out.trans (below_drewN (Below.refl _ _) nq)⟩
    | cons x r =>
      obtain ⟨g, off, rfl, hgl, hat⟩ := kS.cons
      obtain ⟨c0, c1, c2, c3, c4, c5, c6⟩ := hat
      obtain ⟨m, hm⟩ : ∃ m, m = (x :: r).length := ⟨_, rfl⟩
      have HM : Hid (m = (x :: r).length) := hm
      rw [← hm] at d1
      have hm1 : (0 : Int) < (m : Int) := by simp at hm; omega
      have hm3 : 0 < m := by omega
      have hm2 : decide (0 < m) = true := decide_eq_true hm3
      by_cases hxn : x.n = next'
      · clear hk hR hm
        go_wp2
        go_quiet (fail)
        obtain ⟨W, hW⟩ : ∃ W, W = wr.drewN nq := ⟨_, rfl⟩
        have HKW : Hid (Keep base K W next' (x :: r) o') := by show Keep _ _ _ _ _ _; rw [hW]; exact HK.out.drewN nq
        have HBW : Hid (Below base w W) := by show Below _ _ _; rw [hW]; exact HB.out.trans (below_drewN (Below.refl _ _) nq)
        rw [← hW]
        have HXN : Hid (x.n = next') := hxn
        clear hxn hW HK HB kK kS kB kO kA kc d0 d1 d2 c0 c1 c2 c3 c4 c5 c6 hgl hKw hm1 hm2 hm3 HM
        obtain ⟨a2, c, ov, kK, kS, kc, kB, kO, kA⟩ := HKW.out
        obtain ⟨d0, d1, d2⟩ := kK.three
        have hKw := kK.lt
        obtain ⟨g, off, rfl, hgl, hat⟩ := kS.cons
        obtain ⟨c0, c1, c2, c3, c4, c5, c6⟩ := hat
        obtain ⟨m, hm⟩ : ∃ m, m = (x :: r).length := ⟨_, rfl⟩
        have HM : Hid (m = (x :: r).length) := hm
        rw [← hm] at d1
        have hm1 : (0 : Int) < (m : Int) := by simp at hm; omega
        have hm3 : 0 < m := by omega
        obtain ⟨hbg, curg, kg⟩ := kB g rfl
        have hxr : Hid (r.length + 1 = m) := by show r.length + 1 = m; rw [hm]; simp
        clear hm
        have own1 : Hid ((W.alloc (.cells #[.int .i64 x.n, .int .i64 x.p.seq, .int .i64 x.p.time, .bool x.p.f, .bool x.p.e, .bool x.p.k, .string x.p.t] 106)).drew.ownsRow base 106 7 ov o'.length (skCells o')) := kO.alloc _
        have new1 : Hid (∀ j u, x.cells.toList[j]? = some u → (W.alloc (.cells #[.int .i64 x.n, .int .i64 x.p.seq, .int .i64 x.p.time, .bool x.p.f, .bool x.p.e, .bool x.p.k, .string x.p.t] 106)).drew.cell? ((⟨W.heap.size, 0, none⟩ : Addr).add j) = some u) := newSlot rfl
        have hbW : Hid (base ≤ (W.alloc (.cells #[.int .i64 x.n, .int .i64 x.p.seq, .int .i64 x.p.time, .bool x.p.f, .bool x.p.e, .bool x.p.k, .string x.p.t] 106)).drew.heap.size) := by show base ≤ (W.alloc _).heap.size; have := HBW.out.size; simp; omega
        have aft : Hid (∀ v' w2, w2.ownsRow base 106 7 v' (o'.length + 1) (skCells o' ++ x.cells.toList) → (W.alloc (.cells #[.int .i64 x.n, .int .i64 x.p.seq, .int .i64 x.p.time, .bool x.p.f, .bool x.p.e, .bool x.p.k, .string x.p.t] 106)).drew.grownBy w2 ov.ownBlock →
            (v'.ownBlock = ov.ownBlock ∨ ∀ g, v'.ownBlock = some g → (W.alloc (.cells #[.int .i64 x.n, .int .i64 x.p.seq, .int .i64 x.p.time, .bool x.p.f, .bool x.p.e, .bool x.p.k, .string x.p.t] 106)).drew.heap.size ≤ g) →
            ∃ a' c', v' = .slice a' (o'.length + 1) c' ∧ w2.cell? ⟨K, 0, none⟩ = some (.int .i64 next') ∧ w2.cell? ⟨K, 1, none⟩ = some (.slice (some ⟨g, off, none⟩) m c) ∧ w2.cell? ⟨K, 2, none⟩ = some ov ∧ (∀ j, w2.frozen? ⟨K, j, none⟩ = false) ∧ 
              Hid (Blk w2 K #[.int .i64 next', .slice (some ⟨g, off, none⟩) m c, ov] 194 ∧ Sls w2 (.slice (some ⟨g, off, none⟩) (x :: r).length c) (x :: r) ∧ (∃ cur, Blk w2 g cur 106) ∧ w2.ownsRow base 106 7 (.slice a' (o'.length + 1) c') (o'.length + 1) (skCells o' ++ x.cells.toList) ∧
                (Value.slice a' (o'.length + 1) c').ownBlock ≠ some g ∧ Below base w w2)) := by
          intro v' w2 ho2 hg2 hd2
          obtain ⟨a', c', rfl⟩ := Sl.len (Sl.of_owns ho2)
          have hKo : some K ≠ ov.ownBlock := fun e => by
            obtain ⟨_, cur, h3⟩ := owns_blk kO e.symm
            exact Apart_type kK h3 (by decide) rfl
          have hgo : some g ≠ ov.ownBlock := fun e => kA g e.symm rfl
          have k2 : Blk w2 K #[.int .i64 next', .slice (some ⟨g, off, none⟩) m c, ov] 194 := (hg2.block K (by show K < (W.alloc _).heap.size; simp; omega) hKo).trans (by have := kK.alloc (.cells #[.int .i64 x.n, .int .i64 x.p.seq, .int .i64 x.p.time, .bool x.p.f, .bool x.p.e, .bool x.p.k, .string x.p.t] 106); rw [HM.out]; exact this)
          have hbg2 : w2.heap[g]? = W.heap[g]? := (hg2.block g (by show g < (W.alloc _).heap.size; simp; omega) hgo).trans (Below.heap_alloc W _ g hgl)
          obtain ⟨e0, e1, e2⟩ := k2.three
          refine ⟨a', c', rfl, e0, e1, e2, k2.free, k2, ?_, ⟨curg, hbg2.trans kg⟩, ho2, ?_, ?_⟩
          · obtain ⟨hl, ⟨h0, _⟩ | ⟨b, of2, c3, hv, hb, hc⟩⟩ := kS
            · simp at h0
            · cases hv
              exact ⟨hl, .inr ⟨g, off, c, rfl, by have := hg2.size; simp at this; omega, fun j u hj => (World.cell?_of_block hbg2).trans (hc j u hj)⟩⟩
          · intro e
            rcases hd2 with hd2 | hd2
            · exact hgo (e.symm.trans hd2)
            · have := hd2 g e
              simp at this; omega
          · exact ((HBW.out.alloc (by have := HBW.out.size; omega) _).drew).grown hg2 (by show base ≤ (W.alloc _).heap.size; have := HBW.out.size; simp; omega) (fun j hj => (kO.lt j hj).1)
        go_wp2
        go_region_law (refine step_append_own2 rfl (.tmp 29) (.tmp 37) 22 rfl base 106 i0 _ 7 48 Tryz.underlying22 hi hz0 hz1 hz2 rfl (by decide) ov o'.length (skCells o') (by simp [Act.eval]) own1.out ⟨W.heap.size, 0, none⟩ 1 1 x.cells.toList (by simp [Act.eval]) rfl new1.out (oneSlot x) (by unfold maxLen; omega) (by omega) hbW.out ?_; intro v' w2 ho2 hg2 hd2; obtain ⟨a', c', hv', g0, g1, g2, gf, G⟩ := aft.out v' w2 ho2 hg2 hd2; clear ho2 hg2 hd2; subst hv')
        all_goals clear own1 new1 hbW aft kK kS kB kO kA kg HKW HBW d0 d1 d2 c0 c1 c2 c3 c4 c5 c6
        all_goals
          have fin : ∀ (H : Value) (w3 : World), Hid (H = .slice (some ⟨g, off + 7, none⟩) (m - 1) (c - 1) ∨ H = .slice (some ⟨g, off, none⟩) 0 0 ∧ c = 1) → Hid (w3 = ((w2.setCell ⟨K, 2, none⟩ (.slice a' (o'.length + 1) c')).setCell ⟨K, 1, none⟩ H).setCell ⟨K, 0, none⟩ (.int .i64 (next' + 1))) →
              Hid (Keep base K w3 (next' + 1) r (o' ++ [x])) ∧ Hid (letF (next' + 1) r (o' ++ [x]) = R) ∧ Nums r ∧ (0 ≤ next' + 1 ∧ next' + 1 ≤ 1000000001) ∧ r.length + (o' ++ [x]).length ≤ 100 ∧ Hid (Below base w w3) ∧ r.length ≤ r.length :=
            letOut_more hbK hbg hnu hne hle HL.out HXN.out hxr.out kc G.out
          have FIN := @id (Hid _) fin
          obtain ⟨hne1, hne2⟩ := hne
          clear fin G HL HXN hnu
          by_cases hc1 : c = 1
          · have hm1' : m = 1 := by have := hxr.out; simp at kc; omega
            subst hc1 hm1'
            go_wp2
            go_roundg r.length
            case measure => simp at hgg; omega
            case rel => exact ⟨_, _, _, FIN.out _ _ (.inr ⟨rfl, trivial⟩) rfl⟩
          · have hmi : (1 : Int) ≤ (m : Int) := by omega
            go_wp2
            go_roundg r.length
            case measure => simp at hgg; omega
            case rel => exact ⟨_, _, _, FIN.out _ _ (.inl rfl) rfl⟩
      · clear kK kS kc kB kO kA hk hR hm
        go_wp2
        go_quiet (fail)
        go_wp2
        go_end0
        have hL := HL.out
        simp only [letF, if_neg hxn] at hL
        rw [← hL]
        exact ⟨rfl, HK.out.drewN nq, HB.out.trans (below_drewN (Below.refl _ _) nq)⟩

end Go.Proofs.YtnpaejknoipicagGreat

namespace Go.Proofs.YtnpaejknoipicagGreat
open Go.RowKit

theorem letF_facts : ∀ (h : List Sk) (next : Int) (o : List Sk), Nums h → (0 ≤ next ∧ next ≤ 1000000001) →
    Nums (letF next h o).2.1 ∧ (0 ≤ (letF next h o).1 ∧ (letF next h o).1 ≤ 1000000001) ∧ (letF next h o).2.1.length + (letF next h o).2.2.length = h.length + o.length
  | [], next, o, hn, hb => ⟨hn, hb, rfl⟩
  | x :: r, next, o, hn, hb => by
    unfold letF
    split
    · have hx := hn x (by simp)
      have := letF_facts r (next + 1) (o ++ [x]) (fun y hy => hn y (by simp [hy])) (by omega)
      refine ⟨this.1, this.2.1, ?_⟩
      rw [this.2.2]; simp; omega
    · exact ⟨hn, hb, rfl⟩

set_option maxHeartbeats 2000000 in
set_option maxRecDepth 100000 in
theorem giveUpTo_any (base K most : Nat) (next : Int) (h o : List Sk) (w : World) (hk : Keep base K w next h o) (hbK : base ≤ K) (hnums : Nums h) (hn0 : 0 ≤ next ∧ next ≤ 1000000001) (hlen : h.length + o.length ≤ 100) :
    Calls Tryz.prog 144 #[.pointer (some ⟨K, 0, none⟩), .int .i64 most] w fun e w' =>
      e = .returned (.tuple #[]) ∧ Keep base K w' (giveF most h.length next h o).1 (giveF most h.length next h o).2.1 (giveF most h.length next h o).2.2 ∧ Below base w w' := by
  obtain ⟨R, hR⟩ : ∃ R, R = giveF most h.length next h o := ⟨_, rfl⟩
  rw [← hR]
  go_enter Tryz.func144, Tryz.ntmps144
  go_wp2
  go_loopg [] h.length (fun gg wr => ∃ next' h' o', Hid (Keep base K wr next' h' o') ∧ Hid (giveF most gg next' h' o' = R) ∧ Nums h' ∧ (0 ≤ next' ∧ next' ≤ 1000000001) ∧ h'.length + o'.length ≤ 100 ∧ Hid (Below base w wr) ∧ h'.length ≤ gg)
  case atStart => exact ⟨next, h, o, hk, hR.symm, hnums, hn0, hlen, Below.refl _ _, Nat.le_refl _⟩
  case round =>
    obtain ⟨next', h', o', HK, HL, hnu, hne, hle, HB, hgg⟩ := hrel
    obtain ⟨a, c, ov, kK, kS, kc, kB, kO, kA⟩ := HK.out
    obtain ⟨d0, d1, d2⟩ := kK.three
    have hKw := kK.lt
    by_cases hm : h'.length ≤ most
    · have hmi : ((h'.length : Nat) : Int) ≤ (most : Int) := by omega
      have hG : Hid (giveF most gk next' h' o' = (next', h', o')) := by
        show giveF most gk next' h' o' = (next', h', o')
        cases gk with
        | zero => rfl
        | succ f =>
          cases h' with
          | nil => rfl
          | cons x r => simp only [List.length_cons] at hm; simp only [giveF, if_pos hm]
      obtain ⟨n, hn⟩ : ∃ n, n = h'.length := ⟨_, rfl⟩
      rw [← hn] at d1 hmi
      clear kK kS kc kB kO kA hk hR hn
      go_wp2
      go_end0
      rw [← HL.out, hG.out]
      exact ⟨rfl, HK.out, HB.out⟩
    · cases h' with
      | nil => simp at hm
      | cons x r =>
        obtain ⟨g, off, rfl, hgl, hat⟩ := kS.cons
        have c0 := hat.1
        obtain ⟨hbg, curg, kg⟩ := kB g rfl
        have hx := hnu x (by simp)
        have hKg : K ≠ g := Apart_type kK kg (by decide)
        obtain ⟨m, hmm⟩ : ∃ m, m = (x :: r).length := ⟨_, rfl⟩
        have hmo : ¬ ((m : Int) ≤ (most : Int)) := by rw [hmm]; omega
        have hm0 : (0 : Int) < (m : Int) := by rw [hmm]; simp
        have fz := kK.free 0
        have k1 : Hid (Keep base K (wr.setCell ⟨K, 0, none⟩ (.int .i64 x.n)) x.n (x :: r) o') := by
          have hblk : ∀ j, j ≠ K → (wr.setCell ⟨K, 0, none⟩ (.int .i64 x.n)).heap[j]? = wr.heap[j]? := fun j hj => Below.heap_setCell _ _ _ _ (by exact hj)
          refine ⟨some ⟨g, off, none⟩, c, ov, kK.set 0 _, ?_, kc, fun g' hg' => ?_, owns_same kO fun j hj => hblk j (fun e => ?_), kA⟩
          · obtain ⟨hl, ⟨h0, _⟩ | ⟨b, of2, c3, hv, hb, hc⟩⟩ := kS
            · simp at h0
            · cases hv
              exact ⟨hl, .inr ⟨g, off, c, rfl, by simp; exact hb, fun j u hj => (World.cell?_of_block (hblk g (Ne.symm hKg))).trans (hc j u hj)⟩⟩
          · simp only [Value.ownBlock, Option.some.injEq] at hg'; subst hg'
            exact ⟨hbg, curg, (hblk g (Ne.symm hKg)).trans kg⟩
          · obtain ⟨_, cu, h3⟩ := owns_blk kO hj
            exact Apart_type kK h3 (by decide) e.symm
        have hcall := letOut_any base K x.n (x :: r) o' _ k1.out hbK hnu (by omega) hle
        have hfacts := letF_facts (x :: r) x.n o' hnu (by omega)
        have hsh : (letF x.n (x :: r) o').2.1.length ≤ r.length := by rw [letF_first]; exact letF_len _ _ _
        obtain ⟨Q, hQ⟩ : ∃ Q, Q = letF x.n (x :: r) o' := ⟨_, rfl⟩
        have HG : Hid (∀ f, gk = f + 1 → giveF most f Q.1 Q.2.1 Q.2.2 = R) := fun f hf => by
          rw [← HL.out, hf, hQ]
          simp only [List.length_cons] at hm
          simp only [giveF, if_neg hm]
        rw [← hQ] at hcall hfacts hsh
        rw [← hmm] at d1
        have HF : Hid _ := hfacts
        have HQ : Hid (Below base w (wr.setCell ⟨K, 0, none⟩ (.int .i64 x.n))) := HB.out.setCell (by exact hbK) _
        clear kK kS kc kB kO kA hk hR hmm k1 kg hat hfacts hQ HL HB HK
        go_wp2_with (go_at_call 164; refine hcall.mono ?_; rintro e w1 ⟨rfl, hk1, hb1⟩)
        have HK1 : Hid _ := hk1
        clear hk1
        go_roundg (gk - 1)
        case measure => simp at hgg; omega
        case rel =>
          obtain ⟨f1, f2, f3⟩ := HF.out
          exact ⟨_, _, _, HK1, HG.out (gk - 1) (by simp at hgg; omega), f1, f2, by omega, HQ.out.trans hb1, by simp at hgg; omega⟩

set_option maxHeartbeats 1000000 in
theorem keep_any (next : Int) (v : Value) (l : List Sk) (w : World) (hv : Sls w v l) (hlen : l.length ≤ 1000) (hshort : ∀ x ∈ l, x.p.t.size ≤ 8) :
    Calls Tryz.prog 142 #[.agg #[.int .i64 next, v]] w fun e w' => ∃ u, e = .returned (.agg #[.int .i64 next, u, .slice none 0 0]) ∧ w'.ownsRow w.heap.size 106 7 u l.length (skCells l) ∧ Below w.heap.size w w' := by
  obtain ⟨a, c, rfl⟩ := hv.len
  have hcp := copyAll_any (.slice a l.length c) l ((w.alloc (.cells #[.int .i64 next, .slice a l.length c] 24)).alloc (.cells #[.int .i64 0, .slice none 0 0, .slice none 0 0] 194)) ((hv.alloc _).alloc _) hlen hshort
  obtain ⟨n, hn⟩ : ∃ n, n = l.length := ⟨_, rfl⟩
  rw [← hn] at hcp ⊢
  clear hv hn
  go_enter Tryz.func142, Tryz.ntmps142
  go_wp2_with fail
  refine hcp.mono ?_
  rintro e w1 ⟨u, rfl, ho, hb⟩
  have k0 := ((Blk.new w #[.int .i64 next, .slice a n c] 24).alloc (.cells #[.int .i64 0, .slice none 0 0, .slice none 0 0] 194)).below hb (by simp; omega)
  have k1 := (Blk.new (w.alloc (.cells #[.int .i64 next, .slice a n c] 24)) #[.int .i64 0, .slice none 0 0, .slice none 0 0] 194).below hb (by simp)
  simp only [World.size_alloc] at k1
  have f0 := k0.free
  have f1 := k1.free
  obtain ⟨c0, c1⟩ := k0.two
  obtain ⟨d0, d1, d2⟩ := k1.three
  obtain ⟨a', c', hu⟩ := Sl.len (Sl.of_owns ho)
  have hbe : Below w.heap.size w w1 := (((Below.refl _ w).alloc (Nat.le_refl _) _).alloc (by simp) _).trans (hb.mono (by simp; omega))
  have HF : Hid (∀ w2 : World, Hid (∀ j, j ≠ w.heap.size → j ≠ w.heap.size + 1 → w2.heap[j]? = w1.heap[j]?) → w2.ownsRow w.heap.size 106 7 u n (skCells l)) := fun w2 h2 =>
    owns_same (owns_base ho (by simp; omega)) fun j hj => by
      have := (ho.lt j hj).1
      simp only [World.size_alloc] at this
      exact h2.out j (by omega) (by omega)
  have HB : Hid (Below w.heap.size w w1) := hbe
  clear hb k0 k1 ho hbe hcp
  subst hu
  go_wp2
  exact bodyPost_ret (v := .agg #[.int .i64 next, .slice a' n c', .slice none 0 0]) (by simp [results, Tryz.results142, go_sem, d0, d1, d2]) rfl ⟨.slice a' n c', rfl, HF.out _ (show ∀ j, _ from fun j h1 h2 => by
    rw [Below.heap_setCell _ _ _ _ (by exact h2), Below.heap_setCell _ _ _ _ (by exact h2), Below.heap_setCell _ _ _ _ (by exact h2), Below.heap_setCell _ _ _ _ (by exact h1)]), by
    have h := HB.out
    exact (((h.setCell (by simp) _).setCell (by simp) _).setCell (by simp) _).setCell (by simp) _⟩

theorem Keep.of_owns {base K : Nat} {w : World} {next : Int} {hv : Value} {h : List Sk} (hK : Blk w K #[.int .i64 next, hv, .slice none 0 0] 194) (hown : w.ownsRow base 106 7 hv h.length (skCells h)) : Keep base K w next h [] := by
  have hsl := Sls.of_owns hown
  obtain ⟨a, c, hv'⟩ := hsl.len
  subst hv'
  refine ⟨a, c, .slice none 0 0, hK, hsl, ?_, fun g hg => owns_blk hown hg, World.ownsRow_nil _ _ _ _, Apart.nil _⟩
  obtain ⟨_, ⟨h1, h2⟩ | ⟨g, cap, cur, h1, _, _, h2, _⟩⟩ := hown
  · omega
  · injection h1 with _ _ h3; omega

end Go.Proofs.YtnpaejknoipicagGreat

namespace Go.Proofs.YtnpaejknoipicagGreat
open Go.RowKit

set_option maxHeartbeats 400000 in
theorem risesLit_fits (next : Int) (v : Value) (l : List Sk) (B : Nat) (w : World) (hB : Blk w B #[.int .i64 next, v] 24) (hv : Sls w v l) (hlen : l.length ≤ 9223372036854775807) :
    Fits 131 #[.pointer (some ⟨B, 0, none⟩)] (qB next l) l.length w := fun W k hk hb => by
  have hBW := hB.below hb hB.lt
  obtain ⟨c0, c1⟩ := hBW.two
  have hcall := rises_any next v l k W (hv.below hb) hk hlen
  obtain ⟨q, hq⟩ : ∃ q, q = qB next l k := ⟨_, rfl⟩
  rw [← hq] at hcall ⊢
  obtain ⟨a, c, rfl⟩ := hv.len
  clear hq hBW hB hv
  show Calls Tryz.prog 131 #[.int .i64 k, .pointer (some ⟨B, 0, none⟩)] W _
  go_enter Tryz.func131, Tryz.ntmps131
  go_wp2_with (go_at_call 132; refine hcall.mono ?_; rintro e w1 ⟨rfl, hbw⟩)
  go_ret
  exact ⟨rfl, hbw⟩

set_option maxHeartbeats 2000000 in
theorem bufCheck_any (next : Int) (v : Value) (l : List Sk) (w : World) (hv : Sls w v l) (hlen : l.length ≤ 9223372036854775807) :
    Calls Tryz.prog 101 #[.agg #[.int .i64 next, v]] w fun e w' => e = .returned (.int .i64 (pchk next l)) ∧ Below w.heap.size w w' := by
  obtain ⟨a, c, hva⟩ := hv.len
  obtain ⟨n, hn⟩ : ∃ n, n = l.length := ⟨_, rfl⟩
  obtain ⟨r, hr⟩ : ∃ r, r = bchk next l := ⟨_, rfl⟩
  rw [← hn] at hva
  unfold pchk
  rw [← hr]
  have HR : Hid (r = bchk next l) := hr
  have HN : Hid (n = l.length) := hn
  have HV : Hid (Sls w v l) := hv
  have hln : n ≤ 9223372036854775807 := by omega
  clear hr hv hn hlen
  subst hva
  cases hb : nextBad next
  · have hnx := nextBad_false.1 hb
    have h0 : next = 0 ∨ ¬ next = 0 ∧ 65536 ≤ next ∧ next ≤ 1000000001 := by omega
    by_cases h4 : 4 < n
    · have hr : r = 2 := by rw [HR.out]; unfold bchk; rw [hb, if_neg (by simp), if_pos (by rw [← HN.out]; exact h4)]
      rw [hr]
      clear hnx hb hr
      rcases h0 with rfl | ⟨h1, h2, h3⟩
      all_goals
        go_enter Tryz.func101, Tryz.ntmps101
        go_wp2
        go_ret
        exact ⟨rfl, by go_grown⟩
    · obtain ⟨w0, hw0⟩ : ∃ w0 : World, w0 = w.alloc (.cells #[.int .i64 next, .slice a n c] 24) := ⟨_, rfl⟩
      have hcA : Calls Tryz.prog 130 #[.slice a n c, .func (.func 131) #[] #[.pointer (some ⟨w.heap.size, 0, none⟩)]] w0 fun e w' => e = .returned (.int .i64 (bgo next next l)) ∧ Below w0.heap.size w0 w' := by
        rw [← fit_all, hw0]
        exact checkAll_any 131 #[.pointer (some ⟨w.heap.size, 0, none⟩)] (qB next l) (enters_of Tryz.func131 (by kernel_rfl) rfl) (.slice a n c) l _ (HV.out.alloc _) (by rw [← HN.out]; exact hln) (risesLit_fits next (.slice a n c) l w.heap.size _ (Blk.new w _ _) (HV.out.alloc _) (by rw [← HN.out]; exact hln))
      have hK0 : Blk w0 w.heap.size #[.int .i64 next, .slice a n c] 24 := by rw [hw0]; exact Blk.new w _ _
      have hB0 : Below w.heap.size w w0 := by rw [hw0]; exact (Below.refl _ w).alloc (Nat.le_refl _) _
      have hs0 : w.heap.size ≤ w0.heap.size := hB0.size
      obtain ⟨ca, hca⟩ : ∃ ca, ca = bgo next next l := ⟨_, rfl⟩
      rw [← hca] at hcA
      have hr : Hid (r = if ca = 0 then (if next = 0 ∧ 0 < n then 4 else 0) else ca) := by
        show r = _
        rw [HR.out, hca]; unfold bchk; rw [hb, if_neg (by simp), if_neg (by rw [← HN.out]; exact h4), HN.out]
      have HA : Hid (Calls Tryz.prog 130 #[.slice a n c, .func (.func 131) #[] #[.pointer (some ⟨w.heap.size, 0, none⟩)]] w0 fun e w' => e = .returned (.int .i64 ca) ∧ Below w0.heap.size w0 w') := hcA
      have HW0 : Hid (w0 = w.alloc (.cells #[.int .i64 next, .slice a n c] 24)) := hw0
      have K0 : Hid (Blk w0 w.heap.size #[.int .i64 next, .slice a n c] 24) := hK0
      have B0 : Hid (Below w.heap.size w w0) := hB0
      clear hca hcA hw0 hK0 hB0 hnx hb HR
      by_cases hc0 : ca = 0
      · subst hc0
        rcases h0 with rfl | ⟨h1, h2, h3⟩
        all_goals
          go_enter Tryz.func101, Tryz.ntmps101
          go_wp2_with fail
          rw [← HW0.out]
          refine HA.out.mono ?_
          rintro e w1 ⟨rfl, hb1⟩
          have k1 := Blk.below K0.out hb1 (Blk.lt K0.out)
          obtain ⟨d0, d1⟩ := k1.two
          have B1 : Hid (Below w.heap.size w w1) := B0.out.trans (hb1.mono hs0)
          clear hb1 k1 HA
          by_cases hn0 : n = 0
          · subst hn0
            go_wp2
            go_ret
            exact ⟨by rw [hr.out]; simp [Array.getD], B1.out⟩
          · have hn1 : (0 : Int) < (n : Int) := by omega
            go_wp2
            go_ret
            refine ⟨?_, B1.out⟩
            rw [hr.out]
            first
              | (rw [if_pos trivial, if_pos ⟨trivial, by omega⟩]; rfl)
              | (rw [if_pos trivial, if_neg (fun h => h1 h.1)]; rfl)
              | (rw [if_pos rfl, if_pos ⟨rfl, by omega⟩]; rfl)
              | (rw [if_pos rfl, if_neg (fun h => h1 h.1)]; rfl)
      · have hr' : r = ca := by rw [hr.out, if_neg hc0]
        rw [hr']
        clear hr hr'
        rcases h0 with rfl | ⟨h1, h2, h3⟩
        all_goals
          go_enter Tryz.func101, Tryz.ntmps101
          go_wp2_with fail
          rw [← HW0.out]
          refine HA.out.mono ?_
          rintro e w1 ⟨rfl, hb1⟩
          have B1 : Hid (Below w.heap.size w w1) := B0.out.trans (hb1.mono hs0)
          clear hb1 HA
          go_wp2
          go_ret
          exact ⟨rfl, B1.out⟩
  · have hr : r = 3 := by rw [HR.out]; unfold bchk; rw [hb, if_pos rfl]
    rw [hr]
    have h0 : ¬ next = 0 := by rintro rfl; simp [nextBad] at hb
    have h1 : next < 65536 ∨ 65536 ≤ next ∧ 1000000001 < next := by simp [nextBad] at hb; omega
    clear hb hr
    rcases h1 with h1 | ⟨h1, h2⟩
    all_goals
      go_enter Tryz.func101, Tryz.ntmps101
      go_wp2
      go_ret
      exact ⟨rfl, by go_grown⟩

end Go.Proofs.YtnpaejknoipicagGreat
