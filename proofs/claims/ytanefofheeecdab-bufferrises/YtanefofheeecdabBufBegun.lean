/-
  Contracts: switchbacklaw.slot, switchbacklaw.bufferBegun.
-/
import Derived.Test.YtanefofheeecdabBufPut
import Derived.Deep.Cut
import Derived.Deep.DeepCutAuto
namespace Go.Proofs.Ytanefofheeecdab
open Go.RowKit

/-- the law's own slot -/
def lsk (n time : Int) (f e k : Bool) : Sk := ⟨n, ⟨n % 65536, time, f, e, k, ⟨#[116]⟩⟩⟩

set_option maxHeartbeats 400000 in
theorem lslot_any (n time : Int) (f e k : Bool) (w : World) (hn1 : 0 ≤ n) (hn2 : n ≤ 1000000000) :
    Calls Try.prog 44 #[.int .i64 n, .int .i64 time, .bool f, .bool e, .bool k] w fun r w' => r = .returned (lsk n time f e k).val ∧ Below w.heap.size w w' := by
  simp only [lsk, Sk.val]
  go_enter Try.func44, Try.ntmps44
  go_wp2
  exact bodyPost_ret (v := .agg #[.int .i64 n, .int .i64 (n % 65536), .int .i64 time, .bool f, .bool e, .bool k, .string ⟨#[116]⟩]) (by simp [results, Try.results44, go_sem]) rfl ⟨rfl, by go_grown⟩

/-- Put, whatever it is handed -/
theorem bufPut_any (next : Int) (v : Value) (l : List Sk) (x : Sk) (w : World) (hv : Sls w v l) (hlen : l.length ≤ 9223372036854775807) :
    Calls Try.prog 13 #[.agg #[.int .i64 next, v], x.val] w fun e w' => ∃ hv' ov', e = .returned (.tuple #[.agg #[.int .i64 (putR next l x).1, hv'], ov', .int .i64 (putE next l x)]) ∧
      Fresh w.heap.size w' hv' (putR next l x).2.1 ∧ Fresh w.heap.size w' ov' (putR next l x).2.2 ∧ Below w.heap.size w w' := by
  by_cases hE : putE next l x = 0
  · have hp : pchk next l = 0 := by
      unfold putE at hE
      by_cases h : pchk next l = 0
      · exact h
      · rw [if_neg h] at hE; exact absurd hE h
    have hx : x.chk = 0 := by unfold putE at hE; rw [if_pos hp] at hE; exact hE
    have hr : putR next l x = putF next l x := by unfold putR; rw [if_pos hE]
    rw [hE, hr]
    exact bufPut_ok next v l x w hv ((pchk_right next l).1 hp) hx
  · have hr : putR next l x = (0, [], []) := by unfold putR; rw [if_neg hE]
    rw [hr]
    refine (bufPut_no next v l x w hv hlen hE).mono ?_
    rintro e w' ⟨rfl, hb⟩
    exact ⟨_, _, rfl, Fresh.nil _ _, Fresh.nil _ _, hb⟩
theorem bufFlush_any (next : Int) (v : Value) (l : List Sk) (w : World) (hv : Sls w v l) (hlen : l.length ≤ 9223372036854775807) :
    Calls Try.prog 14 #[.agg #[.int .i64 next, v]] w fun e w' => ∃ hv' ov', e = .returned (.tuple #[.agg #[.int .i64 (flushR next l).1, hv'], ov', .int .i64 (pchk next l)]) ∧
      Fresh w.heap.size w' hv' (flushR next l).2.1 ∧ Fresh w.heap.size w' ov' (flushR next l).2.2 ∧ Below w.heap.size w w' := by
  by_cases hE : pchk next l = 0
  · have hr : flushR next l = relF 0 next l [] := by unfold flushR; rw [if_pos hE]
    rw [hE, hr]
    exact bufFlush_ok next v l w hv ((pchk_right next l).1 hE)
  · have hr : flushR next l = (0, [], []) := by unfold flushR; rw [if_neg hE]
    rw [hr]
    refine (bufFlush_no next v l w hv hlen hE).mono ?_
    rintro e w' ⟨rfl, hb⟩
    exact ⟨_, _, rfl, Fresh.nil _ _, Fresh.nil _ _, hb⟩

abbrev bx (n : Int) : Sk := lsk n 1 true true true
theorem bx0 : (bx 70000).chk = 0 := by decide
theorem bx1 : (bx 70001).chk = 0 := by decide
theorem bx2 : (bx 70002).chk = 0 := by decide
theorem right0 : Right 0 [] := ⟨.inl ⟨rfl, rfl⟩, by decide, by simp, rfl⟩
theorem right1 : Right 70001 [] := ⟨.inr (by decide), by decide, by simp, rfl⟩
theorem right2 : Right 70001 [bx 70002] := ⟨.inr (by decide), by decide, by simp [bx2], rfl⟩
theorem put0 : putF 0 [] (bx 70000) = (70001, [], [bx 70000]) := by rfl
theorem put1 : putF 70001 [] (bx 70002) = (70001, [bx 70002], []) := by rfl
theorem put2 : putF 70001 [bx 70002] (bx 70001) = (70003, [], [bx 70001, bx 70002]) := by rfl
theorem flush2 : relF 0 70001 [bx 70002] [] = (70003, [], [bx 70002]) := by rfl

set_option maxHeartbeats 4000000 in
set_option maxRecDepth 100000 in
theorem bufferBegun_any (w : World) :
    Calls Try.prog 19 #[] w fun e w' => e = .returned (.bool true) ∧ Below w.heap.size w w' := by
  have hs : Hid (∀ (n : Int) (w : World), 0 ≤ n → n ≤ 1000000000 → Calls Try.prog 44 #[.int .i64 n, .int .i64 1, .bool true, .bool true, .bool true] w fun r w' => r = .returned (bx n).val ∧ Below w.heap.size w w') := fun n w h1 h2 => lslot_any n 1 true true true w h1 h2
  have hp0 : Hid (∀ w : World, Calls Try.prog 13 #[.agg #[.int .i64 0, .slice none 0 0], (bx 70000).val] w fun e w' => ∃ a c a' c', e = .returned (.tuple #[.agg #[.int .i64 70001, .slice a 0 c], .slice a' 1 c', .int .i64 0]) ∧ Below w.heap.size w w') := fun w => by
    refine (bufPut_ok 0 (.slice none 0 0) [] (bx 70000) w (Sls.nil w) right0 bx0).mono ?_
    rw [put0]
    rintro e w' ⟨hv, ov, rfl, h1, h2, hb⟩
    obtain ⟨a, c, rfl⟩ := h1.1.len
    obtain ⟨a', c', rfl⟩ := h2.1.len
    exact ⟨a, c, a', c', rfl, hb⟩
  have hp1 : Hid (∀ (w : World) (a : Option Addr) (c : Nat), Calls Try.prog 13 #[.agg #[.int .i64 70001, .slice a 0 c], (bx 70002).val] w fun e w' => ∃ a c a' c', e = .returned (.tuple #[.agg #[.int .i64 70001, .slice a 1 c], .slice a' 0 c', .int .i64 0]) ∧ Hid (Fresh w.heap.size w' (.slice a 1 c) [bx 70002]) ∧ Below w.heap.size w w') := fun w a c => by
    refine (bufPut_ok 70001 (.slice a 0 c) [] (bx 70002) w ⟨rfl, .inl ⟨rfl, a, c, rfl⟩⟩ right1 bx2).mono ?_
    rw [put1]
    rintro e w' ⟨hv, ov, rfl, h1, h2, hb⟩
    obtain ⟨a, c, rfl⟩ := h1.1.len
    obtain ⟨a', c', rfl⟩ := h2.1.len
    exact ⟨a, c, a', c', rfl, h1, hb⟩
  have hp2 : Hid (∀ (w : World) (a : Option Addr) (c : Nat), Sls w (.slice a 1 c) [bx 70002] → Calls Try.prog 13 #[.agg #[.int .i64 70001, .slice a 1 c], (bx 70001).val] w fun e w' => ∃ a c a' c', e = .returned (.tuple #[.agg #[.int .i64 70003, .slice a 0 c], .slice a' 2 c', .int .i64 0]) ∧ Below w.heap.size w w') := fun w a c hv => by
    refine (bufPut_ok 70001 (.slice a 1 c) [bx 70002] (bx 70001) w hv right2 bx1).mono ?_
    rw [put2]
    rintro e w' ⟨hv, ov, rfl, h1, h2, hb⟩
    obtain ⟨a, c, rfl⟩ := h1.1.len
    obtain ⟨a', c', rfl⟩ := h2.1.len
    exact ⟨a, c, a', c', rfl, hb⟩
  have hfl : Hid (∀ (w : World) (a : Option Addr) (c : Nat), Sls w (.slice a 1 c) [bx 70002] → Calls Try.prog 14 #[.agg #[.int .i64 70001, .slice a 1 c]] w fun e w' => ∃ a c a' c', e = .returned (.tuple #[.agg #[.int .i64 70003, .slice a 0 c], .slice a' 1 c', .int .i64 0]) ∧ Below w.heap.size w w') := fun w a c hv => by
    refine (bufFlush_ok 70001 (.slice a 1 c) [bx 70002] w hv right2).mono ?_
    rw [flush2]
    rintro e w' ⟨hv, ov, rfl, h1, h2, hb⟩
    obtain ⟨a, c, rfl⟩ := h1.1.len
    obtain ⟨a', c', rfl⟩ := h2.1.len
    exact ⟨a, c, a', c', rfl, hb⟩
  have hck : Hid (∀ (w : World) (a : Option Addr) (c : Nat), Sls w (.slice a 1 c) [bx 70002] → Calls Try.prog 20 #[.agg #[.int .i64 70001, .slice a 1 c]] w fun e w' => e = .returned (.int .i64 0) ∧ Below w.heap.size w w') := fun w a c hv => by
    have := bufCheck_any 70001 (.slice a 1 c) [bx 70002] w hv (by simp)
    rw [(pchk_right _ _).2 right2] at this
    exact this
  simp only [lsk, Sk.val] at hs hp0 hp1 hp2
  have e0 : (70000 : Int) % 65536 = 4464 := rfl
  have e1 : (70001 : Int) % 65536 = 4465 := rfl
  have e2 : (70002 : Int) % 65536 = 4466 := rfl
  go_enter Try.func19, Try.ntmps19
  go_wp2_with fail
  refine (hs.out 70000 _ (by decide) (by decide)).mono ?_
  rintro r w1 ⟨rfl, hb1⟩
  go_wp2_with fail
  refine (hp0.out _).mono ?_
  rintro r w2 ⟨a, c, a', c', rfl, hb2⟩
  have B2 : Hid (Below w.heap.size w w2) := hb1.trans (hb2.mono hb1.size)
  clear hb1 hb2
  go_wp2_with fail
  go_cut [4, 5, 6] (fun s4 s5 s6 wc => ∃ (p : Nat) (a : Option Addr) (c : Nat) (a' : Option Addr) (c' : Nat), s4 = .pointer (some ⟨p, 0, none⟩) ∧ s5 = .slice a' 0 c' ∧ s6 = .int .i64 0 ∧ Hid (Blk wc p #[.int .i64 70001, .slice a 1 c] 31) ∧ Hid (Sls wc (.slice a 1 c) [bx 70002]) ∧ Hid (Below w.heap.size w wc))
  case first =>
    have lt2 : ∀ n : Nat, n < n + 1 + 1 := fun n => by omega
    go_region_with (first
      | (go_at_call 44; refine (hs.out 70002 _ (by decide) (by decide)).mono ?_; rintro r w3 ⟨rfl, hb3⟩; have q0 := hb3.cell (p := ⟨w2.heap.size, 0, none⟩); have q1 := hb3.cell (p := ⟨w2.heap.size, 1, none⟩); have q2 := hb3.cell (p := ⟨w2.heap.size + 1, 0, none⟩); have q3 := hb3.cell (p := ⟨w2.heap.size + 1, 1, none⟩); have q4 := hb3.frozen (p := ⟨w2.heap.size + 1, 0, none⟩); have q5 := hb3.frozen (p := ⟨w2.heap.size + 1, 1, none⟩); simp [lt2] at q0 q1 q2 q3 q4 q5; have hz3 := hb3.size; simp at hz3; have hz4 : w2.heap.size < w3.heap.size := Nat.lt_of_lt_of_le (Nat.lt_succ_self _) (Nat.le_trans (by simp) hz3))
      | (go_at_call 13; refine (hp1.out _ a c).mono ?_; rintro r w4 ⟨a4, c4, a5, c5, rfl, s4, hb4⟩; have p2 := hb4.cell (p := ⟨w2.heap.size + 1, 0, none⟩); have p3 := hb4.cell (p := ⟨w2.heap.size + 1, 1, none⟩); have p4 := hb4.frozen (p := ⟨w2.heap.size + 1, 0, none⟩); have p5 := hb4.frozen (p := ⟨w2.heap.size + 1, 1, none⟩); have p6 := hb4.cell (p := ⟨w3.heap.size, 0, none⟩); have p7 := hb4.cell (p := ⟨w3.heap.size, 1, none⟩); have p8 := hb4.frozen (p := ⟨w3.heap.size, 0, none⟩); have p9 := hb4.frozen (p := ⟨w3.heap.size, 1, none⟩); simp [Nat.lt_iff_add_one_le, hz3] at p2 p3 p4 p5 p6 p7 p8 p9))
    all_goals
      go_wp2_with fail
      go_meet
      case rel =>
        have hb3' : Below w.heap.size w w3 := (B2.out.alloc B2.out.size _).trans (by
          refine Below.trans ?_ (hb3.mono ?_)
          · first | exact Below.refl _ _ | exact (Below.refl _ _).drew | exact ((Below.refl _ _).alloc (by have := B2.out.size; simp; omega) _).drew
          · have := B2.out.size
            simp
            omega)
        have hb4' : Below w.heap.size w w4 := hb3'.trans (by
          refine Below.trans ?_ (hb4.mono ?_)
          · first | exact Below.refl _ _ | exact (Below.refl _ _).alloc hb3'.size _
          · have := hb3'.size
            first | exact this | (simp; omega))
        refine ⟨_, a4, c4, a5, c5, rfl, rfl, rfl, ?_, ?_, ?_⟩
        · first
            | exact Blk.new w4 _ _
            | exact ((Blk.below (Blk.new w3 _ _) hb4 (by simp)).set 0 _).set 1 _
            | (have k2 := Blk.below (Blk.new (w2.alloc (.cells #[.int .i64 70001, .slice a 0 c] 31)) #[.int .i64 0, .slice none 0 0] 31).drew hb3 (by simp)
               simp only [World.size_alloc] at k2
               exact ((Blk.below k2 hb4 (by have := hb3.size; simp at this; omega)).set 0 _).set 1 _)
        · first
            | exact s4.out.1.alloc _
            | exact ((s4.out.set (by have := hb3.size; first | (simp; done) | (simp at this ⊢; omega)) _).set (by have := hb3.size; first | (simp; done) | (simp at this ⊢; omega)) _).1
        · first
            | exact hb4'.alloc hb4'.size _
            | exact (hb4'.setCell (by have := B2.out.size; have := hb3'.size; simp; omega) _).setCell (by have := B2.out.size; have := hb3'.size; simp; omega) _
  case rest =>
    obtain ⟨p, a1, c1, a2, c2, rfl, rfl, rfl, KP, SP, BP⟩ := hcut
    have hpl : p < wc.heap.size := Blk.lt KP.out
    have hpl2 : p < wc.heap.size + 1 := by omega
    obtain ⟨kp0, kp1⟩ := Blk.two KP.out
    go_wp2_with fail
    go_cut [7, 8, 9] (fun s7 s8 s9 wd => ∃ (q : Nat) (a : Option Addr) (c : Nat) (a' : Option Addr) (c' : Nat), s7 = .pointer (some ⟨q, 0, none⟩) ∧ s8 = .slice a' 2 c' ∧ s9 = .int .i64 0 ∧ Hid (Blk wd q #[.int .i64 70003, .slice a 0 c] 31) ∧ Hid (Below wc.heap.size wc wd))
    case first =>
      go_region_with (first
        | (go_at_call 44; refine (hs.out 70001 _ (by decide) (by decide)).mono ?_; rintro r w5 ⟨rfl, hb5⟩; have q0 := hb5.cell (p := ⟨p, 0, none⟩); have q1 := hb5.cell (p := ⟨p, 1, none⟩); have q2 := hb5.cell (p := ⟨wc.heap.size, 0, none⟩); have q3 := hb5.cell (p := ⟨wc.heap.size, 1, none⟩); have q4 := hb5.frozen (p := ⟨wc.heap.size, 0, none⟩); have q5 := hb5.frozen (p := ⟨wc.heap.size, 1, none⟩); simp [hpl, hpl2, kp0, kp1] at q0 q1 q2 q3 q4 q5; have hz5 := hb5.size; simp at hz5; have hz6 : wc.heap.size ≤ w5.heap.size := Nat.le_trans (by simp) hz5; have hz7 : p < w5.heap.size := Nat.lt_of_lt_of_le hpl hz6; have b5 : Hid (Below wc.heap.size wc w5) := (by first | exact ⟨hb5.os, hb5.tape, hb5.output, hb5.size, hb5.block⟩ | exact (((Below.refl _ wc).alloc (Nat.le_refl _) _).drew).trans (hb5.mono (by simp))))
        | (go_at_call 13; refine (hp2.out _ a1 c1 (SP.out.below (by first | exact b5.out | exact b5.out.alloc b5.out.size _))).mono ?_; rintro r w6 ⟨a6, c6, a7, c7, rfl, hb6⟩; have p2 := hb6.cell (p := ⟨wc.heap.size, 0, none⟩); have p3 := hb6.cell (p := ⟨wc.heap.size, 1, none⟩); have p4 := hb6.frozen (p := ⟨wc.heap.size, 0, none⟩); have p5 := hb6.frozen (p := ⟨wc.heap.size, 1, none⟩); have p6 := hb6.cell (p := ⟨w5.heap.size, 0, none⟩); have p7 := hb6.cell (p := ⟨w5.heap.size, 1, none⟩); have p8 := hb6.frozen (p := ⟨w5.heap.size, 0, none⟩); have p9 := hb6.frozen (p := ⟨w5.heap.size, 1, none⟩); simp [Nat.lt_iff_add_one_le, hz5] at p2 p3 p4 p5 p6 p7 p8 p9))
      all_goals
        go_wp2_with fail
        go_meet
        case rel =>
          have b6 : Below wc.heap.size wc w6 := b5.out.trans (by
            refine Below.trans ?_ (hb6.mono ?_)
            · first | exact Below.refl _ _ | exact (Below.refl _ _).alloc b5.out.size _
            · have := b5.out.size
              first | exact this | (simp; omega))
          refine ⟨_, a6, c6, a7, c7, rfl, rfl, rfl, ?_, ?_⟩
          · first
              | exact Blk.new w6 _ _
              | exact ((Blk.below (Blk.new w5 _ _) hb6 (by simp)).set 0 _).set 1 _
              | (have k2 := Blk.below (Blk.new wc #[.int .i64 0, .slice none 0 0] 31).drew hb5 (by simp)
                 exact ((Blk.below k2 hb6 (by have := hb5.size; simp at this; omega)).set 0 _).set 1 _)
          · first
              | exact b6.alloc b6.size _
              | exact (b6.setCell (by have := b5.out.size; simp; try omega) _).setCell (by have := b5.out.size; simp; try omega) _
    case rest =>
      obtain ⟨q, a3, c3, a4, c4, rfl, rfl, rfl, KQ, BD⟩ := hcut
      have KP2 := Blk.below KP.out BD.out hpl
      obtain ⟨m0, m1⟩ := Blk.two KP2
      have SP2 := Sls.below SP.out BD.out
      have hw2 : Hid (Below w.heap.size w wc) := BP.out.trans (BD.out.mono BP.out.size)
      have HS2 : Hid (Sls wc (.slice a1 1 c1) [bx 70002]) := SP2
      have HP2 : Hid (Blk wc p #[.int .i64 70001, .slice a1 1 c1] 31) := KP2
      clear KP2 SP2 kp0 kp1 KP SP BP BD
      go_wp2_with fail
      refine (hfl.out _ a1 c1 HS2.out).mono ?_
      rintro r w7 ⟨a8, c8, a9, c9, rfl, hb7⟩
      have HP3 : Hid (Blk w7 p #[.int .i64 70001, .slice a1 1 c1] 31) := Blk.below HP2.out hb7 (Blk.lt HP2.out)
      have HQ3 : Hid (Blk w7 q #[.int .i64 70003, .slice a3 0 c3] 31) := Blk.below KQ.out hb7 (Blk.lt KQ.out)
      have HS3 : Hid (Sls w7 (.slice a1 1 c1) [bx 70002]) := Sls.below HS2.out hb7
      have hw7 : Hid (Below w.heap.size w w7) := hw2.out.trans (hb7.mono hw2.out.size)
      obtain ⟨o0, o1⟩ := Blk.two HP3.out
      have ho := Blk.lt HP3.out
      clear hb7 m0 m1 HS2 HP2 KQ hw2
      go_wp2_with fail
      refine (hck.out _ a1 c1 (HS3.out.alloc _)).mono ?_
      rintro r w8 ⟨rfl, hb8⟩
      have HP4 := Blk.below (HP3.out.alloc (.cells #[.int .i64 70003, .slice a8 0 c8] 31)) hb8 (by have := Blk.lt HP3.out; simp; omega)
      have HQ4 := Blk.below (HQ3.out.alloc (.cells #[.int .i64 70003, .slice a8 0 c8] 31)) hb8 (by have := Blk.lt HQ3.out; simp; omega)
      have hw8 : Hid (Below w.heap.size w w8) := (hw7.out.alloc hw7.out.size _).trans (hb8.mono (by have := hw7.out.size; simp; omega))
      obtain ⟨s0, s1⟩ := Blk.two HP4
      obtain ⟨t0, t1⟩ := Blk.two HQ4
      clear hb8 HP3 HQ3 HS3 hw7 HP4 HQ4 o0 o1 ho
      go_wp2
      go_ret
      exact ⟨rfl, hw8.out⟩

end Go.Proofs.Ytanefofheeecdab
