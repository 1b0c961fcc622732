/-
  The walk of 'BookGoes'. No condition.
-/
import Derived.Test.YtomkmgebbiahcaaAw
namespace Go.Proofs.Ytomkmgebbiahcaa
open Go.RowKit

theorem one_yes (x : En) : fB x.id [x] = true ∧ fI x.id [x] = 0 ∧ ge [x] 0 = x := by
  have e : fI x.id [x] = 0 := by unfold fI; rw [if_pos rfl]
  exact ⟨by unfold fB; rw [e]; rfl, e, rfl⟩
theorem one_move (x : En) (p : Int) : (p < 1 ∨ 3 < p ∨ p ≤ x.ph → mvE x.id p [x] = 9 ∧ mvL x.id p [x] = []) ∧ (¬ (p < 1 ∨ 3 < p ∨ p ≤ x.ph) → mvE x.id p [x] = 0 ∧ mvL x.id p [x] = [{ x with ph := p }]) := by
  obtain ⟨h1, h2, h3⟩ := one_yes x
  have A := mv_state (d := x.id) (p := p) h1
  have B := mv_ok (d := x.id) (p := p) h1
  rw [h2, h3] at A B
  exact ⟨A, B⟩

set_option maxRecDepth 20000 in
set_option maxHeartbeats 2000000 in
theorem goes_law (d : Int) (s : ByteArray) (p q : Int) (w : World) :
    Calls Try.prog 5 #[.int .i64 d, .string s, .int .i64 p, .int .i64 q] w fun e w' => e = .returned (.bool true) ∧ Below w.heap.size w w' := by
  have I := awake_ok w
  have BG : Hd (∀ W, Calls Try.prog 7 #[.slice none 0 0, .agg #[.int .i64 d, .int .i64 p, .string s]] W fun e w' => Ans W w' e (bgL ⟨d, p, s⟩ []) (bgE ⟨d, p, s⟩ [])) := ⟨fun W => begin_ok none 0 [] ⟨d, p, s⟩ W ⟨Nat.le_refl _, fun _ => rfl, EnR.nil _ _⟩ (by simp)⟩
  have MV : Hd (∀ W a c, SlE W a c [⟨d, p, s⟩] → Calls Try.prog 10 #[.slice a 1 c, .int .i64 d, .int .i64 q] W fun e w' => Ans W w' e (mvL d q [⟨d, p, s⟩]) (mvE d q [⟨d, p, s⟩])) := ⟨fun W a c h => move_ok a c [⟨d, p, s⟩] d q W h (by simp)⟩
  have FD : Hd (∀ W a c, SlE W a c [(⟨d, q, s⟩ : En)] → Calls Try.prog 12 #[.slice a 1 c, .int .i64 d] W fun e w' => e = .returned (.tuple #[.agg #[.int .i64 d, .int .i64 q, .string s], .bool true]) ∧ Below W.heap.size W w') := ⟨fun W a c h => by
    have := find_ok a c [⟨d, q, s⟩] d W h.2.2 (by simp)
    obtain ⟨h1, h2, h3⟩ := one_yes ⟨d, q, s⟩
    rw [fd_yes h1, h2, h3] at this
    exact this⟩
  by_cases t1 : d < 0
  · clear BG MV FD
    go_enter Try.func5, Try.ntmps5
    go_wp2_with (go_at_call 6; refine I.mono ?_; rintro e w2 ⟨rfl, b2⟩)
    go_ret
    exact ⟨rfl, b2⟩
  by_cases t2 : 999999999 < d
  · clear BG MV FD
    go_enter Try.func5, Try.ntmps5
    go_wp2_with (go_at_call 6; refine I.mono ?_; rintro e w2 ⟨rfl, b2⟩)
    go_ret
    exact ⟨rfl, b2⟩
  by_cases hp : p < 1 ∨ 3 < p
  · have E := bg_arg (x := ⟨d, p, s⟩) (L := []) (fun h => by have h1 := h.2.2.1; have h2 := h.2.2.2; simp only at h1 h2; omega)
    rw [E.1, E.2] at BG
    have hp' : p < 1 ∨ (¬ p < 1 ∧ 3 < p) := by omega
    clear MV FD E hp
    rcases hp' with k1 | ⟨k1, k2⟩
    all_goals
      go_enter Try.func5, Try.ntmps5
      go_upto_region 5 with (go_at_call 6; refine I.mono ?_; rintro e w2 ⟨rfl, b2⟩)
      have C := BG.out w2
      go_wp2_with (go_at_call 7; refine C.mono ?_; rintro e w3 ⟨⟨v3, rfl, -⟩, b3⟩)
      go_ret
      exact ⟨rfl, b2.trans (b3.mono b2.size)⟩
  · have hE : bgE ⟨d, p, s⟩ [] = 0 ∧ bgL ⟨d, p, s⟩ [] = [⟨d, p, s⟩] := bg_ok (x := ⟨d, p, s⟩) (L := []) ⟨by show 0 ≤ d; omega, by show d ≤ 999999999; omega, by show 1 ≤ p; omega, by show p ≤ 3; omega⟩ rfl
    rw [hE.1, hE.2] at BG
    obtain ⟨M1, M2⟩ := one_move ⟨d, p, s⟩ q
    simp only at M1 M2
    clear hE
    by_cases hq : q < 1 ∨ 3 < q ∨ q ≤ p
    · have E := M1 hq
      rw [E.1, E.2] at MV
      have hq' : ¬ p < q ∨ (p < q ∧ ¬ q ≤ 3) := by omega
      clear M1 M2 E FD hq
      rcases hq' with k1 | ⟨k1, k2⟩
      all_goals
        go_enter Try.func5, Try.ntmps5
        go_upto_region 5 with (go_at_call 6; refine I.mono ?_; rintro e w2 ⟨rfl, b2⟩)
        have C := BG.out w2
        go_wp2_with fail
        go_at_call 7
        refine C.mono ?_
        rintro e w3 ⟨⟨v3, rfl, o3⟩, b3⟩
        obtain ⟨a3, c3, rfl, s3⟩ := o3.read
        have C3 := MV.out w3 a3 c3 s3
        have B3 := b2.trans (b3.mono b2.size)
        clear C s3 o3 b2 b3 BG MV I
        go_wp2_with fail
        go_at_call 10
        refine C3.mono ?_
        rintro e w4 ⟨⟨v4, rfl, -⟩, b4⟩
        go_wp2
        go_ret
        exact ⟨rfl, B3.trans (b4.mono B3.size)⟩
    · have E := M2 hq
      rw [E.1, E.2] at MV
      have k1 : p < q := by omega
      have k2 : q ≤ 3 := by omega
      clear M1 M2 E hq
      go_enter Try.func5, Try.ntmps5
      go_upto_region 5 with (go_at_call 6; refine I.mono ?_; rintro e w2 ⟨rfl, b2⟩)
      have C := BG.out w2
      go_wp2_with fail
      go_at_call 7
      refine C.mono ?_
      rintro e w3 ⟨⟨v3, rfl, o3⟩, b3⟩
      obtain ⟨a3, c3, rfl, s3⟩ := o3.read
      have C3 := MV.out w3 a3 c3 s3
      have B3 := b2.trans (b3.mono b2.size)
      clear C s3 o3 b2 b3 BG MV I
      go_wp2_with fail
      go_at_call 10
      refine C3.mono ?_
      rintro e w4 ⟨⟨v4, rfl, o4⟩, b4⟩
      obtain ⟨a4, c4, rfl, s4⟩ := o4.read
      have C4 := FD.out w4 a4 c4 s4
      have B4 := B3.trans (b4.mono B3.size)
      clear C3 s4 o4 B3 b4 FD
      go_wp2_with fail
      go_at_call 12
      refine C4.mono ?_
      rintro e w5 ⟨rfl, b5⟩
      obtain ⟨w6, hw6⟩ : ∃ w6, w6 = w5.alloc (.cells #[.int .i64 d, .int .i64 q, .string s] 24) := ⟨_, rfl⟩
      have N6 : Blk w6 w5.heap.size 24 (enA ⟨d, q, s⟩) := by rw [hw6]; exact Blk.new _ _ _
      have B6 : Hd (Below w.heap.size w w6) := ⟨by rw [hw6]; exact (B4.trans (b5.mono B4.size)).alloc (Nat.le_trans B4.size b5.size) _⟩
      obtain ⟨⟨c0, c1, c2⟩, -⟩ := N6.three
      simp only at c0 c1 c2
      clear N6 C4 B4 b5
      go_upto_region 14 with fail
      rw [← hw6]
      clear hw6
      go_wp2
      go_ret
      exact ⟨rfl, B6.out⟩
end Go.Proofs.Ytomkmgebbiahcaa
