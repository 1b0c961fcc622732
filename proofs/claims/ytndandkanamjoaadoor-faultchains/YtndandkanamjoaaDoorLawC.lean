/-
  What 'FaultChains' of the statements answers: true, for all arguments. Conditions: the wraps lie in memory; errorType holds what its text lays.
-/
import Derived.Test.YtndandkanamjoaaDoorRef
import Derived.Deep.RegionHeld
namespace Go.Proofs.YtndandkanamjoaaDoor
open Go.RowKit Go.Extern.Stop Go.Stop Go.Extern

theorem code_is {code : Int} {B : Base} (Q : List Lk) (h : (0 ≤ code → B = (.inl code)) ∧ (code < 0 → ∃ v, B = (.inr (.inl v)))) : codeOf B Q = numberOf code := by
  unfold numberOf
  by_cases c : code < 0
  · obtain ⟨v, rfl⟩ := h.2 c
    rw [if_pos c]
    cases Q <;> rfl
  · obtain rfl := h.1 (by omega)
    rw [if_neg c]
    cases Q <;> rfl
theorem code_q {q : Value} {B : Base} {Q : List Lk} {code N : Int} (h : Hd (Is q B Q)) (hB : Hd ((0 ≤ code → B = (.inl code)) ∧ (code < 0 → ∃ v, B = (.inr (.inl v))))) (hN : Hd (N = numberOf code)) (w : World) (he : ET w) :
    Calls Tryd.prog 10 #[q] w fun e w' => e = .returned (.int .i64 N) ∧ Below w.heap.size w w' := by
  have := code_ok B Q.reverse w he
  rw [code_is _ hB.out, ← hN.out, ← h.out.eq] at this
  exact this
theorem line_q {q : Value} {B : Base} {Q : List Lk} {N : Int} (h : Hd (Is q B Q)) (hN : Hd (N = (near (fun x _ => x != 0) Q.reverse).line)) (w : World) (he : ET w) :
    Calls Tryd.prog 12 #[q] w fun e w' => e = .returned (.int .i64 N) ∧ Below w.heap.size w w' := by
  have := line_ok B Q.reverse w he
  rw [← hN.out, ← h.out.eq] at this
  exact this
theorem what_q {q : Value} {B : Base} {Q : List Lk} {N : ByteArray} (h : Hd (Is q B Q)) (hN : Hd (N = (near (fun _ y => !y.toList.isEmpty) Q.reverse).what)) (w : World) (he : ET w) :
    Calls Tryd.prog 14 #[q] w fun e w' => e = .returned (.string N) ∧ Below w.heap.size w w' := by
  have := what_ok B Q.reverse w he
  rw [← hN.out, ← h.out.eq] at this
  exact this
theorem number_q {code N : Int} (a : Option Addr) (n c : Nat) (hN : Hd (N = numberOf code)) (w : World) :
    Calls Tryd.prog 11 #[.agg #[.int .i64 code, .slice a n c]] w fun e w' => e = .returned (.int .i64 N) ∧ Below w.heap.size w w' := by
  rw [hN.out]; exact number_ok code a n c w
theorem rline_q {code N : Int} {a : Option Addr} {n c : Nat} {Q : List Lk} (hn : Hd (n = Q.length ∧ n ≤ 61)) (hN : Hd (N = (near (fun x _ => x != 0) Q.reverse).line)) (w : World) (hR : RowK w a Q) :
    Calls Tryd.prog 13 #[.agg #[.int .i64 code, .slice a n c]] w fun e w' => e = .returned (.int .i64 N) ∧ Below w.heap.size w w' := by
  rw [hN.out, hn.out.1]; exact rline_ok code a c Q w (by rw [← hn.out.1]; exact hn.out.2) hR
theorem rwhat_q {code : Int} {N : ByteArray} {a : Option Addr} {n c : Nat} {Q : List Lk} (hn : Hd (n = Q.length ∧ n ≤ 61)) (hN : Hd (N = (near (fun _ y => !y.toList.isEmpty) Q.reverse).what)) (w : World) (hR : RowK w a Q) :
    Calls Tryd.prog 15 #[.agg #[.int .i64 code, .slice a n c]] w fun e w' => e = .returned (.string N) ∧ Below w.heap.size w w' := by
  rw [hN.out, hn.out.1]; exact rwhat_ok code a c Q w (by rw [← hn.out.1]; exact hn.out.2) hR

/-- What the statement's own variables hold, from call to call. -/
structure Sit (w wx : World) (cb : Nat) (code : Int) (a : Option Addr) (n c : Nat) (Q : List Lk) : Prop where
  bel : Below w.heap.size w wx
  et : ET wx
  lt : cb < wx.heap.size
  c0 : wx.cell? ⟨cb, 0, none⟩ = some (.int .i64 code)
  c1 : wx.cell? ⟨cb, 1, none⟩ = some (.slice a n c)
  row : RowK wx a Q
theorem Sit.step {w wx wy : World} {cb : Nat} {code : Int} {a : Option Addr} {n c : Nat} {Q : List Lk} (h : Sit w wx cb code a n c Q) (b : Below wx.heap.size wx wy) : Sit w wy cb code a n c Q :=
  ⟨h.bel.trans (b.mono h.bel.size), h.et.stays b, Nat.lt_of_lt_of_le h.lt b.size, (b.cell (p := ⟨cb, 0, none⟩) h.lt).trans h.c0, (b.cell (p := ⟨cb, 1, none⟩) h.lt).trans h.c1, h.row.stays b⟩
theorem sit_new {w wx : World} {code : Int} {a : Option Addr} {n c : Nat} {Q : List Lk} {B : Nat} (b : Below w.heap.size w wx) (he : ET w) (hn : n = Q.length) (ho : OwnK B wx (.slice a n c) Q) :
    Sit w (wx.alloc (.cells #[.int .i64 code, .slice a n c] 28)) wx.heap.size code a n c Q := by
  have bx : Below wx.heap.size wx (wx.alloc (.cells #[.int .i64 code, .slice a n c] 28)) := (Below.refl _ _).alloc (Nat.le_refl _) _
  subst hn
  exact ⟨b.alloc b.size _, (he.stays b).stays bx, by simp, by simp, by simp, (row_of ho).stays bx⟩
theorem Sit.drew {w wx : World} {cb : Nat} {code : Int} {a : Option Addr} {n c : Nat} {Q : List Lk} (h : Sit w wx cb code a n c Q) : Sit w wx.drew cb code a n c Q :=
  ⟨h.bel.drew, h.et, h.lt, h.c0, h.c1, h.row⟩
theorem GS {w wx wy : World} {cb : Nat} {code : Int} {a : Option Addr} {n c : Nat} {Q : List Lk} (h : Hd (Sit w wx cb code a n c Q)) (b : Below wx.heap.size wx wy) : Hd (Sit w wy cb code a n c Q) := ⟨h.out.step b⟩

theorem q_some {q : Value} {B : Base} {Q : List Lk} {code : Int} (h : Hd (Is q B Q)) (hB : Hd ((0 ≤ code → B = (.inl code)) ∧ (code < 0 → ∃ v, B = (.inr (.inl v))))) : ∃ T u, q = .iface T u := by
  rcases val_is B Q.reverse with ⟨_, h1⟩ | ⟨T, u, h1⟩
  · by_cases c : code < 0
    · obtain ⟨v, h2⟩ := hB.out.2 c
      rw [h2] at h1; cases h1
    · have h2 := hB.out.1 (by omega)
      rw [h2] at h1; cases h1
  · exact ⟨T, u, h.out.eq.trans h1⟩

set_option maxHeartbeats 4000000 in
set_option maxRecDepth 20000 in
theorem chains_all (code : Int) (a : Option Addr) (n cap : Nat) (f : Nat → Wp) (w : World) (he : ET w) (hR : RowW w a n f) :
    Calls Tryd.prog 3 #[.int .i64 code, .slice a n cap] w fun e w' => e = .returned (.bool true) ∧ Below w.heap.size w w' := by
  have E0 : Hd (ET w) := ⟨he⟩
  have R0 : Hd (RowW w a n f) := ⟨hR⟩
  have B0 : Hd (Below w.heap.size w w) := ⟨Below.refl _ _⟩
  clear he hR
  obtain ⟨Q, hQ⟩ : ∃ Q, Q = lks f (min n 60) := ⟨_, rfl⟩
  have M := fun w h => made_q code a n cap f w h
  rw [← hQ] at M
  obtain ⟨nl, hnl⟩ : ∃ nl, nl = Q.length := ⟨_, rfl⟩
  rw [← hnl] at M
  have hL : Hd (nl = Q.length ∧ nl ≤ 61) := ⟨hnl, by rw [hnl, hQ, lks_len]; omega⟩
  clear hnl
  obtain ⟨N, hN⟩ : ∃ N, N = numberOf code := ⟨_, rfl⟩
  obtain ⟨LL, hLL⟩ : ∃ LL, LL = (near (fun x _ => x != 0) Q.reverse).line := ⟨_, rfl⟩
  obtain ⟨WW, hWW⟩ : ∃ WW, WW = (near (fun _ y => !y.toList.isEmpty) Q.reverse).what := ⟨_, rfl⟩
  have HN : Hd _ := ⟨hN⟩
  have HLL : Hd _ := ⟨hLL⟩
  have HWW : Hd _ := ⟨hWW⟩
  clear hQ hN hLL hWW
  go_enter Tryd.func3, Tryd.ntmps3
  go_wp2_with (first
    | (go_at_call 8; refine (awake_ok _ E0.out).mono ?_; rintro e w1 ⟨rfl, b1⟩; have R1 : Hd (RowW w1 a n f) := ⟨R0.out.stays b1⟩; have B1 := HB B0 b1; clear b1)
    | (go_at_call 9; refine (M _ R1.out).mono ?_; rintro e w2 ⟨q, B, a', c, rfl, HQ, ow, b2, hB⟩; have B2 := HB B1 b2; clear b2; obtain ⟨T, u, rfl⟩ := q_some HQ hB))
  have G0 : Hd (Sit w (w2.alloc (.cells #[.int .i64 code, .slice a' nl c] 28)).drew w2.heap.size code a' nl c Q) := ⟨(sit_new B2.out E0.out hL.out.1 ow.out).drew⟩
  clear R0 B0 R1 B1 B2 ow M
  go_region_held (fun w' => w'.cell? ⟨w2.heap.size, 0, none⟩ = some (.int .i64 code) ∧ w'.cell? ⟨w2.heap.size, 1, none⟩ = some (.slice a' nl c))
    (first | exact ⟨G6.out.c0, G6.out.c1⟩ | exact ⟨G5.out.c0, G5.out.c1⟩ | exact ⟨G4.out.c0, G4.out.c1⟩ | exact ⟨G3.out.c0, G3.out.c1⟩ | exact ⟨G2.out.c0, G2.out.c1⟩ | exact ⟨G1.out.c0, G1.out.c1⟩ | exact ⟨G0.out.c0, G0.out.c1⟩)
    (first
    | (go_at_call 10; refine (code_q HQ hB HN _ G0.out.et).mono ?_; rintro e v1 ⟨rfl, b1⟩; have G1 := GS G0 b1; clear b1)
    | (go_at_call 11; refine (number_q _ _ _ HN _).mono ?_; rintro e v2 ⟨rfl, b2⟩; have G2 := GS G1 b2; clear b2)
    | (go_at_call 12; refine (line_q HQ HLL _ G2.out.et).mono ?_; rintro e v3 ⟨rfl, b3⟩; have G3 := GS G2 b3; clear b3)
    | (go_at_call 13; refine (rline_q hL HLL _ G3.out.row).mono ?_; rintro e v4 ⟨rfl, b4⟩; have G4 := GS G3 b4; clear b4)
    | (go_at_call 14; refine (what_q HQ HWW _ G4.out.et).mono ?_; rintro e v5 ⟨rfl, b5⟩; have G5 := GS G4 b5; clear b5)
    | (go_at_call 15; refine (rwhat_q hL HWW _ G5.out.row).mono ?_; rintro e v6 ⟨rfl, b6⟩; have G6 := GS G5 b6; clear b6))
  all_goals
    go_wp2
    go_ret
    exact ⟨rfl, G6.out.bel⟩

end Go.Proofs.YtndandkanamjoaaDoor
