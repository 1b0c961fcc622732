/-
  That the fixed answer of the statements ('awake') is met; the walk of the statement 'ClockNil'. No condition.
-/
import Derived.Test.YthamaiibknmeeaaAdv
namespace Go.Proofs.Ythamaiibknmeeaa
open Go.RowKit Go.Lib Go.Sort Go.Maps

theorem setC_zero {t : Int} {M : Int × Int → Prop} {n : Nat} {id at_ : Int} (h1 : t < at_) (h2 : at_ ≤ 1099511627776) (h3 : ∀ y, M y → y.2 ≠ id) (h4 : n < 4096) : setC t M n id at_ = 0 := by
  unfold setC
  rw [if_neg (by omega), if_neg (fun ⟨y, hy, e⟩ => h3 y hy e), if_neg (by omega)]

theorem set_new {w : World} {cb : Nat} {S : Nat → Prop} {t : Int} {M : Int × Int → Prop} {n : Nat} (h : Clk w cb S t M n) (id at_ : Int) (hid : -9223372036854775808 ≤ id ∧ id < 9223372036854775808) (h1 : t < at_) (h2 : at_ ≤ 1099511627776) (h3 : ∀ y, M y → y.2 ≠ id) (h4 : n < 4096) :
    Calls Try.prog 10 #[.pointer (some ⟨cb, 0, none⟩), .int .i64 id, .int .i64 at_] w fun e w' => e = .returned (.int .i64 0) ∧ ∃ S', Clk w' cb S' t (fun y => y = (at_, id) ∨ M y) (n + 1) ∧ Kept S w w' ∧ ∀ k, S' k → S k ∨ w.heap.size ≤ k := by
  have z := setC_zero h1 h2 h3 h4
  refine (set_any h id at_ hid).mono ?_
  rintro e w' ⟨rfl, S', q1, q2, q3⟩
  refine ⟨by rw [z], S', ?_, q2, q3⟩
  unfold setN at q1
  rw [if_pos z] at q1
  exact q1.congr fun y => ⟨fun a => a.imp (fun a => ⟨z, a⟩) (fun a => a), fun a => a.imp (fun a => a.2) (fun a => a)⟩

/-- A clock all of whose blocks lie from B on. -/
def From (B : Nat) (w : World) (cb : Nat) (t : Int) (M : Int × Int → Prop) (n : Nat) : Prop := B ≤ w.heap.size ∧ ∃ S, Clk w cb S t M n ∧ ∀ k, S k → B ≤ k

section
variable {B : Nat} {w w' : World} {cb : Nat} {t : Int} {M : Int × Int → Prop} {n : Nat}
theorem From.below (h : From B w cb t M n) (k : Below w.heap.size w w') : From B w' cb t M n := by
  obtain ⟨h0, S, h1, h2⟩ := h
  exact ⟨Nat.le_trans h0 k.size, S, h1.below k, h2⟩
theorem From.base {C : Nat} (h : From B w cb t M n) (e : C ≤ B) : From C w cb t M n := by
  obtain ⟨h0, S, h1, h2⟩ := h
  exact ⟨Nat.le_trans e h0, S, h1, fun k hk => Nat.le_trans e (h2 k hk)⟩
theorem from_new (w : World) : Calls Try.prog 9 #[] w fun e w' => ∃ cb, e = .returned (.pointer (some ⟨cb, 0, none⟩)) ∧ From w.heap.size w' cb 0 (fun _ => False) 0 ∧ Below w.heap.size w w' := by
  refine (clk_new w).mono ?_
  rintro e w' ⟨cb, S, rfl, h1, h2, b⟩
  exact ⟨cb, rfl, ⟨b.size, S, h1, h2⟩, b⟩
theorem From.set (h : From B w cb t M n) (id at_ : Int) (hid : -9223372036854775808 ≤ id ∧ id < 9223372036854775808) (h1 : t < at_) (h2 : at_ ≤ 1099511627776) (h3 : ∀ y, M y → y.2 ≠ id) (h4 : n < 4096) :
    Calls Try.prog 10 #[.pointer (some ⟨cb, 0, none⟩), .int .i64 id, .int .i64 at_] w fun e w' => e = .returned (.int .i64 0) ∧ From B w' cb t (fun y => y = (at_, id) ∨ M y) (n + 1) ∧ Below B w w' := by
  obtain ⟨g0, S, g1, g2⟩ := h
  refine (set_new g1 id at_ hid h1 h2 h3 h4).mono ?_
  rintro e w' ⟨rfl, S', q1, q2, q3⟩
  have b := q2.below g0 g2
  refine ⟨rfl, ⟨Nat.le_trans g0 b.size, S', q1, fun k hk => ?_⟩, b⟩
  rcases q3 k hk with e | e
  · exact g2 k e
  · exact Nat.le_trans g0 e
end

theorem list3 {L : List (Int × Int)} {M : Int × Int → Prop} (h : ListOf L (fun y => M y ∧ y.1 ≤ 5)) (hM : ∀ y, M y ↔ y = (2, 9) ∨ y = (5, 3) ∨ y = (5, 7)) : L = [(2, 9), (5, 3), (5, 7)] := by
  have k : ListOf [((2 : Int), (9 : Int)), (5, 3), (5, 7)] (fun y => M y ∧ y.1 ≤ 5) := by
    refine ⟨by unfold lt; simp, fun y => ?_⟩
    show _ ↔ M y ∧ y.1 ≤ 5
    rw [hM]
    simp only [List.mem_cons, List.not_mem_nil, or_false]
    constructor
    · intro h
      refine ⟨h, ?_⟩
      rcases h with rfl | rfl | rfl <;> decide
    · exact fun h => h.1
  exact h.unique k fun y => Iff.rfl

set_option maxRecDepth 20000 in
set_option maxHeartbeats 1000000 in
theorem awake_any (w : World) : Calls Try.prog 8 #[] w fun e w' => e = .returned (.bool true) ∧ Below w.heap.size w w' := by
  have N := from_new w
  go_enter Try.func8, Try.ntmps8
  go_wp2_with fail
  go_at_call 9
  refine N.mono ?_
  rintro e w1 ⟨cb, rfl, H1, b1⟩
  clear N
  have P1 := H1.set 7 5 (by omega) (by omega) (by omega) (fun _ h => h.elim) (by omega)
  go_wp2_with fail
  go_at_call 10
  refine P1.mono ?_
  rintro e w2 ⟨rfl, H2, b2⟩
  have b2' := b1.trans b2
  have P2 := H2.set 3 5 (by omega) (by omega) (by omega) (fun y h => by rcases h with rfl | h; decide; exact h.elim) (by omega)
  clear P1 H1 b1 b2
  go_wp2_with fail
  go_at_call 10
  refine P2.mono ?_
  rintro e w3 ⟨rfl, H3, b3⟩
  have b3' := b2'.trans b3
  have P3 := H3.set 9 2 (by omega) (by omega) (by omega) (fun y h => by rcases h with rfl | rfl | h; decide; decide; exact h.elim) (by omega)
  clear P2 H2 b2' b3
  go_wp2_with fail
  go_at_call 10
  refine P3.mono ?_
  rintro e w4 ⟨rfl, ⟨g0, S, H4, hS⟩, b4⟩
  have b4' := b3'.trans b4
  have A := advance_ok H4 5 (by omega) (by omega)
  clear P3 H3 b3' b4
  go_wp2_with fail
  go_at_call 14
  refine A.mono ?_
  rintro e w5 ⟨v, L, rfl, D5, hL, _, _, k5, _⟩
  have b5 := b4'.trans (k5.below b4'.size hS)
  obtain rfl := list3 hL (fun y => by simp only [or_false])
  obtain ⟨a, cap, rfl, hR, _⟩ := D5.form
  obtain ⟨b, off, rfl, hb, hc⟩ := hR (by simp)
  obtain ⟨q0, q1⟩ := hc 1 (by simp)
  simp at q0 q1
  clear A hL hc hR D5 k5 hS H4 b4'
  go_wp2
  go_ret
  exact ⟨rfl, b5⟩

theorem nil_walk (id at_ : Int) (w : World) : Calls Try.prog 6 #[.int .i64 id, .int .i64 at_] w fun e w' => e = .returned (.bool true) ∧ Below w.heap.size w w' := by
  have A := awake_any w
  go_enter Try.func6, Try.ntmps6
  go_wp2_with fail
  go_at_call 8
  refine A.mono ?_
  rintro e w1 ⟨rfl, b1⟩
  clear A
  have NX := next_nil w1
  unfold vD at NX
  go_wp2_with fail
  go_at_call 17
  refine NX.mono ?_
  rintro e w2 ⟨rfl, b2⟩
  have b3 := b1.trans (b2.mono b1.size)
  clear NX b1 b2
  have AN := advance_nil at_
  have NN := now_nil
  have LN := left_nil
  have SN := set_nil id at_
  have CN := cancel_nil id
  go_wp2_with (first
    | (go_at_call 14; refine (AN _).mono ?_; rintro e w' ⟨rfl, hw⟩; obtain rfl := hw.symm)
    | (go_at_call 19; refine (NN _).mono ?_; rintro e w' ⟨rfl, hw⟩; obtain rfl := hw.symm)
    | (go_at_call 20; refine (LN _).mono ?_; rintro e w' ⟨rfl, hw⟩; obtain rfl := hw.symm)
    | (go_at_call 10; refine (SN _).mono ?_; rintro e w' ⟨rfl, hw⟩; obtain rfl := hw.symm)
    | (go_at_call 12; refine (CN _).mono ?_; rintro e w' ⟨rfl, hw⟩; obtain rfl := hw.symm))
  go_ret
  exact ⟨rfl, b3.alloc b3.size _⟩

end Go.Proofs.Ythamaiibknmeeaa
