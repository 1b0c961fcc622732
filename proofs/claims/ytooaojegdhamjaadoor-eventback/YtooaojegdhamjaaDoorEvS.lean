/-
  What the look at a request's size says. Condition: the request lies in memory.
-/
import Derived.Test.YtooaojegdhamjaaDoorEvO
namespace Go.Proofs.YtooaojegdhamjaaDoor
open Go.RowKit Go.Lib

/-- A yes or a no; a yes says that its texts are short. -/
structure SmR (x0 x2 x3 x4 : ByteArray) (q : Ending) : Prop where
  ex : ∃ b, q = .returned (.bool b) ∧ (b = true → x0.size ≤ 1000 ∧ x2.size ≤ 1000 ∧ x3.size ≤ 1000 ∧ x4.size ≤ 1000)
def SmP (w : World) (x0 x2 x3 x4 : ByteArray) : Ending → World → Prop := fun q w' => SmR x0 x2 x3 x4 q ∧ Below w.heap.size w w'
set_option maxHeartbeats 1000000 in
theorem smallq_ok (x0 x2 x3 x4 : ByteArray) (x5 : Int) (a : Option Addr) (c : Nat) (L : List ByteArray) (w : World) (hr : RowL w a L) (hS : Short L) (hn : L.length ≤ 9223372036854775807)
    (z0 : x0.size ≤ 9223372036854775807) (z2 : x2.size ≤ 9223372036854775807) (z3 : x3.size ≤ 9223372036854775807) (z4 : x4.size ≤ 9223372036854775807) :
    Calls Tryd.prog 7 #[.agg #[.string x0, .slice a L.length c, .string x2, .string x3, .string x4, .int .i64 x5]] w (SmP w x0 x2 x3 x4) := by
  unfold SmP
  generalize hm : L.length = m at *
  have HN := Hd.mk hm
  have B : Below w.heap.size w (w.alloc (.cells #[.string x0, .slice a m c, .string x2, .string x3, .string x4, .int .i64 x5] 24)) := alloc_below _ _
  have HR : Hd (RowL (w.alloc (.cells #[.string x0, .slice a m c, .string x2, .string x3, .string x4, .int .i64 x5] 24)) a L) := ⟨hr.carry B⟩
  have HX : Hd (∀ k, k < m → (gt L k).size ≤ 9223372036854775807) := ⟨fun k hk => hS k (by omega)⟩
  have HB : Hd (Below w.heap.size w (w.alloc (.cells #[.string x0, .slice a m c, .string x2, .string x3, .string x4, .int .i64 x5] 24))) := ⟨B⟩
  have N0 := Blk.new w 24 #[.string x0, .slice a m c, .string x2, .string x3, .string x4, .int .i64 x5]
  clear hr hS B hm
  by_cases g0 : 1000 < x0.size
  · go_enter Tryd.func7, Tryd.ntmps7
    go_wp2_with fail
    go_ret
    exact ⟨⟨⟨false, rfl, fun h => by cases h⟩⟩, HB.out⟩
  by_cases g1 : 1000 < x2.size
  · go_enter Tryd.func7, Tryd.ntmps7
    go_wp2_with fail
    go_ret
    exact ⟨⟨⟨false, rfl, fun h => by cases h⟩⟩, HB.out⟩
  by_cases g2 : 1000 < x3.size
  · go_enter Tryd.func7, Tryd.ntmps7
    go_wp2_with fail
    go_ret
    exact ⟨⟨⟨false, rfl, fun h => by cases h⟩⟩, HB.out⟩
  by_cases g3 : 1000 < x4.size
  · go_enter Tryd.func7, Tryd.ntmps7
    go_wp2_with fail
    go_ret
    exact ⟨⟨⟨false, rfl, fun h => by cases h⟩⟩, HB.out⟩
  by_cases g4 : 40 < m
  · go_enter Tryd.func7, Tryd.ntmps7
    go_wp2_with fail
    go_ret
    exact ⟨⟨⟨false, rfl, fun h => by cases h⟩⟩, HB.out⟩
  have H5 : Hd (x0.size ≤ 1000 ∧ x2.size ≤ 1000 ∧ x3.size ≤ 1000 ∧ x4.size ≤ 1000) := ⟨by omega⟩
  have H6 : Hd (m ≤ 40) := ⟨by omega⟩
  have d1 := N0.cellv (v := .slice a m c) 1 rfl
  clear N0
  go_enter Tryd.func7, Tryd.ntmps7
  go_wp2_with fail
  clear g0 g1 g2 g3 g4
  generalize w.alloc _ = w2 at *
  go_loopw [3] (fun i wr => ∃ k : Nat, k ≤ m ∧ i = .int .i64 k ∧ wr = w2) (fun i _ => m - (intOf i).toNat)
  case atStart => exact ⟨0, Nat.zero_le _, rfl, rfl⟩
  case round =>
    obtain ⟨k, hk, rfl, rfl⟩ := hrel
    have hm2 := H6.out
    by_cases hlt : k < m
    · obtain ⟨b, off, rfl, hb, hc⟩ := HR.out (by have := HN.out; omega)
      have ck := hc k (by have := HN.out; omega)
      have sk := HX.out k hlt
      have HI : Hd (k < m) := ⟨hlt⟩
      clear hc
      generalize gt L k = y at ck sk
      by_cases g : 1000 < y.size
      · go_wp2_with fail
        go_ret
        exact ⟨⟨⟨false, rfl, fun h => by cases h⟩⟩, HB.out⟩
      · go_wp2_with fail
        go_roundw
        case rel => exact ⟨k + 1, HI.out, by go_num, (by first | rfl | trivial)⟩
        case measure => have := HI.out; simp [intOf]; omega
    · obtain rfl : k = m := by omega
      go_wp2_with fail
      go_ret
      exact ⟨⟨⟨true, rfl, fun _ => H5.out⟩⟩, HB.out⟩

/-- The two events that 'awake' asks for. -/
def evA1 : Ev := ⟨1, 7, 0, mk [117], [], mk [103, 101, 116], mk [112, 111, 100, 115], mk [110, 115], 3, tx0⟩
def evA2 : Ev := ⟨4, 0, 5, tx0, [], tx0, tx0, tx0, 0, tx0⟩
theorem dig_one {n : Int} (h0 : 0 ≤ n) (h : n < 10) : digB n = mk [UInt8.ofNat (48 + n.toNat)] := by
  unfold digB
  rw [dec_small (by omega)]
  congr 4
  omega
theorem okA1 : OkE evA1 := by
  refine .inl ⟨rfl, rfl, rfl, ⟨by decide, by decide⟩, ⟨by decide, by decide⟩, ?_, ?_, ?_, ?_, .inr ?_⟩
  · show joinB [] ≠ tx0
    unfold joinB
    rw [if_pos rfl]
    decide
  all_goals
    show isWord (mk _) = true
    rw [isWord_eq]
    decide
theorem okA2 : OkE evA2 := .inr (.inr (.inl ⟨rfl, rfl, rfl, ⟨by decide, by decide⟩, rfl, rfl, rfl, rfl, rfl, rfl⟩))
theorem lnA1 : lnE evA1 = ⟨#[110, 101, 119, 32, 55, 32, 117, 32, 45, 32, 103, 101, 116, 32, 112, 111, 100, 115, 32, 110, 115, 32, 51]⟩ := by
  have e1 : rqE evA1 = jn [mk [117], mk [45], mk [103, 101, 116], mk [112, 111, 100, 115], mk [110, 115], mk [51]] := by
    unfold rqE
    rw [show evA1.o = 3 from rfl, dig_one (by decide) (by decide)]
    rfl
  unfold lnE
  rw [if_pos (show evA1.k = 1 from rfl), e1, show evA1.i = 7 from rfl, dig_one (by decide) (by decide)]
  apply list_inj
  rw [jn_cons, jn_cons, jn_one, jn_cons, jn_cons, jn_cons, jn_cons, jn_cons, jn_one]
  rfl
theorem lnA2 : lnE evA2 = ⟨#[116, 105, 99, 107, 32, 53]⟩ := by
  unfold lnE
  rw [if_neg (by decide), if_neg (by decide), if_neg (by decide), if_pos (show evA2.k = 4 from rfl), show evA2.n = 5 from rfl, dig_one (by decide) (by decide)]
  apply list_inj
  rw [jn_cons, jn_one]
  rfl
end Go.Proofs.YtooaojegdhamjaaDoor
