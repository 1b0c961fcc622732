/-
  What 'WordsNumbers' of the statements answers: true, for every text, all bounds and all numbers. Condition: the library's table of powers lies in memory.
-/
import Derived.Test.YtaedgkaldafbbaaDoorRefD
namespace Go.Proofs.YtaedgkaldafbbaaDoor
open Go.RowKit Go.Lib

set_option maxRecDepth 20000 in
theorem numbers_all (s : ByteArray) (least most n h : Int) (w : World) (hs : s.size ≤ 9223372036854775807) (hn : (Lit.int .i64 n).wf = true) (hh : (Lit.int .u64 h).wf = true) (hT : Tab w) :
    Calls Tryd.prog 4 #[.string s, .int .i64 least, .int .i64 most, .int .i64 n, .int .u64 h] w fun e w' => e = .returned (.bool true) ∧ Below w.heap.size w w' := by
  obtain ⟨H, rfl, hH⟩ := word_nat hh
  obtain ⟨n0, n1⟩ := wf_i hn
  clear hh hn
  by_cases hlong : 16384 < s.size
  · go_enter Tryd.func4, Tryd.ntmps4
    go_wp2_with (go_at_call 9; refine (awake_any _).mono ?_; rintro e w1 ⟨rfl, hb1⟩)
    go_ret
    exact ⟨rfl, hb1⟩
  have A := fun w => number_ok s least most hs w
  have B := fun w => rnumber_ok s least most hs w
  have C := fun w => unhex_ok s w
  have D := fun w => runhex_ok s w
  have E := fun w hT => digits_ok n n0 n1 w hT
  have F := fun w => rdigits_ok n w n1
  have G := fun w => hex_ok H hH w
  have I := fun w => rhex_ok H hH w
  generalize numOf s least most = x1 at *
  generalize numIn s least most = x2 at *
  generalize unOf s = x3 at *
  generalize unOk s = x4 at *
  generalize digB n = x5 at *
  generalize hexB H = x6 at *
  go_enter Tryd.func4, Tryd.ntmps4
  go_wp2_with (first
    | (go_at_call 9; refine (awake_any _).mono ?_; rintro e w1 ⟨rfl, hb1⟩)
    | (go_at_call 15; refine (A _).mono ?_; rintro e w' ⟨rfl, hw⟩; obtain rfl := hw.symm))
  go_at_call 16
  refine (B _).mono ?_
  rintro e w2 ⟨rfl, hb2⟩
  have b2 : Below w.heap.size w w2 := hb1.trans (hb2.mono hb1.size)
  have hT2 := hT.stays b2
  have B2 : Hd (Below w.heap.size w w2) := ⟨b2⟩
  clear hb1 hb2 b2 A B hT
  go_wp2_with (first
    | (go_at_call 17; refine (C _).mono ?_; rintro e w' ⟨rfl, hw⟩; obtain rfl := hw.symm)
    | (go_at_call 18; refine (D _).mono ?_; rintro e w' ⟨rfl, hw⟩; obtain rfl := hw.symm))
  go_at_call 19
  refine (E _ hT2).mono ?_
  rintro e w3 ⟨rfl, hb3⟩
  have B3 : Hd (Below w.heap.size w w3) := ⟨B2.out.trans (hb3.mono B2.out.size)⟩
  clear hb3 hT2 C D E
  go_wp2_with fail
  go_at_call 20
  refine (F _).mono ?_
  rintro e w4 ⟨rfl, hb4⟩
  have B4 : Hd (Below w.heap.size w w4) := ⟨B3.out.trans (hb4.mono B3.out.size)⟩
  clear hb4 F
  go_wp2_with fail
  go_at_call 21
  refine (G _).mono ?_
  rintro e w5 ⟨rfl, hb5⟩
  have B5 : Hd (Below w.heap.size w w5) := ⟨B4.out.trans (hb5.mono B4.out.size)⟩
  clear hb5 G
  go_wp2_with fail
  go_at_call 22
  refine (I _).mono ?_
  rintro e w6 ⟨rfl, hb6⟩
  go_wp2_with fail
  go_ret
  exact ⟨rfl, B5.out.trans (hb6.mono B5.out.size)⟩

end Go.Proofs.YtaedgkaldafbbaaDoor
