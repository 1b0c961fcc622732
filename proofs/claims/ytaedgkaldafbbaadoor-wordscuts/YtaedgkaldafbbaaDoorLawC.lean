/-
  What 'WordsCuts' of the statements answers: true, for every text. No condition.
-/
import Derived.Test.YtaedgkaldafbbaaDoorRefA
namespace Go.Proofs.YtaedgkaldafbbaaDoor
open Go.RowKit Go.Lib

theorem lines_count (s : ByteArray) : (linesB s).length ≤ s.size + 1 := by
  have := count_le s 10
  have h2 := cutB_len 10 s
  unfold linesB
  split
  · rw [List.length_dropLast]; omega
  · omega
theorem words_count (s : ByteArray) : (wordsB s).length ≤ s.size + 1 := by
  rw [← some_all]
  have := count_le s 32
  have h2 := cutB_len 32 s
  have := some_len (cutB 32 s) (cutB 32 s).length
  omega

theorem cuts_all (s : ByteArray) (w : World) (hs : s.size ≤ 9223372036854775807) :
    Calls Tryd.prog 3 #[.string s] w fun e w' => e = .returned (.bool true) ∧ Below w.heap.size w w' := by
  by_cases hlong : 16384 < s.size
  · go_enter Tryd.func3, Tryd.ntmps3
    go_wp2_with (go_at_call 9; refine (awake_any _).mono ?_; rintro e w1 ⟨rfl, hb1⟩)
    go_ret
    exact ⟨rfl, hb1⟩
  have hs' : s.size ≤ 16384 := by omega
  have CL := fun w => lines_ok s w (by omega)
  have RL := fun w => rlines_ok s w hs'
  have CW := fun w => words_ok s w (by omega)
  have RW := fun w => rwords_ok s w hs'
  have n1 := lines_count s
  have n2 := words_count s
  have m1 : (linesB s).length ≤ 9223372036854775807 := by omega
  have m2 : (wordsB s).length ≤ 9223372036854775807 := by omega
  clear n1 n2
  generalize linesB s = A at *
  generalize wordsB s = B at *
  go_enter Tryd.func3, Tryd.ntmps3
  go_wp2_with (go_at_call 9; refine (awake_any _).mono ?_; rintro e w1 ⟨rfl, hb1⟩)
  go_at_call 11
  refine (CL _).mono ?_
  rintro e w2 ⟨a2, c2, rfl, r2, hb2⟩
  have C2 : Hd (Below w.heap.size w w2) := ⟨hb1.trans (hb2.mono hb1.size)⟩
  clear hb1 hb2
  go_wp2_with fail
  go_at_call 12
  refine (RL _).mono ?_
  rintro e w3 ⟨a3, c3, rfl, r3, hb3⟩
  have C3 : Hd (Below w.heap.size w w3) := ⟨C2.out.trans (hb3.mono C2.out.size)⟩
  have S1 := same_yes a2 a3 c2 c3 A A w3 (r2.carry hb3) r3 m1 rfl
  clear hb3 r2 r3
  go_wp2_with fail
  go_at_call 10
  refine S1.mono ?_
  rintro e w4 ⟨rfl, hb4⟩
  have C4 : Hd (Below w.heap.size w w4) := ⟨C3.out.trans (hb4.mono C3.out.size)⟩
  clear hb4 S1
  go_wp2_with fail
  go_at_call 13
  refine (CW _).mono ?_
  rintro e w5 ⟨a5, c5, rfl, r5, hb5⟩
  have C5 : Hd (Below w.heap.size w w5) := ⟨C4.out.trans (hb5.mono C4.out.size)⟩
  clear hb5
  go_wp2_with fail
  go_at_call 14
  refine (RW _).mono ?_
  rintro e w6 ⟨a6, c6, rfl, r6, hb6⟩
  have C6 : Hd (Below w.heap.size w w6) := ⟨C5.out.trans (hb6.mono C5.out.size)⟩
  have S2 := same_yes a5 a6 c5 c6 B B w6 (r5.carry hb6) r6 m2 rfl
  clear hb6 r5 r6
  go_wp2_with fail
  go_at_call 10
  refine S2.mono ?_
  rintro e w7 ⟨rfl, hb7⟩
  go_wp2
  go_ret
  exact ⟨rfl, C6.out.trans (hb7.mono C6.out.size)⟩

end Go.Proofs.YtaedgkaldafbbaaDoor
