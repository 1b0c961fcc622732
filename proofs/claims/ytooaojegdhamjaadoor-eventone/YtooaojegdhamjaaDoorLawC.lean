/-
  What 'WordsCuts' of the statements answers: true, for every text. No condition.
-/
import Derived.Test.YtooaojegdhamjaaDoorRefA
namespace Go.Proofs.YtooaojegdhamjaaDoor
open Go.RowKit Go.Lib

theorem lines_count (s : ByteArray) : (linesB s).length ≤ s.size + 1 := by
  have := count_le s 10
  have h2 := cutB_len 10 s
  unfold linesB
  split
  · rw [List.length_dropLast]; omega
  · omega
theorem words_count (s : ByteArray) : (wordsB s).length ≤ s.size + 1 := by
  rw [← some_all]
  have := count_le s 32
  have h2 := cutB_len 32 s
  have := some_len (cutB 32 s) (cutB 32 s).length
  omega

end Go.Proofs.YtooaojegdhamjaaDoor
