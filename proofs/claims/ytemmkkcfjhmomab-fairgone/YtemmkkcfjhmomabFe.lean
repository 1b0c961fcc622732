/-
  Lanes that are copied by the reference; another lane in the place of one, by the program. Conditions: the lanes lie in memory, and are few.
-/
import Derived.Test.YtemmkkcfjhmomabFa
import Derived.Test.YtemmkkcfjhmomabFd
namespace Go.Proofs.Ytemmkkcfjhmomab
open Go.RowKit

theorem resFa44 (tmps : Array Value) (w : World) (b : Nat) {r g n o : Int} {a : Option Addr} {l c : Nat} (ht : tmps[6]?.getD undef = .pointer (some ⟨b, 0, none⟩)) (h : Blk w b 25 (faA r g n o (.slice a l c))) :
    (results Try.f16 tmps).run Try.prog w = .ok (.agg #[.int .u64 r, .int .i64 g, .int .i64 n, .int .i64 o, .slice a l c]) w := by
  obtain ⟨⟨c0, c1, c2, c3, c4⟩, -⟩ := h.fair
  simp [results, Try.results16, go_sem, ht, c0, c1, c2, c3, c4]

end Go.Proofs.Ytemmkkcfjhmomab
