/-
  The walk of 'FlowKey'. Condition: the request lies in memory.
-/
import Derived.Test.YtijjpblmnlednaaAw
import Derived.Test.YtijjpblmnlednaaSq
namespace Go.Proofs.Ytijjpblmnlednaa
open Go.RowKit

theorem empty_no {x : ByteArray} (h : x ≠ ⟨#[]⟩) : x.toList.isEmpty = false := by
  cases hb : x.toList.isEmpty with
  | false => rfl
  | true =>
    exfalso
    apply h
    rw [List.isEmpty_iff, ByteArray.toList_eq] at hb
    apply ByteArray.ext
    exact Array.toList_inj.1 hb
set_option maxHeartbeats 2000000 in
theorem key_law {ag : Option Addr} {ng cg : Nat} (n : Int) (q : Rq) (w : World) :
    Calls Try.prog 6 #[.int .i64 n, .agg #[.string q.user, .slice ag ng cg, .string q.verb, .string q.resource, .string q.space, .int .i64 q.objects]] w fun e w' => e = .returned (.bool true) ∧ Below w.heap.size w w' := by
  obtain ⟨w1, hw1⟩ : ∃ w1, w1 = w.alloc (.cells #[.string q.user, .slice ag ng cg, .string q.verb, .string q.resource, .string q.space, .int .i64 q.objects] 25) := ⟨_, rfl⟩
  have B1 : Below w.heap.size w w1 := by rw [hw1]; exact alloc_below _ _
  have N1 : Blk w1 w.heap.size 25 #[.string q.user, .slice ag ng cg, .string q.verb, .string q.resource, .string q.space, .int .i64 q.objects] := by rw [hw1]; exact Blk.new _ _ _
  have K1 := keyB_one n q
  have HW : Hd (∀ W, Below w1.heap.size w1 W → Blk W w.heap.size 25 #[.string q.user, .slice ag ng cg, .string q.verb, .string q.resource, .string q.space, .int .i64 q.objects] ∧ Below w.heap.size w W) := ⟨fun W b => ⟨N1.kept (Kept.of_below b (fun _ => False)) id, B1.trans (b.mono B1.size)⟩⟩
  have HP : Hd (∀ W, Calls Try.prog 13 #[.int .i64 n, .agg #[.string q.user, .slice ag ng cg, .string q.verb, .string q.resource, .string q.space, .int .i64 q.objects]] W fun e w' => e = .returned (.string (keyB n q)) ∧ Below W.heap.size W w') := ⟨fun W => key_ok n q W⟩
  have HR : Hd (∀ W, Calls Try.prog 14 #[.int .i64 n, .agg #[.string q.user, .slice ag ng cg, .string q.verb, .string q.resource, .string q.space, .int .i64 q.objects]] W fun e w' => e = .returned (.string (keyB n q)) ∧ Below W.heap.size W w') := ⟨fun W => rkey_ok n q W⟩
  clear N1 B1
  generalize keyB n q = kx at *
  obtain ⟨x0, G, x2, x3, x4, x5⟩ := q
  simp only at *
  have I := awake_ok w1
  go_enter Try.func6, Try.ntmps6
  go_upto_region 1 with fail
  rw [← hw1]
  clear hw1
  obtain ⟨g, hg⟩ : ∃ g, g = w.heap.size := ⟨_, rfl⟩
  rw [← hg]
  have HG : Hd (g = w.heap.size) := ⟨hg⟩
  rw [← hg] at HW
  clear hg
  go_upto_region 3 with (go_at_call 7; refine I.mono ?_; rintro e w2 ⟨rfl, b2⟩)
  obtain ⟨N2, -⟩ := HW.out w2 b2
  have d0 := N2.cellv (v := .string x0) 0 rfl
  have d1 := N2.cellv (v := .slice ag ng cg) 1 rfl
  have d2 := N2.cellv (v := .string x2) 2 rfl
  have d3 := N2.cellv (v := .string x3) 3 rfl
  have d4 := N2.cellv (v := .string x4) 4 rfl
  have d5 := N2.cellv (v := .int .i64 x5) 5 rfl
  have P := HP.out w2
  have BB : Hd (Below w1.heap.size w1 w2) := ⟨b2⟩
  clear I N2 b2
  go_upto_region 4 with (go_at_call 13; refine P.mono ?_; rintro e w3 ⟨rfl, b3⟩)
  have C3 : Hd (Below w1.heap.size w1 w3) := ⟨BB.out.trans (b3.mono BB.out.size)⟩
  clear P d0 d1 d2 d3 d4 d5 b3 BB HP
  obtain ⟨N3, -⟩ := HW.out w3 C3.out
  have d0 := N3.cellv (v := .string x0) 0 rfl
  have d1 := N3.cellv (v := .slice ag ng cg) 1 rfl
  have d2 := N3.cellv (v := .string x2) 2 rfl
  have d3 := N3.cellv (v := .string x3) 3 rfl
  have d4 := N3.cellv (v := .string x4) 4 rfl
  have d5 := N3.cellv (v := .int .i64 x5) 5 rfl
  have R := HR.out w3
  clear N3
  go_wp2_with fail
  refine R.mono ?_
  rintro e w4 ⟨rfl, b4⟩
  have C4 : Hd (Below w1.heap.size w1 w4) := ⟨C3.out.trans (b4.mono C3.out.size)⟩
  clear R d0 d1 d2 d3 d4 d5 b4 C3 HR
  obtain ⟨N4, B4⟩ := HW.out w4 C4.out
  have d0 := N4.cellv (v := .string x0) 0 rfl
  have d4 := N4.cellv (v := .string x4) 4 rfl
  have HB : Hd (Below g w w4) := ⟨B4⟩
  clear N4 B4 HW C4
  by_cases hE : kx = ⟨#[]⟩
  · subst hE
    clear K1
    go_wp2_with fail
    go_ret
    exact ⟨rfl, by rw [← HG.out]; exact HB.out⟩
  have E := empty_no hE
  by_cases hU : kx = x0
  · subst hU
    clear K1 hE
    go_wp2_with fail
    go_ret
    exact ⟨rfl, by rw [← HG.out]; exact HB.out⟩
  have E1 : (kx.toList == x0.toList) = false := str_isnt hU
  have hS : kx = x4 := by rcases K1 with h | h | h; exact absurd h hE; exact absurd h hU; exact h
  clear K1 hE hU
  subst hS
  go_wp2_with fail
  go_ret
  exact ⟨rfl, by rw [← HG.out]; exact HB.out⟩
end Go.Proofs.Ytijjpblmnlednaa
