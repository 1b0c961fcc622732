/-
  What the reader's methods 'fine', 'must', 'word', 'number', 'name', 'borrow', 'by' of the program do. Condition: the reader lies in memory.
-/
import Derived.Test.YtaodckojinbdfaaDoorMem
import Derived.Deep.SlicePairs
namespace Go.Proofs.YtaodckojinbdfaaDoor
open Go.RowKit

theorem fine_ok {B R A : Nat} {ws : List ByteArray} {e : Int} (w : World) (H : Rd B w R A ws e) :
    Calls Tryd.prog 47 #[.pointer (some ⟨R, 0, none⟩)] w fun x w' => x = .returned (.bool (e == 0)) ∧ w' = w := by
  obtain ⟨a, c, hb, hr, hc⟩ := H.ex
  have c2 := hb.cellv 2 rfl
  clear H hb hr hc
  go_enter Tryd.func47, Tryd.ntmps47
  go_wp2
  go_ret
  exact ⟨rfl, rfl⟩

theorem must_ok {B R A : Nat} {ws : List ByteArray} {e : Int} (w : World) (H : Rd B w R A ws e) (b : Bool) (x : Int) :
    Calls Tryd.prog 37 #[.pointer (some ⟨R, 0, none⟩), .bool b, .int .i64 x] w fun r w' => r = .returned (.tuple #[]) ∧ Rd B w' R A ws (mu e (ifE b x)) ∧ Kept (fun k => k = R) w w' := by
  have F := fine_ok w H
  obtain ⟨a, c, hb, hr, hc⟩ := H.ex
  have c2 := hb.cellv 2 rfl
  have f2 := hb.frozen 2
  have HH : Hd (Rd B w R A ws e) := ⟨H⟩
  clear H hb hr hc
  cases b with
  | true =>
    go_enter Tryd.func37, Tryd.ntmps37
    go_wp2_with fail
    go_end0
    refine ⟨rfl, ?_, Kept.refl _ _⟩
    rw [mu_yes]
    exact HH.out
  | false =>
    by_cases h0 : e = 0
    · subst h0
      go_enter Tryd.func37, Tryd.ntmps37
      go_wp2_with (go_at_call 47; refine F.mono ?_; rintro e w' ⟨rfl, hw⟩; obtain rfl := hw.symm)
      go_end0
      refine ⟨rfl, ?_, kept_set 2 _⟩
      rw [mu_zero, ifE_no]
      exact HH.out.err x
    · have e0 : (e == 0) = false := by simpa using h0
      rw [e0] at F
      go_enter Tryd.func37, Tryd.ntmps37
      go_wp2_with (go_at_call 47; refine F.mono ?_; rintro e w' ⟨rfl, hw⟩; obtain rfl := hw.symm)
      go_end0
      refine ⟨rfl, ?_, Kept.refl _ _⟩
      rw [mu_keep h0]
      exact HH.out

theorem word_rd {B R A : Nat} {ws : List ByteArray} {e : Int} (w : World) (H : Rd B w R A ws e) :
    Calls Tryd.prog 30 #[.pointer (some ⟨R, 0, none⟩)] w fun r w' => r = .returned (.string (gt ws 0)) ∧ Rd B w' R A ws.tail e ∧ Kept (fun k => k = R) w w' := by
  obtain ⟨a, c, hb, hr, hc, h6⟩ := H.ex
  have c0 := hb.cellv 0 rfl
  have f0 := hb.frozen 0
  have HH : Hd (Rd B w R A ws e) := ⟨H⟩
  cases ws with
  | nil =>
    clear H hb hr hc
    go_enter Tryd.func30, Tryd.ntmps30
    go_wp2_with fail
    go_ret
    exact ⟨rfl, HH.out, Kept.refl _ _⟩
  | cons x t =>
    obtain ⟨b, off, rfl, hbl, hcs⟩ := hr.row (by simp)
    have hcell := hcs 0 (by simp)
    rw [Nat.add_zero] at hcell
    have g0 : gt (x :: t) 0 = x := rfl
    rw [g0] at hcell ⊢
    have hlen : t.length + 1 ≤ c := hc
    have hl6 : t.length + 1 ≤ 65536 := h6
    rw [List.length_cons] at c0
    by_cases h1 : c = 1
    · obtain rfl : t = [] := List.length_eq_zero_iff.1 (by omega)
      subst h1
      have N : Hd (Rd B (w.setCell ⟨R, 0, none⟩ (.slice (some ⟨b, off, none⟩) 0 0)) R A [] e) := ⟨HH.out.next0 hb⟩
      clear H hb hr hc hcs HH g0 h6
      go_enter Tryd.func30, Tryd.ntmps30
      go_wp2_with fail
      go_ret
      exact ⟨rfl, N.out, kept_set 0 _⟩
    · have N : Hd (Rd B (w.setCell ⟨R, 0, none⟩ (.slice (some ⟨b, off + 1, none⟩) t.length (c - 1))) R A t e) := ⟨HH.out.next hb hr hc h6⟩
      have hc2 : ¬ c ≤ 1 := by omega
      have hc3 : ¬ c - 1 = 0 := by omega
      clear H hb hr hc hcs HH g0 h6
      generalize t.length = m at *
      go_enter Tryd.func30, Tryd.ntmps30
      go_wp2_with fail
      go_ret
      exact ⟨rfl, N.out, kept_set 0 _⟩

end Go.Proofs.YtaodckojinbdfaaDoor
