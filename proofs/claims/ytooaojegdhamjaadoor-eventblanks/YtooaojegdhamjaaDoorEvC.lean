/-
  What each call of a reader of words answers. Condition: the words have at most 2^31 bytes.
-/
import Derived.Test.YtooaojegdhamjaaDoorEvB
namespace Go.Proofs.YtooaojegdhamjaaDoor
open Go.RowKit Go.Lib

theorem RdS.next {w : World} {p : Nat} {x : ByteArray} {r : List ByteArray} {e : Int} {b off n : Nat} (h : RdS w p (x :: r) e) (hb : Blk w p 46 #[.slice (some ⟨b, off, none⟩) (x :: r).length (x :: r).length, .int .i64 e]) (hl : b < w.heap.size)
    (hc : ∀ k, k < (x :: r).length → w.cell? ⟨b, off + k, none⟩ = some (.string (gt (x :: r) k))) (hne : b < p) (hn : r.length = n) (o : Nat) (ho : 0 < n → o = off + 1) :
    RdS (w.setCell ⟨p, 0, none⟩ (.slice (some ⟨b, o, none⟩) n n)) p r e ∧ Kept (At p) w (w.setCell ⟨p, 0, none⟩ (.slice (some ⟨b, o, none⟩) n n)) := by
  have k : Kept (At p) w (w.setCell ⟨p, 0, none⟩ (.slice (some ⟨b, o, none⟩) n n)) := (Kept.refl _ _).setCell _ _ (.inl rfl)
  have rr : RowL w (some ⟨b, o, none⟩) r := fun h0 => ⟨b, o, rfl, hl, fun i hi => by
    rw [ho (by omega), Nat.add_assoc, Nat.add_comm 1 i, hc (i + 1) (by simp; omega)]
    rfl⟩
  refine ⟨⟨⟨some ⟨b, o, none⟩, ?_, rr.kept k (fun b' o' e h => ?_), fun b' o' e => ?_⟩, fun i => ?_, by have := h.ln; simp at this; omega⟩, k⟩
  · rw [hn]
    simpa using hb.set 0 (.slice (some ⟨b, o, none⟩) n n)
  · cases e; exact absurd h (Nat.ne_of_lt hne)
  · cases e; exact hne
  · have := h.sh (i + 1); exact this

theorem word_next (w : World) (p : Nat) (L : List ByteArray) (e : Int) (h : RdS w p L e) :
    Calls Tryd.prog 56 #[.pointer (some ⟨p, 0, none⟩)] w fun q w' => q = .returned (.string (gt L 0)) ∧ RdS w' p (L.drop 1) e ∧ Kept (At p) w w' := by
  have HR := Hd.mk h
  obtain ⟨a, hb, hr, hn⟩ := h.ex
  clear h
  have r0 := hb.cellv 0 rfl
  have f0 := hb.frozen 0
  have HB := Hd.mk hb
  clear hb
  cases L with
  | nil =>
    have x0 : gt [] 0 = ⟨#[]⟩ := rfl
    rw [x0]
    rw [List.length_nil] at r0
    go_enter Tryd.func56, Tryd.ntmps56
    go_wp2_with fail
    go_ret
    exact ⟨rfl, HR.out, Kept.refl _ _⟩
  | cons x r =>
    obtain ⟨b, off, rfl, hbl, hc⟩ := hr (by simp)
    have c0 := hc 0 (by simp)
    rw [Nat.add_zero] at c0
    have hne := hn b off rfl
    have HC := Hd.mk hc
    have HN := Hd.mk hne
    clear hc hn hr hne
    have hl : (x :: r).length = r.length + 1 := rfl
    rw [hl] at r0
    have hm : r.length + 1 ≤ 9223372036854775807 := HR.out.ln
    clear hl
    generalize hn : r.length = n at *
    generalize gt (x :: r) 0 = y at *
    go_enter Tryd.func56, Tryd.ntmps56
    go_wp2_with fail
    all_goals go_ret
    all_goals first
      | exact ⟨rfl, HR.out.next HB.out hbl HC.out HN.out hn (off + 1) (fun _ => rfl)⟩
      | (obtain rfl : n = 0 := by omega
         exact ⟨rfl, HR.out.next HB.out hbl HC.out HN.out hn off (fun h => absurd h (Nat.lt_irrefl 0))⟩)

/-- A text that is a word's. -/
theorem ok64 {n : Nat} (h : n < 4294967281) : n ≤ 9223372036854775807 := by omega

theorem RdS.must {w : World} {p : Nat} {L : List ByteArray} {e : Int} (h : RdS w p L e) (x : Int) (b : Bool) :
    Calls Tryd.prog 38 #[.pointer (some ⟨p, 0, none⟩), .bool b, .int .i64 x] w fun q w' => q = .returned (.tuple #[]) ∧ RdS w' p L (mst e b x) ∧ Kept (At p) w w' := by
  obtain ⟨a, hb, hr, hn⟩ := h.ex
  exact (must_ok w p _ e x b hb).mono fun q w' ⟨h1, h2, h3⟩ => ⟨h1, ⟨⟨a, h2, hr.kept h3 (fun b' off e h => absurd h (Nat.ne_of_lt (hn b' off e))), hn⟩, h.sh, h.ln⟩, h3⟩

theorem number_rd (w : World) (p : Nat) (L : List ByteArray) (e lo hi : Int) (h : RdS w p L e) :
    Calls Tryd.prog 37 #[.pointer (some ⟨p, 0, none⟩), .int .i64 lo, .int .i64 hi] w fun q w' => q = .returned (.int .i64 (numOf (gt L 0) lo hi)) ∧ RdS w' p (L.drop 1) (mst e (numIn (gt L 0) lo hi) 8) ∧ Kept (At p) w w' := by
  have W := word_next w p L e h
  have sz := ok64 (h.sh 0)
  have HN := Hd.mk (fun v => number_ok (gt L 0) lo hi sz v)
  clear sz h
  generalize gt L 0 = x at *
  generalize L.drop 1 = M at *
  generalize numOf x lo hi = n at *
  generalize numIn x lo hi = b at *
  go_enter Tryd.func37, Tryd.ntmps37
  go_wp2_with fail
  go_at_call 56
  refine W.mono ?_
  rintro q w1 ⟨rfl, h1, k1⟩
  have H1 := Hd.mk h1
  have K1 := Hd.mk k1
  clear h1 k1 W
  go_wp2_with (first
    | (go_at_call 55; refine (HN.out _).mono ?_; rintro e w' ⟨rfl, hw⟩; obtain rfl := hw.symm)
    | (go_at_call 38; refine (H1.out.must 8 _).mono ?_; rintro q2 w2 ⟨rfl, h2, k2⟩))
  go_ret
  exact ⟨rfl, h2, K1.out.trans k2⟩
theorem id_rd (w : World) (p : Nat) (L : List ByteArray) (e : Int) (h : RdS w p L e) :
    Calls Tryd.prog 35 #[.pointer (some ⟨p, 0, none⟩)] w fun q w' => q = .returned (.int .i64 (numOf (gt L 0) 0 999999999)) ∧ RdS w' p (L.drop 1) (mst e (numIn (gt L 0) 0 999999999) 8) ∧ Kept (At p) w w' := by
  have W := number_rd w p L e 0 999999999 h
  go_enter Tryd.func35, Tryd.ntmps35
  go_wp2_with (go_at_call 37; refine W.mono ?_; rintro q w1 ⟨rfl, h1, k1⟩)
  go_ret
  exact ⟨rfl, h1, k1⟩
theorem name_rd (w : World) (p : Nat) (L : List ByteArray) (e : Int) (h : RdS w p L e) :
    Calls Tryd.prog 52 #[.pointer (some ⟨p, 0, none⟩)] w fun q w' => q = .returned (.string (gt L 0)) ∧ RdS w' p (L.drop 1) (mst e (isWord (gt L 0)) 4) ∧ Kept (At p) w w' := by
  have W := word_next w p L e h
  have sz := ok64 (h.sh 0)
  have HN := Hd.mk (fun v => word_ok (gt L 0) sz v)
  clear sz h
  generalize gt L 0 = x at *
  generalize L.drop 1 = M at *
  generalize isWord x = b at *
  go_enter Tryd.func52, Tryd.ntmps52
  go_wp2_with fail
  go_at_call 56
  refine W.mono ?_
  rintro q w1 ⟨rfl, h1, k1⟩
  have H1 := Hd.mk h1
  have K1 := Hd.mk k1
  clear h1 k1 W
  go_wp2_with (first
    | (go_at_call 69; refine (HN.out _).mono ?_; rintro e w' ⟨rfl, hw⟩; obtain rfl := hw.symm)
    | (go_at_call 38; refine (H1.out.must 4 _).mono ?_; rintro q2 w2 ⟨rfl, h2, k2⟩))
  go_ret
  exact ⟨rfl, h2, K1.out.trans k2⟩
theorem exactly_rd (w : World) (p : Nat) (L : List ByteArray) (e : Int) (n : Nat) (h : RdS w p L e) :
    Calls Tryd.prog 34 #[.pointer (some ⟨p, 0, none⟩), .int .i64 n] w fun q w' => q = .returned (.tuple #[]) ∧ RdS w' p L (mst e (decide (L.length = n)) 2) ∧ Kept (At p) w w' := by
  have HM := Hd.mk (fun b => h.must 2 b)
  obtain ⟨a, hb, hr, hn⟩ := h.ex
  have r0 := hb.cellv 0 rfl
  clear hr hn hb h
  have d : ((L.length : Int) == (n : Int)) = decide (L.length = n) := by
    by_cases hl : L.length = n
    · rw [hl]; simp
    · rw [decide_eq_false hl]; simp; omega
  generalize decide (L.length = n) = b at *
  go_enter Tryd.func34, Tryd.ntmps34
  go_wp2_with (go_at_call 38; refine (HM.out _).mono ?_; rintro q2 w2 ⟨rfl, h2, k2⟩)
  go_end0
  exact ⟨rfl, h2, k2⟩
end Go.Proofs.YtooaojegdhamjaaDoor
