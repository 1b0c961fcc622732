/-
  The first one of an ID: slices.IndexFunc, by the program. Conditions: the lane lies in memory, and is short.
-/
import Derived.Test.YtemmkkcfjhmomabJn
import Derived.Shelf.Abstract
namespace Go.Proofs.Ytemmkkcfjhmomab
open Go.RowKit

/-- Where the first one of that ID stands; behind all, if there is none. -/
def fnd (id : Int) : List Tk → Nat
  | [] => 0
  | t :: L => if t.id = id then 0 else fnd id L + 1
theorem fnd_yes {id : Int} {t : Tk} {L : List Tk} (h : t.id = id) : fnd id (t :: L) = 0 := if_pos h
theorem fnd_next {id : Int} {t : Tk} {L : List Tk} (h : t.id ≠ id) : fnd id (t :: L) = fnd id L + 1 := if_neg h
theorem fnd_at (id : Int) : ∀ (L : List Tk) (k : Nat), k < L.length → (gt L k).id = id → (∀ j, j < k → (gt L j).id ≠ id) → fnd id L = k
  | [], k, h, _, _ => absurd h (Nat.not_lt_zero k)
  | t :: L, 0, _, e, _ => fnd_yes e
  | t :: L, k + 1, h, e, hn => by
    rw [fnd_next (t := t) (hn 0 (Nat.succ_pos k)), fnd_at id L k (by simpa using h) e (fun j hj => hn (j + 1) (by omega))]
theorem fnd_none (id : Int) : ∀ (L : List Tk), (∀ j, j < L.length → (gt L j).id ≠ id) → fnd id L = L.length
  | [], _ => rfl
  | t :: L, hn => by
    rw [fnd_next (t := t) (hn 0 (by simp)), fnd_none id L (fun j hj => hn (j + 1) (by simpa using hj))]
    rfl
theorem fnd_le (id : Int) : ∀ (L : List Tk), fnd id L ≤ L.length
  | [] => Nat.le_refl _
  | t :: L => by
    by_cases e : t.id = id
    · rw [fnd_yes e]; exact Nat.zero_le _
    · rw [fnd_next e]; have := fnd_le id L; simp; omega
theorem fnd_is (id : Int) : ∀ (L : List Tk), fnd id L < L.length → (gt L (fnd id L)).id = id
  | [], h => absurd h (Nat.not_lt_zero _)
  | t :: L, h => by
    by_cases e : t.id = id
    · rw [fnd_yes e]; exact e
    · rw [fnd_next e] at h ⊢
      rw [gt_cons_succ]
      exact fnd_is id L (by simpa using h)
theorem fnd_not (id : Int) : ∀ (L : List Tk) (j : Nat), j < fnd id L → (gt L j).id ≠ id
  | [], j, h => absurd h (Nat.not_lt_zero _)
  | t :: L, j, h => by
    by_cases e : t.id = id
    · rw [fnd_yes e] at h; exact absurd h (Nat.not_lt_zero _)
    · rw [fnd_next e] at h
      cases j with
      | zero => exact e
      | succ j => rw [gt_cons_succ]; exact fnd_not id L j (by omega)
def ixI (id : Int) (L : List Tk) : Int := if fnd id L < L.length then (fnd id L : Int) else -1

theorem ofI_ok (t : Tk) (id : Int) (g : Nat) (w : World) (hg : Blk w g 3 #[.int .i64 id]) :
    Calls Try.prog 26 #[.agg #[.int .i64 t.id, .int .i64 t.wid, .int .i64 t.sts, .int .i64 t.sin, .int .i64 t.unt], .pointer (some ⟨g, 0, none⟩)] w fun e w' => e = .returned (.bool (t.id == id)) ∧ Below w.heap.size w w' := by
  obtain ⟨w1, hw1⟩ : ∃ w1, w1 = w.alloc (.cells #[.int .i64 t.id, .int .i64 t.wid, .int .i64 t.sts, .int .i64 t.sin, .int .i64 t.unt] 30) := ⟨_, rfl⟩
  have B : Hd (Below w.heap.size w w1) := ⟨by rw [hw1]; exact alloc_below _ _⟩
  have N1 : Blk w1 w.heap.size 30 (tkA t) := by rw [hw1]; exact Blk.new _ _ _
  have G1 : Blk w1 g 3 #[.int .i64 id] := by rw [hw1]; exact hg.alloc _
  obtain ⟨⟨c0, c1, c2, c3, c4⟩, -⟩ := N1.five
  have g0 := G1.cellv (v := .int .i64 id) 0 rfl
  clear N1 G1 hg c1 c2 c3 c4
  go_enter Try.func26, Try.ntmps26
  go_upto_region 1 with fail
  rw [← hw1]
  clear hw1
  go_wp2
  go_ret; exact ⟨rfl, B.out⟩

set_option maxRecDepth 20000 in
set_option maxHeartbeats 1000000 in
theorem index_ok (a : Option Addr) (c : Nat) (L : List Tk) (id : Int) (g : Nat) (w : World) (h : TkR w a L) (hl : L.length ≤ 2000) (hg : Blk w g 3 #[.int .i64 id]) :
    Calls Try.prog 25 #[.slice a L.length c, .func (.func 26) #[] #[.pointer (some ⟨g, 0, none⟩)]] w fun e w' => e = .returned (.int .i64 (ixI id L)) ∧ Below w.heap.size w w' := by
  have eg : ∀ args w, (callFunc 26 args).run Try.prog w = .ok (.enter 26 args) w := enters_of Try.func26 (by kernel_rfl) rfl
  have H : Hd (∀ W, Below w.heap.size w W → TkR W a L ∧ Blk W g 3 #[.int .i64 id]) := ⟨fun W b => ⟨h.carry b, hg.kept (Kept.of_below b (fun _ => False)) (fun h => h)⟩⟩
  obtain ⟨n, hn⟩ : ∃ n, L.length = n := ⟨_, rfl⟩
  have HL : Hd (L.length = n) := ⟨hn⟩
  have HX : Hd ((∀ k, k < n → (gt L k).id = id → (∀ j, j < k → (gt L j).id ≠ id) → ixI id L = (k : Int)) ∧ ((∀ j, j < n → (gt L j).id ≠ id) → ixI id L = -1)) := ⟨fun k hk e hno => by
      unfold ixI; rw [fnd_at id L k (by omega) e hno, if_pos (by omega)], fun hno => by
      unfold ixI; rw [fnd_none id L (fun j hj => hno j (by omega)), if_neg (by omega)]⟩
  rw [hn] at hl ⊢
  clear hn h hg
  go_enter Try.func25, Try.ntmps25
  go_wp2_with fail
  go_loopw [8] (fun i wr => ∃ k : Nat, k ≤ n ∧ i = .int .i64 k ∧ Hd (∀ j, j < k → (gt L j).id ≠ id) ∧ Below w.heap.size w wr) (fun i _ => n - (intOf i).toNat)
  case atStart => exact ⟨0, Nat.zero_le _, rfl, ⟨fun j h => absurd h (Nat.not_lt_zero _)⟩, Below.refl _ _⟩
  case round =>
    obtain ⟨k, hk, rfl, hno, hb⟩ := hrel
    by_cases hlt : k < n
    · obtain ⟨hR, hG⟩ := H.out wr hb
      obtain ⟨b, off, rfl, -, d0, d1, d2, d3, d4⟩ := hR.at (k := k) (by rw [HL.out]; exact hlt)
      have I := ofI_ok (gt L k) id g wr hG
      have BB : Hd (Below w.heap.size w wr) := ⟨hb⟩
      clear hR hG hb
      have HT : Hd ((gt L k).id = id → ixI id L = (k : Int)) := ⟨fun e => HX.out.1 k hlt e hno.out⟩
      have HF : Hd ((gt L k).id ≠ id → ∀ j, j < k + 1 → (gt L j).id ≠ id) := ⟨fun e j hj => by
        rcases Nat.lt_or_eq_of_le (Nat.le_of_lt_succ hj) with h1 | h1
        · exact hno.out j h1
        · subst h1; exact e⟩
      clear hno
      by_cases e : (gt L k).id = id
      · have A : Hd (ixI id L = (k : Int)) := ⟨HT.out e⟩
        rw [show ((gt L k).id == id) = true from by simpa using e] at I
        clear HT HF
        generalize gt L k = z at *
        obtain ⟨z0, z1, z2, z3, z4⟩ := z
        simp only at d0 d1 d2 d3 d4 I
        clear e
        go_wp2_with (go_at_fn 26; refine I.mono ?_; rintro e w2 ⟨rfl, h2⟩)
        go_ret
        exact ⟨by rw [A.out]; rfl, BB.out.trans (h2.mono BB.out.size)⟩
      · have A : Hd (∀ j, j < k + 1 → (gt L j).id ≠ id) := ⟨HF.out e⟩
        rw [show ((gt L k).id == id) = false from by simpa using e] at I
        clear HT HF
        generalize gt L k = z at *
        obtain ⟨z0, z1, z2, z3, z4⟩ := z
        simp only at d0 d1 d2 d3 d4 I
        clear e
        go_wp2_with (go_at_fn 26; refine I.mono ?_; rintro e w2 ⟨rfl, h2⟩)
        go_roundw
        case rel => exact ⟨k + 1, by omega, by go_num, A, BB.out.trans (h2.mono BB.out.size)⟩
        case measure => simp [intOf]; omega
    · obtain rfl : k = n := by omega
      have A : Hd (ixI id L = -1) := ⟨HX.out.2 hno.out⟩
      clear hno
      go_wp2_with fail
      go_ret
      exact ⟨by rw [A.out]; rfl, hb⟩
end Go.Proofs.Ytemmkkcfjhmomab
