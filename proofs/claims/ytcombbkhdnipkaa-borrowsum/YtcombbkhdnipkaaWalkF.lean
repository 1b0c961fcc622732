/-
  What 'Spread' of the reference answers where nothing is refused: the program's parts. Conditions: the lists lie in memory; nothing is refused.
-/
import Derived.Test.YtcombbkhdnipkaaWalkE
namespace Go.Proofs.Ytcombbkhdnipkaa
open Go.RowKit

/-- What the reference works on: nothing, or a row of its own. -/
def Mine (B n : Nat) (w : World) (v : Value) (f : Nat → Int) : Prop :=
  (n = 0 ∧ ∃ a c, v = .slice a 0 c) ∨ (0 < n ∧ ∃ g c, v = .slice (some ⟨g, 0, none⟩) n c ∧ B ≤ g ∧ Own w g n f)

theorem Mine.of {w : World} {B n : Nat} {v : Value} {f : Nat → Int} (h : w.ownsRow B 3 1 v n (cellsOf f n)) : Mine B n w v f := by
  rcases Nat.eq_zero_or_pos n with rfl | hn
  · rcases id h.2 with ⟨rfl, _⟩ | ⟨g, cap, cur, rfl, _⟩
    · exact .inl ⟨rfl, _, _, rfl⟩
    · exact .inl ⟨rfl, _, _, rfl⟩
  · rcases id h.2 with ⟨_, h0⟩ | ⟨g, cap, cur, rfl, hb, _⟩
    · omega
    · exact .inr ⟨hn, g, cap, rfl, hb, Own.owned h⟩

theorem mul_in {x y : Int} (h1 : 0 ≤ x) (h2 : x ≤ 4097) (h3 : 0 ≤ y) (h4 : y ≤ 1048577) : 0 ≤ x * y ∧ x * y ≤ 4296019969 :=
  ⟨Int.mul_nonneg h1 h3, Int.le_trans (Int.mul_le_mul h2 h4 h3 (by omega)) (by decide)⟩

set_option maxRecDepth 20000 in
set_option maxHeartbeats 3000000 in
theorem ref_yes (total : Int) (a b d : Option Addr) (n c1 c2 c3 : Nat) (lo hi want : Nat → Int) (w : World) (r1 : Row w a n lo) (r2 : Row w b n hi) (r3 : Row w d n want) (hc : a = none → n = 0 ∧ c1 = 0) (hf : Fits total n lo hi want) :
    Calls Try.prog 16 #[.int .i64 total, .slice a n c1, .slice b n c2, .slice d n c3] w fun e w' => ∃ a' cap', e = .returned (.tuple #[.slice a' n cap', .int .i64 0]) ∧ Row w' a' n (part total n lo hi want) ∧ Below w.heap.size w w' := by
  obtain ⟨i0, hi0, hz0, hz1, hz2⟩ := info_parts Try.info3
  have hlen := hf.len
  have hlow := hf.low
  have hhigh := hf.high
  have hleast := hf.least
  have hmost := hf.most
  go_enter Try.func16, Try.ntmps16
  go_wp2
  go_loopw [10, 11, 12] (fun s t i wr => ∃ k : Nat, k ≤ n ∧ i = .int .i64 k ∧ s = .int .i64 (sumTo lo k) ∧ t = .int .i64 (sumTo hi k) ∧ Below w.heap.size w wr) (fun _ _ i _ => n - (intOf i).toNat)
  case atStart => exact ⟨0, Nat.zero_le _, rfl, rfl, rfl, Below.refl _ _⟩
  case round =>
    obtain ⟨k, hk, rfl, rfl, rfl, p3⟩ := hrel
    obtain ⟨s1, s2⟩ := sumTo_le (f := lo) (M := 4096) (fun j hj => by have := hf.each j hj; omega) k hk
    obtain ⟨s3, s4⟩ := sumTo_le (f := hi) (M := 4096) (fun j hj => by have := hf.each j hj; omega) k hk
    by_cases hlt : k < n
    · obtain ⟨b1, o1, rfl, hb1, hc1⟩ := r1 (by omega)
      obtain ⟨b2, o2, rfl, hb2, hc2⟩ := r2 (by omega)
      obtain ⟨b3, o3, rfl, hb3, hc3⟩ := r3 (by omega)
      have d1 := (p3.cell (p := ⟨b1, o1 + k, none⟩) hb1).trans (hc1 k hlt)
      have d2 := (p3.cell (p := ⟨b2, o2 + k, none⟩) hb2).trans (hc2 k hlt)
      have d3 := (p3.cell (p := ⟨b3, o3 + k, none⟩) hb3).trans (hc3 k hlt)
      have hlt' : (k : Int) < (n : Int) := by omega
      obtain ⟨v1, v2, v3, v4, v5⟩ := hf.each k hlt
      have g1 : decide (lo k < 0) = false := by simpa using v1
      have g2 : decide (hi k < lo k) = false := by simpa using v2
      have g3 : decide (4096 < hi k) = false := by simpa using v3
      have g4 : decide (want k < 0) = false := by simpa using v4
      have g5 : decide (1048576 < want k) = false := by simpa using v5
      clear hc1 hc2 hc3 r1 r2 r3 hf hc
      go_wp2
      go_quiet (fail)
      go_wp2
      go_roundw
      case rel => exact ⟨k + 1, by omega, by go_num, by simp [sumTo], by simp [sumTo], ⟨p3.os, p3.tape, p3.output, p3.size, p3.block⟩⟩
      case measure => simp [intOf]; omega
    · obtain rfl : k = n := by omega
      have q1 := r1.carry p3
      have hsz := p3.size
      clear r1 s2 s4
      have hown : wr.ownsRow w.heap.size 3 1 (.slice none 0 0) 0 [] := World.ownsRow_nil _ _ _ _
      obtain ⟨wo, ew⟩ : ∃ wo, wo = wr := ⟨_, rfl⟩
      subst ew
      cases a with
      | none =>
        obtain ⟨rfl, rfl⟩ := hc rfl
        obtain rfl : total = 0 := by simp only [sumTo] at hmost; omega
        have z1 : sumTo lo 0 = 0 := rfl
        have z2 : sumTo hi 0 = 0 := rfl
        clear hf s1 s3 r2 r3 q1 hc hleast hmost
        go_wp2_with (at_builtin; refine wpList_append_own_none rfl _ _ 25 rfl w.heap.size 3 i0 1 Try.underlying25 hi0 _ _ _ rfl hown rfl ?_)
        go_loopw [14] (fun i wr => i = .int .i64 0 ∧ Below w.heap.size w wr) (fun _ _ => 0)
        case atStart => exact ⟨rfl, p3⟩
        case round =>
          obtain ⟨rfl, hb⟩ := hrel
          go_wp2
          go_ret2
          exact ⟨_, _, rfl, fun h => by omega, hb⟩
      | some x =>
        go_wp2_with (at_builtin; refine wpList_append_own _ rfl _ _ 25 rfl w.heap.size 3 i0 (.int .i64 0) 1 8 Try.underlying25 hi0 hz0 hz1 hz2 rfl (by decide) _ _ _ rfl hown x k c1 (cellsOf lo k) rfl (by simp [cellsOf]) (cells_at q1) (cells_one lo k) (by unfold maxLen; omega) (by omega) hsz ?_; intro v' w2 hown' hgrow hnil)
        have hb2 : Below w.heap.size w w2 := p3.grown hgrow hsz (fun q e => absurd (show (none : Option Nat) = some q from e) (by simp))
        rw [Nat.zero_add, List.nil_append] at hown'
        have hmine := Mine.of hown'
        clear hown' hnil hgrow hown q1 p3 hsz hc
        rcases hmine with ⟨rfl, a', c', rfl⟩ | ⟨hpos, g, c', rfl, hg, own⟩
        · obtain rfl : total = 0 := by simp only [sumTo] at hmost; omega
          clear hf s1 s3 r2 r3 hleast hmost
          go_loopw [14] (fun i wr => i = .int .i64 0 ∧ Below w.heap.size w wr) (fun _ _ => 0)
          case atStart => exact ⟨rfl, hb2⟩
          case round =>
            obtain ⟨rfl, hb⟩ := hrel
            go_wp2
            go_ret2
            exact ⟨_, _, rfl, fun h => by omega, hb⟩
        · go_loopw [14] (fun i wr => ∃ j : Nat, (j : Int) ≤ total - sumTo lo k ∧ i = .int .i64 (sumTo lo k + j) ∧ Own wr g k (give k hi want lo j) ∧ Below w.heap.size w wr) (fun i _ => (total - intOf i).toNat)
          case atStart => exact ⟨0, by omega, by simp, own, hb2⟩
          case round =>
            clear own hb2
            obtain ⟨j, hj, rfl, p1, hb5⟩ := hrel
            by_cases hlt3 : sumTo lo k + j < total
            · have hd := hf.done j hj
              obtain ⟨t, e, hbest⟩ := hf.next j (by omega)
              have ht : t < k := hbest.2.1
              have E2 : Hid (upd (give k hi want lo j) t (give k hi want lo j t + 1) = give k hi want lo (j + 1)) := by show _ = _; simp only [give]; rw [e]; rfl
              have hp : ∀ i, i < k → 0 ≤ give k hi want lo j i ∧ give k hi want lo j i ≤ 4096 := fun i hi' => by have := hd.between i hi'; have := hf.each i hi'; omega
              have hu : ∀ i, i < k → 0 ≤ want i ∧ want i ≤ 1048576 := fun i hi' => by have := hf.each i hi'; omega
              have q2 := r2.carry hb5
              have q3 := r3.carry hb5
              clear hd e hf r2 r3
              generalize give k hi want lo j = P at *
              obtain ⟨wi, ew⟩ : ∃ wi, wi = wr := ⟨_, rfl⟩
              subst ew
              go_wp2
              go_loopw [15, 16] (fun r i wq => ∃ q : Nat, ∃ y : Int, q ≤ k ∧ i = .int .i64 ((q : Int) - 1) ∧ r = .int .i64 y ∧ Hid (Seen P hi want q k y) ∧ Below wi.heap.size wi wq) (fun _ i _ => (intOf i + 1).toNat)
              case atStart => exact ⟨k, -1, Nat.le_refl _, rfl, rfl, .inl ⟨rfl, fun i h1 h2 => by omega⟩, Below.refl _ _⟩
              case round =>
                obtain ⟨q, y, hq, rfl, rfl, hseen, hb6⟩ := hrel
                rcases Nat.eq_zero_or_pos q with rfl | hq1
                · rcases hseen.out with ⟨_, hno⟩ | ⟨b', rfl, hb'⟩
                  · exact absurd hbest.2.2.1 (hno t (Nat.zero_le _) ht)
                  · obtain rfl := hbest.unique hb'
                    have o1 := p1.carry hb6
                    have st := o1.store t (P t + 1) ht
                    rw [E2.out] at st
                    have hb7 : Below w.heap.size w wr := hb5.trans (hb6.mono hb5.size)
                    have hb8 := hb7.setCell (p := ⟨g, t, none⟩) hg (.int .i64 (P t + 1))
                    obtain ⟨d1, f1⟩ := o1.2 t ht
                    obtain ⟨v1, v2⟩ := hp t ht
                    have i1 : (t : Int) < (k : Int) := by omega
                    rw [show ((0 : Nat) : Int) - 1 = -1 from rfl]
                    have ST : Hid (Own _ _ _ _ ∧ Below _ _ _) := ⟨st, hb8⟩
                    clear p1 hb5 hb6 hb7 hb8 st o1 q2 q3 hp hu hbest hb' hseen
                    go_wp2
                    go_roundw
                    case rel => exact ⟨j + 1, by omega, by go_num, ST.out⟩
                    case measure => simp [intOf]; omega
                · obtain ⟨q, rfl⟩ : ∃ q', q = q' + 1 := ⟨q - 1, by omega⟩
                  have hqk : q < k := by omega
                  rw [show ((q + 1 : Nat) : Int) - 1 = (q : Int) by omega]
                  obtain ⟨b2, o2, rfl, hb2', hc2⟩ := q2 (by omega)
                  obtain ⟨b3, o3, rfl, hb3', hc3⟩ := q3 (by omega)
                  have d1 := (hb6.cell (p := ⟨g, q, none⟩) p1.1).trans (p1.2 q hqk).1
                  have d2 := (hb6.cell (p := ⟨b2, o2 + q, none⟩) hb2').trans (hc2 q hqk)
                  have d3 := (hb6.cell (p := ⟨b3, o3 + q, none⟩) hb3').trans (hc3 q hqk)
                  obtain ⟨v1, v2⟩ := hp q hqk
                  obtain ⟨u1', u2'⟩ := hu q hqk
                  have i1 : (q : Int) < (k : Int) := by omega
                  by_cases c : P q < hi q
                  · rcases hseen.out with ⟨rfl, hno⟩ | ⟨y', rfl, hy⟩
                    · have s' : Hid (Seen P hi want q k q) := hseen.out.first hqk c
                      clear p1 hc2 hc3 q2 q3 hp hu hbest hseen hno hb5
                      go_wp2
                      go_quiet (fail)
                      go_wp2
                      go_roundw
                      case rel => exact ⟨q, (q : Int), by omega, by go_num, rfl, s', ⟨hb6.os, hb6.tape, hb6.output, hb6.size, hb6.block⟩⟩
                      case measure => simp [intOf]
                    · have hyk : y' < k := hy.2.1
                      have i2 : (y' : Int) < (k : Int) := by omega
                      have g0 : decide ((y' : Int) < 0) = false := by simp
                      have d4 := (hb6.cell (p := ⟨g, y', none⟩) p1.1).trans (p1.2 y' hyk).1
                      have d5 := (hb6.cell (p := ⟨b3, o3 + y', none⟩) hb3').trans (hc3 y' hyk)
                      obtain ⟨v3, v4⟩ := hp y' hyk
                      obtain ⟨u3', u4'⟩ := hu y' hyk
                      obtain ⟨m1, m2⟩ := mul_in (x := P q + 1) (y := want y' + 1) (by omega) (by omega) (by omega) (by omega)
                      obtain ⟨m3, m4⟩ := mul_in (x := P y' + 1) (y := want q + 1) (by omega) (by omega) (by omega) (by omega)
                      by_cases l : less P want y' q
                      · have s' : Hid (Seen P hi want q k y') := hseen.out.keep l
                        have g1 : decide ((P q + 1) * (want y' + 1) ≤ (P y' + 1) * (want q + 1)) = false := by unfold less at l; simp; omega
                        clear p1 hc2 hc3 q2 q3 hp hu hbest hseen hy hb5 l
                        go_wp2
                        go_quiet (fail)
                        go_wp2
                        go_roundw
                        case rel => exact ⟨q, (y' : Int), by omega, by go_num, rfl, s', ⟨hb6.os, hb6.tape, hb6.output, hb6.size, hb6.block⟩⟩
                        case measure => simp [intOf]
                      · have s' : Hid (Seen P hi want q k q) := hseen.out.take (fun i hi' => (hu i hi').1) hqk c l
                        have g1 : (P q + 1) * (want y' + 1) ≤ (P y' + 1) * (want q + 1) := by unfold less at l; omega
                        clear p1 hc2 hc3 q2 q3 hp hu hbest hseen hy hb5 l
                        go_wp2
                        go_quiet (fail)
                        go_wp2
                        go_roundw
                        case rel => exact ⟨q, (q : Int), by omega, by go_num, rfl, s', ⟨hb6.os, hb6.tape, hb6.output, hb6.size, hb6.block⟩⟩
                        case measure => simp [intOf]
                  · have s' : Hid (Seen P hi want q k y) := hseen.out.skip c
                    have g1 : decide (P q < hi q) = false := by simpa using c
                    clear p1 hc2 hc3 q2 q3 hp hu hbest hseen hb5
                    go_wp2
                    go_quiet (fail)
                    go_wp2
                    go_roundw
                    case rel => exact ⟨q, y, by omega, by go_num, rfl, s', ⟨hb6.os, hb6.tape, hb6.output, hb6.size, hb6.block⟩⟩
                    case measure => simp [intOf]
            · have ej : (total - sumTo lo k).toNat = j := by omega
              have q1 : Own wr g k (part total k lo hi want) := by unfold part; rw [ej]; exact p1
              clear p1 hf r2 r3
              go_wp2
              go_ret2
              exact ⟨_, ⟨_, rfl⟩, q1.row, hb5⟩
end Go.Proofs.Ytcombbkhdnipkaa
