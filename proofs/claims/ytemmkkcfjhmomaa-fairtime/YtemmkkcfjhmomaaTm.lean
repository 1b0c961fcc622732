/-
  Virtual time never falls, and no lane in which somebody waits is ahead of it, or behind it by more than its first one's work: the walk. Conditions: the turns lie in memory.
-/
import Derived.Test.YtemmkkcfjhmomaaRw
import Derived.Test.YtemmkkcfjhmomaaAw
namespace Go.Proofs.Ytemmkkcfjhmomaa
open Go.RowKit

theorem rX_r (o g : Int) (H : Nat → Tn) (k : Nat) : (rX o g H k).r ≤ (rX o g H (k + 1)).r := tuX_r _ _ _
theorem rX_zero (o g : Int) (H : Nat → Tn) : (rX o g H 0).r = 0 := by
  show (nwX o g 64).r = 0
  unfold nwX
  split <;> rfl
theorem Below.five {w w' : World} {b : Nat} (h : Below b w w') : Below b w w' := ⟨h.os, h.tape, h.output, h.size, h.block⟩

set_option maxRecDepth 20000 in
set_option maxHeartbeats 1500000 in
theorem time_law (o g : Int) (a : Option Addr) (n c : Nat) (H : Nat → Tn) (w : World) (h : TnR w a n H) (hn : n ≤ 9223372036854775807) :
    Calls Try.prog 5 #[.int .i64 o, .int .i64 g, .slice a n c] w fun e w' => e = .returned (.bool true) ∧ Below w.heap.size w w' := by
  have I := awake_ok w
  by_cases hg : Good o g 64
  · have RU : Hd (∀ W, Below w.heap.size w W → Calls Try.prog 33 #[.int .i64 o, .int .i64 g, .slice a n c] W fun e w' => RunA w' o g H (min n 300) e ∧ Below W.heap.size W w') := ⟨fun W q => run_yes o g a n c H W (h.carry q) hn hg⟩
    have HIV : Hd (∀ k, k ≤ 300 → Iv g o 16 k (rX o g H k)) := ⟨fun k hk => Iv.run hg (Int.le_refl 16) k hk (fun i _ => clW_hi _)⟩
    clear h hg
    go_enter Try.func5, Try.ntmps5
    go_upto_region 3 with (go_at_call 9; refine I.mono ?_; rintro e w1 ⟨rfl, b1⟩)
    have R1 := RU.out w1 b1
    have HB1 : Hd (Below w.heap.size w w1) := ⟨b1⟩
    clear I RU b1
    go_wp2_with fail
    go_at_call 33
    refine R1.mono ?_
    rintro e w2 ⟨⟨aa, ca, af, cf, aw, cw, rfl, al, -, -⟩, b2⟩
    obtain ⟨m, hm⟩ : ∃ m, m = min n 300 := ⟨_, rfl⟩
    have HM : Hd (m ≤ 300) := ⟨by omega⟩
    rw [← hm] at al ⊢
    have H2 : Hd (AlR w2 aa m (fun k => rX o g H (k + 1)) ∧ Below w.heap.size w w2) := ⟨al, HB1.out.trans (b2.mono HB1.out.size)⟩
    clear R1 HB1 b2 al hm
    go_wp2_with fail
    go_loopw [13, 14] (fun s i wr => ∃ k : Nat, k ≤ m ∧ i = .int .i64 k ∧ s = .int .u64 (rX o g H k).r ∧ Below w2.heap.size w2 wr) (fun _ i _ => m - (intOf i).toNat)
    case atStart => exact ⟨0, Nat.zero_le _, rfl, by rw [rX_zero], Below.refl _ _⟩
    case round =>
      obtain ⟨k, hk, rfl, rfl, q3⟩ := hrel
      by_cases hlt : k < m
      · obtain ⟨b, off, rfl, hb, hc⟩ := (H2.out.1.carry q3) (by omega)
        obtain ⟨a4, c4, ⟨y0, y1, y2, y3, y4⟩, l4⟩ := hc k hlt
        obtain ⟨x, hx⟩ : ∃ x, x = rX o g H (k + 1) := ⟨_, rfl⟩
        have HX : Hd (x = rX o g H (k + 1)) := ⟨hx⟩
        have IV : Hd (Iv g o 16 (k + 1) x) := ⟨by rw [hx]; exact HIV.out (k + 1) (by have := HM.out; omega)⟩
        have hxl : x.F.length ≤ 64 := by have := IV.out.len; have := IV.out.ho; omega
        have hr : (rX o g H k).r ≤ x.r := by rw [hx]; exact rX_r o g H k
        obtain ⟨last, hlast⟩ : ∃ last, last = (rX o g H k).r := ⟨_, rfl⟩
        rw [← hlast] at hr ⊢
        simp only [← hx] at y0 y1 y2 y3 y4 l4
        obtain ⟨w5, hw5⟩ : ∃ w5, w5 = wr.alloc (.cells #[.int .u64 x.r, .int .i64 x.g, .int .i64 x.n, .int .i64 x.o, .slice a4 x.F.length c4] 25) := ⟨_, rfl⟩
        have B5 : Below wr.heap.size wr w5 := by rw [hw5]; exact alloc_below _ _
        have N5 : Blk w5 wr.heap.size 25 (faA x.r x.g x.n x.o (.slice a4 x.F.length c4)) := by rw [hw5]; exact Blk.new _ _ _
        obtain ⟨g5, hg5⟩ : ∃ g5, g5 = wr.heap.size := ⟨_, rfl⟩
        rw [← hg5] at N5
        have P5 : Hd (Blk w5 g5 25 (faA x.r x.g x.n x.o (.slice a4 x.F.length c4)) ∧ LsR w5 a4 c4 x.F ∧ Below w2.heap.size w2 w5) := ⟨N5, l4.carry B5, q3.trans (B5.mono q3.size)⟩
        clear hx hlast hc l4 B5 q3 N5
        obtain ⟨⟨x0, x1, x2, x3, x4⟩, -⟩ := P5.out.1.fair
        have i1 : (k : Int) < (m : Int) := by omega
        have hr2 : ¬ x.r < last := by omega
        go_upto_region 12 with fail
        rw [← hw5, ← hg5]
        clear hw5 hg5 y0 y1 y2 y3 y4
        go_wp2_with fail
        clear x0 x1 x2 x3 x4
        go_loopw [16] (fun i wb => ∃ j : Nat, j ≤ x.F.length ∧ i = .int .i64 j ∧ Below w5.heap.size w5 wb) (fun i _ => x.F.length - (intOf i).toNat)
        case atStart => exact ⟨0, Nat.zero_le _, rfl, Below.refl _ _⟩
        case round =>

          obtain ⟨j, hj, rfl, q6⟩ := hrel
          obtain ⟨⟨x0, x1, x2, x3, x4⟩, -⟩ := (P5.out.1.kept (Kept.of_below q6 (fun _ => False)) (fun h => h)).fair
          by_cases hl2 : j < x.F.length
          · obtain ⟨b1, o1, a1, c1, rfl, hb1, d0, d1, s1⟩ := (P5.out.2.1.carry q6).at hl2
            have LI := IV.out.ln j
            have hw : Word (gl x.F j).s := ⟨LI.s0, by have := LI.s1; have := IV.out.r1; have := HM.out; omega⟩
            have i3 : (j : Int) < (x.F.length : Int) := by omega
            have FN : Hd (∀ Y, Below wr.heap.size wr Y → Calls Try.prog 34 #[.agg #[.int .u64 (gl x.F j).s, .slice a1 (gl x.F j).L.length c1], .int .i64 x.g] Y fun e w' => e = .returned (.tuple #[.int .u64 (fN x.g (gl x.F j)), .bool (hasI (gl x.F j).L)]) ∧ Below Y.heap.size Y w') := ⟨fun Y q => finish_ok _ a1 c1 _ x.g Y hw (s1.carry q).2.2 (by have := LI.len; omega)⟩
            have HY0 : Hd (∀ Y, Below wr.heap.size wr Y → (Y.cell? ⟨g5, 0, none⟩ = some (.int .u64 x.r) ∧ Y.cell? ⟨g5, 1, none⟩ = some (.int .i64 x.g) ∧ Y.cell? ⟨g5, 2, none⟩ = some (.int .i64 x.n) ∧ Y.cell? ⟨g5, 3, none⟩ = some (.int .i64 x.o) ∧ Y.cell? ⟨g5, 4, none⟩ = some (.slice (some ⟨b1, o1, none⟩) x.F.length c4)) ∧ (Y.cell? ⟨b1, o1 + j * 2, none⟩ = some (.int .u64 (gl x.F j).s) ∧ Y.cell? ⟨b1, o1 + j * 2 + 1, none⟩ = some (.slice a1 (gl x.F j).L.length c1)) ∧ Below w5.heap.size w5 Y) := ⟨fun Y q => by
              have qq := q6.trans (q.mono q6.size)
              have K4 : Kept (fun _ => False) wr Y := Kept.of_below q _
              exact ⟨(P5.out.1.kept (Kept.of_below qq (fun _ => False)) (fun h => h)).fair.1, ⟨(World.cell?_of_block (K4.block b1 hb1 id)).trans d0, (World.cell?_of_block (K4.block b1 hb1 id)).trans d1⟩, qq⟩⟩
            have HLI : Hd (LnI x.r x.g 16 (gl x.F j)) := ⟨by rw [IV.out.eg]; exact LI⟩
            have E0 : Hd (hasI (gl x.F j).L = true → (gl x.F j).L ≠ []) := ⟨fun e h => by rw [h] at e; cases e⟩
            clear LI hw q6 s1 d0 d1 hb1
            have HFI0 : (gl x.F j).L ≠ [] → x.r ≤ fN x.g (gl x.F j) := HLI.out.fin
            generalize hasI (gl x.F j).L = okb at *
            generalize fN x.g (gl x.F j) = fin at *
            have HFI : Hd ((gl x.F j).L ≠ [] → x.r ≤ fin) := ⟨HFI0⟩
            clear HFI0
            obtain ⟨s, hs⟩ : ∃ s, s = (gl x.F j).s := ⟨_, rfl⟩
            obtain ⟨ll, hll⟩ : ∃ ll, ll = (gl x.F j).L.length := ⟨_, rfl⟩
            rw [← hs, ← hll] at FN HY0
            have HS : Hd (s = (gl x.F j).s) := ⟨hs⟩
            clear hll hs
            go_upto_region 18 with fail
            clear x0 x1 x2 x3 x4
            refine AnyG.start (T := fun Y => Below wr.drew.heap.size wr.drew Y) (U := fun _ => True) (j0 := 100) (by kernel_rfl) ?_
            have BD : Below wr.heap.size wr wr.drew := (Below.refl _ _).drew
            generalize wr.drew = w6 at *
            have HY : Hd (∀ Y, Below w6.heap.size w6 Y → _) := ⟨fun Y q => HY0.out Y (BD.trans (q.mono BD.size))⟩
            have FN := FN.out w6 BD
            have R : Below w6.heap.size w6 w6 := Below.refl _ _
            clear HY0 BD
            refine .tq 0 64 R ?_; simp only [oqA, oqB, oqC]
            refine .tq 1 65 R ?_ (hy := fun w hSw => by have s := (HY.out w hSw).1; go_simp; rfl); simp only [oqA, oqB, oqC]
            refine .tq 2 66 R ?_; simp only [oqA, oqB, oqC]
            refine .tq 3 67 R ?_; simp only [oqA, oqB, oqC]
            refine .tq 4 68 R ?_ (hy := fun w hSw => by have s := (HY.out w hSw).2.1; go_simp; rfl); simp only [oqA, oqB, oqC]
            refine .tq 5 69 R ?_; simp only [oqA, oqB, oqC]
            refine .tq 6 70 R ?_ (hy := fun w hSw => by have s := (HY.out w hSw).1; go_simp; rfl); simp only [oqA, oqB, oqC]
            have FC := FN
            refine AnyG.ready (rs := [7]) (by kernel_rfl) (by simp) ?_
            refine AllG.cons rfl (fun K hK => ?_) AllG.nil
            go_simp
            refine FC.mono ?_
            rintro e w7 ⟨rfl, b7⟩
            have R7 : Below w6.heap.size w6 w7 := R.trans (b7.mono R.size)
            refine hK.out _ _ ⟨R7, fun _ => trivial⟩ ?_
            clear hK K FC b7
            refine .tq 8 63 R7 ?_; simp only [oqA, oqB, oqC]
            refine .tq 9 72 R7 ?_; simp only [oqA, oqB, oqC]
            refine .tq 10 73 R7 ?_; simp only [oqA, oqB, oqC]
            refine .tq 11 17 R7 ?_; simp only [oqA, oqB, oqC]
            refine .tq 12 18 R7 ?_; simp only [oqA, oqB, oqC]
            refine AnyG.done (by kernel_rfl) ?_ _
            obtain ⟨⟨z0, z1, z2, z3, z4⟩, ⟨e0, e1⟩, q7⟩ := HY.out w7 R7
            have P7 : Hd (Below w5.heap.size w5 w7) := ⟨q7⟩
            clear q7 HY R R7
            go_upto_region 19 with fail
            cases okb with
            | false =>
              clear HLI E0 HS HFI
              go_quiet (fail)
              go_wp2
              go_roundw
              case rel => exact ⟨j + 1, by omega, by go_num, ⟨P7.out.os, P7.out.tape, P7.out.output, P7.out.size, P7.out.block⟩⟩
              case measure => simp [intOf]; omega
            | true =>
              have hd1 : decide (x.r < s) = false := decide_eq_false (by have := HLI.out.s1; have := HS.out; omega)
              have hd2 : decide (fin < x.r) = false := decide_eq_false (by have := HFI.out (E0.out rfl); omega)
              clear HLI E0 HS HFI
              go_quiet (fail)
              go_wp2
              go_roundw
              case rel => exact ⟨j + 1, by omega, by go_num, ⟨P7.out.os, P7.out.tape, P7.out.output, P7.out.size, P7.out.block⟩⟩
              case measure => simp [intOf]; omega
          · obtain rfl : j = x.F.length := by omega
            have Q : Hd (Below w2.heap.size w2 wr) := ⟨P5.out.2.2.trans (q6.mono P5.out.2.2.size)⟩
            clear q6
            have hm3 := HM.out
            go_wp2
            go_roundw
            case rel => exact ⟨k + 1, by omega, by go_num, by rw [HX.out], Q.out⟩
            case measure => simp [intOf]; omega
      · obtain rfl : k = m := by omega
        have Q : Hd (Below w.heap.size w wr) := ⟨H2.out.2.trans (q3.mono H2.out.2.size)⟩
        clear q3
        go_wp2_with fail
        go_ret
        exact ⟨rfl, Q.out⟩
  · have RU : Hd (∀ W, Calls Try.prog 33 #[.int .i64 o, .int .i64 g, .slice a n c] W fun e w' => e = .returned (.tuple #[.slice none 0 0, .slice none 0 0, .slice none 0 0, .bool false]) ∧ Below W.heap.size W w') := ⟨fun W => run_no o g a n c W hg⟩
    have NW : Hd (∀ W, Calls Try.prog 12 #[.int .i64 o, .int .i64 g, .int .i64 64] W fun e w' => e = .returned (.tuple #[faZ, .int .i64 1]) ∧ Below W.heap.size W w') := ⟨fun W => new_no o g 64 W hg⟩
    clear h hg
    go_enter Try.func5, Try.ntmps5
    go_upto_region 3 with (go_at_call 9; refine I.mono ?_; rintro e w1 ⟨rfl, b1⟩)
    clear I
    go_wp2_with fail
    go_at_call 33
    refine (RU.out w1).mono ?_
    rintro e w2 ⟨rfl, b2⟩
    go_wp2_with fail
    go_at_call 12
    refine (NW.out w2).mono ?_
    rintro e w3 ⟨rfl, b3⟩
    have Q : Hd (Below w.heap.size w (w3.alloc (.cells #[.int .u64 0, .int .i64 0, .int .i64 0, .int .i64 0, .slice none 0 0] 25))) := ⟨((b1.trans (b2.mono b1.size)).trans (b3.mono (by have := b1.size; have := b2.size; omega))).trans ((alloc_below w3 _).mono (by have := b1.size; have := b2.size; have := b3.size; omega))⟩
    clear b1 b2 b3 RU NW
    go_wp2_with fail
    go_ret
    exact ⟨rfl, Q.out⟩
end Go.Proofs.Ytemmkkcfjhmomaa
