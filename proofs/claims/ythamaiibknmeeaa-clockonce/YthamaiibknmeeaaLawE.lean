/-
  The walk of the statement 'ClockOnce'. Conditions: the lists lie in memory.
-/
import Derived.Test.YthamaiibknmeeaaAid
namespace Go.Proofs.Ythamaiibknmeeaa
open Go.RowKit Go.Lib Go.Sort Go.Maps

set_option maxRecDepth 20000 in
set_option maxHeartbeats 16000000 in
theorem once_walk (a : Option Addr) (n cap : Nat) (f : Nat → Int × Int) (a1 : Option Addr) (n1 cap1 : Nat) (f1 : Nat → Int) (to : Int) (w : World) (hr : DRow w a n f) (hwf : ∀ k, k < n → WfD (f k)) (hn : n ≤ 9223372036854775807) (hr1 : RowI w a1 n1 f1) (hwf1 : ∀ k, k < n1 → WfI (f1 k)) (hn1 : n1 ≤ 9223372036854775807) :
    Calls Try.prog 5 #[.slice a n cap, .slice a1 n1 cap1, .int .i64 to] w fun e w' => e = .returned (.bool true) ∧ Below w.heap.size w w' := by
  obtain ⟨m, m1, m2, m3⟩ : ∃ m, m ≤ n ∧ m ≤ 300 ∧ (m = n ∨ m = 300) := ⟨min n 300, by omega, by omega, by omega⟩
  obtain ⟨mm, mm1, mm2, mm3⟩ : ∃ m, m ≤ n1 ∧ m ≤ 100 ∧ (m = n1 ∨ m = 100) := ⟨min n1 100, by omega, by omega, by omega⟩
  have hat := laidM_at f m
  have hle := laidN_le f m
  have A := awake_any w
  go_enter Try.func5, Try.ntmps5
  go_wp2_with fail
  go_at_call 8
  refine A.mono ?_
  rintro e w1 ⟨rfl, b1⟩
  clear A
  have LA := laid_any a n cap f w1 (hr.carry b1) hwf hn m m1 m2 m3
  go_wp2_with fail
  go_at_call 21
  refine LA.mono ?_
  rintro e w2 ⟨cb, rfl, F2, b2⟩
  clear LA
  have b2' := b1.trans (b2.mono b1.size)
  have F2' := F2.base b1.size
  clear b1 b2 F2
  generalize laidM f m = M at *
  generalize laidN f m = N at *
  go_wp2_with fail
  go_loopw [8, 9] (fun c i wr => ∃ (k : Nat) (M' : Int × Int → Prop) (n' : Nat), k ≤ mm ∧ i = .int .i64 k ∧ c = .int .i64 n' ∧ n' ≤ 300 ∧ From w.heap.size wr cb 0 M' n' ∧ (∀ y, M' y → M y) ∧ Below w.heap.size w wr) (fun _ i _ => mm - (intOf i).toNat)
  case atStart => exact ⟨0, M, N, Nat.zero_le _, rfl, rfl, by omega, F2', fun _ h => h, b2'⟩
  case round =>
    obtain ⟨k, M', n', hk, rfl, rfl, hn', F, hM', bk⟩ := hrel
    clear F2' b2'
    by_cases hlt : k < mm
    · have i1 : (k : Int) < (n1 : Int) := by omega
      have i2 : (k : Int) < 100 := by omega
      obtain ⟨b, off, rfl, hb, hc⟩ := hr1 (by omega)
      have d1 := (bk.cell (p := ⟨b, off + k, none⟩) hb).trans (hc k (by omega))
      have CN := F.cancel (f1 k) (hwf1 k (by omega))
      have hl := F.has_le (f1 k)
      clear hc hr1 hr hwf1 hwf F
      go_wp2_with fail
      go_at_call 12
      refine CN.mono ?_
      rintro e w3 ⟨rfl, F3, b3⟩
      have b4 := bk.trans b3
      clear CN b3 d1
      by_cases c : has M' (f1 k) = 1
      · rw [if_pos c]
        rw [c] at F3
        go_wp2
        go_roundw
        case rel => exact ⟨k + 1, _, n' - 1, by omega, by go_num, by go_num, by omega, F3, fun y h => hM' y h.1, b4⟩
        case measure => simp [intOf]; omega
      · rw [if_neg c]
        have c0 : has M' (f1 k) = 0 := by
          unfold has at c ⊢
          split
          · rename_i h; exact absurd (if_pos h) c
          · rfl
        rw [c0] at F3
        go_wp2
        go_roundw
        case rel => exact ⟨k + 1, _, n' - 0, by omega, by go_num, by go_num, by omega, F3, fun y h => hM' y h.1, b4⟩
        case measure => simp [intOf]; omega
    · obtain rfl : k = mm := by omega
      obtain ⟨h0, S, C, hS⟩ := F
      have hMf : ∀ y, M' y → ∃ q, q < m ∧ f q = y := fun y hy => hat y (hM' y hy)
      clear hr1 hwf1 hM' hat
      by_cases c : k < n1
      · have i1 : (k : Int) < (n1 : Int) := by omega
        have i2 : ¬ (k : Int) < 100 := by omega
        clear mm1 mm2 mm3 hlt hk
        by_cases c1 : to < 0
        · go_wp2
          go_ret
          exact ⟨rfl, bk⟩
        by_cases c2 : 1099511627776 < to
        · go_wp2
          go_ret
          exact ⟨rfl, bk⟩
        have AD := advance_ok C to (by omega) (by omega)
        have hSl := C.lt
        have hw2 := fun (y : Int × Int) (hy : M' y) => (C.wf hy).2
        have hids := fun (y z : Int × Int) (hy : M' y) (hz : M' z) (e : y.2 = z.2) => C.ids hy hz e
        obtain ⟨wo, ew⟩ : ∃ wo, wo = wr := ⟨_, rfl⟩
        subst ew
        go_wp2_with fail
        go_at_call 14
        refine AD.mono ?_
        rintro e w4 ⟨v, L, rfl, D4, hL, hLn, C4, k4, _⟩
        have bk4 := bk.trans (k4.below h0 hS)
        obtain ⟨da, dcap, rfl, _, _, _, _⟩ := D4.form
        have LF := left_any C4
        have hsum : (L.length : Int) + ((n' - L.length : Nat) : Int) = (n' : Int) := by omega
        obtain ⟨nl, hnl⟩ : ∃ nl, nl = n' - L.length := ⟨_, rfl⟩
        rw [← hnl] at C4 LF hsum
        have hbound : nl ≤ 300 := by omega
        have hbound2 : L.length ≤ 300 := by omega
        clear AD C k4 hnl
        go_wp2_with fail
        go_at_call 20
        refine LF.mono ?_
        rintro e w' ⟨rfl, hw⟩
        obtain rfl := hw.symm
        clear LF
        go_wp2_with fail
        go_loopw [12, 13, 14] (fun i _ _ wr => ∃ k2 : Nat, k2 ≤ L.length ∧ i = .int .i64 k2 ∧ Clk wr cb S to (fun y => M' y ∧ to < y.1) nl ∧ DOwn wo.heap.size wr (.slice da L.length dcap) L ∧ Below w.heap.size w wr) (fun i _ _ _ => L.length - (intOf i).toNat)
        case atStart => exact ⟨0, Nat.zero_le _, rfl, C4, D4, bk4⟩
        case round =>
          obtain ⟨k2, hk2, rfl, C5, D5, bk5⟩ := hrel
          clear C4 D4 bk4
          by_cases hlt2 : k2 < L.length
          · have j1 : (k2 : Int) < (L.length : Int) := by omega
            obtain ⟨g, rfl, hcl⟩ := D5.at hlt2
            obtain ⟨x, hx⟩ : ∃ x, x = L.getD k2 (0, 0) := ⟨_, rfl⟩
            have hxL : x ∈ L := by
              rw [hx, List.getD_eq_getElem?_getD, List.getElem?_eq_getElem hlt2]
              exact List.getElem_mem hlt2
            obtain ⟨hx1, hx2⟩ := (hL.2 x).1 hxL
            obtain ⟨y0, y1⟩ := hcl k2 hlt2
            rw [← hx] at y0 y1
            have g0 : decide (to < x.1) = false := by simp; omega
            have hx' : Hid (x = L.getD k2 (0, 0)) := hx
            clear hx
            by_cases hz : k2 = 0
            · have g1 : ¬ (0 : Int) < (k2 : Int) := by omega
              have g2 : ¬ 0 < k2 := by omega
              clear hcl hz
              go_wp2_with fail
              go_quiet (fail)
              have bk6 : Below w.heap.size w (wr.drewN nq) := ⟨bk5.os, bk5.tape, bk5.output, bk5.size, bk5.block⟩
              have bd : Below wr.heap.size wr (wr.drewN nq) := ⟨rfl, rfl, rfl, Nat.le_refl _, fun _ _ => rfl⟩
              have C6 := C5.below bd
              have D6 := D5.below bd
              have y0' : (wr.drewN nq).cell? ⟨g, k2 * 2, none⟩ = some (.int .i64 x.2) := y0
              have y1' : (wr.drewN nq).cell? ⟨g, k2 * 2 + 1, none⟩ = some (.int .i64 x.1) := y1
              have hg : g < (wr.drewN nq).heap.size := World.block_lt_of_cell? _ _ y0
              generalize wr.drewN nq = wq at *
              clear bd y0 y1 C5 D5 bk5
              go_wp2_with fail
              go_loopw [13, 14] (fun th i wr => ∃ (k3 : Nat) (bb : Bool), k3 ≤ m ∧ i = .int .i64 k3 ∧ th = .bool bb ∧ (bb = true ∨ ∀ q, q < k3 → f q ≠ x) ∧ Below wq.heap.size wq wr) (fun _ i _ => m - (intOf i).toNat)
              case atStart => exact ⟨0, false, Nat.zero_le _, rfl, rfl, .inr fun q h => (by omega), Below.refl _ _⟩
              case round =>
                obtain ⟨k3, bb, hk3, rfl, rfl, hbb, bq⟩ := hrel
                by_cases hlt3 : k3 < m
                · have i1' : (k3 : Int) < (n : Int) := by omega
                  have i2' : (k3 : Int) < 300 := by omega
                  obtain ⟨b, off, rfl, hb, hc⟩ := hr (by omega)
                  have bq' := bk6.trans (bq.mono bk6.size)
                  have e0 := (bq'.cell (p := ⟨b, off + k3 * 2, none⟩) hb).trans (hc k3 (by omega)).1
                  have e1 := (bq'.cell (p := ⟨b, off + k3 * 2 + 1, none⟩) hb).trans (hc k3 (by omega)).2
                  have z0 := (bq.cell (p := ⟨g, k2 * 2, none⟩) hg).trans y0'
                  have z1 := (bq.cell (p := ⟨g, k2 * 2 + 1, none⟩) hg).trans y1'
                  clear hc hr hwf
                  cases bb with
                  | true =>
                    go_wp2_with fail
                    go_quiet (fail)
                    go_wp2
                    go_roundw
                    case rel => exact ⟨k3 + 1, true, by omega, by go_num, rfl, .inl rfl, ⟨bq.os, bq.tape, bq.output, bq.size, bq.block⟩⟩
                    case measure => simp [intOf]; omega
                  | false =>
                    by_cases ex : f k3 = x
                    · rw [ex] at e0 e1
                      go_wp2_with fail
                      go_quiet (fail)
                      go_wp2
                      go_roundw
                      case rel => exact ⟨k3 + 1, true, by omega, by go_num, rfl, .inl rfl, ⟨bq.os, bq.tape, bq.output, bq.size, bq.block⟩⟩
                      case measure => simp [intOf]; omega
                    · have hbb' : ∀ q, q < k3 + 1 → f q ≠ x := by
                        intro q h
                        rcases Nat.lt_or_eq_of_le (Nat.le_of_lt_succ h) with h | rfl
                        · exact hbb.elim (fun e => by cases e) (fun a => a q h)
                        · exact ex
                      clear hbb
                      by_cases e2 : (f k3).2 = x.2
                      · have e3 : ((f k3).1 == x.1) = false := by
                          have : (f k3).1 ≠ x.1 := fun e => ex (Prod.ext e e2)
                          simpa using this
                        rw [e2] at e0
                        clear ex
                        go_wp2_with fail
                        go_quiet (fail)
                        go_wp2
                        go_roundw
                        case rel => exact ⟨k3 + 1, false, by omega, by go_num, rfl, .inr hbb', ⟨bq.os, bq.tape, bq.output, bq.size, bq.block⟩⟩
                        case measure => simp [intOf]; omega
                      · have e3 : ((f k3).2 == x.2) = false := by simpa using e2
                        clear ex e2
                        go_wp2_with fail
                        go_quiet (fail)
                        go_wp2
                        go_roundw
                        case rel => exact ⟨k3 + 1, false, by omega, by go_num, rfl, .inr hbb', ⟨bq.os, bq.tape, bq.output, bq.size, bq.block⟩⟩
                        case measure => simp [intOf]; omega
                · obtain rfl : k3 = m := by omega
                  obtain rfl : bb = true := by
                    rcases hbb with e | e
                    · exact e
                    · obtain ⟨q, hq, hqx⟩ := hMf x hx1
                      exact absurd hqx (e q hq)
                  have hno2 : ¬ ∃ z, (M' z ∧ to < z.1) ∧ z.2 = x.2 := by
                    rintro ⟨z, ⟨hz1, hz2⟩, hz3⟩
                    rw [hids z x hz1 hx1 hz3] at hz2
                    omega
                  have hno := has_none hno2
                  have CN := cancel_any (C6.below bq) x.2 (hw2 x hx1)
                  have z0 := (bq.cell (p := ⟨g, k2 * 2, none⟩) hg).trans y0'
                  clear hr hwf hMf hbb
                  by_cases c3 : k3 < n
                  · have i1' : (k3 : Int) < (n : Int) := by omega
                    have i2' : ¬ (k3 : Int) < 300 := by omega
                    clear m1 m2 m3
                    clear hlt3
                    go_wp2_with fail
                    go_at_call 12
                    refine CN.mono ?_
                    rintro e w8 ⟨rfl, C8, k8⟩
                    rw [if_neg (by rw [hno]; decide)]
                    have b8 := k8.below (B := w.heap.size) (Nat.le_trans bk6.size bq.size) hS
                    have C9 : Clk w8 cb S to (fun y => M' y ∧ to < y.1) nl := by
                      rw [hno] at C8
                      exact C8.congr fun y => ⟨fun h => ⟨h, fun e => hno2 ⟨y, h, e⟩⟩, fun h => h.1⟩
                    have D9 := (D6.below bq).kept k8 fun g' e hs => by
                      have := (World.ownsRow.lt D6 g' e).1
                      have := hSl g' hs
                      omega
                    clear CN C8 k8
                    go_wp2
                    go_roundw
                    case rel => exact ⟨k2 + 1, by omega, by go_num, C9, D9, (bk6.trans (bq.mono bk6.size)).trans b8⟩
                    case measure => simp [intOf]; omega
                  · have i1' : ¬ (k3 : Int) < (n : Int) := by omega
                    clear m1 m2 m3
                    clear hlt3
                    go_wp2_with fail
                    go_at_call 12
                    refine CN.mono ?_
                    rintro e w8 ⟨rfl, C8, k8⟩
                    rw [if_neg (by rw [hno]; decide)]
                    have b8 := k8.below (B := w.heap.size) (Nat.le_trans bk6.size bq.size) hS
                    have C9 : Clk w8 cb S to (fun y => M' y ∧ to < y.1) nl := by
                      rw [hno] at C8
                      exact C8.congr fun y => ⟨fun h => ⟨h, fun e => hno2 ⟨y, h, e⟩⟩, fun h => h.1⟩
                    have D9 := (D6.below bq).kept k8 fun g' e hs => by
                      have := (World.ownsRow.lt D6 g' e).1
                      have := hSl g' hs
                      omega
                    clear CN C8 k8
                    go_wp2
                    go_roundw
                    case rel => exact ⟨k2 + 1, by omega, by go_num, C9, D9, (bk6.trans (bq.mono bk6.size)).trans b8⟩
                    case measure => simp [intOf]; omega
            · obtain ⟨k', hk'⟩ : ∃ k', k' = k2 - 1 := ⟨_, rfl⟩
              have j2 : (k2 : Int) - 1 = (k' : Int) := by omega
              have j3 : (k' : Int) < (L.length : Int) := by omega
              obtain ⟨p0, p1⟩ := hcl k' (by omega)
              have hpx : lt (L.getD k' (0, 0)) x := by
                have := sorted_next hL.1 (i := k') (by omega)
                rw [show k' + 1 = k2 by omega, ← hx'.out] at this
                exact this
              generalize L.getD k' (0, 0) = p at *
              have g1 : (0 : Int) < (k2 : Int) := by omega
              have g2 : 0 < k2 := by omega
              clear hcl hz hk'
              by_cases c5 : p.1 < x.1
              · have g3 : decide (x.1 < p.1) = false := by simp; omega
                have g4 : (x.1 == p.1) = false := by
                  have : x.1 ≠ p.1 := by omega
                  simpa using this
                clear hpx
                go_wp2_with fail
                go_quiet (fail)
                clear p0 p1 c5 j2 j3
                have bk6 : Below w.heap.size w (wr.drewN nq) := ⟨bk5.os, bk5.tape, bk5.output, bk5.size, bk5.block⟩
                have bd : Below wr.heap.size wr (wr.drewN nq) := ⟨rfl, rfl, rfl, Nat.le_refl _, fun _ _ => rfl⟩
                have C6 := C5.below bd
                have D6 := D5.below bd
                have y0' : (wr.drewN nq).cell? ⟨g, k2 * 2, none⟩ = some (.int .i64 x.2) := y0
                have y1' : (wr.drewN nq).cell? ⟨g, k2 * 2 + 1, none⟩ = some (.int .i64 x.1) := y1
                have hg : g < (wr.drewN nq).heap.size := World.block_lt_of_cell? _ _ y0
                generalize wr.drewN nq = wq at *
                clear bd y0 y1 C5 D5 bk5
                go_wp2_with fail
                go_loopw [13, 14] (fun th i wr => ∃ (k3 : Nat) (bb : Bool), k3 ≤ m ∧ i = .int .i64 k3 ∧ th = .bool bb ∧ (bb = true ∨ ∀ q, q < k3 → f q ≠ x) ∧ Below wq.heap.size wq wr) (fun _ i _ => m - (intOf i).toNat)
                case atStart => exact ⟨0, false, Nat.zero_le _, rfl, rfl, .inr fun q h => (by omega), Below.refl _ _⟩
                case round =>
                  obtain ⟨k3, bb, hk3, rfl, rfl, hbb, bq⟩ := hrel
                  by_cases hlt3 : k3 < m
                  · have i1' : (k3 : Int) < (n : Int) := by omega
                    have i2' : (k3 : Int) < 300 := by omega
                    obtain ⟨b, off, rfl, hb, hc⟩ := hr (by omega)
                    have bq' := bk6.trans (bq.mono bk6.size)
                    have e0 := (bq'.cell (p := ⟨b, off + k3 * 2, none⟩) hb).trans (hc k3 (by omega)).1
                    have e1 := (bq'.cell (p := ⟨b, off + k3 * 2 + 1, none⟩) hb).trans (hc k3 (by omega)).2
                    have z0 := (bq.cell (p := ⟨g, k2 * 2, none⟩) hg).trans y0'
                    have z1 := (bq.cell (p := ⟨g, k2 * 2 + 1, none⟩) hg).trans y1'
                    clear hc hr hwf
                    cases bb with
                    | true =>
                      go_wp2_with fail
                      go_quiet (fail)
                      go_wp2
                      go_roundw
                      case rel => exact ⟨k3 + 1, true, by omega, by go_num, rfl, .inl rfl, ⟨bq.os, bq.tape, bq.output, bq.size, bq.block⟩⟩
                      case measure => simp [intOf]; omega
                    | false =>
                      by_cases ex : f k3 = x
                      · rw [ex] at e0 e1
                        go_wp2_with fail
                        go_quiet (fail)
                        go_wp2
                        go_roundw
                        case rel => exact ⟨k3 + 1, true, by omega, by go_num, rfl, .inl rfl, ⟨bq.os, bq.tape, bq.output, bq.size, bq.block⟩⟩
                        case measure => simp [intOf]; omega
                      · have hbb' : ∀ q, q < k3 + 1 → f q ≠ x := by
                          intro q h
                          rcases Nat.lt_or_eq_of_le (Nat.le_of_lt_succ h) with h | rfl
                          · exact hbb.elim (fun e => by cases e) (fun a => a q h)
                          · exact ex
                        clear hbb
                        by_cases e2 : (f k3).2 = x.2
                        · have e3 : ((f k3).1 == x.1) = false := by
                            have : (f k3).1 ≠ x.1 := fun e => ex (Prod.ext e e2)
                            simpa using this
                          rw [e2] at e0
                          clear ex
                          go_wp2_with fail
                          go_quiet (fail)
                          go_wp2
                          go_roundw
                          case rel => exact ⟨k3 + 1, false, by omega, by go_num, rfl, .inr hbb', ⟨bq.os, bq.tape, bq.output, bq.size, bq.block⟩⟩
                          case measure => simp [intOf]; omega
                        · have e3 : ((f k3).2 == x.2) = false := by simpa using e2
                          clear ex e2
                          go_wp2_with fail
                          go_quiet (fail)
                          go_wp2
                          go_roundw
                          case rel => exact ⟨k3 + 1, false, by omega, by go_num, rfl, .inr hbb', ⟨bq.os, bq.tape, bq.output, bq.size, bq.block⟩⟩
                          case measure => simp [intOf]; omega
                  · obtain rfl : k3 = m := by omega
                    obtain rfl : bb = true := by
                      rcases hbb with e | e
                      · exact e
                      · obtain ⟨q, hq, hqx⟩ := hMf x hx1
                        exact absurd hqx (e q hq)
                    have hno2 : ¬ ∃ z, (M' z ∧ to < z.1) ∧ z.2 = x.2 := by
                      rintro ⟨z, ⟨hz1, hz2⟩, hz3⟩
                      rw [hids z x hz1 hx1 hz3] at hz2
                      omega
                    have hno := has_none hno2
                    have CN := cancel_any (C6.below bq) x.2 (hw2 x hx1)
                    have z0 := (bq.cell (p := ⟨g, k2 * 2, none⟩) hg).trans y0'
                    clear hr hwf hMf hbb
                    by_cases c3 : k3 < n
                    · have i1' : (k3 : Int) < (n : Int) := by omega
                      have i2' : ¬ (k3 : Int) < 300 := by omega
                      clear m1 m2 m3
                      clear hlt3
                      go_wp2_with fail
                      go_at_call 12
                      refine CN.mono ?_
                      rintro e w8 ⟨rfl, C8, k8⟩
                      rw [if_neg (by rw [hno]; decide)]
                      have b8 := k8.below (B := w.heap.size) (Nat.le_trans bk6.size bq.size) hS
                      have C9 : Clk w8 cb S to (fun y => M' y ∧ to < y.1) nl := by
                        rw [hno] at C8
                        exact C8.congr fun y => ⟨fun h => ⟨h, fun e => hno2 ⟨y, h, e⟩⟩, fun h => h.1⟩
                      have D9 := (D6.below bq).kept k8 fun g' e hs => by
                        have := (World.ownsRow.lt D6 g' e).1
                        have := hSl g' hs
                        omega
                      clear CN C8 k8
                      go_wp2
                      go_roundw
                      case rel => exact ⟨k2 + 1, by omega, by go_num, C9, D9, (bk6.trans (bq.mono bk6.size)).trans b8⟩
                      case measure => simp [intOf]; omega
                    · have i1' : ¬ (k3 : Int) < (n : Int) := by omega
                      clear m1 m2 m3
                      clear hlt3
                      go_wp2_with fail
                      go_at_call 12
                      refine CN.mono ?_
                      rintro e w8 ⟨rfl, C8, k8⟩
                      rw [if_neg (by rw [hno]; decide)]
                      have b8 := k8.below (B := w.heap.size) (Nat.le_trans bk6.size bq.size) hS
                      have C9 : Clk w8 cb S to (fun y => M' y ∧ to < y.1) nl := by
                        rw [hno] at C8
                        exact C8.congr fun y => ⟨fun h => ⟨h, fun e => hno2 ⟨y, h, e⟩⟩, fun h => h.1⟩
                      have D9 := (D6.below bq).kept k8 fun g' e hs => by
                        have := (World.ownsRow.lt D6 g' e).1
                        have := hSl g' hs
                        omega
                      clear CN C8 k8
                      go_wp2
                      go_roundw
                      case rel => exact ⟨k2 + 1, by omega, by go_num, C9, D9, (bk6.trans (bq.mono bk6.size)).trans b8⟩
                      case measure => simp [intOf]; omega
              · have c6 : p.1 = x.1 ∧ p.2 < x.2 := by unfold lt at hpx; omega
                rw [c6.1] at p1
                have g5 : ¬ x.2 ≤ p.2 := by omega
                clear hpx c5 c6
                go_wp2_with fail
                go_quiet (fail)
                clear p0 p1 j2 j3
                have bk6 : Below w.heap.size w (wr.drewN nq) := ⟨bk5.os, bk5.tape, bk5.output, bk5.size, bk5.block⟩
                have bd : Below wr.heap.size wr (wr.drewN nq) := ⟨rfl, rfl, rfl, Nat.le_refl _, fun _ _ => rfl⟩
                have C6 := C5.below bd
                have D6 := D5.below bd
                have y0' : (wr.drewN nq).cell? ⟨g, k2 * 2, none⟩ = some (.int .i64 x.2) := y0
                have y1' : (wr.drewN nq).cell? ⟨g, k2 * 2 + 1, none⟩ = some (.int .i64 x.1) := y1
                have hg : g < (wr.drewN nq).heap.size := World.block_lt_of_cell? _ _ y0
                generalize wr.drewN nq = wq at *
                clear bd y0 y1 C5 D5 bk5
                go_wp2_with fail
                go_loopw [13, 14] (fun th i wr => ∃ (k3 : Nat) (bb : Bool), k3 ≤ m ∧ i = .int .i64 k3 ∧ th = .bool bb ∧ (bb = true ∨ ∀ q, q < k3 → f q ≠ x) ∧ Below wq.heap.size wq wr) (fun _ i _ => m - (intOf i).toNat)
                case atStart => exact ⟨0, false, Nat.zero_le _, rfl, rfl, .inr fun q h => (by omega), Below.refl _ _⟩
                case round =>
                  obtain ⟨k3, bb, hk3, rfl, rfl, hbb, bq⟩ := hrel
                  by_cases hlt3 : k3 < m
                  · have i1' : (k3 : Int) < (n : Int) := by omega
                    have i2' : (k3 : Int) < 300 := by omega
                    obtain ⟨b, off, rfl, hb, hc⟩ := hr (by omega)
                    have bq' := bk6.trans (bq.mono bk6.size)
                    have e0 := (bq'.cell (p := ⟨b, off + k3 * 2, none⟩) hb).trans (hc k3 (by omega)).1
                    have e1 := (bq'.cell (p := ⟨b, off + k3 * 2 + 1, none⟩) hb).trans (hc k3 (by omega)).2
                    have z0 := (bq.cell (p := ⟨g, k2 * 2, none⟩) hg).trans y0'
                    have z1 := (bq.cell (p := ⟨g, k2 * 2 + 1, none⟩) hg).trans y1'
                    clear hc hr hwf
                    cases bb with
                    | true =>
                      go_wp2_with fail
                      go_quiet (fail)
                      go_wp2
                      go_roundw
                      case rel => exact ⟨k3 + 1, true, by omega, by go_num, rfl, .inl rfl, ⟨bq.os, bq.tape, bq.output, bq.size, bq.block⟩⟩
                      case measure => simp [intOf]; omega
                    | false =>
                      by_cases ex : f k3 = x
                      · rw [ex] at e0 e1
                        go_wp2_with fail
                        go_quiet (fail)
                        go_wp2
                        go_roundw
                        case rel => exact ⟨k3 + 1, true, by omega, by go_num, rfl, .inl rfl, ⟨bq.os, bq.tape, bq.output, bq.size, bq.block⟩⟩
                        case measure => simp [intOf]; omega
                      · have hbb' : ∀ q, q < k3 + 1 → f q ≠ x := by
                          intro q h
                          rcases Nat.lt_or_eq_of_le (Nat.le_of_lt_succ h) with h | rfl
                          · exact hbb.elim (fun e => by cases e) (fun a => a q h)
                          · exact ex
                        clear hbb
                        by_cases e2 : (f k3).2 = x.2
                        · have e3 : ((f k3).1 == x.1) = false := by
                            have : (f k3).1 ≠ x.1 := fun e => ex (Prod.ext e e2)
                            simpa using this
                          rw [e2] at e0
                          clear ex
                          go_wp2_with fail
                          go_quiet (fail)
                          go_wp2
                          go_roundw
                          case rel => exact ⟨k3 + 1, false, by omega, by go_num, rfl, .inr hbb', ⟨bq.os, bq.tape, bq.output, bq.size, bq.block⟩⟩
                          case measure => simp [intOf]; omega
                        · have e3 : ((f k3).2 == x.2) = false := by simpa using e2
                          clear ex e2
                          go_wp2_with fail
                          go_quiet (fail)
                          go_wp2
                          go_roundw
                          case rel => exact ⟨k3 + 1, false, by omega, by go_num, rfl, .inr hbb', ⟨bq.os, bq.tape, bq.output, bq.size, bq.block⟩⟩
                          case measure => simp [intOf]; omega
                  · obtain rfl : k3 = m := by omega
                    obtain rfl : bb = true := by
                      rcases hbb with e | e
                      · exact e
                      · obtain ⟨q, hq, hqx⟩ := hMf x hx1
                        exact absurd hqx (e q hq)
                    have hno2 : ¬ ∃ z, (M' z ∧ to < z.1) ∧ z.2 = x.2 := by
                      rintro ⟨z, ⟨hz1, hz2⟩, hz3⟩
                      rw [hids z x hz1 hx1 hz3] at hz2
                      omega
                    have hno := has_none hno2
                    have CN := cancel_any (C6.below bq) x.2 (hw2 x hx1)
                    have z0 := (bq.cell (p := ⟨g, k2 * 2, none⟩) hg).trans y0'
                    clear hr hwf hMf hbb
                    by_cases c3 : k3 < n
                    · have i1' : (k3 : Int) < (n : Int) := by omega
                      have i2' : ¬ (k3 : Int) < 300 := by omega
                      clear m1 m2 m3
                      clear hlt3
                      go_wp2_with fail
                      go_at_call 12
                      refine CN.mono ?_
                      rintro e w8 ⟨rfl, C8, k8⟩
                      rw [if_neg (by rw [hno]; decide)]
                      have b8 := k8.below (B := w.heap.size) (Nat.le_trans bk6.size bq.size) hS
                      have C9 : Clk w8 cb S to (fun y => M' y ∧ to < y.1) nl := by
                        rw [hno] at C8
                        exact C8.congr fun y => ⟨fun h => ⟨h, fun e => hno2 ⟨y, h, e⟩⟩, fun h => h.1⟩
                      have D9 := (D6.below bq).kept k8 fun g' e hs => by
                        have := (World.ownsRow.lt D6 g' e).1
                        have := hSl g' hs
                        omega
                      clear CN C8 k8
                      go_wp2
                      go_roundw
                      case rel => exact ⟨k2 + 1, by omega, by go_num, C9, D9, (bk6.trans (bq.mono bk6.size)).trans b8⟩
                      case measure => simp [intOf]; omega
                    · have i1' : ¬ (k3 : Int) < (n : Int) := by omega
                      clear m1 m2 m3
                      clear hlt3
                      go_wp2_with fail
                      go_at_call 12
                      refine CN.mono ?_
                      rintro e w8 ⟨rfl, C8, k8⟩
                      rw [if_neg (by rw [hno]; decide)]
                      have b8 := k8.below (B := w.heap.size) (Nat.le_trans bk6.size bq.size) hS
                      have C9 : Clk w8 cb S to (fun y => M' y ∧ to < y.1) nl := by
                        rw [hno] at C8
                        exact C8.congr fun y => ⟨fun h => ⟨h, fun e => hno2 ⟨y, h, e⟩⟩, fun h => h.1⟩
                      have D9 := (D6.below bq).kept k8 fun g' e hs => by
                        have := (World.ownsRow.lt D6 g' e).1
                        have := hSl g' hs
                        omega
                      clear CN C8 k8
                      go_wp2
                      go_roundw
                      case rel => exact ⟨k2 + 1, by omega, by go_num, C9, D9, (bk6.trans (bq.mono bk6.size)).trans b8⟩
                      case measure => simp [intOf]; omega
          · obtain rfl : k2 = L.length := by omega
            clear hr hwf hMf
            by_cases c5 : 0 < nl
            · have NX := next_some C5 c5
              unfold vD at NX
              go_wp2_with fail
              go_at_call 17
              refine NX.mono ?_
              rintro e w8 ⟨x, rfl, ⟨hx1, _⟩, b8⟩
              have hx2 := hx1.2
              have b9 := bk5.trans (b8.mono bk5.size)
              clear NX
              go_wp2
              go_ret
              exact ⟨rfl, b9.alloc b9.size _⟩
            · obtain rfl : nl = 0 := by omega
              have NX := next_none C5
              unfold vD at NX
              go_wp2_with fail
              go_at_call 17
              refine NX.mono ?_
              rintro e w8 ⟨rfl, b8⟩
              have b9 := bk5.trans (b8.mono bk5.size)
              clear NX
              go_wp2
              go_ret
              exact ⟨rfl, b9.alloc b9.size _⟩
      · have i1 : ¬ (k : Int) < (n1 : Int) := by omega
        clear mm1 mm2 mm3 hlt hk
        by_cases c1 : to < 0
        · go_wp2
          go_ret
          exact ⟨rfl, bk⟩
        by_cases c2 : 1099511627776 < to
        · go_wp2
          go_ret
          exact ⟨rfl, bk⟩
        have AD := advance_ok C to (by omega) (by omega)
        have hSl := C.lt
        have hw2 := fun (y : Int × Int) (hy : M' y) => (C.wf hy).2
        have hids := fun (y z : Int × Int) (hy : M' y) (hz : M' z) (e : y.2 = z.2) => C.ids hy hz e
        obtain ⟨wo, ew⟩ : ∃ wo, wo = wr := ⟨_, rfl⟩
        subst ew
        go_wp2_with fail
        go_at_call 14
        refine AD.mono ?_
        rintro e w4 ⟨v, L, rfl, D4, hL, hLn, C4, k4, _⟩
        have bk4 := bk.trans (k4.below h0 hS)
        obtain ⟨da, dcap, rfl, _, _, _, _⟩ := D4.form
        have LF := left_any C4
        have hsum : (L.length : Int) + ((n' - L.length : Nat) : Int) = (n' : Int) := by omega
        obtain ⟨nl, hnl⟩ : ∃ nl, nl = n' - L.length := ⟨_, rfl⟩
        rw [← hnl] at C4 LF hsum
        have hbound : nl ≤ 300 := by omega
        have hbound2 : L.length ≤ 300 := by omega
        clear AD C k4 hnl
        go_wp2_with fail
        go_at_call 20
        refine LF.mono ?_
        rintro e w' ⟨rfl, hw⟩
        obtain rfl := hw.symm
        clear LF
        go_wp2_with fail
        go_loopw [12, 13, 14] (fun i _ _ wr => ∃ k2 : Nat, k2 ≤ L.length ∧ i = .int .i64 k2 ∧ Clk wr cb S to (fun y => M' y ∧ to < y.1) nl ∧ DOwn wo.heap.size wr (.slice da L.length dcap) L ∧ Below w.heap.size w wr) (fun i _ _ _ => L.length - (intOf i).toNat)
        case atStart => exact ⟨0, Nat.zero_le _, rfl, C4, D4, bk4⟩
        case round =>
          obtain ⟨k2, hk2, rfl, C5, D5, bk5⟩ := hrel
          clear C4 D4 bk4
          by_cases hlt2 : k2 < L.length
          · have j1 : (k2 : Int) < (L.length : Int) := by omega
            obtain ⟨g, rfl, hcl⟩ := D5.at hlt2
            obtain ⟨x, hx⟩ : ∃ x, x = L.getD k2 (0, 0) := ⟨_, rfl⟩
            have hxL : x ∈ L := by
              rw [hx, List.getD_eq_getElem?_getD, List.getElem?_eq_getElem hlt2]
              exact List.getElem_mem hlt2
            obtain ⟨hx1, hx2⟩ := (hL.2 x).1 hxL
            obtain ⟨y0, y1⟩ := hcl k2 hlt2
            rw [← hx] at y0 y1
            have g0 : decide (to < x.1) = false := by simp; omega
            have hx' : Hid (x = L.getD k2 (0, 0)) := hx
            clear hx
            by_cases hz : k2 = 0
            · have g1 : ¬ (0 : Int) < (k2 : Int) := by omega
              have g2 : ¬ 0 < k2 := by omega
              clear hcl hz
              go_wp2_with fail
              go_quiet (fail)
              have bk6 : Below w.heap.size w (wr.drewN nq) := ⟨bk5.os, bk5.tape, bk5.output, bk5.size, bk5.block⟩
              have bd : Below wr.heap.size wr (wr.drewN nq) := ⟨rfl, rfl, rfl, Nat.le_refl _, fun _ _ => rfl⟩
              have C6 := C5.below bd
              have D6 := D5.below bd
              have y0' : (wr.drewN nq).cell? ⟨g, k2 * 2, none⟩ = some (.int .i64 x.2) := y0
              have y1' : (wr.drewN nq).cell? ⟨g, k2 * 2 + 1, none⟩ = some (.int .i64 x.1) := y1
              have hg : g < (wr.drewN nq).heap.size := World.block_lt_of_cell? _ _ y0
              generalize wr.drewN nq = wq at *
              clear bd y0 y1 C5 D5 bk5
              go_wp2_with fail
              go_loopw [13, 14] (fun th i wr => ∃ (k3 : Nat) (bb : Bool), k3 ≤ m ∧ i = .int .i64 k3 ∧ th = .bool bb ∧ (bb = true ∨ ∀ q, q < k3 → f q ≠ x) ∧ Below wq.heap.size wq wr) (fun _ i _ => m - (intOf i).toNat)
              case atStart => exact ⟨0, false, Nat.zero_le _, rfl, rfl, .inr fun q h => (by omega), Below.refl _ _⟩
              case round =>
                obtain ⟨k3, bb, hk3, rfl, rfl, hbb, bq⟩ := hrel
                by_cases hlt3 : k3 < m
                · have i1' : (k3 : Int) < (n : Int) := by omega
                  have i2' : (k3 : Int) < 300 := by omega
                  obtain ⟨b, off, rfl, hb, hc⟩ := hr (by omega)
                  have bq' := bk6.trans (bq.mono bk6.size)
                  have e0 := (bq'.cell (p := ⟨b, off + k3 * 2, none⟩) hb).trans (hc k3 (by omega)).1
                  have e1 := (bq'.cell (p := ⟨b, off + k3 * 2 + 1, none⟩) hb).trans (hc k3 (by omega)).2
                  have z0 := (bq.cell (p := ⟨g, k2 * 2, none⟩) hg).trans y0'
                  have z1 := (bq.cell (p := ⟨g, k2 * 2 + 1, none⟩) hg).trans y1'
                  clear hc hr hwf
                  cases bb with
                  | true =>
                    go_wp2_with fail
                    go_quiet (fail)
                    go_wp2
                    go_roundw
                    case rel => exact ⟨k3 + 1, true, by omega, by go_num, rfl, .inl rfl, ⟨bq.os, bq.tape, bq.output, bq.size, bq.block⟩⟩
                    case measure => simp [intOf]; omega
                  | false =>
                    by_cases ex : f k3 = x
                    · rw [ex] at e0 e1
                      go_wp2_with fail
                      go_quiet (fail)
                      go_wp2
                      go_roundw
                      case rel => exact ⟨k3 + 1, true, by omega, by go_num, rfl, .inl rfl, ⟨bq.os, bq.tape, bq.output, bq.size, bq.block⟩⟩
                      case measure => simp [intOf]; omega
                    · have hbb' : ∀ q, q < k3 + 1 → f q ≠ x := by
                        intro q h
                        rcases Nat.lt_or_eq_of_le (Nat.le_of_lt_succ h) with h | rfl
                        · exact hbb.elim (fun e => by cases e) (fun a => a q h)
                        · exact ex
                      clear hbb
                      by_cases e2 : (f k3).2 = x.2
                      · have e3 : ((f k3).1 == x.1) = false := by
                          have : (f k3).1 ≠ x.1 := fun e => ex (Prod.ext e e2)
                          simpa using this
                        rw [e2] at e0
                        clear ex
                        go_wp2_with fail
                        go_quiet (fail)
                        go_wp2
                        go_roundw
                        case rel => exact ⟨k3 + 1, false, by omega, by go_num, rfl, .inr hbb', ⟨bq.os, bq.tape, bq.output, bq.size, bq.block⟩⟩
                        case measure => simp [intOf]; omega
                      · have e3 : ((f k3).2 == x.2) = false := by simpa using e2
                        clear ex e2
                        go_wp2_with fail
                        go_quiet (fail)
                        go_wp2
                        go_roundw
                        case rel => exact ⟨k3 + 1, false, by omega, by go_num, rfl, .inr hbb', ⟨bq.os, bq.tape, bq.output, bq.size, bq.block⟩⟩
                        case measure => simp [intOf]; omega
                · obtain rfl : k3 = m := by omega
                  obtain rfl : bb = true := by
                    rcases hbb with e | e
                    · exact e
                    · obtain ⟨q, hq, hqx⟩ := hMf x hx1
                      exact absurd hqx (e q hq)
                  have hno2 : ¬ ∃ z, (M' z ∧ to < z.1) ∧ z.2 = x.2 := by
                    rintro ⟨z, ⟨hz1, hz2⟩, hz3⟩
                    rw [hids z x hz1 hx1 hz3] at hz2
                    omega
                  have hno := has_none hno2
                  have CN := cancel_any (C6.below bq) x.2 (hw2 x hx1)
                  have z0 := (bq.cell (p := ⟨g, k2 * 2, none⟩) hg).trans y0'
                  clear hr hwf hMf hbb
                  by_cases c3 : k3 < n
                  · have i1' : (k3 : Int) < (n : Int) := by omega
                    have i2' : ¬ (k3 : Int) < 300 := by omega
                    clear m1 m2 m3
                    clear hlt3
                    go_wp2_with fail
                    go_at_call 12
                    refine CN.mono ?_
                    rintro e w8 ⟨rfl, C8, k8⟩
                    rw [if_neg (by rw [hno]; decide)]
                    have b8 := k8.below (B := w.heap.size) (Nat.le_trans bk6.size bq.size) hS
                    have C9 : Clk w8 cb S to (fun y => M' y ∧ to < y.1) nl := by
                      rw [hno] at C8
                      exact C8.congr fun y => ⟨fun h => ⟨h, fun e => hno2 ⟨y, h, e⟩⟩, fun h => h.1⟩
                    have D9 := (D6.below bq).kept k8 fun g' e hs => by
                      have := (World.ownsRow.lt D6 g' e).1
                      have := hSl g' hs
                      omega
                    clear CN C8 k8
                    go_wp2
                    go_roundw
                    case rel => exact ⟨k2 + 1, by omega, by go_num, C9, D9, (bk6.trans (bq.mono bk6.size)).trans b8⟩
                    case measure => simp [intOf]; omega
                  · have i1' : ¬ (k3 : Int) < (n : Int) := by omega
                    clear m1 m2 m3
                    clear hlt3
                    go_wp2_with fail
                    go_at_call 12
                    refine CN.mono ?_
                    rintro e w8 ⟨rfl, C8, k8⟩
                    rw [if_neg (by rw [hno]; decide)]
                    have b8 := k8.below (B := w.heap.size) (Nat.le_trans bk6.size bq.size) hS
                    have C9 : Clk w8 cb S to (fun y => M' y ∧ to < y.1) nl := by
                      rw [hno] at C8
                      exact C8.congr fun y => ⟨fun h => ⟨h, fun e => hno2 ⟨y, h, e⟩⟩, fun h => h.1⟩
                    have D9 := (D6.below bq).kept k8 fun g' e hs => by
                      have := (World.ownsRow.lt D6 g' e).1
                      have := hSl g' hs
                      omega
                    clear CN C8 k8
                    go_wp2
                    go_roundw
                    case rel => exact ⟨k2 + 1, by omega, by go_num, C9, D9, (bk6.trans (bq.mono bk6.size)).trans b8⟩
                    case measure => simp [intOf]; omega
            · obtain ⟨k', hk'⟩ : ∃ k', k' = k2 - 1 := ⟨_, rfl⟩
              have j2 : (k2 : Int) - 1 = (k' : Int) := by omega
              have j3 : (k' : Int) < (L.length : Int) := by omega
              obtain ⟨p0, p1⟩ := hcl k' (by omega)
              have hpx : lt (L.getD k' (0, 0)) x := by
                have := sorted_next hL.1 (i := k') (by omega)
                rw [show k' + 1 = k2 by omega, ← hx'.out] at this
                exact this
              generalize L.getD k' (0, 0) = p at *
              have g1 : (0 : Int) < (k2 : Int) := by omega
              have g2 : 0 < k2 := by omega
              clear hcl hz hk'
              by_cases c5 : p.1 < x.1
              · have g3 : decide (x.1 < p.1) = false := by simp; omega
                have g4 : (x.1 == p.1) = false := by
                  have : x.1 ≠ p.1 := by omega
                  simpa using this
                clear hpx
                go_wp2_with fail
                go_quiet (fail)
                clear p0 p1 c5 j2 j3
                have bk6 : Below w.heap.size w (wr.drewN nq) := ⟨bk5.os, bk5.tape, bk5.output, bk5.size, bk5.block⟩
                have bd : Below wr.heap.size wr (wr.drewN nq) := ⟨rfl, rfl, rfl, Nat.le_refl _, fun _ _ => rfl⟩
                have C6 := C5.below bd
                have D6 := D5.below bd
                have y0' : (wr.drewN nq).cell? ⟨g, k2 * 2, none⟩ = some (.int .i64 x.2) := y0
                have y1' : (wr.drewN nq).cell? ⟨g, k2 * 2 + 1, none⟩ = some (.int .i64 x.1) := y1
                have hg : g < (wr.drewN nq).heap.size := World.block_lt_of_cell? _ _ y0
                generalize wr.drewN nq = wq at *
                clear bd y0 y1 C5 D5 bk5
                go_wp2_with fail
                go_loopw [13, 14] (fun th i wr => ∃ (k3 : Nat) (bb : Bool), k3 ≤ m ∧ i = .int .i64 k3 ∧ th = .bool bb ∧ (bb = true ∨ ∀ q, q < k3 → f q ≠ x) ∧ Below wq.heap.size wq wr) (fun _ i _ => m - (intOf i).toNat)
                case atStart => exact ⟨0, false, Nat.zero_le _, rfl, rfl, .inr fun q h => (by omega), Below.refl _ _⟩
                case round =>
                  obtain ⟨k3, bb, hk3, rfl, rfl, hbb, bq⟩ := hrel
                  by_cases hlt3 : k3 < m
                  · have i1' : (k3 : Int) < (n : Int) := by omega
                    have i2' : (k3 : Int) < 300 := by omega
                    obtain ⟨b, off, rfl, hb, hc⟩ := hr (by omega)
                    have bq' := bk6.trans (bq.mono bk6.size)
                    have e0 := (bq'.cell (p := ⟨b, off + k3 * 2, none⟩) hb).trans (hc k3 (by omega)).1
                    have e1 := (bq'.cell (p := ⟨b, off + k3 * 2 + 1, none⟩) hb).trans (hc k3 (by omega)).2
                    have z0 := (bq.cell (p := ⟨g, k2 * 2, none⟩) hg).trans y0'
                    have z1 := (bq.cell (p := ⟨g, k2 * 2 + 1, none⟩) hg).trans y1'
                    clear hc hr hwf
                    cases bb with
                    | true =>
                      go_wp2_with fail
                      go_quiet (fail)
                      go_wp2
                      go_roundw
                      case rel => exact ⟨k3 + 1, true, by omega, by go_num, rfl, .inl rfl, ⟨bq.os, bq.tape, bq.output, bq.size, bq.block⟩⟩
                      case measure => simp [intOf]; omega
                    | false =>
                      by_cases ex : f k3 = x
                      · rw [ex] at e0 e1
                        go_wp2_with fail
                        go_quiet (fail)
                        go_wp2
                        go_roundw
                        case rel => exact ⟨k3 + 1, true, by omega, by go_num, rfl, .inl rfl, ⟨bq.os, bq.tape, bq.output, bq.size, bq.block⟩⟩
                        case measure => simp [intOf]; omega
                      · have hbb' : ∀ q, q < k3 + 1 → f q ≠ x := by
                          intro q h
                          rcases Nat.lt_or_eq_of_le (Nat.le_of_lt_succ h) with h | rfl
                          · exact hbb.elim (fun e => by cases e) (fun a => a q h)
                          · exact ex
                        clear hbb
                        by_cases e2 : (f k3).2 = x.2
                        · have e3 : ((f k3).1 == x.1) = false := by
                            have : (f k3).1 ≠ x.1 := fun e => ex (Prod.ext e e2)
                            simpa using this
                          rw [e2] at e0
                          clear ex
                          go_wp2_with fail
                          go_quiet (fail)
                          go_wp2
                          go_roundw
                          case rel => exact ⟨k3 + 1, false, by omega, by go_num, rfl, .inr hbb', ⟨bq.os, bq.tape, bq.output, bq.size, bq.block⟩⟩
                          case measure => simp [intOf]; omega
                        · have e3 : ((f k3).2 == x.2) = false := by simpa using e2
                          clear ex e2
                          go_wp2_with fail
                          go_quiet (fail)
                          go_wp2
                          go_roundw
                          case rel => exact ⟨k3 + 1, false, by omega, by go_num, rfl, .inr hbb', ⟨bq.os, bq.tape, bq.output, bq.size, bq.block⟩⟩
                          case measure => simp [intOf]; omega
                  · obtain rfl : k3 = m := by omega
                    obtain rfl : bb = true := by
                      rcases hbb with e | e
                      · exact e
                      · obtain ⟨q, hq, hqx⟩ := hMf x hx1
                        exact absurd hqx (e q hq)
                    have hno2 : ¬ ∃ z, (M' z ∧ to < z.1) ∧ z.2 = x.2 := by
                      rintro ⟨z, ⟨hz1, hz2⟩, hz3⟩
                      rw [hids z x hz1 hx1 hz3] at hz2
                      omega
                    have hno := has_none hno2
                    have CN := cancel_any (C6.below bq) x.2 (hw2 x hx1)
                    have z0 := (bq.cell (p := ⟨g, k2 * 2, none⟩) hg).trans y0'
                    clear hr hwf hMf hbb
                    by_cases c3 : k3 < n
                    · have i1' : (k3 : Int) < (n : Int) := by omega
                      have i2' : ¬ (k3 : Int) < 300 := by omega
                      clear m1 m2 m3
                      clear hlt3
                      go_wp2_with fail
                      go_at_call 12
                      refine CN.mono ?_
                      rintro e w8 ⟨rfl, C8, k8⟩
                      rw [if_neg (by rw [hno]; decide)]
                      have b8 := k8.below (B := w.heap.size) (Nat.le_trans bk6.size bq.size) hS
                      have C9 : Clk w8 cb S to (fun y => M' y ∧ to < y.1) nl := by
                        rw [hno] at C8
                        exact C8.congr fun y => ⟨fun h => ⟨h, fun e => hno2 ⟨y, h, e⟩⟩, fun h => h.1⟩
                      have D9 := (D6.below bq).kept k8 fun g' e hs => by
                        have := (World.ownsRow.lt D6 g' e).1
                        have := hSl g' hs
                        omega
                      clear CN C8 k8
                      go_wp2
                      go_roundw
                      case rel => exact ⟨k2 + 1, by omega, by go_num, C9, D9, (bk6.trans (bq.mono bk6.size)).trans b8⟩
                      case measure => simp [intOf]; omega
                    · have i1' : ¬ (k3 : Int) < (n : Int) := by omega
                      clear m1 m2 m3
                      clear hlt3
                      go_wp2_with fail
                      go_at_call 12
                      refine CN.mono ?_
                      rintro e w8 ⟨rfl, C8, k8⟩
                      rw [if_neg (by rw [hno]; decide)]
                      have b8 := k8.below (B := w.heap.size) (Nat.le_trans bk6.size bq.size) hS
                      have C9 : Clk w8 cb S to (fun y => M' y ∧ to < y.1) nl := by
                        rw [hno] at C8
                        exact C8.congr fun y => ⟨fun h => ⟨h, fun e => hno2 ⟨y, h, e⟩⟩, fun h => h.1⟩
                      have D9 := (D6.below bq).kept k8 fun g' e hs => by
                        have := (World.ownsRow.lt D6 g' e).1
                        have := hSl g' hs
                        omega
                      clear CN C8 k8
                      go_wp2
                      go_roundw
                      case rel => exact ⟨k2 + 1, by omega, by go_num, C9, D9, (bk6.trans (bq.mono bk6.size)).trans b8⟩
                      case measure => simp [intOf]; omega
              · have c6 : p.1 = x.1 ∧ p.2 < x.2 := by unfold lt at hpx; omega
                rw [c6.1] at p1
                have g5 : ¬ x.2 ≤ p.2 := by omega
                clear hpx c5 c6
                go_wp2_with fail
                go_quiet (fail)
                clear p0 p1 j2 j3
                have bk6 : Below w.heap.size w (wr.drewN nq) := ⟨bk5.os, bk5.tape, bk5.output, bk5.size, bk5.block⟩
                have bd : Below wr.heap.size wr (wr.drewN nq) := ⟨rfl, rfl, rfl, Nat.le_refl _, fun _ _ => rfl⟩
                have C6 := C5.below bd
                have D6 := D5.below bd
                have y0' : (wr.drewN nq).cell? ⟨g, k2 * 2, none⟩ = some (.int .i64 x.2) := y0
                have y1' : (wr.drewN nq).cell? ⟨g, k2 * 2 + 1, none⟩ = some (.int .i64 x.1) := y1
                have hg : g < (wr.drewN nq).heap.size := World.block_lt_of_cell? _ _ y0
                generalize wr.drewN nq = wq at *
                clear bd y0 y1 C5 D5 bk5
                go_wp2_with fail
                go_loopw [13, 14] (fun th i wr => ∃ (k3 : Nat) (bb : Bool), k3 ≤ m ∧ i = .int .i64 k3 ∧ th = .bool bb ∧ (bb = true ∨ ∀ q, q < k3 → f q ≠ x) ∧ Below wq.heap.size wq wr) (fun _ i _ => m - (intOf i).toNat)
                case atStart => exact ⟨0, false, Nat.zero_le _, rfl, rfl, .inr fun q h => (by omega), Below.refl _ _⟩
                case round =>
                  obtain ⟨k3, bb, hk3, rfl, rfl, hbb, bq⟩ := hrel
                  by_cases hlt3 : k3 < m
                  · have i1' : (k3 : Int) < (n : Int) := by omega
                    have i2' : (k3 : Int) < 300 := by omega
                    obtain ⟨b, off, rfl, hb, hc⟩ := hr (by omega)
                    have bq' := bk6.trans (bq.mono bk6.size)
                    have e0 := (bq'.cell (p := ⟨b, off + k3 * 2, none⟩) hb).trans (hc k3 (by omega)).1
                    have e1 := (bq'.cell (p := ⟨b, off + k3 * 2 + 1, none⟩) hb).trans (hc k3 (by omega)).2
                    have z0 := (bq.cell (p := ⟨g, k2 * 2, none⟩) hg).trans y0'
                    have z1 := (bq.cell (p := ⟨g, k2 * 2 + 1, none⟩) hg).trans y1'
                    clear hc hr hwf
                    cases bb with
                    | true =>
                      go_wp2_with fail
                      go_quiet (fail)
                      go_wp2
                      go_roundw
                      case rel => exact ⟨k3 + 1, true, by omega, by go_num, rfl, .inl rfl, ⟨bq.os, bq.tape, bq.output, bq.size, bq.block⟩⟩
                      case measure => simp [intOf]; omega
                    | false =>
                      by_cases ex : f k3 = x
                      · rw [ex] at e0 e1
                        go_wp2_with fail
                        go_quiet (fail)
                        go_wp2
                        go_roundw
                        case rel => exact ⟨k3 + 1, true, by omega, by go_num, rfl, .inl rfl, ⟨bq.os, bq.tape, bq.output, bq.size, bq.block⟩⟩
                        case measure => simp [intOf]; omega
                      · have hbb' : ∀ q, q < k3 + 1 → f q ≠ x := by
                          intro q h
                          rcases Nat.lt_or_eq_of_le (Nat.le_of_lt_succ h) with h | rfl
                          · exact hbb.elim (fun e => by cases e) (fun a => a q h)
                          · exact ex
                        clear hbb
                        by_cases e2 : (f k3).2 = x.2
                        · have e3 : ((f k3).1 == x.1) = false := by
                            have : (f k3).1 ≠ x.1 := fun e => ex (Prod.ext e e2)
                            simpa using this
                          rw [e2] at e0
                          clear ex
                          go_wp2_with fail
                          go_quiet (fail)
                          go_wp2
                          go_roundw
                          case rel => exact ⟨k3 + 1, false, by omega, by go_num, rfl, .inr hbb', ⟨bq.os, bq.tape, bq.output, bq.size, bq.block⟩⟩
                          case measure => simp [intOf]; omega
                        · have e3 : ((f k3).2 == x.2) = false := by simpa using e2
                          clear ex e2
                          go_wp2_with fail
                          go_quiet (fail)
                          go_wp2
                          go_roundw
                          case rel => exact ⟨k3 + 1, false, by omega, by go_num, rfl, .inr hbb', ⟨bq.os, bq.tape, bq.output, bq.size, bq.block⟩⟩
                          case measure => simp [intOf]; omega
                  · obtain rfl : k3 = m := by omega
                    obtain rfl : bb = true := by
                      rcases hbb with e | e
                      · exact e
                      · obtain ⟨q, hq, hqx⟩ := hMf x hx1
                        exact absurd hqx (e q hq)
                    have hno2 : ¬ ∃ z, (M' z ∧ to < z.1) ∧ z.2 = x.2 := by
                      rintro ⟨z, ⟨hz1, hz2⟩, hz3⟩
                      rw [hids z x hz1 hx1 hz3] at hz2
                      omega
                    have hno := has_none hno2
                    have CN := cancel_any (C6.below bq) x.2 (hw2 x hx1)
                    have z0 := (bq.cell (p := ⟨g, k2 * 2, none⟩) hg).trans y0'
                    clear hr hwf hMf hbb
                    by_cases c3 : k3 < n
                    · have i1' : (k3 : Int) < (n : Int) := by omega
                      have i2' : ¬ (k3 : Int) < 300 := by omega
                      clear m1 m2 m3
                      clear hlt3
                      go_wp2_with fail
                      go_at_call 12
                      refine CN.mono ?_
                      rintro e w8 ⟨rfl, C8, k8⟩
                      rw [if_neg (by rw [hno]; decide)]
                      have b8 := k8.below (B := w.heap.size) (Nat.le_trans bk6.size bq.size) hS
                      have C9 : Clk w8 cb S to (fun y => M' y ∧ to < y.1) nl := by
                        rw [hno] at C8
                        exact C8.congr fun y => ⟨fun h => ⟨h, fun e => hno2 ⟨y, h, e⟩⟩, fun h => h.1⟩
                      have D9 := (D6.below bq).kept k8 fun g' e hs => by
                        have := (World.ownsRow.lt D6 g' e).1
                        have := hSl g' hs
                        omega
                      clear CN C8 k8
                      go_wp2
                      go_roundw
                      case rel => exact ⟨k2 + 1, by omega, by go_num, C9, D9, (bk6.trans (bq.mono bk6.size)).trans b8⟩
                      case measure => simp [intOf]; omega
                    · have i1' : ¬ (k3 : Int) < (n : Int) := by omega
                      clear m1 m2 m3
                      clear hlt3
                      go_wp2_with fail
                      go_at_call 12
                      refine CN.mono ?_
                      rintro e w8 ⟨rfl, C8, k8⟩
                      rw [if_neg (by rw [hno]; decide)]
                      have b8 := k8.below (B := w.heap.size) (Nat.le_trans bk6.size bq.size) hS
                      have C9 : Clk w8 cb S to (fun y => M' y ∧ to < y.1) nl := by
                        rw [hno] at C8
                        exact C8.congr fun y => ⟨fun h => ⟨h, fun e => hno2 ⟨y, h, e⟩⟩, fun h => h.1⟩
                      have D9 := (D6.below bq).kept k8 fun g' e hs => by
                        have := (World.ownsRow.lt D6 g' e).1
                        have := hSl g' hs
                        omega
                      clear CN C8 k8
                      go_wp2
                      go_roundw
                      case rel => exact ⟨k2 + 1, by omega, by go_num, C9, D9, (bk6.trans (bq.mono bk6.size)).trans b8⟩
                      case measure => simp [intOf]; omega
          · obtain rfl : k2 = L.length := by omega
            clear hr hwf hMf
            by_cases c5 : 0 < nl
            · have NX := next_some C5 c5
              unfold vD at NX
              go_wp2_with fail
              go_at_call 17
              refine NX.mono ?_
              rintro e w8 ⟨x, rfl, ⟨hx1, _⟩, b8⟩
              have hx2 := hx1.2
              have b9 := bk5.trans (b8.mono bk5.size)
              clear NX
              go_wp2
              go_ret
              exact ⟨rfl, b9.alloc b9.size _⟩
            · obtain rfl : nl = 0 := by omega
              have NX := next_none C5
              unfold vD at NX
              go_wp2_with fail
              go_at_call 17
              refine NX.mono ?_
              rintro e w8 ⟨rfl, b8⟩
              have b9 := bk5.trans (b8.mono bk5.size)
              clear NX
              go_wp2
              go_ret
              exact ⟨rfl, b9.alloc b9.size _⟩
end Go.Proofs.Ythamaiibknmeeaa
