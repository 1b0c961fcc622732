/-
  'RulesSound' answers true. Condition: the configuration lies in memory; errorType holds what its text lays.
-/
import Derived.Test.YtlkoaldekmdcoaaGreatDoorQRE
import Derived.Test.YtlkoaldekmdcoaaGreatDoorQSmB
namespace Go.Proofs.YtlkoaldekmdcoaaGreatDoor
open Go.RowKit

set_option maxRecDepth 20000 in
set_option maxHeartbeats 16000000 in
theorem sound_ok (v : Value) (C : Cf) (w : World) (h : CfR w v C) (he : ET w) : Calls Tryz.prog 4 #[v] w fun e w' => e = .returned (.bool true) ∧ Below w.heap.size w w' := by
  have HF : Hd (Fits C) := ⟨h.fits⟩
  have HV : Hd (∀ W, Below w.heap.size w W → CfR W v C) := ⟨fun W b => h.carry b⟩
  have HT : Hd (∀ W, Below w.heap.size w W → ET W) := ⟨fun W b => he.stays b⟩
  obtain ⟨aL, cL, aS, cS, -, e0, -⟩ := h.ex
  subst e0
  clear h he
  obtain ⟨x0, x1, x2, x3, L, S⟩ := C
  simp only at HV ⊢
  obtain ⟨n, hn⟩ : ∃ n, n = L.length := ⟨_, rfl⟩
  obtain ⟨m, hm⟩ : ∃ m, m = S.length := ⟨_, rfl⟩
  have HN : Hd (n = L.length ∧ m = S.length) := ⟨hn, hm⟩
  rw [← hn, ← hm] at HV ⊢
  clear hn hm
  have AL := alloc_below w (.cells #[.int .i64 x0, .int .i64 x1, .int .i64 x2, .int .i64 x3, .slice aL n cL, .slice aS m cS] 25)
  have NB := Blk.new w 25 #[.int .i64 x0, .int .i64 x1, .int .i64 x2, .int .i64 x3, .slice aL n cL, .slice aS m cS]
  have AW := awake_ok (w.alloc (.cells #[.int .i64 x0, .int .i64 x1, .int .i64 x2, .int .i64 x3, .slice aL n cL, .slice aS m cS] 25)) (HT.out _ AL)
  go_enter Tryz.func4, Tryz.ntmps4
  go_wp2_with fail
  go_at_call 6
  refine AW.mono ?_
  rintro e w2 ⟨rfl, b2⟩
  have B2 : Below w.heap.size w w2 := AL.trans (b2.mono AL.size)
  have N2 := NB.kept (Kept.of_below b2 (fun _ => False)) id
  clear AW AL NB b2
  have SM := small_any _ _ w2 (HV.out w2 B2)
  have c0 := N2.cellv (v := .int .i64 x0) 0 rfl
  have c1 := N2.cellv (v := .int .i64 x1) 1 rfl
  have c2 := N2.cellv (v := .int .i64 x2) 2 rfl
  have c3 := N2.cellv (v := .int .i64 x3) 3 rfl
  have c4 := N2.cellv (v := .slice aL n cL) 4 rfl
  have c5 := N2.cellv (v := .slice aS m cS) 5 rfl
  obtain ⟨gc, hgc⟩ : ∃ gc, gc = w.heap.size := ⟨_, rfl⟩
  rw [← hgc] at c0 c1 c2 c3 c4 c5 N2 ⊢
  have HGC : Hd (gc = w.heap.size) := ⟨hgc⟩
  clear hgc
  go_wp2_with fail
  go_at_call 7
  refine SM.mono ?_
  rintro e w3 ⟨⟨b, rfl, hbnd⟩, b3⟩
  have B3 : Below w.heap.size w w3 := B2.trans (b3.mono B2.size)
  have N3 := N2.kept (Kept.of_below b3 (fun _ => False)) id
  have HB : Hd (b = true → Bnd 80 ⟨x0, x1, x2, x3, L, S⟩) := ⟨hbnd⟩
  clear SM b3 B2 c0 c1 c2 c3 c4 c5 hbnd N2
  cases b with
  | false =>
    go_wp2_with fail
    go_ret
    exact ⟨rfl, B3⟩
  | true =>
    have hbnd := HB.out rfl
    have FL := fill_ok _ _ w3 (HV.out w3 B3) (hbnd.mono (by decide))
    have FI := fillC_fits HF.out hbnd (by decide)
    have FB := fillC_bnd hbnd
    have c0 := N3.cellv (v := .int .i64 x0) 0 rfl
    have c1 := N3.cellv (v := .int .i64 x1) 1 rfl
    have c2 := N3.cellv (v := .int .i64 x2) 2 rfl
    have c3 := N3.cellv (v := .int .i64 x3) 3 rfl
    have c4 := N3.cellv (v := .slice aL n cL) 4 rfl
    have c5 := N3.cellv (v := .slice aS m cS) 5 rfl
    go_wp2_with fail
    go_at_call 8
    refine FL.mono ?_
    rintro e w4 ⟨⟨v, rfl, hcw⟩, b4⟩
    have B4 : Below w.heap.size w w4 := B3.trans (b4.mono B3.size)
    have N4 := N3.kept (Kept.of_below b4 (fun _ => False)) id
    have R4 := hcw.read FI
    clear FL b4 B3 N3 c0 c1 c2 c3 c4 c5
    have HF2 : Hd (Bnd 82 (fillC ⟨x0, x1, x2, x3, L, S⟩) ∧ Fits (fillC ⟨x0, x1, x2, x3, L, S⟩)) := ⟨FB, FI⟩
    clear hbnd FI FB HF HN HB HV
    generalize fillC ⟨x0, x1, x2, x3, L, S⟩ = D at *
    have HD : Hd (∀ W, Below w4.heap.size w4 W → CfR W v D) := ⟨fun W b => R4.carry b⟩
    have HCW : Hd (CfW w3.heap.size w4 v D) := ⟨hcw⟩
    clear hcw
    obtain ⟨bL, dL, bS, dS, -, e0, -⟩ := R4.ex
    subst e0
    clear R4
    have PA : Hd ((chk D).1 = 0 → Passes D) := ⟨chk_zero.1⟩
    have CK : Hd (∀ W, Below w4.heap.size w4 W → Calls Tryz.prog 10 #[.agg #[.int .i64 D.total, .int .i64 D.period, .int .i64 D.perSeat, .int .i64 D.most, .slice bL D.levels.length dL, .slice bS D.schemas.length dS]] W fun e w' => e = .returned (errV (chk D)) ∧ Below W.heap.size W w') := ⟨fun W b => check_ok _ D W (HD.out W b)⟩
    clear HCW
    obtain ⟨y0, y1, y2, y3, L2, S2⟩ := D
    simp only at HD CK ⊢
    obtain ⟨p, hp⟩ : ∃ p, p = L2.length := ⟨_, rfl⟩
    obtain ⟨r, hr⟩ : ∃ r, r = S2.length := ⟨_, rfl⟩
    have HP : Hd (p = L2.length ∧ r = S2.length) := ⟨hp, hr⟩
    have p9 : p ≤ 82 := by rw [hp]; exact HF2.out.1.lv
    have r9 : r ≤ 82 := by rw [hr]; exact HF2.out.1.sc
    rw [← hp, ← hr] at HD CK ⊢
    clear hp hr HF2
    have AL := alloc_below w4 (.cells #[.int .i64 y0, .int .i64 y1, .int .i64 y2, .int .i64 y3, .slice bL p dL, .slice bS r dS] 25)
    have NB := Blk.new w4 25 #[.int .i64 y0, .int .i64 y1, .int .i64 y2, .int .i64 y3, .slice bL p dL, .slice bS r dS]
    have B5 : Below w.heap.size w (w4.alloc (.cells #[.int .i64 y0, .int .i64 y1, .int .i64 y2, .int .i64 y3, .slice bL p dL, .slice bS r dS] 25)) := B4.trans (AL.mono B4.size)
    go_upto_region 6 with fail
    generalize w4.alloc _ = w5 at *
    generalize hg4 : w4.heap.size = g4 at *
    clear N4 B4
    have c0 := NB.cellv (v := .int .i64 y0) 0 rfl
    have c1 := NB.cellv (v := .int .i64 y1) 1 rfl
    have c2 := NB.cellv (v := .int .i64 y2) 2 rfl
    have c3 := NB.cellv (v := .int .i64 y3) 3 rfl
    have c4 := NB.cellv (v := .slice bL p dL) 4 rfl
    have c5 := NB.cellv (v := .slice bS r dS) 5 rfl
    have P := CK.out w5 AL
    go_wp2_with fail
    go_at_call 10
    refine P.mono ?_
    rintro e w6 ⟨rfl, b6⟩
    have B6 : Below w.heap.size w w6 := B5.trans (b6.mono B5.size)
    have A6 : Below g4 w4 w6 := AL.trans (b6.mono (by have := AL.size; omega))
    have N6 := NB.kept (Kept.of_below b6 (fun _ => False)) id
    clear P CK b6 B5 AL NB c0 c1 c2 c3 c4 c5
    cases hz : ((chk ⟨y0, y1, y2, y3, L2, S2⟩).1 == 0) with
    | false =>
      have hne : (chk ⟨y0, y1, y2, y3, L2, S2⟩).1 ≠ 0 := by simpa using hz
      have e : errV (chk ⟨y0, y1, y2, y3, L2, S2⟩) = .iface 71 (.agg #[.int .i64 0, .string (chk ⟨y0, y1, y2, y3, L2, S2⟩).2, .iface 35 (.int .i64 (chk ⟨y0, y1, y2, y3, L2, S2⟩).1)]) := (if_neg hne).trans rfl
      rw [e]
      clear e hne hz PA
      generalize (chk ⟨y0, y1, y2, y3, L2, S2⟩).1 = z1
      generalize (chk ⟨y0, y1, y2, y3, L2, S2⟩).2 = z2
      go_wp2_with fail
      go_ret
      exact ⟨rfl, B6⟩
    | true =>
      have hz0 : (chk ⟨y0, y1, y2, y3, L2, S2⟩).1 = 0 := by simpa using hz
      have PS : Hd (Passes ⟨y0, y1, y2, y3, L2, S2⟩) := ⟨PA.out hz0⟩
      have e : errV (chk ⟨y0, y1, y2, y3, L2, S2⟩) = .nilIface := if_pos hz0
      rw [e]
      clear e hz0 hz PA
      have c4 := N6.cellv (v := .slice bL p dL) 4 rfl
      go_wp2_with fail
      clear c4
      go_loopw [4, 5, 6, 7, 8, 9] (fun s4 s5 s6 s7 s8 s9 wr => ∃ (k : Nat) (a b : Int), k ≤ p ∧ s6 = .int .i64 k ∧ s4 = .int .i64 a ∧ s5 = .int .i64 b ∧ Hd ((0 ≤ a ∧ a ≤ k ∧ ((∃ j, ∃ h : j < L2.length, j < k ∧ L2[j].kind = 1) → 0 < a)) ∧ (0 ≤ b ∧ b ≤ 10000 * k ∧ ((∃ j, ∃ h : j < L2.length, j < k ∧ 0 < L2[j].shares) → 0 < b)) ∧ Below w.heap.size w wr ∧ Below g4 w4 wr ∧ Blk wr g4 25 #[.int .i64 y0, .int .i64 y1, .int .i64 y2, .int .i64 y3, .slice bL p dL, .slice bS r dS])) (fun _ _ s6 _ _ _ _ => p - (intOf s6).toNat)
      case atStart => exact ⟨0, 0, 0, Nat.zero_le _, rfl, rfl, rfl, ⟨⟨by omega, by omega, fun ⟨_, _, h, _⟩ => absurd h (Nat.not_lt_zero _)⟩, ⟨by omega, by omega, fun ⟨_, _, h, _⟩ => absurd h (Nat.not_lt_zero _)⟩, B6, A6, N6⟩⟩
      case round =>
        obtain ⟨k, a, b0, hk, rfl, rfl, rfl, hI⟩ := hrel
        clear B6 A6 N6
        have c4 := hI.out.2.2.2.2.cellv (v := .slice bL p dL) 4 rfl
        by_cases hlt : k < p
        · have hkL : k < L2.length := by rw [← HP.out.1]; exact hlt
          obtain ⟨aL', cL', aS', cS', V, e', -, -, hLv, -⟩ := (HD.out wr hI.out.2.2.2.1).ex
          obtain ⟨b, off, rfl, hb, hcs⟩ : ∃ b off, bL = some ⟨b, off, none⟩ ∧ b < wr.heap.size ∧ ∀ k (h : k < L2.length), ∀ j, j < 10 → wr.cell? ⟨b, off + k * 10 + j, none⟩ = (lvC L2[k])[j]? := by
            injection e' with e'
            simp only [Array.mk.injEq, List.cons.injEq, Value.slice.injEq, and_true] at e'
            obtain ⟨-, -, -, -, ⟨rfl, -⟩, -⟩ := e'
            exact hLv (by show 0 < L2.length; omega)
          have cs := hcs k hkL
          have z0 : wr.cell? ⟨b, off + k * 10, none⟩ = some (.string L2[k].name) := cs 0 (by decide)
          have z1 : wr.cell? ⟨b, off + k * 10 + 1, none⟩ = some (.int .i64 L2[k].kind) := cs 1 (by decide)
          have z2 : wr.cell? ⟨b, off + k * 10 + 2, none⟩ = some (.int .i64 L2[k].shares) := cs 2 (by decide)
          have z3 : wr.cell? ⟨b, off + k * 10 + 3, none⟩ = some (.int .i64 L2[k].lend) := cs 3 (by decide)
          have z4 : wr.cell? ⟨b, off + k * 10 + 4, none⟩ = some (.int .i64 L2[k].borrow) := cs 4 (by decide)
          have z5 : wr.cell? ⟨b, off + k * 10 + 5, none⟩ = some (.int .i64 L2[k].queues) := cs 5 (by decide)
          have z6 : wr.cell? ⟨b, off + k * 10 + 6, none⟩ = some (.int .i64 L2[k].hand) := cs 6 (by decide)
          have z7 : wr.cell? ⟨b, off + k * 10 + 7, none⟩ = some (.int .i64 L2[k].length) := cs 7 (by decide)
          have z8 : wr.cell? ⟨b, off + k * 10 + 8, none⟩ = some (.int .i64 L2[k].wait) := cs 8 (by decide)
          have z9 : wr.cell? ⟨b, off + k * 10 + 9, none⟩ = some (.int .i64 L2[k].guess) := cs 9 (by decide)
          have AL := alloc_below wr (.cells (lvA L2[k]) 40)
          have NL := Blk.new wr 40 (lvA L2[k])
          have B7 : Below w.heap.size w (wr.alloc (.cells (lvA L2[k]) 40)) := hI.out.2.2.1.trans (AL.mono hI.out.2.2.1.size)
          have A7 : Below g4 w4 (wr.alloc (.cells (lvA L2[k]) 40)) := hI.out.2.2.2.1.trans (AL.mono (by have := hI.out.2.2.2.1.size; omega))
          have N7 := hI.out.2.2.2.2.kept (Kept.of_below AL (fun _ => False)) id
          have hmem : L2[k] ∈ L2 := List.getElem_mem hkL
          have HH : Hd (L2[k].kind = 3 → refH L2[k].queues L2[k].hand = 0) := ⟨fun e => PS.out.hands hmem e⟩
          obtain ⟨s0, s1⟩ := PS.out.shares hmem
          have HK : Hd (k < p) := ⟨hlt⟩
          obtain ⟨⟨a0, a1, a2⟩, ⟨e0, e1, e2⟩, -⟩ := hI.out
          have HA : Hd (∀ a' : Int, (a' = a ∧ L2[k].kind ≠ 1) ∨ a' = a + 1 → 0 ≤ a' ∧ a' ≤ ((k + 1 : Nat) : Int) ∧ ((∃ j, ∃ h : j < L2.length, j < k + 1 ∧ L2[j].kind = 1) → 0 < a')) := ⟨fun a' h => ⟨by rcases h with h | h <;> omega, by rcases h with h | h <;> omega, fun ⟨j, hj, hjk, e⟩ => by
            rcases h with h | h
            · rcases Nat.lt_or_eq_of_le (Nat.le_of_lt_succ hjk) with h' | h'
              · have := a2 ⟨j, hj, h', e⟩; omega
              · subst h'; exact absurd e h.2
            · omega⟩⟩
          have HS : Hd (0 ≤ b0 + L2[k].shares ∧ b0 + L2[k].shares ≤ 10000 * ((k + 1 : Nat) : Int) ∧ ((∃ j, ∃ h : j < L2.length, j < k + 1 ∧ 0 < L2[j].shares) → 0 < b0 + L2[k].shares)) := ⟨by omega, by omega, fun ⟨j, hj, hjk, e⟩ => by
            rcases Nat.lt_or_eq_of_le (Nat.le_of_lt_succ hjk) with h' | h'
            · have := e2 ⟨j, hj, h', e⟩; omega
            · subst h'; omega⟩
          have HU : Hd (∀ a' : Int, (a' = a ∧ L2[k].kind ≠ 1) ∨ a' = a + 1 → ∀ W, Below w.heap.size w W → Below g4 w4 W → Blk W g4 25 #[.int .i64 y0, .int .i64 y1, .int .i64 y2, .int .i64 y3, .slice (some ⟨b, off, none⟩) p dL, .slice bS r dS] → Hd ((0 ≤ a' ∧ a' ≤ ((k + 1 : Nat) : Int) ∧ ((∃ j, ∃ h : j < L2.length, j < k + 1 ∧ L2[j].kind = 1) → 0 < a')) ∧ (0 ≤ b0 + L2[k].shares ∧ b0 + L2[k].shares ≤ 10000 * ((k + 1 : Nat) : Int) ∧ ((∃ j, ∃ h : j < L2.length, j < k + 1 ∧ 0 < L2[j].shares) → 0 < b0 + L2[k].shares)) ∧ Below w.heap.size w W ∧ Below g4 w4 W ∧ Blk W g4 25 #[.int .i64 y0, .int .i64 y1, .int .i64 y2, .int .i64 y3, .slice (some ⟨b, off, none⟩) p dL, .slice bS r dS])) := ⟨fun a' h W q1 q2 q3 => ⟨HA.out a' h, HS.out, q1, q2, q3⟩⟩
          clear hI hcs cs hLv e' hb AL a2 e2 HA HS hmem
          unfold lvA at B7 A7 N7 NL
          generalize L2[k] = l at *
          clear hkL
          have i1 : (k : Int) < (p : Int) := by omega
          go_upto_region 13 with fail
          generalize wr.alloc _ = w7 at *
          generalize wr.heap.size = g7 at *
          clear z0 z1 z2 z3 z4 z5 z6 z7 z8 z9 c4
          have d1 := NL.cellv (v := .int .i64 l.kind) 1 rfl
          have d2 := NL.cellv (v := .int .i64 l.shares) 2 rfl
          have d5 := NL.cellv (v := .int .i64 l.queues) 5 rfl
          have d6 := NL.cellv (v := .int .i64 l.hand) 6 rfl
          by_cases k3 : l.kind = 3
          · have kb : (l.kind == 3) = true := by simp [k3]
            have kb1 : (l.kind == 1) = false := by simp [k3]
            obtain ⟨D', m', f1, f2, hg⟩ := hgood_of (HH.out k3)
            have HY := fun W => hands_yes D' m' W hg
            have hp1 : 1 ≤ hP D' m' := hP_pos m' hg.nd
            have hp2 := hP_big hg.d1 (n := m') hg.n1
            have U := HU.out a (.inl ⟨rfl, by omega⟩) w7 B7 A7 N7
            rw [f1] at d5
            rw [f2] at d6
            clear HH k3 f1 f2 hg HU
            generalize hP D' m' = z at *
            have zl : decide ((z : Int) < 1) = false := by simp; omega
            go_wp2_with (go_at_call 15; refine (HY _).mono ?_; rintro e w' ⟨rfl, hw⟩; obtain rfl := hw.symm)
            go_roundw
            case rel =>
              first
                | exact ⟨k + 1, a, b0 + l.shares, HK.out, by go_num, rfl, by go_num, U⟩
                | ((repeat apply Exists.intro); exact ⟨⟨k + 1, a, b0 + l.shares, HK.out, by go_num, rfl, by go_num, U⟩, rfl⟩)
            case measure => have := HK.out; simp [intOf]; omega
          · have kb : (l.kind == 3) = false := by simpa using k3
            by_cases k1 : l.kind = 1
            · have kb1 : (l.kind == 1) = true := by simp [k1]
              have U := HU.out (a + 1) (.inr rfl) w7 B7 A7 N7
              clear HH k3 k1 HU
              go_wp2_with fail
              go_roundw
              case rel =>
                first
                  | exact ⟨k + 1, a + 1, b0 + l.shares, HK.out, by go_num, by go_num, by go_num, U⟩
                  | ((repeat apply Exists.intro); exact ⟨⟨k + 1, a + 1, b0 + l.shares, HK.out, by go_num, by go_num, by go_num, U⟩, rfl⟩)
              case measure => have := HK.out; simp [intOf]; omega
            · have kb1 : (l.kind == 1) = false := by simpa using k1
              have U := HU.out a (.inl ⟨rfl, k1⟩) w7 B7 A7 N7
              clear HH k3 k1 HU
              go_wp2_with fail
              go_roundw
              case rel =>
                first
                  | exact ⟨k + 1, a, b0 + l.shares, HK.out, by go_num, rfl, by go_num, U⟩
                  | ((repeat apply Exists.intro); exact ⟨⟨k + 1, a, b0 + l.shares, HK.out, by go_num, rfl, by go_num, U⟩, rfl⟩)
              case measure => have := HK.out; simp [intOf]; omega
        · obtain rfl : k = p := by omega
          have ha : 0 < a := hI.out.1.2.2 (by obtain ⟨j, hj, e⟩ := PS.out.ex; exact ⟨j, hj, by rw [HP.out.1]; exact hj, e⟩)
          have hb : 0 < b0 := hI.out.2.1.2.2 (by obtain ⟨j, hj, e⟩ := PS.out.sh; exact ⟨j, hj, by rw [HP.out.1]; exact hj, e⟩)
          have ha2 : a ≤ 82 := by have := hI.out.1.2.1; omega
          have hb2 : b0 ≤ 820000 := by have := hI.out.2.1.2.1; omega
          have B8 := hI.out.2.2.1
          have A8 := hI.out.2.2.2.1
          have N8 := hI.out.2.2.2.2
          clear hI
          go_wp2_with fail
          clear c4
          go_loopw [10, 11, 12] (fun s10 s11 s12 wr => ∃ q : Nat, q ≤ r ∧ s10 = .int .i64 q ∧ Hd (Below w.heap.size w wr ∧ Below g4 w4 wr ∧ Blk wr g4 25 #[.int .i64 y0, .int .i64 y1, .int .i64 y2, .int .i64 y3, .slice bL k dL, .slice bS r dS])) (fun s10 _ _ _ => r - (intOf s10).toNat)
          case atStart => exact ⟨0, Nat.zero_le _, rfl, ⟨B8, A8, N8⟩⟩
          case round =>
            obtain ⟨q, hq, rfl, hI⟩ := hrel
            clear B8 A8 N8
            have c5 := hI.out.2.2.cellv (v := .slice bS r dS) 5 rfl
            by_cases hlt2 : q < r
            · have hqS : q < S2.length := by rw [← HP.out.2]; exact hlt2
              have ONE : Hd (cnt L2 S2[q].level k = 1) := ⟨by rw [HP.out.1]; exact PS.out.one (List.getElem_mem hqS)⟩
              have HK : Hd (q < r) := ⟨hlt2⟩
              have i2 : (q : Int) < (r : Int) := by omega
              obtain ⟨aL', cL', aS', cS', V, e', -, -, hLv, hV, hSc, -⟩ := (HD.out wr hI.out.2.1).ex
              injection e' with e'
              simp only [Array.mk.injEq, List.cons.injEq, Value.slice.injEq, and_true] at e'
              obtain ⟨-, -, -, -, ⟨e1, -⟩, e2, -⟩ := e'
              subst e1 e2
              obtain ⟨b, off, rfl, hb', hcs⟩ := hSc (by show 0 < S2.length; omega)
              have x1' : wr.cell? ⟨b, off + q * 5 + 1, none⟩ = some (.string S2[q].level) := hcs q hqS (by rw [hV]; exact hqS) 1 (by decide)
              have HX : Hd (∀ n, (wr.drewN n).cell? ⟨b, off + q * 5 + 1, none⟩ = some (.string S2[q].level)) := ⟨fun _ => x1'⟩
              have HLV : Hd (∀ j (h : j < L2.length), ∃ b' off', bL = some ⟨b', off', none⟩ ∧ ∀ n, (wr.drewN n).cell? ⟨b', off' + j * 10, none⟩ = some (.string L2[j].name)) := ⟨fun j h => by
                obtain ⟨b', off', rfl, -, hc⟩ := hLv (by show 0 < L2.length; omega)
                exact ⟨b', off', rfl, fun _ => hc j h 0 (by decide)⟩⟩
              have HBX : Hd (∀ n, Blk (wr.drewN n) g4 25 #[.int .i64 y0, .int .i64 y1, .int .i64 y2, .int .i64 y3, .slice bL k dL, .slice (some ⟨b, off, none⟩) r dS]) := ⟨fun _ => hI.out.2.2⟩
              have HBB : Hd (∀ n, Below w.heap.size w (wr.drewN n) ∧ Below g4 w4 (wr.drewN n)) := ⟨fun n => ⟨hI.out.1.trans ((below_drew wr n).mono hI.out.1.size), hI.out.2.1.trans ((below_drew wr n).mono (by have := hI.out.2.1.size; omega))⟩⟩
              clear hI hcs hLv hSc hV hb' x1'
              generalize S2[q].level = x at *
              go_upto_region 25 with fail
              clear c5
              go_loopw [11, 12] (fun s11 s12 wi => ∃ (j n : Nat), j ≤ k ∧ s12 = .int .i64 j ∧ s11 = .int .i64 (cnt L2 x j : Nat) ∧ wi = wr.drewN n) (fun _ s12 _ => k - (intOf s12).toNat)
              case atStart => exact ⟨0, 0, Nat.zero_le _, rfl, rfl, rfl⟩
              case round =>
                obtain ⟨j, nn, hj, rfl, rfl, rfl⟩ := hrel
                have N9 := HBX.out nn
                have N10 : Blk wr g4 25 #[.int .i64 y0, .int .i64 y1, .int .i64 y2, .int .i64 y3, .slice bL k dL, .slice (some ⟨b, off, none⟩) r dS] := N9
                have c4 := N10.cellv (v := .slice bL k dL) 4 rfl
                by_cases hlt3 : j < k
                · have hjL : j < L2.length := by rw [← HP.out.1]; exact hlt3
                  obtain ⟨b', off', rfl, hcn⟩ := HLV.out j hjL
                  have z0 : wr.cell? ⟨b', off' + j * 10, none⟩ = some (.string L2[j].name) := hcn nn
                  have z1 : wr.cell? ⟨b, off + q * 5 + 1, none⟩ = some (.string x) := HX.out nn
                  have c5 := N10.cellv (v := .slice (some ⟨b, off, none⟩) r dS) 5 rfl
                  have HS := cnt_succ L2 x j hjL
                  have hc := cnt_le L2 x j
                  have HJ : Hd (j < k) := ⟨hlt3⟩
                  have i3 : (j : Int) < (k : Int) := by omega
                  by_cases hx : L2[j].name = x
                  · have q1 := str_is hx
                    have E : Hd (cnt L2 x (j + 1) = cnt L2 x j + 1) := ⟨by rw [HS, if_pos hx]⟩
                    clear HS hx hcn HLV HX N9 N10 HBX HBB
                    generalize L2[j].name = y at *
                    generalize cnt L2 x j = c at *
                    go_wp2_with fail
                    go_quiet (fail)
                    go_wp2_with fail
                    go_roundw
                    case rel =>
                      first
                        | exact ⟨j + 1, _, HJ.out, by go_num, by rw [E.out]; go_num, rfl⟩
                        | ((repeat apply Exists.intro); exact ⟨⟨j + 1, _, HJ.out, by go_num, by rw [E.out]; go_num, rfl⟩, rfl⟩)
                    case measure => have := HJ.out; simp [intOf]; omega
                  · have q1 := str_isnt hx
                    have E : Hd (cnt L2 x (j + 1) = cnt L2 x j) := ⟨by rw [HS, if_neg hx]; omega⟩
                    clear HS hx hcn HLV HX N9 N10 HBX HBB
                    generalize L2[j].name = y at *
                    generalize cnt L2 x j = c at *
                    go_wp2_with fail
                    go_quiet (fail)
                    go_wp2_with fail
                    go_roundw
                    case rel =>
                      first
                        | exact ⟨j + 1, _, HJ.out, by go_num, by rw [E.out], rfl⟩
                        | ((repeat apply Exists.intro); exact ⟨⟨j + 1, _, HJ.out, by go_num, by rw [E.out], rfl⟩, rfl⟩)
                    case measure => have := HJ.out; simp [intOf]; omega
                · obtain rfl : j = k := by omega
                  have F := HBB.out nn
                  rw [ONE.out]
                  have FF : Hd (Below w.heap.size w (wr.drewN nn) ∧ Below g4 w4 (wr.drewN nn) ∧ Blk (wr.drewN nn) g4 25 #[.int .i64 y0, .int .i64 y1, .int .i64 y2, .int .i64 y3, .slice bL j dL, .slice (some ⟨b, off, none⟩) r dS]) := ⟨F.1, F.2, N9⟩
                  clear F N9 N10 HBX HBB HX HLV ONE
                  go_wp2_with fail
                  go_roundw
                  case rel =>
                    first
                      | exact ⟨q + 1, HK.out, by go_num, FF⟩
                      | ((repeat apply Exists.intro); exact ⟨⟨q + 1, HK.out, by go_num, FF⟩, rfl⟩)
                  case measure => have := HK.out; simp [intOf]; omega
            · obtain rfl : q = r := by omega
              obtain ⟨t1, t2, t3, t4⟩ := PS.out.nums
              have t5 := PS.out.f.t
              have t6 := PS.out.f.p
              simp only at t1 t2 t3 t4 t5 t6
              have BF := hI.out.1
              have NF := hI.out.2.2
              have q0 : decide (0 < y0) = true := decide_eq_true t1
              have q1 : decide (0 < y1) = true := decide_eq_true t2
              have q2 : decide (0 < y2) = true := decide_eq_true t3
              have q3 : decide (0 < y3) = true := decide_eq_true t4
              have c0 := NF.cellv (v := .int .i64 y0) 0 rfl
              have c1 := NF.cellv (v := .int .i64 y1) 1 rfl
              have c2 := NF.cellv (v := .int .i64 y2) 2 rfl
              have c3 := NF.cellv (v := .int .i64 y3) 3 rfl
              clear hI NF
              go_wp2_with fail
              go_ret
              exact ⟨rfl, BF⟩

end Go.Proofs.YtlkoaldekmdcoaaGreatDoor
