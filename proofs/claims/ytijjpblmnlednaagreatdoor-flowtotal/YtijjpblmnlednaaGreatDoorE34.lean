/-
  'Check' of the program: nil, or the first error, of what it is of.
-/
import Derived.Test.YtijjpblmnlednaaGreatDoorE33
namespace Go.Proofs.YtijjpblmnlednaaGreatDoor
open Go.RowKit
/-- The error as a value. -/
def errV (p : Int × ByteArray) : Value := if p.1 = 0 then .nilIface else val (.inl p.1) [⟨0, p.2⟩]
theorem errV_no {n : Int} {s : ByteArray} (h : n ≠ 0) : errV (n, s) = val (.inl n) [⟨0, s⟩] := if_neg h
theorem errV_nil {s : ByteArray} : errV (0, s) = .nilIface := if_pos rfl

theorem name_short {x : ByteArray} (h : isName x = true) : x.size ≤ 32 := by
  unfold isName at h
  simp only [Bool.and_eq_true, decide_eq_true_eq] at h
  exact h.1
theorem formed_lv {C : Cf} (h : Formed C) {l : Lv} (hl : l ∈ C.levels) : l.name.size ≤ 32 := by
  have := (lvOk_iff.1 (h.lv l hl)).1
  exact name_short this
theorem formed_sc {C : Cf} (h : Formed C) {s : Sc} (hs : s ∈ C.schemas) : s.name.size ≤ 32 := name_short (scOk_iff.1 (h.sc s hs)).1

/-- Up to a level, a schema, all is well. -/
theorem firstL_at : ∀ (L : List Lv) (k : Nat) (h : k < L.length), (∀ j (hj : j < L.length), j < k → lvErr L[j] = 0) → lvErr L[k] ≠ 0 → firstL L = (lvErr L[k], lvT L[k].name)
  | [], k, h, _, _ => absurd h (Nat.not_lt_zero _)
  | l :: r, 0, _, _, hk => by
    have hk' : lvErr l ≠ 0 := hk
    unfold firstL
    rw [if_neg hk']
    rfl
  | l :: r, k + 1, h, ha, hk => by
    have h0 : lvErr l = 0 := ha 0 (by simp) (by omega)
    unfold firstL
    rw [if_pos h0]
    exact firstL_at r k (by simpa using h) (fun j hj hjk => ha (j + 1) (by simpa using hj) (by omega)) hk
theorem firstS_at (M : List Lv) : ∀ (L : List Sc) (k : Nat) (h : k < L.length), (∀ j (hj : j < L.length), j < k → scErr M L[j] = 0) → scErr M L[k] ≠ 0 → firstS M L = (scErr M L[k], scT L[k].name)
  | [], k, h, _, _ => absurd h (Nat.not_lt_zero _)
  | l :: r, 0, _, _, hk => by
    have hk' : scErr M l ≠ 0 := hk
    unfold firstS
    rw [if_neg hk']
    rfl
  | l :: r, k + 1, h, ha, hk => by
    have h0 : scErr M l = 0 := ha 0 (by simp) (by omega)
    unfold firstS
    rw [if_pos h0]
    exact firstS_at M r k (by simpa using h) (fun j hj hjk => ha (j + 1) (by simpa using hj) (by omega)) hk

theorem chk_unformed {C : Cf} (h : formed C = false) : chk C = (2, ⟨#[]⟩) := by unfold chk; rw [h]; rfl
theorem chk_number {C : Cf} (h : formed C = true) (h1 : lackN C ≠ ⟨#[]⟩) : chk C = (12, lackN C) := by unfold chk; rw [if_pos h, if_neg h1]
theorem chk_level {C : Cf} (h : formed C = true) (h1 : lackN C = ⟨#[]⟩) (h2 : (firstL C.levels).1 ≠ 0) : chk C = firstL C.levels := by unfold chk; rw [if_pos h, if_pos h1, if_neg h2]
theorem chk_schema {C : Cf} (h : formed C = true) (h1 : lackN C = ⟨#[]⟩) (h2 : (firstL C.levels).1 = 0) (h3 : (firstS C.levels C.schemas).1 ≠ 0) : chk C = firstS C.levels C.schemas := by
  unfold chk; rw [if_pos h, if_pos h1, if_pos h2, if_neg h3]
theorem chk_part {C : Cf} (h : formed C = true) (h1 : lackN C = ⟨#[]⟩) (h2 : (firstL C.levels).1 = 0) (h3 : (firstS C.levels C.schemas).1 = 0) (h4 : lackP C ≠ ⟨#[]⟩) : chk C = (12, lackP C) := by
  unfold chk; rw [if_pos h, if_pos h1, if_pos h2, if_pos h3, if_neg h4]
theorem chk_fine {C : Cf} (h : formed C = true) (h1 : lackN C = ⟨#[]⟩) (h2 : (firstL C.levels).1 = 0) (h3 : (firstS C.levels C.schemas).1 = 0) (h4 : lackP C = ⟨#[]⟩) : chk C = (0, ⟨#[]⟩) := by
  unfold chk; rw [if_pos h, if_pos h1, if_pos h2, if_pos h3, if_pos h4]

set_option maxRecDepth 20000 in
set_option maxHeartbeats 8000000 in
theorem check_ok (v : Value) (C : Cf) (w : World) (h : CfR w v C) : Calls Tryz.prog 11 #[v] w fun e w' => e = .returned (errV (chk C)) ∧ Below w.heap.size w w' := by
  have HV : Hd (∀ W, Below w.heap.size w W → CfR W v C) := ⟨fun W b => h.carry b⟩
  have HF : Hd (∀ W, Below w.heap.size w W → Calls Tryz.prog 28 #[v] W fun e w' => e = .returned (.bool (formed C)) ∧ Below W.heap.size W w') := ⟨fun W b => formed_ok v C W (h.carry b)⟩
  have HN : Hd (∀ W, Below w.heap.size w W → Calls Tryz.prog 29 #[v] W fun e w' => e = .returned (.string (lackN C)) ∧ Below W.heap.size W w') := ⟨fun W b => lackN_ok v C W (h.carry b)⟩
  have HP : Hd (formed C = true → ∀ W, Below w.heap.size w W → Calls Tryz.prog 34 #[v] W fun e w' => e = .returned (.string (lackP C)) ∧ Below W.heap.size W w') :=
    ⟨fun f W b => lackP_ok v C W (h.carry b) (Nat.le_trans (formed_iff.1 f).nl (by decide)) (Nat.le_trans (formed_iff.1 f).ns (by decide))⟩
  have HL : Hd (formed C = true → ∀ k (hk : k < C.levels.length) W, Calls Tryz.prog 31 #[.string C.levels[k].name] W fun e w' => e = .returned (.string (lvT C.levels[k].name)) ∧ w' = W) :=
    ⟨fun f k hk W => lvText_ok _ W (Nat.le_trans (formed_lv (formed_iff.1 f) (List.getElem_mem hk)) (by decide))⟩
  have HS : Hd (formed C = true → ∀ k (hk : k < C.schemas.length) W, Calls Tryz.prog 33 #[.string C.schemas[k].name] W fun e w' => e = .returned (.string (scT C.schemas[k].name)) ∧ w' = W) :=
    ⟨fun f k hk W => scText_ok _ W (Nat.le_trans (formed_sc (formed_iff.1 f) (List.getElem_mem hk)) (by decide))⟩
  have HB : Hd (formed C = true → C.levels.length ≤ 16 ∧ C.schemas.length ≤ 32) := ⟨fun f => ⟨(formed_iff.1 f).nl, (formed_iff.1 f).ns⟩⟩
  have OF := of_ok
  obtain ⟨aL, cL, aS, cS, V0, rfl, -⟩ := id h.ex
  clear h V0
  obtain ⟨C0, hC0⟩ : ∃ C0, C0 = C := ⟨_, rfl⟩
  have HC : Hd (C0 = C) := ⟨hC0⟩
  obtain ⟨R, hR⟩ : ∃ R, R = errV (chk C) := ⟨_, rfl⟩
  have HE : Hd (R = errV (chk C)) := ⟨hR⟩
  rw [← hR]
  clear hR hC0
  obtain ⟨x0, x1, x2, x3, L, S⟩ := C
  simp only at HV HF HN HP HL HS HB ⊢
  obtain ⟨n, hn⟩ : ∃ n, n = L.length := ⟨_, rfl⟩
  obtain ⟨m, hm⟩ : ∃ m, m = S.length := ⟨_, rfl⟩
  have HM : Hd (n = L.length ∧ m = S.length) := ⟨hn, hm⟩
  rw [← hn, ← hm] at HV HF HN HP HB ⊢
  clear hn hm
  have AL := alloc_below w (.cells #[.int .i64 x0, .int .i64 x1, .int .i64 x2, .int .i64 x3, .slice aL n cL, .slice aS m cS] 25)
  have NB := Blk.new w 25 #[.int .i64 x0, .int .i64 x1, .int .i64 x2, .int .i64 x3, .slice aL n cL, .slice aS m cS]
  go_enter Tryz.func11, Tryz.ntmps11
  go_upto_region 1 with fail
  generalize w.alloc _ = w1 at *
  obtain ⟨gc, hgc⟩ : ∃ gc, gc = w.heap.size := ⟨_, rfl⟩
  rw [← hgc] at NB ⊢
  have HG : Hd (gc = w.heap.size) := ⟨hgc⟩
  clear hgc
  have c0 := NB.cellv (v := .int .i64 x0) 0 rfl
  have c1 := NB.cellv (v := .int .i64 x1) 1 rfl
  have c2 := NB.cellv (v := .int .i64 x2) 2 rfl
  have c3 := NB.cellv (v := .int .i64 x3) 3 rfl
  have c4 := NB.cellv (v := .slice aL n cL) 4 rfl
  have c5 := NB.cellv (v := .slice aS m cS) 5 rfl
  have P1 := HF.out w1 AL
  go_wp2_with fail
  go_at_call 28
  refine P1.mono ?_
  rintro e w2 ⟨rfl, b2⟩
  have B2 : Below w.heap.size w w2 := AL.trans (b2.mono AL.size)
  have N2 := NB.kept (Kept.of_below b2 (fun _ => False)) id
  clear P1 b2 AL NB c0 c1 c2 c3 c4 c5 HF
  cases hf : formed ⟨x0, x1, x2, x3, L, S⟩ with
  | false =>
    have E := HE.out.trans ((congrArg errV (chk_unformed hf)).trans (errV_no (by decide)))
    have O := fun W => OF ⟨#[]⟩ 2 W
    have HEE : Hd (R = val (.inl 2) [⟨0, ⟨#[]⟩⟩]) := ⟨E⟩
    clear hf E HE OF
    generalize val (.inl 2) [⟨0, ⟨#[]⟩⟩] = q at *
    go_wp2_with (go_at_call 17; refine (O _).mono ?_; rintro e w' ⟨rfl, hw⟩; obtain rfl := hw.symm)
    go_ret
    exact ⟨by rw [HEE.out]; rfl, B2⟩
  | true =>
    have HFM : Hd (formed ⟨x0, x1, x2, x3, L, S⟩ = true) := ⟨hf⟩
    obtain ⟨hn16, hm32⟩ := HB.out hf
    clear hf
    have c0 := N2.cellv (v := .int .i64 x0) 0 rfl
    have c1 := N2.cellv (v := .int .i64 x1) 1 rfl
    have c2 := N2.cellv (v := .int .i64 x2) 2 rfl
    have c3 := N2.cellv (v := .int .i64 x3) 3 rfl
    have c4 := N2.cellv (v := .slice aL n cL) 4 rfl
    have c5 := N2.cellv (v := .slice aS m cS) 5 rfl
    have P2 := HN.out w2 B2
    go_wp2_with fail
    go_at_call 29
    refine P2.mono ?_
    rintro e w3 ⟨rfl, b3⟩
    have B3 : Below w.heap.size w w3 := B2.trans (b3.mono B2.size)
    have N3 := N2.kept (Kept.of_below b3 (fun _ => False)) id
    clear P2 b3 B2 N2 c0 c1 c2 c3 c4 c5 HN
    have hlk : (lackN ⟨x0, x1, x2, x3, L, S⟩).toList.isEmpty = decide (lackN ⟨x0, x1, x2, x3, L, S⟩ = ⟨#[]⟩) := by
      have := name_eq (lackN ⟨x0, x1, x2, x3, L, S⟩) ⟨#[]⟩
      rw [← this, ByteArray.toList_eq (⟨#[]⟩ : ByteArray)]
      cases (lackN ⟨x0, x1, x2, x3, L, S⟩).toList <;> rfl
    by_cases h1 : lackN ⟨x0, x1, x2, x3, L, S⟩ = ⟨#[]⟩
    · have HLK : Hd (lackN ⟨x0, x1, x2, x3, L, S⟩ = ⟨#[]⟩) := ⟨h1⟩
      rw [h1]
      clear hlk h1
      have c4 := N3.cellv (v := .slice aL n cL) 4 rfl
      go_wp2_with fail
      clear c4
      go_loopw [5, 6, 26] (fun s5 s6 i wr => ∃ k : Nat, k ≤ n ∧ i = .int .i64 k ∧ Hd ((∀ j (h : j < L.length), j < k → lvErr L[j] = 0) ∧ Below w.heap.size w wr ∧ Blk wr gc 25 #[.int .i64 x0, .int .i64 x1, .int .i64 x2, .int .i64 x3, .slice aL n cL, .slice aS m cS])) (fun _ _ i _ => n - (intOf i).toNat)
      case atStart => exact ⟨0, Nat.zero_le _, rfl, ⟨fun _ _ h => absurd h (Nat.not_lt_zero _), B3, N3⟩⟩
      case round =>
        obtain ⟨k, hk, rfl, hI⟩ := hrel
        clear B3 N3
        by_cases hlt : k < n
        · have hkL : k < L.length := by rw [← HM.out.1]; exact hlt
          obtain ⟨aL', cL', aS', cS', V, e', -, -, hLv, -⟩ := (HV.out wr hI.out.2.1).ex
          obtain ⟨b, off, rfl, hb, hcs⟩ : ∃ b off, aL = some ⟨b, off, none⟩ ∧ b < wr.heap.size ∧ ∀ k (h : k < L.length), ∀ j, j < 10 → wr.cell? ⟨b, off + k * 10 + j, none⟩ = (lvC L[k])[j]? := by
            injection e' with e'
            simp only [Array.mk.injEq, List.cons.injEq, Value.slice.injEq, and_true] at e'
            obtain ⟨-, -, -, -, ⟨rfl, -⟩, -⟩ := e'
            exact hLv (by show 0 < L.length; omega)
          have cs := hcs k hkL
          have x0' : wr.cell? ⟨b, off + k * 10, none⟩ = some (.string L[k].name) := cs 0 (by decide)
          have x1' : wr.cell? ⟨b, off + k * 10 + 1, none⟩ = some (.int .i64 L[k].kind) := cs 1 (by decide)
          have x2' : wr.cell? ⟨b, off + k * 10 + 2, none⟩ = some (.int .i64 L[k].shares) := cs 2 (by decide)
          have x3' : wr.cell? ⟨b, off + k * 10 + 3, none⟩ = some (.int .i64 L[k].lend) := cs 3 (by decide)
          have x4' : wr.cell? ⟨b, off + k * 10 + 4, none⟩ = some (.int .i64 L[k].borrow) := cs 4 (by decide)
          have x5' : wr.cell? ⟨b, off + k * 10 + 5, none⟩ = some (.int .i64 L[k].queues) := cs 5 (by decide)
          have x6' : wr.cell? ⟨b, off + k * 10 + 6, none⟩ = some (.int .i64 L[k].hand) := cs 6 (by decide)
          have x7' : wr.cell? ⟨b, off + k * 10 + 7, none⟩ = some (.int .i64 L[k].length) := cs 7 (by decide)
          have x8' : wr.cell? ⟨b, off + k * 10 + 8, none⟩ = some (.int .i64 L[k].wait) := cs 8 (by decide)
          have x9' : wr.cell? ⟨b, off + k * 10 + 9, none⟩ = some (.int .i64 L[k].guess) := cs 9 (by decide)
          have AL := alloc_below wr (.cells (lvA L[k]) 45)
          have NL := Blk.new wr 45 (lvA L[k])
          have LE := lvErr_ok L[k] (wr.alloc (.cells (lvA L[k]) 45))
          have B4 : Below w.heap.size w (wr.alloc (.cells (lvA L[k]) 45)) := hI.out.2.1.trans (AL.mono hI.out.2.1.size)
          have N4 := hI.out.2.2.kept (Kept.of_below AL (fun _ => False)) id
          have HT := HL.out HFM.out k hkL
          have HBad : Hd (lvErr L[k] ≠ 0 → chk ⟨x0, x1, x2, x3, L, S⟩ = (lvErr L[k], lvT L[k].name)) := ⟨fun h => by
            have e := firstL_at L k hkL hI.out.1 h
            have := chk_level HFM.out HLK.out (by show (firstL L).1 ≠ 0; rw [e]; exact h)
            rw [this]; exact e⟩
          have HStep : Hd (lvErr L[k] = 0 → ∀ j (h : j < L.length), j < k + 1 → lvErr L[j] = 0) := ⟨fun h1 j hj hjk => by
            rcases Nat.lt_or_eq_of_le (Nat.le_of_lt_succ hjk) with h' | h'
            · exact hI.out.1 j hj h'
            · subst h'; exact h1⟩
          have HK : Hd (k < n) := ⟨hlt⟩
          have HRP : Hd (R = errV (chk ⟨x0, x1, x2, x3, L, S⟩)) := HE
          clear hI hcs cs hLv e' hb AL
          unfold lvA at LE B4 N4 NL
          generalize L[k] = l at *
          clear hkL
          have i1 : (k : Int) < (n : Int) := by omega
          go_upto_region 9 with fail
          generalize wr.alloc _ = w4 at *
          generalize wr.heap.size = g4 at *
          clear x0' x1' x2' x3' x4' x5' x6' x7' x8' x9'
          have d0 := NL.cellv (v := .string l.name) 0 rfl
          have d1 := NL.cellv (v := .int .i64 l.kind) 1 rfl
          have d2 := NL.cellv (v := .int .i64 l.shares) 2 rfl
          have d3 := NL.cellv (v := .int .i64 l.lend) 3 rfl
          have d4 := NL.cellv (v := .int .i64 l.borrow) 4 rfl
          have d5 := NL.cellv (v := .int .i64 l.queues) 5 rfl
          have d6 := NL.cellv (v := .int .i64 l.hand) 6 rfl
          have d7 := NL.cellv (v := .int .i64 l.length) 7 rfl
          have d8 := NL.cellv (v := .int .i64 l.wait) 8 rfl
          have d9 := NL.cellv (v := .int .i64 l.guess) 9 rfl
          go_wp2_with fail
          go_at_call 30
          refine LE.mono ?_
          rintro e w5 ⟨rfl, b5⟩
          have B5 : Below w.heap.size w w5 := B4.trans (b5.mono B4.size)
          have N5 := N4.kept (Kept.of_below b5 (fun _ => False)) id
          have NL5 := NL.kept (Kept.of_below b5 (fun _ => False)) id
          clear LE b5 B4 N4 NL d0 d1 d2 d3 d4 d5 d6 d7 d8 d9
          cases hq : (lvErr l == 0) with
          | false =>
            have hne : lvErr l ≠ 0 := by simpa using hq
            have E := HRP.out.trans ((congrArg errV (HBad.out hne)).trans (errV_no hne))
            have O := fun W => OF (lvT l.name) (lvErr l) W
            have HEE : Hd (R = val (.inl (lvErr l)) [⟨0, lvT l.name⟩]) := ⟨E⟩
            have q' : (lvErr l != 0) = true := by simpa using hne
            have d0 := NL5.cellv (v := .string l.name) 0 rfl
            clear hne E HE OF HRP HBad HStep hq
            generalize val (.inl (lvErr l)) [⟨0, lvT l.name⟩] = q at *
            generalize lvErr l = er at *
            generalize lvT l.name = tx at *
            go_wp2_with (first | (go_at_call 31; refine (HT _).mono ?_; rintro e w' ⟨rfl, hw⟩; obtain rfl := hw.symm) | (go_at_call 17; refine (O _).mono ?_; rintro e w' ⟨rfl, hw⟩; obtain rfl := hw.symm))
            go_ret
            exact ⟨by rw [HEE.out]; rfl, B5⟩
          | true =>
            have hz : lvErr l = 0 := by simpa using hq
            have F3 : Hd ((∀ j (h : j < L.length), j < k + 1 → lvErr L[j] = 0) ∧ Below w.heap.size w w5 ∧ Blk w5 gc 25 #[.int .i64 x0, .int .i64 x1, .int .i64 x2, .int .i64 x3, .slice (some ⟨b, off, none⟩) n cL, .slice aS m cS]) := ⟨HStep.out hz, B5, N5⟩
            rw [hz]
            clear hz hq HBad HStep B5 N5 NL5
            go_wp2_with fail
            go_roundw
            case rel =>
              first
                | exact ⟨k + 1, HK.out, by go_num, F3⟩
                | ((repeat apply Exists.intro); exact ⟨⟨k + 1, HK.out, by go_num, F3⟩, rfl⟩)
            case measure => have := HK.out; simp [intOf]; omega
        · obtain rfl : k = n := by omega
          have HZ : Hd ((firstL L).1 = 0) := ⟨firstL_zero.2 fun l hl => by
            obtain ⟨j, hj, rfl⟩ := List.getElem_of_mem hl
            exact hI.out.1 j hj (by rw [HM.out.1]; exact hj)⟩
          have B4 := hI.out.2.1
          have N4 := hI.out.2.2
          clear hI HL
          have c5 := N4.cellv (v := .slice aS m cS) 5 rfl
          go_wp2_with fail
          clear c5
          go_loopw [8, 9, 44] (fun s8 s9 i wr => ∃ q : Nat, q ≤ m ∧ i = .int .i64 q ∧ Hd ((∀ j (h : j < S.length), j < q → scErr L S[j] = 0) ∧ Below w.heap.size w wr ∧ Blk wr gc 25 #[.int .i64 x0, .int .i64 x1, .int .i64 x2, .int .i64 x3, .slice aL k cL, .slice aS m cS])) (fun _ _ i _ => m - (intOf i).toNat)
          case atStart => exact ⟨0, Nat.zero_le _, rfl, ⟨fun _ _ h => absurd h (Nat.not_lt_zero _), B4, N4⟩⟩
          case round =>
            obtain ⟨q, hq, rfl, hI⟩ := hrel
            clear B4 N4
            by_cases hlt2 : q < m
            · have hqS : q < S.length := by rw [← HM.out.2]; exact hlt2
              obtain ⟨aL', cL', aS', cS', V, e', -, -, hLv, hV, hSc, hRl⟩ := (HV.out wr hI.out.2.1).ex
              injection e' with e'
              simp only [Array.mk.injEq, List.cons.injEq, Value.slice.injEq, and_true] at e'
              obtain ⟨-, -, -, -, ⟨e1, -⟩, e2, -⟩ := e'
              subst e1 e2
              obtain ⟨b, off, rfl, hb, hcs⟩ := hSc (by show 0 < S.length; omega)
              have hqV : q < V.length := by rw [hV]; exact hqS
              have cs := hcs q hqS hqV
              have x0' : wr.cell? ⟨b, off + q * 5, none⟩ = some (.string S[q].name) := cs 0 (by decide)
              have x1' : wr.cell? ⟨b, off + q * 5 + 1, none⟩ = some (.string S[q].level) := cs 1 (by decide)
              have x2' : wr.cell? ⟨b, off + q * 5 + 2, none⟩ = some (.int .i64 S[q].rank) := cs 2 (by decide)
              have x3' : wr.cell? ⟨b, off + q * 5 + 3, none⟩ = some (.int .i64 S[q].way) := cs 3 (by decide)
              have x4' : wr.cell? ⟨b, off + q * 5 + 4, none⟩ = some V[q] := cs 4 (by decide)
              have hrl : RlR wr V[q] S[q].rules := hRl q hqS hqV
              have AL := alloc_below wr (.cells #[.string S[q].name, .string S[q].level, .int .i64 S[q].rank, .int .i64 S[q].way, V[q]] 53)
              have NL := Blk.new wr 53 #[.string S[q].name, .string S[q].level, .int .i64 S[q].rank, .int .i64 S[q].way, V[q]]
              have LE := scErr_ok S[q] V[q] aL cL L _ (hrl.carry AL) (hLv.carry AL) (by rw [← HM.out.1]; omega)
              rw [← HM.out.1] at LE
              have B4 : Below w.heap.size w (wr.alloc (.cells #[.string S[q].name, .string S[q].level, .int .i64 S[q].rank, .int .i64 S[q].way, V[q]] 53)) := hI.out.2.1.trans (AL.mono hI.out.2.1.size)
              have N4 := hI.out.2.2.kept (Kept.of_below AL (fun _ => False)) id
              have HT := HS.out HFM.out q hqS
              have HBad : Hd (scErr L S[q] ≠ 0 → chk ⟨x0, x1, x2, x3, L, S⟩ = (scErr L S[q], scT S[q].name)) := ⟨fun h => by
                have e := firstS_at L S q hqS hI.out.1 h
                have := chk_schema HFM.out HLK.out HZ.out (by show (firstS L S).1 ≠ 0; rw [e]; exact h)
                rw [this]; exact e⟩
              have HStep : Hd (scErr L S[q] = 0 → ∀ j (h : j < S.length), j < q + 1 → scErr L S[j] = 0) := ⟨fun h1 j hj hjk => by
                rcases Nat.lt_or_eq_of_le (Nat.le_of_lt_succ hjk) with h' | h'
                · exact hI.out.1 j hj h'
                · subst h'; exact h1⟩
              have HK : Hd (q < m) := ⟨hlt2⟩
              have HRP : Hd (R = errV (chk ⟨x0, x1, x2, x3, L, S⟩)) := HE
              obtain ⟨ra, rc, er', -⟩ := hrl
              generalize hvq : V[q] = vq at *
              clear hI hcs cs hLv hb AL hRl hSc hvq
              subst er'
              generalize S[q] = l at *
              clear hqS hqV hV
              generalize l.rules.length = nr at *
              have i1 : (q : Int) < (m : Int) := by omega
              go_upto_region 16 with fail
              generalize wr.alloc _ = w4 at *
              generalize wr.heap.size = g4 at *
              clear x0' x1' x2' x3' x4'
              have d0 := NL.cellv (v := .string l.name) 0 rfl
              have d1 := NL.cellv (v := .string l.level) 1 rfl
              have d2 := NL.cellv (v := .int .i64 l.rank) 2 rfl
              have d3 := NL.cellv (v := .int .i64 l.way) 3 rfl
              have d4 := NL.cellv (v := .slice ra nr rc) 4 rfl
              have c4 := N4.cellv (v := .slice aL k cL) 4 rfl
              go_wp2_with fail
              go_at_call 32
              refine LE.mono ?_
              rintro e w5 ⟨rfl, b5⟩
              have B5 : Below w.heap.size w w5 := B4.trans (b5.mono B4.size)
              have N5 := N4.kept (Kept.of_below b5 (fun _ => False)) id
              have NL5 := NL.kept (Kept.of_below b5 (fun _ => False)) id
              clear LE b5 B4 N4 NL d0 d1 d2 d3 d4 c4
              cases hz0 : (scErr L l == 0) with
              | false =>
                have hne : scErr L l ≠ 0 := by simpa using hz0
                have E := HRP.out.trans ((congrArg errV (HBad.out hne)).trans (errV_no hne))
                have O := fun W => OF (scT l.name) (scErr L l) W
                have HEE : Hd (R = val (.inl (scErr L l)) [⟨0, scT l.name⟩]) := ⟨E⟩
                have q' : (scErr L l != 0) = true := by simpa using hne
                have d0 := NL5.cellv (v := .string l.name) 0 rfl
                clear hne E HE OF HRP HBad HStep hz0
                generalize val (.inl (scErr L l)) [⟨0, scT l.name⟩] = qv at *
                generalize scErr L l = er at *
                generalize scT l.name = tx at *
                go_wp2_with (first | (go_at_call 33; refine (HT _).mono ?_; rintro e w' ⟨rfl, hw⟩; obtain rfl := hw.symm) | (go_at_call 17; refine (O _).mono ?_; rintro e w' ⟨rfl, hw⟩; obtain rfl := hw.symm))
                go_ret
                exact ⟨by rw [HEE.out]; rfl, B5⟩
              | true =>
                have hz : scErr L l = 0 := by simpa using hz0
                have F3 : Hd ((∀ j (h : j < S.length), j < q + 1 → scErr L S[j] = 0) ∧ Below w.heap.size w w5 ∧ Blk w5 gc 25 #[.int .i64 x0, .int .i64 x1, .int .i64 x2, .int .i64 x3, .slice aL k cL, .slice (some ⟨b, off, none⟩) m cS]) := ⟨HStep.out hz, B5, N5⟩
                rw [hz]
                clear hz hz0 HBad HStep B5 N5 NL5
                go_wp2_with fail
                go_roundw
                case rel =>
                  first
                    | exact ⟨q + 1, HK.out, by go_num, F3⟩
                    | ((repeat apply Exists.intro); exact ⟨⟨q + 1, HK.out, by go_num, F3⟩, rfl⟩)
                case measure => have := HK.out; simp [intOf]; omega
            · obtain rfl : q = m := by omega
              have HY : Hd ((firstS L S).1 = 0) := ⟨firstS_zero.2 fun l hl => by
                obtain ⟨j, hj, rfl⟩ := List.getElem_of_mem hl
                exact hI.out.1 j hj (by rw [HM.out.2]; exact hj)⟩
              have B4 := hI.out.2.1
              have N4 := hI.out.2.2
              clear hI HS
              have P5 := HP.out HFM.out wr B4
              have c0 := N4.cellv (v := .int .i64 x0) 0 rfl
              have c1 := N4.cellv (v := .int .i64 x1) 1 rfl
              have c2 := N4.cellv (v := .int .i64 x2) 2 rfl
              have c3 := N4.cellv (v := .int .i64 x3) 3 rfl
              have c4 := N4.cellv (v := .slice aL k cL) 4 rfl
              have c5 := N4.cellv (v := .slice aS q cS) 5 rfl
              go_wp2_with fail
              go_at_call 34
              refine P5.mono ?_
              rintro e w6 ⟨rfl, b6⟩
              have B6 : Below w.heap.size w w6 := B4.trans (b6.mono B4.size)
              clear P5 b6 B4 N4 c0 c1 c2 c3 c4 c5 HP
              have hlp : (lackP ⟨x0, x1, x2, x3, L, S⟩).toList.isEmpty = decide (lackP ⟨x0, x1, x2, x3, L, S⟩ = ⟨#[]⟩) := by
                have := name_eq (lackP ⟨x0, x1, x2, x3, L, S⟩) ⟨#[]⟩
                rw [← this, ByteArray.toList_eq (⟨#[]⟩ : ByteArray)]
                cases (lackP ⟨x0, x1, x2, x3, L, S⟩).toList <;> rfl
              by_cases h9 : lackP ⟨x0, x1, x2, x3, L, S⟩ = ⟨#[]⟩
              · have HEE : Hd (R = .nilIface) := ⟨HE.out.trans ((congrArg errV (chk_fine HFM.out HLK.out HZ.out HY.out h9)).trans errV_nil)⟩
                rw [h9]
                clear hlp h9 HE
                go_wp2_with fail
                go_ret
                exact ⟨by rw [HEE.out]; rfl, B6⟩
              · have q' : (lackP ⟨x0, x1, x2, x3, L, S⟩).toList.isEmpty = false := by rw [hlp]; exact decide_eq_false h9
                have O := fun W => OF (lackP ⟨x0, x1, x2, x3, L, S⟩) 12 W
                have HEE : Hd (R = val (.inl 12) [⟨0, lackP ⟨x0, x1, x2, x3, L, S⟩⟩]) := ⟨HE.out.trans ((congrArg errV (chk_part HFM.out HLK.out HZ.out HY.out h9)).trans (errV_no (by decide)))⟩
                clear h9 hlp HE OF
                generalize val (.inl 12) [⟨0, lackP ⟨x0, x1, x2, x3, L, S⟩⟩] = qv at *
                generalize lackP ⟨x0, x1, x2, x3, L, S⟩ = tx at *
                go_wp2_with (go_at_call 17; refine (O _).mono ?_; rintro e w' ⟨rfl, hw⟩; obtain rfl := hw.symm)
                go_ret
                exact ⟨by rw [HEE.out]; rfl, B6⟩
    · have hne := h1
      have q' : (lackN ⟨x0, x1, x2, x3, L, S⟩).toList.isEmpty = false := by rw [hlk]; exact decide_eq_false h1
      have E := HE.out.trans ((congrArg errV (chk_number HFM.out h1)).trans (errV_no (by decide)))
      have O := fun W => OF (lackN ⟨x0, x1, x2, x3, L, S⟩) 12 W
      have HEE : Hd (R = val (.inl 12) [⟨0, lackN ⟨x0, x1, x2, x3, L, S⟩⟩]) := ⟨E⟩
      clear hne h1 hlk E HE OF
      generalize val (.inl 12) [⟨0, lackN ⟨x0, x1, x2, x3, L, S⟩⟩] = q at *
      generalize lackN ⟨x0, x1, x2, x3, L, S⟩ = tx at *
      go_wp2_with (go_at_call 17; refine (O _).mono ?_; rintro e w' ⟨rfl, hw⟩; obtain rfl := hw.symm)
      go_ret
      exact ⟨by rw [HEE.out]; rfl, B3⟩
end Go.Proofs.YtijjpblmnlednaaGreatDoor
