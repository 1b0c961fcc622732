/-
  'ConfLimits': the walk. Conditions: the frame's; errorType holds what its text lays.
-/
import Derived.Test.YtaodckojinbdfaaDoorAwake
import Derived.Test.YtaodckojinbdfaaDoorMathM
import Derived.Test.YtaodckojinbdfaaDoorRefB
import Derived.Test.YtaodckojinbdfaaDoorLawC
namespace Go.Proofs.YtaodckojinbdfaaDoor
open Go.RowKit

set_option maxRecDepth 20000 in
theorem limits_0 (k : Int) (w : World) (he : ET w) (ht : (IntKind.u64.wrap k).tmod 3 = 0) :
    Calls Tryd.prog 5 #[.int .i64 k] w fun e w' => e = .returned (.bool true) ∧ Below w.heap.size w w' := by
  have AW := awake_any w
  have HL := lim0
  have sz := limT_size ⟨#[]⟩ l0o l0t
  have hsz : Hd (∀ j, j ≤ 16 → (limT ⟨#[]⟩ l0o l0t j).size ≤ 2000) := ⟨fun j hj => by
    have := sz j
    have e1 : (⟨#[]⟩ : ByteArray).size + j * (l0o.size + 2 + l0t.size) ≤ 2000 := by
      have h1 : l0o.size + 2 + l0t.size ≤ 30 := by decide
      have h2 : (⟨#[]⟩ : ByteArray).size ≤ 18 := by decide
      have h3 := Nat.mul_le_mul hj h1
      omega
    omega⟩
  clear sz
  have DG := fun (j : Nat) (hj : j ≤ 16) w => rdigits_ok (j : Int) w (by omega)
  have DG' : ∀ (j : Nat), j ≤ 16 → ∀ w, Calls Tryd.prog 13 #[.int .i64 (j : Int)] w fun e w' => e = .returned (.string (dg j)) ∧ Below w.heap.size w w' := fun j hj w => by
    have := DG j hj w
    rwa [dg_eq j (by omega)] at this
  have DM := DG' 16 (Nat.le_refl _)
  have PA := parse_some (limT ⟨#[]⟩ l0o l0t 16) (by have := hsz.out 16 (Nat.le_refl _); omega)
  have hx : (limX ⟨#[]⟩ l0o l0t 16).size ≤ 3000 := by
    unfold limX
    rw [cat_size, cat_size, cat_size]
    have h1 := hsz.out 16 (Nat.le_refl _)
    have h2 := dg_size 16
    have h3 : l0o.size + l0t.size ≤ 30 := by decide
    omega
  have PB := parse_some (limX ⟨#[]⟩ l0o l0t 16) (by omega)
  rw [HL.e, err_none] at PA
  rw [HL.x, HL.l] at PB
  have hc := HL.c
  have hfit := HL.f
  have eB : errV 3 17 = .iface 61 (.agg #[.int .i64 17, .string ⟨#[]⟩, .iface 37 (.int .i64 3)]) := rfl
  have CE := fun w h => code_err 3 17 w h (by decide)
  have LE := fun w h => line_err 3 17 w h (by decide)
  rw [eB] at PB CE LE
  generalize hC : parC (limT ⟨#[]⟩ l0o l0t 16) = C at *
  generalize parC (limX ⟨#[]⟩ l0o l0t 16) = CX at *
  have HS : Hd (∀ j, limT ⟨#[]⟩ l0o l0t (j + 1) = limT ⟨#[]⟩ l0o l0t j ++ ((l0o ++ dg j) ++ l0t)) := ⟨fun j => rfl⟩
  have HX : Hd (limX ⟨#[]⟩ l0o l0t 16 = limT ⟨#[]⟩ l0o l0t 16 ++ l0o ++ dg 16 ++ l0t) := ⟨rfl⟩
  have H0 : Hd (limT ⟨#[]⟩ l0o l0t 0 = ⟨#[]⟩) := ⟨rfl⟩
  have HE : Hd (ET w) := ⟨he⟩
  have hds := dg_size
  clear hC HL DG eB he hx
  generalize limT ⟨#[]⟩ l0o l0t = T at *
  generalize limX ⟨#[]⟩ l0o l0t 16 = X at *
  have Hone : Hd (l0o = l0o) := ⟨rfl⟩
  go_enter Tryd.func5, Tryd.ntmps5
  go_wp2_with (go_at_call 7; refine AW.mono ?_; rintro e w1 ⟨rfl, b1⟩)
  have B1 : Hd (Below w.heap.size w w1) := ⟨b1⟩
  clear b1 AW
  go_loopw [7, 8] (fun x i wr => ∃ j : Nat, j ≤ 16 ∧ i = .int .i64 j ∧ x = .string (T j) ∧ Hd (Below w.heap.size w wr)) (fun _ i _ => 16 - (intOf i).toNat)
  case atStart => exact ⟨0, Nat.zero_le _, rfl, by rw [H0.out]; try rfl, B1⟩
  case round =>
    obtain ⟨j, hj, rfl, rfl, hb⟩ := hrel
    clear B1
    by_cases hlt : j < 16
    · have g1 := hsz.out j (by omega)
      have D := DG' j hj
      have e1 := HS.out j
      have EJ : Hd (_ = _) := ⟨e1⟩
      have HJ : Hd (j < 16) := ⟨hlt⟩
      have hd2 := hds j
      clear e1 PA PB DM CE LE DG'
      generalize T j = p at *
      generalize dg j = x at *
      go_wp2_with (go_at_call 13; refine (D _).mono ?_; rintro e w2 ⟨rfl, b2⟩)
      go_roundw
      case rel => exact ⟨j + 1, HJ.out, by go_num, by rw [EJ.out]; rfl, ⟨hb.out.trans (b2.mono hb.out.size)⟩⟩
      case measure => have := HJ.out; simp [intOf]; omega
    · obtain rfl : j = 16 := by omega
      have g1 := hsz.out 16 (Nat.le_refl _)
      have hd2 := hds 16
      have EX : Hd (X = T 16 ++ l0o ++ dg 16 ++ l0t) := HX
      clear DG' HS hds
      generalize T 16 = p at *
      generalize dg 16 = x at *
      go_wp2_with fail
      go_at_call 9
      refine (PA _).mono ?_
      rintro e w3 ⟨aL, nL, cL, aS, nS, cS, x0, x1, x2, x3, rfl, ⟨vL, vS, V, hv, hL, hS⟩, b3⟩
      obtain ⟨rfl, rfl⟩ : nL = C.levels.length ∧ nS = C.schemas.length := by
        obtain ⟨p1, p2, e1⟩ := own_form hL
        obtain ⟨p3, p4, e2⟩ := own_form hS.own
        rw [e1, e2] at hv
        injection hv with hv
        simp only [Array.mk.injEq, List.cons.injEq, Value.slice.injEq] at hv
        exact ⟨hv.2.2.2.2.1.2.1, hv.2.2.2.2.2.1.2.1⟩
      clear hv hL hS PA
      obtain ⟨w4, hw4⟩ : ∃ w4, w4 = w3.alloc (.cells #[.int .i64 x0, .int .i64 x1, .int .i64 x2, .int .i64 x3, .slice aL C.levels.length cL, .slice aS C.schemas.length cS] 30) := ⟨_, rfl⟩
      have B3 : Below w.heap.size w w3 := hb.out.trans (b3.mono hb.out.size)
      have B4 : Hd (Below w.heap.size w w4) := ⟨by rw [hw4]; exact B3.alloc B3.size _⟩
      have C4 : Blk w4 w3.heap.size 30 #[.int .i64 x0, .int .i64 x1, .int .i64 x2, .int .i64 x3, .slice aL C.levels.length cL, .slice aS C.schemas.length cS] := by rw [hw4]; exact Blk.new w3 30 _
      have HC4 : Hd _ := ⟨C4⟩
      clear b3 B3 hb C4
      go_wp2_with fail
      rw [← hw4]
      clear hw4
      generalize w3.heap.size = cb at *
      go_at_call 13
      refine (DM _).mono ?_
      rintro e w5 ⟨rfl, b5⟩
      have C5 := HC4.out.kept (Kept.of_below b5 (fun _ => False)) id
      have HC5 : Hd _ := ⟨C5⟩
      have B5 : Hd (Below w.heap.size w w5) := ⟨B4.out.trans (b5.mono B4.out.size)⟩
      clear b5 B4 HC4 C5 DM
      go_wp2_with fail
      have EX' : p ++ l0o ++ x ++ l0t = X := EX.out.symm
      unfold l0o l0t at EX'
      rw [EX']
      go_at_call 9
      refine (PB _).mono ?_
      rintro e w6 ⟨aL', nL', cL', aS', nS', cS', y0, y1, y2, y3, rfl, -, b6⟩
      clear PB EX' EX HX
      obtain ⟨w7, hw7⟩ : ∃ w7, w7 = w6.alloc (.cells #[.int .i64 y0, .int .i64 y1, .int .i64 y2, .int .i64 y3, .slice aL' nL' cL', .slice aS' nS' cS'] 30) := ⟨_, rfl⟩
      have b7 : Below w5.heap.size w5 w7 := b6.trans (by rw [hw7]; exact (Below.refl _ _).alloc b6.size _)
      have C7 := HC5.out.kept (Kept.of_below b7 (fun _ => False)) id
      have B7 : Hd (Below w.heap.size w w7) := ⟨B5.out.trans (b7.mono B5.out.size)⟩
      have d4 := C7.cellv 4 rfl
      have d5 := C7.cellv 5 rfl
      have hc' : (1 : Int) ≤ (C.levels.length : Int) + (C.schemas.length : Int) := by omega
      have hl16 : C.levels.length ≤ 1000000 ∧ C.schemas.length ≤ 1000000 := ⟨by have := hfit.1; omega, by have := hfit.2; omega⟩
      obtain ⟨hl1, hl2⟩ := hl16
      clear b6 b7 HC5 C7 hc B5
      generalize C.levels.length = q1 at *
      generalize C.schemas.length = q2 at *
      subst hw7
      have EW : ∀ w', Below w.heap.size w w' → ET w' := fun w' h => HE.out.stays h
      go_wp2_with fail
      go_at_call 12
      refine (CE _ (EW _ B7.out)).mono ?_
      rintro e w8 ⟨rfl, b8⟩
      have B8 : Hd (Below w.heap.size w w8) := ⟨B7.out.trans (b8.mono B7.out.size)⟩
      clear b8 B7
      go_wp2_with fail
      go_at_call 11
      refine (LE _ (EW _ B8.out)).mono ?_
      rintro e w9 ⟨rfl, b9⟩
      have B9 : Hd (Below w.heap.size w w9) := ⟨B8.out.trans (b9.mono B8.out.size)⟩
      clear b9 B8
      go_wp2_with fail
      go_ret
      exact ⟨rfl, B9.out⟩

set_option maxRecDepth 20000 in
theorem limits_1 (k : Int) (w : World) (he : ET w) (ht : (IntKind.u64.wrap k).tmod 3 = 1) :
    Calls Tryd.prog 5 #[.int .i64 k] w fun e w' => e = .returned (.bool true) ∧ Below w.heap.size w w' := by
  have AW := awake_any w
  have HL := lim1
  have sz := limT_size ⟨#[]⟩ l1o l1t
  have hsz : Hd (∀ j, j ≤ 32 → (limT ⟨#[]⟩ l1o l1t j).size ≤ 2000) := ⟨fun j hj => by
    have := sz j
    have e1 : (⟨#[]⟩ : ByteArray).size + j * (l1o.size + 2 + l1t.size) ≤ 2000 := by
      have h1 : l1o.size + 2 + l1t.size ≤ 30 := by decide
      have h2 : (⟨#[]⟩ : ByteArray).size ≤ 18 := by decide
      have h3 := Nat.mul_le_mul hj h1
      omega
    omega⟩
  clear sz
  have DG := fun (j : Nat) (hj : j ≤ 32) w => rdigits_ok (j : Int) w (by omega)
  have DG' : ∀ (j : Nat), j ≤ 32 → ∀ w, Calls Tryd.prog 13 #[.int .i64 (j : Int)] w fun e w' => e = .returned (.string (dg j)) ∧ Below w.heap.size w w' := fun j hj w => by
    have := DG j hj w
    rwa [dg_eq j (by omega)] at this
  have DM := DG' 32 (Nat.le_refl _)
  have PA := parse_some (limT ⟨#[]⟩ l1o l1t 32) (by have := hsz.out 32 (Nat.le_refl _); omega)
  have hx : (limX ⟨#[]⟩ l1o l1t 32).size ≤ 3000 := by
    unfold limX
    rw [cat_size, cat_size, cat_size]
    have h1 := hsz.out 32 (Nat.le_refl _)
    have h2 := dg_size 32
    have h3 : l1o.size + l1t.size ≤ 30 := by decide
    omega
  have PB := parse_some (limX ⟨#[]⟩ l1o l1t 32) (by omega)
  rw [HL.e, err_none] at PA
  rw [HL.x, HL.l] at PB
  have hc := HL.c
  have hfit := HL.f
  have eB : errV 3 33 = .iface 61 (.agg #[.int .i64 33, .string ⟨#[]⟩, .iface 37 (.int .i64 3)]) := rfl
  have CE := fun w h => code_err 3 33 w h (by decide)
  have LE := fun w h => line_err 3 33 w h (by decide)
  rw [eB] at PB CE LE
  generalize hC : parC (limT ⟨#[]⟩ l1o l1t 32) = C at *
  generalize parC (limX ⟨#[]⟩ l1o l1t 32) = CX at *
  have HS : Hd (∀ j, limT ⟨#[]⟩ l1o l1t (j + 1) = limT ⟨#[]⟩ l1o l1t j ++ ((l1o ++ dg j) ++ l1t)) := ⟨fun j => rfl⟩
  have HX : Hd (limX ⟨#[]⟩ l1o l1t 32 = limT ⟨#[]⟩ l1o l1t 32 ++ l1o ++ dg 32 ++ l1t) := ⟨rfl⟩
  have H0 : Hd (limT ⟨#[]⟩ l1o l1t 0 = ⟨#[]⟩) := ⟨rfl⟩
  have HE : Hd (ET w) := ⟨he⟩
  have hds := dg_size
  clear hC HL DG eB he hx
  generalize limT ⟨#[]⟩ l1o l1t = T at *
  generalize limX ⟨#[]⟩ l1o l1t 32 = X at *
  have Hone : Hd (l1o = l1o) := ⟨rfl⟩
  go_enter Tryd.func5, Tryd.ntmps5
  go_wp2_with (go_at_call 7; refine AW.mono ?_; rintro e w1 ⟨rfl, b1⟩)
  have B1 : Hd (Below w.heap.size w w1) := ⟨b1⟩
  clear b1 AW
  go_loopw [7, 8] (fun x i wr => ∃ j : Nat, j ≤ 32 ∧ i = .int .i64 j ∧ x = .string (T j) ∧ Hd (Below w.heap.size w wr)) (fun _ i _ => 32 - (intOf i).toNat)
  case atStart => exact ⟨0, Nat.zero_le _, rfl, by rw [H0.out]; try rfl, B1⟩
  case round =>
    obtain ⟨j, hj, rfl, rfl, hb⟩ := hrel
    clear B1
    by_cases hlt : j < 32
    · have g1 := hsz.out j (by omega)
      have D := DG' j hj
      have e1 := HS.out j
      have EJ : Hd (_ = _) := ⟨e1⟩
      have HJ : Hd (j < 32) := ⟨hlt⟩
      have hd2 := hds j
      clear e1 PA PB DM CE LE DG'
      generalize T j = p at *
      generalize dg j = x at *
      go_wp2_with (go_at_call 13; refine (D _).mono ?_; rintro e w2 ⟨rfl, b2⟩)
      go_roundw
      case rel => exact ⟨j + 1, HJ.out, by go_num, by rw [EJ.out]; rfl, ⟨hb.out.trans (b2.mono hb.out.size)⟩⟩
      case measure => have := HJ.out; simp [intOf]; omega
    · obtain rfl : j = 32 := by omega
      have g1 := hsz.out 32 (Nat.le_refl _)
      have hd2 := hds 32
      have EX : Hd (X = T 32 ++ l1o ++ dg 32 ++ l1t) := HX
      clear DG' HS hds
      generalize T 32 = p at *
      generalize dg 32 = x at *
      go_wp2_with fail
      go_at_call 9
      refine (PA _).mono ?_
      rintro e w3 ⟨aL, nL, cL, aS, nS, cS, x0, x1, x2, x3, rfl, ⟨vL, vS, V, hv, hL, hS⟩, b3⟩
      obtain ⟨rfl, rfl⟩ : nL = C.levels.length ∧ nS = C.schemas.length := by
        obtain ⟨p1, p2, e1⟩ := own_form hL
        obtain ⟨p3, p4, e2⟩ := own_form hS.own
        rw [e1, e2] at hv
        injection hv with hv
        simp only [Array.mk.injEq, List.cons.injEq, Value.slice.injEq] at hv
        exact ⟨hv.2.2.2.2.1.2.1, hv.2.2.2.2.2.1.2.1⟩
      clear hv hL hS PA
      obtain ⟨w4, hw4⟩ : ∃ w4, w4 = w3.alloc (.cells #[.int .i64 x0, .int .i64 x1, .int .i64 x2, .int .i64 x3, .slice aL C.levels.length cL, .slice aS C.schemas.length cS] 30) := ⟨_, rfl⟩
      have B3 : Below w.heap.size w w3 := hb.out.trans (b3.mono hb.out.size)
      have B4 : Hd (Below w.heap.size w w4) := ⟨by rw [hw4]; exact B3.alloc B3.size _⟩
      have C4 : Blk w4 w3.heap.size 30 #[.int .i64 x0, .int .i64 x1, .int .i64 x2, .int .i64 x3, .slice aL C.levels.length cL, .slice aS C.schemas.length cS] := by rw [hw4]; exact Blk.new w3 30 _
      have HC4 : Hd _ := ⟨C4⟩
      clear b3 B3 hb C4
      go_wp2_with fail
      rw [← hw4]
      clear hw4
      generalize w3.heap.size = cb at *
      go_at_call 13
      refine (DM _).mono ?_
      rintro e w5 ⟨rfl, b5⟩
      have C5 := HC4.out.kept (Kept.of_below b5 (fun _ => False)) id
      have HC5 : Hd _ := ⟨C5⟩
      have B5 : Hd (Below w.heap.size w w5) := ⟨B4.out.trans (b5.mono B4.out.size)⟩
      clear b5 B4 HC4 C5 DM
      go_wp2_with fail
      have EX' : p ++ l1o ++ x ++ l1t = X := EX.out.symm
      unfold l1o l1t at EX'
      rw [EX']
      go_at_call 9
      refine (PB _).mono ?_
      rintro e w6 ⟨aL', nL', cL', aS', nS', cS', y0, y1, y2, y3, rfl, -, b6⟩
      clear PB EX' EX HX
      obtain ⟨w7, hw7⟩ : ∃ w7, w7 = w6.alloc (.cells #[.int .i64 y0, .int .i64 y1, .int .i64 y2, .int .i64 y3, .slice aL' nL' cL', .slice aS' nS' cS'] 30) := ⟨_, rfl⟩
      have b7 : Below w5.heap.size w5 w7 := b6.trans (by rw [hw7]; exact (Below.refl _ _).alloc b6.size _)
      have C7 := HC5.out.kept (Kept.of_below b7 (fun _ => False)) id
      have B7 : Hd (Below w.heap.size w w7) := ⟨B5.out.trans (b7.mono B5.out.size)⟩
      have d4 := C7.cellv 4 rfl
      have d5 := C7.cellv 5 rfl
      have hc' : (1 : Int) ≤ (C.levels.length : Int) + (C.schemas.length : Int) := by omega
      have hl16 : C.levels.length ≤ 1000000 ∧ C.schemas.length ≤ 1000000 := ⟨by have := hfit.1; omega, by have := hfit.2; omega⟩
      obtain ⟨hl1, hl2⟩ := hl16
      clear b6 b7 HC5 C7 hc B5
      generalize C.levels.length = q1 at *
      generalize C.schemas.length = q2 at *
      subst hw7
      have EW : ∀ w', Below w.heap.size w w' → ET w' := fun w' h => HE.out.stays h
      go_wp2_with fail
      go_at_call 12
      refine (CE _ (EW _ B7.out)).mono ?_
      rintro e w8 ⟨rfl, b8⟩
      have B8 : Hd (Below w.heap.size w w8) := ⟨B7.out.trans (b8.mono B7.out.size)⟩
      clear b8 B7
      go_wp2_with fail
      go_at_call 11
      refine (LE _ (EW _ B8.out)).mono ?_
      rintro e w9 ⟨rfl, b9⟩
      have B9 : Hd (Below w.heap.size w w9) := ⟨B8.out.trans (b9.mono B8.out.size)⟩
      clear b9 B8
      go_wp2_with fail
      go_ret
      exact ⟨rfl, B9.out⟩

set_option maxRecDepth 20000 in
theorem limits_2 (k : Int) (w : World) (he : ET w) (ht : (IntKind.u64.wrap k).tmod 3 = 2) :
    Calls Tryd.prog 5 #[.int .i64 k] w fun e w' => e = .returned (.bool true) ∧ Below w.heap.size w w' := by
  have AW := awake_any w
  have HL := lim2
  have sz := limT_size l2h l2o l2t
  have hsz : Hd (∀ j, j ≤ 8 → (limT l2h l2o l2t j).size ≤ 2000) := ⟨fun j hj => by
    have := sz j
    have e1 : l2h.size + j * (l2o.size + 2 + l2t.size) ≤ 2000 := by
      have h1 : l2o.size + 2 + l2t.size ≤ 30 := by decide
      have h2 : l2h.size ≤ 18 := by decide
      have h3 := Nat.mul_le_mul hj h1
      omega
    omega⟩
  clear sz
  have DG := fun (j : Nat) (hj : j ≤ 8) w => rdigits_ok (j : Int) w (by omega)
  have DG' : ∀ (j : Nat), j ≤ 8 → ∀ w, Calls Tryd.prog 13 #[.int .i64 (j : Int)] w fun e w' => e = .returned (.string (dg j)) ∧ Below w.heap.size w w' := fun j hj w => by
    have := DG j hj w
    rwa [dg_eq j (by omega)] at this
  have DM := DG' 8 (Nat.le_refl _)
  have PA := parse_some (limT l2h l2o l2t 8) (by have := hsz.out 8 (Nat.le_refl _); omega)
  have hx : (limX l2h l2o l2t 8).size ≤ 3000 := by
    unfold limX
    rw [cat_size, cat_size, cat_size]
    have h1 := hsz.out 8 (Nat.le_refl _)
    have h2 := dg_size 8
    have h3 : l2o.size + l2t.size ≤ 30 := by decide
    omega
  have PB := parse_some (limX l2h l2o l2t 8) (by omega)
  rw [HL.e, err_none] at PA
  rw [HL.x, HL.l] at PB
  have hc := HL.c
  have hfit := HL.f
  have eB : errV 3 10 = .iface 61 (.agg #[.int .i64 10, .string ⟨#[]⟩, .iface 37 (.int .i64 3)]) := rfl
  have CE := fun w h => code_err 3 10 w h (by decide)
  have LE := fun w h => line_err 3 10 w h (by decide)
  rw [eB] at PB CE LE
  generalize hC : parC (limT l2h l2o l2t 8) = C at *
  generalize parC (limX l2h l2o l2t 8) = CX at *
  have HS : Hd (∀ j, limT l2h l2o l2t (j + 1) = limT l2h l2o l2t j ++ ((l2o ++ dg j) ++ l2t)) := ⟨fun j => rfl⟩
  have HX : Hd (limX l2h l2o l2t 8 = limT l2h l2o l2t 8 ++ l2o ++ dg 8 ++ l2t) := ⟨rfl⟩
  have H0 : Hd (limT l2h l2o l2t 0 = l2h) := ⟨rfl⟩
  have HE : Hd (ET w) := ⟨he⟩
  have hds := dg_size
  clear hC HL DG eB he hx
  generalize limT l2h l2o l2t = T at *
  generalize limX l2h l2o l2t 8 = X at *
  have Hone : Hd (l2o = l2o) := ⟨rfl⟩
  go_enter Tryd.func5, Tryd.ntmps5
  go_wp2_with (go_at_call 7; refine AW.mono ?_; rintro e w1 ⟨rfl, b1⟩)
  have B1 : Hd (Below w.heap.size w w1) := ⟨b1⟩
  clear b1 AW
  go_loopw [7, 8] (fun x i wr => ∃ j : Nat, j ≤ 8 ∧ i = .int .i64 j ∧ x = .string (T j) ∧ Hd (Below w.heap.size w wr)) (fun _ i _ => 8 - (intOf i).toNat)
  case atStart => exact ⟨0, Nat.zero_le _, rfl, by rw [H0.out]; try rfl, B1⟩
  case round =>
    obtain ⟨j, hj, rfl, rfl, hb⟩ := hrel
    clear B1
    by_cases hlt : j < 8
    · have g1 := hsz.out j (by omega)
      have D := DG' j hj
      have e1 := HS.out j
      have EJ : Hd (_ = _) := ⟨e1⟩
      have HJ : Hd (j < 8) := ⟨hlt⟩
      have hd2 := hds j
      clear e1 PA PB DM CE LE DG'
      generalize T j = p at *
      generalize dg j = x at *
      go_wp2_with (go_at_call 13; refine (D _).mono ?_; rintro e w2 ⟨rfl, b2⟩)
      go_roundw
      case rel => exact ⟨j + 1, HJ.out, by go_num, by rw [EJ.out]; rfl, ⟨hb.out.trans (b2.mono hb.out.size)⟩⟩
      case measure => have := HJ.out; simp [intOf]; omega
    · obtain rfl : j = 8 := by omega
      have g1 := hsz.out 8 (Nat.le_refl _)
      have hd2 := hds 8
      have EX : Hd (X = T 8 ++ l2o ++ dg 8 ++ l2t) := HX
      clear DG' HS hds
      generalize T 8 = p at *
      generalize dg 8 = x at *
      go_wp2_with fail
      go_at_call 9
      refine (PA _).mono ?_
      rintro e w3 ⟨aL, nL, cL, aS, nS, cS, x0, x1, x2, x3, rfl, ⟨vL, vS, V, hv, hL, hS⟩, b3⟩
      obtain ⟨rfl, rfl⟩ : nL = C.levels.length ∧ nS = C.schemas.length := by
        obtain ⟨p1, p2, e1⟩ := own_form hL
        obtain ⟨p3, p4, e2⟩ := own_form hS.own
        rw [e1, e2] at hv
        injection hv with hv
        simp only [Array.mk.injEq, List.cons.injEq, Value.slice.injEq] at hv
        exact ⟨hv.2.2.2.2.1.2.1, hv.2.2.2.2.2.1.2.1⟩
      clear hv hL hS PA
      obtain ⟨w4, hw4⟩ : ∃ w4, w4 = w3.alloc (.cells #[.int .i64 x0, .int .i64 x1, .int .i64 x2, .int .i64 x3, .slice aL C.levels.length cL, .slice aS C.schemas.length cS] 30) := ⟨_, rfl⟩
      have B3 : Below w.heap.size w w3 := hb.out.trans (b3.mono hb.out.size)
      have B4 : Hd (Below w.heap.size w w4) := ⟨by rw [hw4]; exact B3.alloc B3.size _⟩
      have C4 : Blk w4 w3.heap.size 30 #[.int .i64 x0, .int .i64 x1, .int .i64 x2, .int .i64 x3, .slice aL C.levels.length cL, .slice aS C.schemas.length cS] := by rw [hw4]; exact Blk.new w3 30 _
      have HC4 : Hd _ := ⟨C4⟩
      clear b3 B3 hb C4
      go_wp2_with fail
      rw [← hw4]
      clear hw4
      generalize w3.heap.size = cb at *
      go_at_call 13
      refine (DM _).mono ?_
      rintro e w5 ⟨rfl, b5⟩
      have C5 := HC4.out.kept (Kept.of_below b5 (fun _ => False)) id
      have HC5 : Hd _ := ⟨C5⟩
      have B5 : Hd (Below w.heap.size w w5) := ⟨B4.out.trans (b5.mono B4.out.size)⟩
      clear b5 B4 HC4 C5 DM
      go_wp2_with fail
      have EX' : p ++ l2o ++ x ++ l2t = X := EX.out.symm
      unfold l2o l2t at EX'
      rw [EX']
      go_at_call 9
      refine (PB _).mono ?_
      rintro e w6 ⟨aL', nL', cL', aS', nS', cS', y0, y1, y2, y3, rfl, -, b6⟩
      clear PB EX' EX HX
      obtain ⟨w7, hw7⟩ : ∃ w7, w7 = w6.alloc (.cells #[.int .i64 y0, .int .i64 y1, .int .i64 y2, .int .i64 y3, .slice aL' nL' cL', .slice aS' nS' cS'] 30) := ⟨_, rfl⟩
      have b7 : Below w5.heap.size w5 w7 := b6.trans (by rw [hw7]; exact (Below.refl _ _).alloc b6.size _)
      have C7 := HC5.out.kept (Kept.of_below b7 (fun _ => False)) id
      have B7 : Hd (Below w.heap.size w w7) := ⟨B5.out.trans (b7.mono B5.out.size)⟩
      have d4 := C7.cellv 4 rfl
      have d5 := C7.cellv 5 rfl
      have hc' : (1 : Int) ≤ (C.levels.length : Int) + (C.schemas.length : Int) := by omega
      have hl16 : C.levels.length ≤ 1000000 ∧ C.schemas.length ≤ 1000000 := ⟨by have := hfit.1; omega, by have := hfit.2; omega⟩
      obtain ⟨hl1, hl2⟩ := hl16
      clear b6 b7 HC5 C7 hc B5
      generalize C.levels.length = q1 at *
      generalize C.schemas.length = q2 at *
      subst hw7
      have EW : ∀ w', Below w.heap.size w w' → ET w' := fun w' h => HE.out.stays h
      go_wp2_with fail
      go_at_call 12
      refine (CE _ (EW _ B7.out)).mono ?_
      rintro e w8 ⟨rfl, b8⟩
      have B8 : Hd (Below w.heap.size w w8) := ⟨B7.out.trans (b8.mono B7.out.size)⟩
      clear b8 B7
      go_wp2_with fail
      go_at_call 11
      refine (LE _ (EW _ B8.out)).mono ?_
      rintro e w9 ⟨rfl, b9⟩
      have B9 : Hd (Below w.heap.size w w9) := ⟨B8.out.trans (b9.mono B8.out.size)⟩
      clear b9 B8
      go_wp2_with fail
      go_ret
      exact ⟨rfl, B9.out⟩

theorem limits_all (k : Int) (w : World) (he : ET w) :
    Calls Tryd.prog 5 #[.int .i64 k] w fun e w' => e = .returned (.bool true) ∧ Below w.heap.size w w' := by

  have h : (IntKind.u64.wrap k).tmod 3 = 0 ∨ (IntKind.u64.wrap k).tmod 3 = 1 ∨ (IntKind.u64.wrap k).tmod 3 = 2 := by
    have h0 : 0 ≤ IntKind.u64.wrap k := by unfold IntKind.wrap; simp [IntKind.bits, IntKind.signed]; omega
    rw [Int.tmod_eq_emod_of_nonneg h0]
    omega
  rcases h with h | h | h
  · exact limits_0 k w he h
  · exact limits_1 k w he h
  · exact limits_2 k w he h

end Go.Proofs.YtaodckojinbdfaaDoor
