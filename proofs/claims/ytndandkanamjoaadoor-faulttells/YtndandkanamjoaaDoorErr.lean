/-
  'Error' of a Fault of the program: its words. Conditions: errorType and the library's table of powers hold what their text lays; the texts are not beyond the reach.
-/
import Derived.Test.YtndandkanamjoaaDoorDig
namespace Go.Proofs.YtndandkanamjoaaDoor
open Go.RowKit Go.Lib

def tLine : ByteArray := ⟨#[108, 105, 110, 101, 32]⟩
def tColon : ByteArray := ⟨#[58, 32]⟩
def tError : ByteArray := ⟨#[101, 114, 114, 111, 114, 32]⟩
/-- The words of a number, a line and a name. -/
def tell (N L : Int) (W : ByteArray) : ByteArray :=
  mk (((if 0 < L then tLine.data.toList ++ ((digB L).data.toList ++ tColon.data.toList) else []) ++ (if (!W.toList.isEmpty) = true then W.data.toList ++ tColon.data.toList else [])) ++ (tError.data.toList ++ (digB N).data.toList))

theorem tell_e11 (N L : Int) (W : ByteArray) (hL : 0 < L) (hW : (!W.toList.isEmpty) = true) : ⟨#[]⟩ ++ (tLine ++ digB L ++ tColon) ++ (W ++ tColon) ++ tError ++ digB N = tell N L W :=
  list_inj (by unfold tell; rw [mk_list, if_pos hL, if_pos hW]; simp only [cat_list, List.append_assoc]; try rfl)
theorem tell_l11 (N L : Int) (W : ByteArray) (hL : 0 < L) (hW : (!W.toList.isEmpty) = true) : tLine ++ digB L ++ tColon ++ (W ++ tColon) ++ tError ++ digB N = tell N L W :=
  list_inj (by unfold tell; rw [mk_list, if_pos hL, if_pos hW]; simp only [cat_list, List.append_assoc]; try rfl)
theorem tell_e10 (N L : Int) (W : ByteArray) (hL : 0 < L) (hW : (!W.toList.isEmpty) = false) : ⟨#[]⟩ ++ (tLine ++ digB L ++ tColon) ++ tError ++ digB N = tell N L W :=
  list_inj (by unfold tell; rw [mk_list, if_pos hL, if_neg (by rw [hW]; decide)]; simp only [cat_list, List.append_assoc]; try rfl)
theorem tell_l10 (N L : Int) (W : ByteArray) (hL : 0 < L) (hW : (!W.toList.isEmpty) = false) : tLine ++ digB L ++ tColon ++ tError ++ digB N = tell N L W :=
  list_inj (by unfold tell; rw [mk_list, if_pos hL, if_neg (by rw [hW]; decide)]; simp only [cat_list, List.append_assoc]; try rfl)
theorem tell_e01 (N L : Int) (W : ByteArray) (hL : ¬ 0 < L) (hW : (!W.toList.isEmpty) = true) : ⟨#[]⟩ ++ (W ++ tColon) ++ tError ++ digB N = tell N L W :=
  list_inj (by unfold tell; rw [mk_list, if_neg hL, if_pos hW]; simp only [cat_list, List.append_assoc]; try rfl)
theorem tell_l01 (N L : Int) (W : ByteArray) (hL : ¬ 0 < L) (hW : (!W.toList.isEmpty) = true) : ⟨#[]⟩ ++ (W ++ tColon) ++ tError ++ digB N = tell N L W :=
  list_inj (by unfold tell; rw [mk_list, if_neg hL, if_pos hW]; simp only [cat_list, List.append_assoc]; try rfl)
theorem tell_e00 (N L : Int) (W : ByteArray) (hL : ¬ 0 < L) (hW : (!W.toList.isEmpty) = false) : ⟨#[]⟩ ++ tError ++ digB N = tell N L W :=
  list_inj (by unfold tell; rw [mk_list, if_neg hL, if_neg (by rw [hW]; decide)]; simp only [cat_list, List.append_assoc]; try rfl)
theorem tell_l00 (N L : Int) (W : ByteArray) (hL : ¬ 0 < L) (hW : (!W.toList.isEmpty) = false) : ⟨#[]⟩ ++ tError ++ digB N = tell N L W :=
  list_inj (by unfold tell; rw [mk_list, if_neg hL, if_neg (by rw [hW]; decide)]; simp only [cat_list, List.append_assoc]; try rfl)

/-- What lasts from call to call. -/
structure TE (w wx : World) (x : Int) (y : ByteArray) (z : Value) : Prop where
  bel : Below w.heap.size w wx
  et : ET wx
  tab : Tab wx
  lt : w.heap.size < wx.heap.size
  c0 : wx.cell? ⟨w.heap.size, 0, none⟩ = some (.int .i64 x)
  c1 : wx.cell? ⟨w.heap.size, 1, none⟩ = some (.string y)
  c2 : wx.cell? ⟨w.heap.size, 2, none⟩ = some z
theorem TG {w wx wy : World} {x : Int} {y : ByteArray} {z : Value} (h : Hd (TE w wx x y z)) (b : Below wx.heap.size wx wy) : Hd (TE w wy x y z) :=
  ⟨h.out.bel.trans (b.mono h.out.bel.size), h.out.et.stays b, h.out.tab.stays b, Nat.lt_of_lt_of_le h.out.lt b.size, (b.cell (p := ⟨w.heap.size, 0, none⟩) h.out.lt).trans h.out.c0, (b.cell (p := ⟨w.heap.size, 1, none⟩) h.out.lt).trans h.out.c1, (b.cell (p := ⟨w.heap.size, 2, none⟩) h.out.lt).trans h.out.c2⟩

set_option maxHeartbeats 4000000 in
set_option maxRecDepth 20000 in
theorem error_11 (L0 N LL : Int) (S0 WW X dL dN : ByteArray) (q : Value) (w : World) (he : ET w) (hT : Tab w)
    (c10 : ∀ w, ET w → Calls Tryd.prog 10 #[.iface 44 (.agg #[.int .i64 L0, .string S0, q])] w fun e w' => e = .returned (.int .i64 N) ∧ Below w.heap.size w w')
    (c12 : ∀ w, ET w → Calls Tryd.prog 12 #[.iface 44 (.agg #[.int .i64 L0, .string S0, q])] w fun e w' => e = .returned (.int .i64 LL) ∧ Below w.heap.size w w')
    (c14 : ∀ w, ET w → Calls Tryd.prog 14 #[.iface 44 (.agg #[.int .i64 L0, .string S0, q])] w fun e w' => e = .returned (.string WW) ∧ Below w.heap.size w w')
    (cL : ∀ w, Tab w → Calls Tryd.prog 31 #[.int .i64 LL] w fun e w' => e = .returned (.string dL) ∧ Below w.heap.size w w')
    (cN : ∀ w, Tab w → Calls Tryd.prog 31 #[.int .i64 N] w fun e w' => e = .returned (.string dN) ∧ Below w.heap.size w w')
    (sL : dL.size ≤ 19) (sN : dN.size ≤ 19) (sW : WW.size ≤ 140737488351232) (hL : 0 < LL) (hW : (!WW.toList.isEmpty) = true)
    (hX : Hd (X = ⟨#[]⟩ ++ (⟨#[108, 105, 110, 101, 32]⟩ ++ dL ++ ⟨#[58, 32]⟩) ++ (WW ++ ⟨#[58, 32]⟩) ++ ⟨#[101, 114, 114, 111, 114, 32]⟩ ++ dN)) :
    Calls Tryd.prog 21 #[.agg #[.int .i64 L0, .string S0, q]] w fun e w' => e = .returned (.string X) ∧ Below w.heap.size w w' := by
  have bA : Below w.heap.size w (w.alloc (.cells #[.int .i64 L0, .string S0, q] 44)) := (Below.refl _ _).alloc (Nat.le_refl _) _
  have G0 : Hd (TE w (w.alloc (.cells #[.int .i64 L0, .string S0, q] 44)) L0 S0 q) := ⟨bA, he.stays bA, hT.stays bA, by simp, by simp, by simp, by simp⟩
  clear bA he hT
  go_enter Tryd.func21, Tryd.ntmps21
  go_wp2_with (first
    | (go_at_call 12; refine (c12 _ G0.out.et).mono ?_; rintro e w1 ⟨rfl, b1⟩; have G1 := TG G0 b1; clear b1; have y10 := G1.out.c0; have y11 := G1.out.c1; have y12 := G1.out.c2)
    | (go_at_call 31; with_reducible refine (cL _ G1.out.tab).mono ?_; rintro e w2 ⟨rfl, b2⟩; have G2 := TG G1 b2; clear b2; have y20 := G2.out.c0; have y21 := G2.out.c1; have y22 := G2.out.c2)
    | (go_at_call 14; refine (c14 _ G2.out.et).mono ?_; rintro e w3 ⟨rfl, b3⟩; have G3 := TG G2 b3; clear b3; have y30 := G3.out.c0; have y31 := G3.out.c1; have y32 := G3.out.c2)
    | (go_at_call 10; refine (c10 _ G3.out.et).mono ?_; rintro e w4 ⟨rfl, b4⟩; have G4 := TG G3 b4; clear b4; have y40 := G4.out.c0; have y41 := G4.out.c1; have y42 := G4.out.c2)
    | (go_at_call 31; with_reducible refine (cN _ G4.out.tab).mono ?_; rintro e w5 ⟨rfl, b5⟩; have G5 := TG G4 b5; clear b5))
  go_ret
  exact ⟨by rw [hX.out]; rfl, G5.out.bel⟩

set_option maxHeartbeats 4000000 in
set_option maxRecDepth 20000 in
theorem error_10 (L0 N LL : Int) (S0 WW X dL dN : ByteArray) (q : Value) (w : World) (he : ET w) (hT : Tab w)
    (c10 : ∀ w, ET w → Calls Tryd.prog 10 #[.iface 44 (.agg #[.int .i64 L0, .string S0, q])] w fun e w' => e = .returned (.int .i64 N) ∧ Below w.heap.size w w')
    (c12 : ∀ w, ET w → Calls Tryd.prog 12 #[.iface 44 (.agg #[.int .i64 L0, .string S0, q])] w fun e w' => e = .returned (.int .i64 LL) ∧ Below w.heap.size w w')
    (c14 : ∀ w, ET w → Calls Tryd.prog 14 #[.iface 44 (.agg #[.int .i64 L0, .string S0, q])] w fun e w' => e = .returned (.string WW) ∧ Below w.heap.size w w')
    (cL : ∀ w, Tab w → Calls Tryd.prog 31 #[.int .i64 LL] w fun e w' => e = .returned (.string dL) ∧ Below w.heap.size w w')
    (cN : ∀ w, Tab w → Calls Tryd.prog 31 #[.int .i64 N] w fun e w' => e = .returned (.string dN) ∧ Below w.heap.size w w')
    (sL : dL.size ≤ 19) (sN : dN.size ≤ 19) (hL : 0 < LL) (hW : (!WW.toList.isEmpty) = false)
    (hX : Hd (X = ⟨#[]⟩ ++ (⟨#[108, 105, 110, 101, 32]⟩ ++ dL ++ ⟨#[58, 32]⟩) ++ ⟨#[101, 114, 114, 111, 114, 32]⟩ ++ dN)) :
    Calls Tryd.prog 21 #[.agg #[.int .i64 L0, .string S0, q]] w fun e w' => e = .returned (.string X) ∧ Below w.heap.size w w' := by
  have bA : Below w.heap.size w (w.alloc (.cells #[.int .i64 L0, .string S0, q] 44)) := (Below.refl _ _).alloc (Nat.le_refl _) _
  have G0 : Hd (TE w (w.alloc (.cells #[.int .i64 L0, .string S0, q] 44)) L0 S0 q) := ⟨bA, he.stays bA, hT.stays bA, by simp, by simp, by simp, by simp⟩
  clear bA he hT
  go_enter Tryd.func21, Tryd.ntmps21
  go_wp2_with (first
    | (go_at_call 12; refine (c12 _ G0.out.et).mono ?_; rintro e w1 ⟨rfl, b1⟩; have G1 := TG G0 b1; clear b1; have y10 := G1.out.c0; have y11 := G1.out.c1; have y12 := G1.out.c2)
    | (go_at_call 31; with_reducible refine (cL _ G1.out.tab).mono ?_; rintro e w2 ⟨rfl, b2⟩; have G2 := TG G1 b2; clear b2; have y20 := G2.out.c0; have y21 := G2.out.c1; have y22 := G2.out.c2)
    | (go_at_call 14; refine (c14 _ G2.out.et).mono ?_; rintro e w3 ⟨rfl, b3⟩; have G3 := TG G2 b3; clear b3; have y30 := G3.out.c0; have y31 := G3.out.c1; have y32 := G3.out.c2)
    | (go_at_call 10; refine (c10 _ G3.out.et).mono ?_; rintro e w4 ⟨rfl, b4⟩; have G4 := TG G3 b4; clear b4; have y40 := G4.out.c0; have y41 := G4.out.c1; have y42 := G4.out.c2)
    | (go_at_call 31; with_reducible refine (cN _ G4.out.tab).mono ?_; rintro e w5 ⟨rfl, b5⟩; have G5 := TG G4 b5; clear b5))
  go_ret
  exact ⟨by rw [hX.out]; rfl, G5.out.bel⟩

set_option maxHeartbeats 4000000 in
set_option maxRecDepth 20000 in
theorem error_01 (L0 N LL : Int) (S0 WW X dN : ByteArray) (q : Value) (w : World) (he : ET w) (hT : Tab w)
    (c10 : ∀ w, ET w → Calls Tryd.prog 10 #[.iface 44 (.agg #[.int .i64 L0, .string S0, q])] w fun e w' => e = .returned (.int .i64 N) ∧ Below w.heap.size w w')
    (c12 : ∀ w, ET w → Calls Tryd.prog 12 #[.iface 44 (.agg #[.int .i64 L0, .string S0, q])] w fun e w' => e = .returned (.int .i64 LL) ∧ Below w.heap.size w w')
    (c14 : ∀ w, ET w → Calls Tryd.prog 14 #[.iface 44 (.agg #[.int .i64 L0, .string S0, q])] w fun e w' => e = .returned (.string WW) ∧ Below w.heap.size w w')
    (cN : ∀ w, Tab w → Calls Tryd.prog 31 #[.int .i64 N] w fun e w' => e = .returned (.string dN) ∧ Below w.heap.size w w')
    (sN : dN.size ≤ 19) (sW : WW.size ≤ 140737488351232) (hL : ¬ 0 < LL) (hW : (!WW.toList.isEmpty) = true)
    (hX : Hd (X = ⟨#[]⟩ ++ (WW ++ ⟨#[58, 32]⟩) ++ ⟨#[101, 114, 114, 111, 114, 32]⟩ ++ dN)) :
    Calls Tryd.prog 21 #[.agg #[.int .i64 L0, .string S0, q]] w fun e w' => e = .returned (.string X) ∧ Below w.heap.size w w' := by
  have bA : Below w.heap.size w (w.alloc (.cells #[.int .i64 L0, .string S0, q] 44)) := (Below.refl _ _).alloc (Nat.le_refl _) _
  have G0 : Hd (TE w (w.alloc (.cells #[.int .i64 L0, .string S0, q] 44)) L0 S0 q) := ⟨bA, he.stays bA, hT.stays bA, by simp, by simp, by simp, by simp⟩
  clear bA he hT
  go_enter Tryd.func21, Tryd.ntmps21
  go_wp2_with (first
    | (go_at_call 12; refine (c12 _ G0.out.et).mono ?_; rintro e w1 ⟨rfl, b1⟩; have G1 := TG G0 b1; clear b1; have y10 := G1.out.c0; have y11 := G1.out.c1; have y12 := G1.out.c2)
    | (go_at_call 14; refine (c14 _ G1.out.et).mono ?_; rintro e w3 ⟨rfl, b3⟩; have G3 := TG G1 b3; clear b3; have y30 := G3.out.c0; have y31 := G3.out.c1; have y32 := G3.out.c2)
    | (go_at_call 10; refine (c10 _ G3.out.et).mono ?_; rintro e w4 ⟨rfl, b4⟩; have G4 := TG G3 b4; clear b4; have y40 := G4.out.c0; have y41 := G4.out.c1; have y42 := G4.out.c2)
    | (go_at_call 31; with_reducible refine (cN _ G4.out.tab).mono ?_; rintro e w5 ⟨rfl, b5⟩; have G5 := TG G4 b5; clear b5))
  go_ret
  exact ⟨by rw [hX.out]; rfl, G5.out.bel⟩

set_option maxHeartbeats 4000000 in
set_option maxRecDepth 20000 in
theorem error_00 (L0 N LL : Int) (S0 WW X dN : ByteArray) (q : Value) (w : World) (he : ET w) (hT : Tab w)
    (c10 : ∀ w, ET w → Calls Tryd.prog 10 #[.iface 44 (.agg #[.int .i64 L0, .string S0, q])] w fun e w' => e = .returned (.int .i64 N) ∧ Below w.heap.size w w')
    (c12 : ∀ w, ET w → Calls Tryd.prog 12 #[.iface 44 (.agg #[.int .i64 L0, .string S0, q])] w fun e w' => e = .returned (.int .i64 LL) ∧ Below w.heap.size w w')
    (c14 : ∀ w, ET w → Calls Tryd.prog 14 #[.iface 44 (.agg #[.int .i64 L0, .string S0, q])] w fun e w' => e = .returned (.string WW) ∧ Below w.heap.size w w')
    (cN : ∀ w, Tab w → Calls Tryd.prog 31 #[.int .i64 N] w fun e w' => e = .returned (.string dN) ∧ Below w.heap.size w w')
    (sN : dN.size ≤ 19) (hL : ¬ 0 < LL) (hW : (!WW.toList.isEmpty) = false)
    (hX : Hd (X = ⟨#[]⟩ ++ ⟨#[101, 114, 114, 111, 114, 32]⟩ ++ dN)) :
    Calls Tryd.prog 21 #[.agg #[.int .i64 L0, .string S0, q]] w fun e w' => e = .returned (.string X) ∧ Below w.heap.size w w' := by
  have bA : Below w.heap.size w (w.alloc (.cells #[.int .i64 L0, .string S0, q] 44)) := (Below.refl _ _).alloc (Nat.le_refl _) _
  have G0 : Hd (TE w (w.alloc (.cells #[.int .i64 L0, .string S0, q] 44)) L0 S0 q) := ⟨bA, he.stays bA, hT.stays bA, by simp, by simp, by simp, by simp⟩
  clear bA he hT
  go_enter Tryd.func21, Tryd.ntmps21
  go_wp2_with (first
    | (go_at_call 12; refine (c12 _ G0.out.et).mono ?_; rintro e w1 ⟨rfl, b1⟩; have G1 := TG G0 b1; clear b1; have y10 := G1.out.c0; have y11 := G1.out.c1; have y12 := G1.out.c2)
    | (go_at_call 14; refine (c14 _ G1.out.et).mono ?_; rintro e w3 ⟨rfl, b3⟩; have G3 := TG G1 b3; clear b3; have y30 := G3.out.c0; have y31 := G3.out.c1; have y32 := G3.out.c2)
    | (go_at_call 10; refine (c10 _ G3.out.et).mono ?_; rintro e w4 ⟨rfl, b4⟩; have G4 := TG G3 b4; clear b4; have y40 := G4.out.c0; have y41 := G4.out.c1; have y42 := G4.out.c2)
    | (go_at_call 31; with_reducible refine (cN _ G4.out.tab).mono ?_; rintro e w5 ⟨rfl, b5⟩; have G5 := TG G4 b5; clear b5))
  go_ret
  exact ⟨by rw [hX.out]; rfl, G5.out.bel⟩

/-- The words of a Fault. -/
theorem error_ok (L0 N LL : Int) (S0 WW : ByteArray) (q : Value) (w : World) (he : ET w) (hT : Tab w)
    (c10 : ∀ w, ET w → Calls Tryd.prog 10 #[.iface 44 (.agg #[.int .i64 L0, .string S0, q])] w fun e w' => e = .returned (.int .i64 N) ∧ Below w.heap.size w w')
    (c12 : ∀ w, ET w → Calls Tryd.prog 12 #[.iface 44 (.agg #[.int .i64 L0, .string S0, q])] w fun e w' => e = .returned (.int .i64 LL) ∧ Below w.heap.size w w')
    (c14 : ∀ w, ET w → Calls Tryd.prog 14 #[.iface 44 (.agg #[.int .i64 L0, .string S0, q])] w fun e w' => e = .returned (.string WW) ∧ Below w.heap.size w w')
    (n0 : 0 ≤ N) (n1 : N ≤ 9223372036854775807) (l1 : LL ≤ 9223372036854775807) (sW : WW.size ≤ 140737488351232) :
    Calls Tryd.prog 21 #[.agg #[.int .i64 L0, .string S0, q]] w fun e w' => e = .returned (.string (tell N LL WW)) ∧ Below w.heap.size w w' := by
  have cN := fun w h => itoa_ok N n0 n1 w h
  have sN := digB_size N n1
  have sL := digB_size LL l1
  by_cases hL : 0 < LL
  · have cL := fun w h => itoa_ok LL (by omega) l1 w h
    cases hW : (!WW.toList.isEmpty) with
    | true => exact error_11 L0 N LL S0 WW _ _ _ q w he hT c10 c12 c14 cL cN sL sN sW hL hW ⟨(tell_e11 N LL WW hL hW).symm⟩
    | false => exact error_10 L0 N LL S0 WW _ _ _ q w he hT c10 c12 c14 cL cN sL sN hL hW ⟨(tell_e10 N LL WW hL hW).symm⟩
  · cases hW : (!WW.toList.isEmpty) with
    | true => exact error_01 L0 N LL S0 WW _ _ q w he hT c10 c12 c14 cN sN sW hL hW ⟨(tell_e01 N LL WW hL hW).symm⟩
    | false => exact error_00 L0 N LL S0 WW _ _ q w he hT c10 c12 c14 cN sN hL hW ⟨(tell_e00 N LL WW hL hW).symm⟩

end Go.Proofs.YtndandkanamjoaaDoor
