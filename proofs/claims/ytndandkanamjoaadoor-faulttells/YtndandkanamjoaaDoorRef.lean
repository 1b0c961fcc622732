/-
  The reference's 'Number', 'Line' and 'What' of a chain. Condition of the two: the links lie in memory.
-/
import Derived.Test.YtndandkanamjoaaDoorLawI
namespace Go.Proofs.YtndandkanamjoaaDoor
open Go.RowKit Go.Extern.Stop Go.Stop Go.Extern

def numberOf (code : Int) : Int := if code < 0 then 1 else code
theorem number_ok (code : Int) (a : Option Addr) (n c : Nat) (w : World) :
    Calls Tryd.prog 11 #[.agg #[.int .i64 code, .slice a n c]] w fun e w' => e = .returned (.int .i64 (numberOf code)) ∧ Below w.heap.size w w' := by
  have b : Hd (Below w.heap.size w (w.alloc (.cells #[.int .i64 code, .slice a n c] 28))) := ⟨(Below.refl _ _).alloc (Nat.le_refl _) _⟩
  by_cases h : code < 0
  · have e : Hd (numberOf code = 1) := ⟨if_pos h⟩
    go_enter Tryd.func11, Tryd.ntmps11
    go_wp2
    go_ret
    exact ⟨by rw [e.out]; rfl, b.out⟩
  · have e : Hd (numberOf code = code) := ⟨if_neg h⟩
    go_enter Tryd.func11, Tryd.ntmps11
    go_wp2
    go_ret
    exact ⟨by rw [e.out]; rfl, b.out⟩

/-- The links lie in memory. -/
def RowK (w : World) (a : Option Addr) (Q : List Lk) : Prop :=
  0 < Q.length → ∃ b, a = some ⟨b, 0, none⟩ ∧ b < w.heap.size ∧ ∀ k (h : k < Q.length), w.cell? ⟨b, k * 2, none⟩ = some (.int .i64 (Q[k]).line) ∧ w.cell? ⟨b, k * 2 + 1, none⟩ = some (.string (Q[k]).what)
theorem RowK.stays {w w' : World} {a : Option Addr} {Q : List Lk} (h : RowK w a Q) (g : Below w.heap.size w w') : RowK w' a Q := by
  intro hn
  obtain ⟨b, e, hb, hc⟩ := h hn
  exact ⟨b, e, Nat.lt_of_lt_of_le hb g.size, fun k hk => ⟨(g.cell (p := ⟨b, k * 2, none⟩) hb).trans (hc k hk).1, (g.cell (p := ⟨b, k * 2 + 1, none⟩) hb).trans (hc k hk).2⟩⟩
theorem row_of {B : Nat} {w : World} {a : Option Addr} {c : Nat} {Q : List Lk} (h : OwnK B w (.slice a Q.length c) Q) : RowK w a Q := by
  intro hn
  rcases h.2 with ⟨e, h0⟩ | ⟨g, cap, cur, e, _⟩
  · injection e with _ e _; omega
  · injection e with e1 _ e3
    subst e1 e3
    refine ⟨g, rfl, (h.lt g rfl).2, fun k hk => ?_⟩
    obtain ⟨h1, h2⟩ := cl_at Q k hk
    exact ⟨(h.cellAt (k * 2) (by omega)).trans h1, (h.cellAt (k * 2 + 1) (by omega)).trans h2⟩

/-- From the last link down: the links above the first q are passed. -/
theorem near_take (p : Int → ByteArray → Bool) (Q : List Lk) (q : Nat) (h : q < Q.length) (hp : p (Q[q]).line (Q[q]).what = false) : near p (Q.take (q + 1)).reverse = near p (Q.take q).reverse := by
  rw [List.take_add_one, List.getElem?_eq_getElem h]
  simp only [Option.toList, List.reverse_append, List.reverse_cons, List.reverse_nil, List.nil_append, List.cons_append]
  exact near_no hp
theorem near_take_yes (p : Int → ByteArray → Bool) (Q : List Lk) (q : Nat) (h : q < Q.length) (hp : p (Q[q]).line (Q[q]).what = true) : near p (Q.take (q + 1)).reverse = Q[q] := by
  rw [List.take_add_one, List.getElem?_eq_getElem h]
  simp only [Option.toList, List.reverse_append, List.reverse_cons, List.reverse_nil, List.nil_append, List.cons_append]
  exact near_yes hp

theorem rline_ok (code : Int) (a : Option Addr) (c : Nat) (Q : List Lk) (w : World) (hl : Q.length ≤ 61) (hR : RowK w a Q) :
    Calls Tryd.prog 13 #[.agg #[.int .i64 code, .slice a Q.length c]] w fun e w' => e = .returned (.int .i64 (near (fun x _ => x != 0) Q.reverse).line) ∧ Below w.heap.size w w' := by
  obtain ⟨w1, hw1⟩ : ∃ w1, w1 = w.alloc (.cells #[.int .i64 code, .slice a Q.length c] 28) := ⟨_, rfl⟩
  have b1 : Below w.heap.size w w1 := by rw [hw1]; exact (Below.refl _ _).alloc (Nat.le_refl _) _
  have R1 : Hd (RowK w1 a Q) := ⟨hR.stays b1⟩
  have B1 : Hd (Below w.heap.size w w1) := ⟨b1⟩
  have x1 : w1.cell? ⟨w.heap.size, 1, none⟩ = some (.slice a Q.length c) := by rw [hw1]; simp
  clear hR b1
  obtain ⟨nl, hnl⟩ : ∃ nl, nl = Q.length := ⟨_, rfl⟩
  have HN : Hd (nl = Q.length) := ⟨hnl⟩
  rw [← hnl] at hl x1 hw1 ⊢
  have HW : Hd (w1 = w.alloc (.cells #[.int .i64 code, .slice a nl c] 28)) := ⟨hw1⟩
  clear hnl hw1
  go_enter Tryd.func13, Tryd.ntmps13
  go_wp2
  rw [← HW.out]
  go_loop [3] (fun i => ∃ q : Nat, q ≤ nl ∧ i = .int .i64 ((q : Int) - 1) ∧ Hd (near (fun x _ => x != 0) (Q.take q).reverse = near (fun x _ => x != 0) Q.reverse)) (fun i => (intOf i + 1).toNat)
  case atStart => exact ⟨nl, Nat.le_refl _, by go_num, ⟨by rw [HN.out, List.take_length]⟩⟩
  case round =>
    obtain ⟨q, hq, rfl, HP⟩ := hrel
    cases q with
    | zero =>
      have F : Hd (near (fun x _ => x != 0) Q.reverse = ⟨0, ⟨#[]⟩⟩) := ⟨HP.out.symm⟩
      go_wp2
      go_ret
      exact ⟨by rw [F.out]; rfl, B1.out⟩
    | succ q =>
      have e0 : ((q + 1 : Nat) : Int) - 1 = q := by omega
      have hqn : q < Q.length := by rw [← HN.out]; omega
      obtain ⟨b, hab, hb, hc⟩ := R1.out (by omega)
      obtain ⟨p1, p2⟩ := hc q hqn
      rw [e0]
      obtain ⟨⟨L, S⟩, hx⟩ : ∃ x, x = Q[q] := ⟨_, rfl⟩
      have HX : Hd (Q[q] = ⟨L, S⟩) := ⟨hx.symm⟩
      rw [← hx] at p1 p2
      clear e0 hc hx
      subst hab
      have hq' : q < nl := by omega
      cases hp : (L != 0) with
      | true =>
        have F : Hd (near (fun x _ => x != 0) Q.reverse = ⟨L, S⟩) := ⟨by rw [← HP.out, near_take_yes _ Q q hqn (by rw [HX.out]; exact hp), HX.out]⟩
        go_wp2
        go_ret
        exact ⟨by rw [F.out]; rfl, B1.out⟩
      | false =>
        have F : Hd (near (fun x _ => x != 0) (Q.take q).reverse = near (fun x _ => x != 0) Q.reverse) := ⟨(near_take _ Q q hqn (by rw [HX.out]; exact hp)).symm.trans HP.out⟩
        go_wp2
        go_round
        case rel => exact ⟨q, by omega, by go_num, F⟩
        case measure => simp [intOf]

theorem rwhat_ok (code : Int) (a : Option Addr) (c : Nat) (Q : List Lk) (w : World) (hl : Q.length ≤ 61) (hR : RowK w a Q) :
    Calls Tryd.prog 15 #[.agg #[.int .i64 code, .slice a Q.length c]] w fun e w' => e = .returned (.string (near (fun _ y => !y.toList.isEmpty) Q.reverse).what) ∧ Below w.heap.size w w' := by
  obtain ⟨w1, hw1⟩ : ∃ w1, w1 = w.alloc (.cells #[.int .i64 code, .slice a Q.length c] 28) := ⟨_, rfl⟩
  have b1 : Below w.heap.size w w1 := by rw [hw1]; exact (Below.refl _ _).alloc (Nat.le_refl _) _
  have R1 : Hd (RowK w1 a Q) := ⟨hR.stays b1⟩
  have B1 : Hd (Below w.heap.size w w1) := ⟨b1⟩
  have x1 : w1.cell? ⟨w.heap.size, 1, none⟩ = some (.slice a Q.length c) := by rw [hw1]; simp
  clear hR b1
  obtain ⟨nl, hnl⟩ : ∃ nl, nl = Q.length := ⟨_, rfl⟩
  have HN : Hd (nl = Q.length) := ⟨hnl⟩
  rw [← hnl] at hl x1 hw1 ⊢
  have HW : Hd (w1 = w.alloc (.cells #[.int .i64 code, .slice a nl c] 28)) := ⟨hw1⟩
  clear hnl hw1
  go_enter Tryd.func15, Tryd.ntmps15
  go_wp2
  rw [← HW.out]
  go_loop [3] (fun i => ∃ q : Nat, q ≤ nl ∧ i = .int .i64 ((q : Int) - 1) ∧ Hd (near (fun _ y => !y.toList.isEmpty) (Q.take q).reverse = near (fun _ y => !y.toList.isEmpty) Q.reverse)) (fun i => (intOf i + 1).toNat)
  case atStart => exact ⟨nl, Nat.le_refl _, by go_num, ⟨by rw [HN.out, List.take_length]⟩⟩
  case round =>
    obtain ⟨q, hq, rfl, HP⟩ := hrel
    cases q with
    | zero =>
      have F : Hd (near (fun _ y => !y.toList.isEmpty) Q.reverse = ⟨0, ⟨#[]⟩⟩) := ⟨HP.out.symm⟩
      go_wp2
      go_ret
      exact ⟨by rw [F.out]; rfl, B1.out⟩
    | succ q =>
      have e0 : ((q + 1 : Nat) : Int) - 1 = q := by omega
      have hqn : q < Q.length := by rw [← HN.out]; omega
      obtain ⟨b, hab, hb, hc⟩ := R1.out (by omega)
      obtain ⟨p1, p2⟩ := hc q hqn
      rw [e0]
      obtain ⟨⟨L, S⟩, hx⟩ : ∃ x, x = Q[q] := ⟨_, rfl⟩
      have HX : Hd (Q[q] = ⟨L, S⟩) := ⟨hx.symm⟩
      rw [← hx] at p1 p2
      clear e0 hc hx
      subst hab
      have hq' : q < nl := by omega
      cases hp : (!S.toList.isEmpty) with
      | true =>
        have F : Hd (near (fun _ y => !y.toList.isEmpty) Q.reverse = ⟨L, S⟩) := ⟨by rw [← HP.out, near_take_yes _ Q q hqn (by rw [HX.out]; exact hp), HX.out]⟩
        go_wp2
        go_ret
        exact ⟨by rw [F.out]; rfl, B1.out⟩
      | false =>
        have F : Hd (near (fun _ y => !y.toList.isEmpty) (Q.take q).reverse = near (fun _ y => !y.toList.isEmpty) Q.reverse) := ⟨(near_take _ Q q hqn (by rw [HX.out]; exact hp)).symm.trans HP.out⟩
        go_wp2
        go_round
        case rel => exact ⟨q, by omega, by go_num, F⟩
        case measure => simp [intOf]

end Go.Proofs.YtndandkanamjoaaDoor
