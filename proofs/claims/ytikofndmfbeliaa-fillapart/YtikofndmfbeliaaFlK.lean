/-
  What is filled needs no more filling, what was told stays at its place; 'awake'. No condition.
-/
import Derived.Test.YtikofndmfbeliaaFlF
import Derived.Test.YtikofndmfbeliaaSmB
import Derived.Test.YtikofndmfbeliaaSmS
namespace Go.Proofs.Ytikofndmfbeliaa
open Go.RowKit

theorem orU_ne (x u : Int) (h : u ≠ 0) : orU x u ≠ 0 := by unfold orU; split <;> assumption
theorem orU_keep {x : Int} (u : Int) (h : x ≠ 0) : orU x u = x := if_neg h
theorem orU_idem (x u : Int) (h : u ≠ 0) : orU (orU x u) u = orU x u := orU_keep u (orU_ne x u h)
theorem anyL_append (L M : List Lv) (x : ByteArray) : anyL (L ++ M) x = (anyL L x || anyL M x) := by unfold anyL; rw [List.any_append]
theorem anyS_append (L M : List Sc) (x : ByteArray) : anyS (L ++ M) x = (anyS L x || anyS M x) := by unfold anyS; rw [List.any_append]
theorem lvX_e : anyL [lvX] tExempt = true := by unfold anyL lvX; simp
theorem lvY_c : anyL [lvY] tCatch = true := by unfold anyL lvY; simp
theorem scX_e : anyS [scX] tExempt = true := by unfold anyS scX; simp
theorem scY_c : anyS [scY] tCatch = true := by unfold anyS scY; simp
theorem lvXY : anyL [lvX, lvY] tExempt = true ∧ anyL [lvX, lvY] tCatch = true := by unfold anyL lvX lvY; simp
theorem scXY : anyS [scX, scY] tExempt = true ∧ anyS [scX, scY] tCatch = true := by unfold anyS scX scY; simp
theorem fillL_has (L : List Lv) : anyL (fillL L) tExempt = true ∧ anyL (fillL L) tCatch = true := by
  unfold fillL putX
  cases h1 : anyL L tExempt <;> cases h2 : anyL L tCatch <;> simp [anyL_append, h1, h2, lvX_e, lvY_c, lvXY]
theorem fillS_has (L : List Sc) : anyS (fillS L) tExempt = true ∧ anyS (fillS L) tCatch = true := by
  unfold fillS putX
  cases h1 : anyS L tExempt <;> cases h2 : anyS L tCatch <;> simp [anyS_append, h1, h2, scX_e, scY_c, scXY]
theorem fillL_idem (L : List Lv) : fillL (fillL L) = fillL L := by
  obtain ⟨h1, h2⟩ := fillL_has L
  show putX (anyL (fillL L) tCatch) (putX (anyL (fillL L) tExempt) (fillL L) lvX) lvY = fillL L
  rw [h1, h2]
  rfl
theorem fillS_idem (L : List Sc) : fillS (fillS L) = fillS L := by
  obtain ⟨h1, h2⟩ := fillS_has L
  show putX (anyS (fillS L) tCatch) (putX (anyS (fillS L) tExempt) (fillS L) scX) scY = fillS L
  rw [h1, h2]
  rfl
theorem fillC_idem (C : Cf) : fillC (fillC C) = fillC C := by
  unfold fillC
  simp only [fillL_idem, fillS_idem, orU_idem _ _ (by decide : (100 : Int) ≠ 0), orU_idem _ _ (by decide : (10 : Int) ≠ 0)]
theorem fillL_ext (L : List Lv) : ∃ T, fillL L = L ++ T ∧ T.length ≤ 2 ∧ ∀ l ∈ T, l = lvX ∨ l = lvY := by
  unfold fillL putX
  cases anyL L tExempt <;> cases anyL L tCatch
  · exact ⟨[lvX, lvY], by simp, by simp, by simp⟩
  · exact ⟨[lvX], by simp, by simp, by simp⟩
  · exact ⟨[lvY], by simp, by simp, by simp⟩
  · exact ⟨[], by simp, by simp, by simp⟩
theorem fillS_ext (L : List Sc) : ∃ T, fillS L = L ++ T ∧ T.length ≤ 2 ∧ ∀ l ∈ T, l = scX ∨ l = scY := by
  unfold fillS putX
  cases anyS L tExempt <;> cases anyS L tCatch
  · exact ⟨[scX, scY], by simp, by simp, by simp⟩
  · exact ⟨[scX], by simp, by simp, by simp⟩
  · exact ⟨[scY], by simp, by simp, by simp⟩
  · exact ⟨[], by simp, by simp, by simp⟩
theorem rlX_f : RlF rlX := by
  refine ⟨⟨?_, ?_⟩, ⟨?_, ?_⟩, ⟨?_, ?_⟩, ⟨?_, ?_⟩, ?_, ?_⟩ <;> simp [rlX] <;> decide
theorem rlY_f : RlF rlY := by
  refine ⟨⟨?_, ?_⟩, ⟨?_, ?_⟩, ⟨?_, ?_⟩, ⟨?_, ?_⟩, ?_, ?_⟩ <;> simp [rlY] <;> decide
theorem fillC_fits {n : Nat} {C : Cf} (h : Fits C) (hb : Bnd n C) (hn : n ≤ 1000) : Fits (fillC C) := by
  obtain ⟨T, e1, t1, m1⟩ := fillL_ext C.levels
  obtain ⟨U, e2, t2, m2⟩ := fillS_ext C.schemas
  have a1 := hb.lv
  have a2 := hb.sc
  refine ⟨⟨?_, ?_⟩, ⟨?_, ?_⟩, ?_⟩
  · show (fillL C.levels).length ≤ _; rw [e1, List.length_append]; omega
  · show (fillS C.schemas).length ≤ _; rw [e2, List.length_append]; omega
  · show ∀ l ∈ fillL C.levels, _
    rw [e1]
    intro l hl
    rcases List.mem_append.1 hl with hl | hl
    · exact h.nm.1 l hl
    · rcases m1 l hl with rfl | rfl <;> decide
  · show ∀ l ∈ fillS C.schemas, _
    rw [e2]
    intro l hl
    rcases List.mem_append.1 hl with hl | hl
    · exact h.nm.2 l hl
    · rcases m2 l hl with rfl | rfl <;> decide
  · show ∀ l ∈ fillS C.schemas, _
    rw [e2]
    intro l hl
    rcases List.mem_append.1 hl with hl | hl
    · exact h.rl l hl
    · rcases m2 l hl with rfl | rfl
      · exact ⟨by decide, fun r hr => by rw [List.mem_singleton.1 hr]; exact rlX_f⟩
      · exact ⟨by decide, fun r hr => by rw [List.mem_singleton.1 hr]; exact rlY_f⟩
theorem fillC_bnd {n : Nat} {C : Cf} (hb : Bnd n C) : Bnd (n + 2) (fillC C) := by
  obtain ⟨T, e1, t1, m1⟩ := fillL_ext C.levels
  obtain ⟨U, e2, t2, m2⟩ := fillS_ext C.schemas
  have a1 := hb.lv
  have a2 := hb.sc
  refine ⟨?_, ?_, ?_⟩
  · show (fillL C.levels).length ≤ _; rw [e1, List.length_append]; omega
  · show (fillS C.schemas).length ≤ _; rw [e2, List.length_append]; omega
  · show ∀ l ∈ fillS C.schemas, _
    rw [e2]
    intro l hl
    rcases List.mem_append.1 hl with hl | hl
    · obtain ⟨h1, h2⟩ := hb.rl l hl
      exact ⟨by omega, fun r hr => by obtain ⟨c0, c1, c2, c3, c4⟩ := h2 r hr; exact ⟨by omega, by omega, by omega, by omega, by omega⟩⟩
    · rcases m2 l hl with rfl | rfl
      · refine ⟨by show 1 ≤ _; omega, fun r hr => ?_⟩
        rw [List.mem_singleton.1 hr]
        exact ⟨by show 0 ≤ _; omega, by show 1 ≤ _; omega, by show 1 ≤ _; omega, by show 1 ≤ _; omega, by show 1 ≤ _; omega⟩
      · refine ⟨by show 1 ≤ _; omega, fun r hr => ?_⟩
        rw [List.mem_singleton.1 hr]
        exact ⟨by show 1 ≤ _; omega, by show 0 ≤ _; omega, by show 1 ≤ _; omega, by show 1 ≤ _; omega, by show 1 ≤ _; omega⟩
theorem Bnd.mono {m n : Nat} {C : Cf} (h : Bnd m C) (k : m ≤ n) : Bnd n C :=
  ⟨Nat.le_trans h.lv k, Nat.le_trans h.sc k, fun s hs => by
    obtain ⟨h1, h2⟩ := h.rl s hs
    exact ⟨Nat.le_trans h1 k, fun r hr => by obtain ⟨c0, c1, c2, c3, c4⟩ := h2 r hr; exact ⟨by omega, by omega, by omega, by omega, by omega⟩⟩⟩
/-- The beginning of what is read. -/
theorem LvR.first {w : World} {a : Option Addr} {L T : List Lv} (h : LvR w a (L ++ T)) : LvR w a L := fun hn => by
  obtain ⟨b, off, e, hb, hc⟩ := h (by rw [List.length_append]; omega)
  refine ⟨b, off, e, hb, fun k hk j hj => ?_⟩
  rw [hc k (by rw [List.length_append]; omega) j hj, List.getElem_append_left hk]
theorem ScR.first {w : World} {a : Option Addr} {L T : List Sc} {V : List Value} (h : ScR w a (L ++ T) V) : ScR w a L (V.take L.length) := fun hn => by
  obtain ⟨b, off, e, hb, hc⟩ := h (by rw [List.length_append]; omega)
  refine ⟨b, off, e, hb, fun k hk hk' j hj => ?_⟩
  have h2 : k < V.length := by rw [List.length_take] at hk'; omega
  rw [hc k (by rw [List.length_append]; omega) h2 j hj, List.getElem_append_left hk, List.getElem_take]
theorem CfR.first {w : World} {C D : Cf} {T : List Lv} {U : List Sc} {y0 y1 y2 y3 : Value} {aL aS : Option Addr} {n m cL cS : Nat} (h : CfR w (.agg #[y0, y1, y2, y3, .slice aL n cL, .slice aS m cS]) D) (e1 : D.levels = C.levels ++ T) (e2 : D.schemas = C.schemas ++ U) :
    CfR w (.agg #[.int .i64 C.total, .int .i64 C.period, .int .i64 C.perSeat, .int .i64 C.most, .slice aL C.levels.length cL, .slice aS C.schemas.length cS]) C := by
  obtain ⟨aL', cL', aS', cS', V, e, h1, h2, h3, h4, h5, h6⟩ := h.ex
  have hs := h.sz
  have hm := h.nm
  rw [e1, List.length_append] at h1
  rw [e2, List.length_append] at h2
  injection e with e
  simp only [Array.mk.injEq, List.cons.injEq, Value.slice.injEq, and_true] at e
  obtain ⟨-, -, -, -, ⟨rfl, -, rfl⟩, rfl, -, rfl⟩ := e
  rw [e1] at h3
  have h5' : ScR w aS (C.schemas ++ U) V := by rw [← e2]; exact h5
  rw [e2, List.length_append] at h4
  refine ⟨?_, ?_, aL, cL, aS, cS, V.take C.schemas.length, rfl, by omega, by omega, h3.first, by rw [List.length_take]; omega, h5'.first, fun k hk hk' => ?_⟩
  · rw [e1, e2, List.length_append, List.length_append] at hs; omega
  · rw [e1, e2] at hm
    exact ⟨fun l hl => hm.1 l (List.mem_append_left _ hl), fun l hl => hm.2 l (List.mem_append_left _ hl)⟩
  · have hkV : k < V.length := by omega
    have := h6 k (by rw [e2, List.length_append]; omega) hkV
    rw [List.getElem_take]
    simp only [e2] at this
    rw [List.getElem_append_left hk] at this
    exact this
/-- The empty configuration. -/
def cfN : Cf := ⟨0, 0, 0, 0, [], []⟩
theorem cfN_r (w : World) : CfR w (.agg #[.int .i64 0, .int .i64 0, .int .i64 0, .int .i64 0, .slice none 0 0, .slice none 0 0]) cfN :=
  ⟨⟨by decide, by decide⟩, ⟨(fun _ h => nomatch h), (fun _ h => nomatch h)⟩, none, 0, none, 0, [], rfl, Nat.le_refl _, Nat.le_refl _, fun h => absurd h (by decide), rfl, fun h => absurd h (by decide), fun k h => absurd h (Nat.not_lt_zero _)⟩
theorem cfN_fill : fillC cfN = ⟨100, 10, 100, 10, [lvX, lvY], [scX, scY]⟩ := rfl
set_option maxRecDepth 20000 in
theorem awake_ok (w : World) : Calls Try.prog 6 #[] w fun e w' => e = .returned (.bool true) ∧ Below w.heap.size w w' := by
  have P1 := fill_ok _ cfN w (cfN_r w) ⟨by decide, by decide, fun _ h => nomatch h⟩
  rw [cfN_fill] at P1
  go_enter Try.func6, Try.ntmps6
  go_wp2_with fail
  go_at_call 9
  refine P1.mono ?_
  rintro e w2 ⟨⟨v, rfl, ⟨vL, vS, V, rfl, hL, hS⟩⟩, b2⟩
  obtain ⟨aL, cL, rfl, -⟩ := LvW.read hL
  obtain ⟨aS, cS, rfl, -, hr⟩ := ScW.read hS
  obtain ⟨g, off, rfl, hg, hc⟩ := hr (by decide)
  have hl := hS.len
  have d2 : w2.cell? ⟨g, off + 7, none⟩ = some (.int .i64 10000) := hc 1 (by decide) (by rw [hl]; decide) 2 (by decide)
  have BB : Hd (Below w.heap.size w w2) := ⟨b2⟩
  have HG : Hd (g < w2.heap.size) := ⟨hg⟩
  clear P1 hL hS hr hc hl b2
  simp only [List.length_cons, List.length_nil]
  go_wp2_with fail
  go_ret
  exact ⟨rfl, BB.out.trans ((alloc_below w2 _).mono BB.out.size)⟩
end Go.Proofs.Ytikofndmfbeliaa
