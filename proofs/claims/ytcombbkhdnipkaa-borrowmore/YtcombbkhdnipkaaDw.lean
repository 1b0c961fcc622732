/-
  Demands in memory of the call's own; who wants more has no less. Conditions: those of each theorem.
-/
import Derived.Test.YtcombbkhdnipkaaAw
namespace Go.Proofs.Ytcombbkhdnipkaa
open Go.RowKit

/-- Who wants more, all else being the same, has no less. -/
theorem part_more {total : Int} {n : Nat} {lo hi u v : Nat → Int} (h1 : Fits total n lo hi u) (h2 : Fits total n lo hi v) {i : Nat} (hin : i < n) (he : ∀ j, j ≠ i → u j = v j) (hm : u i ≤ v i) :
    part total n lo hi u i ≤ part total n lo hi v i := by
  by_cases c : u i = v i
  · have e : u = v := funext fun j => by
      by_cases t : j = i
      · rw [t]; exact c
      · exact he j t
    rw [e]; exact Int.le_refl _
  · rcases Int.lt_or_le (part total n lo hi v i) (part total n lo hi u i) with hlt | hge
    · have d1 := h1.last
      have d2 := h2.last
      have s1 := h1.sum
      have s2 := h2.sum
      generalize part total n lo hi u = q at *
      generalize part total n lo hi v = q' at *
      have ex : ∃ j, j < n ∧ q j < q' j := by
        refine Classical.byContradiction fun hno => ?_
        have hall : ∀ k, k < n → q' k ≤ q k := fun k hk => by
          rcases Int.lt_or_le (q k) (q' k) with h | h
          · exact absurd ⟨k, hk, h⟩ hno
          · exact h
        have := sumTo_meet n hall (by omega) i hin
        omega
      obtain ⟨j, hj, hp⟩ := ex
      have hne : j ≠ i := by intro e; rw [e] at hp; omega
      have i1 := d1.between i hin
      have i2 := d2.between i hin
      have j1 := d1.between j hj
      have j2 := d2.between j hj
      have F1 := d1.fair i j hin hj (by omega) (by omega)
      have F2 := d2.fair j i hj hin (by omega) (by omega)
      rw [← he j hne] at F2
      have w1 := h1.each j hj
      have w2 := h1.each i hin
      have a1 : (q j + 1) * (v i + 1) ≤ q' j * (v i + 1) := Int.mul_le_mul_of_nonneg_right (by omega) (by omega)
      have a2 : (q' i + 1) * (u j + 1) ≤ q i * (u j + 1) := Int.mul_le_mul_of_nonneg_right (by omega) (by omega)
      have a3 : (q j + 1) * (u i + 1) < (q j + 1) * (v i + 1) := Int.mul_lt_mul_of_pos_left (by omega) (by omega)
      omega
    · exact hge

/-- The first m demands, as cells. -/
def dmCs (d : Nat → Dm) (m : Nat) : List Value := (List.range (m * 2)).map fun j => .int .i64 (if j % 2 = 0 then (d (j / 2)).hig else (d (j / 2)).smo)
section
variable {d : Nat → Dm} {m : Nat}
theorem dmCs_len : (dmCs d m).length = m * 2 := by simp [dmCs]
theorem dmCs_get {j : Nat} (h : j < m * 2) : (dmCs d m)[j]? = some (.int .i64 (if j % 2 = 0 then (d (j / 2)).hig else (d (j / 2)).smo)) := by simp [dmCs, h]
theorem dmCs_hig {k : Nat} (h : k < m) : (dmCs d m)[k * 2]? = some (.int .i64 (d k).hig) := by
  rw [dmCs_get (by omega), if_pos (by omega), show k * 2 / 2 = k from by omega]
theorem dmCs_smo {k : Nat} (h : k < m) : (dmCs d m)[k * 2 + 1]? = some (.int .i64 (d k).smo) := by
  rw [dmCs_get (by omega), if_neg (by omega), show (k * 2 + 1) / 2 = k from by omega]
theorem dmCs_one : ∀ u ∈ dmCs d m, u.oneCell' = true := by
  intro u hu
  simp [dmCs] at hu
  obtain ⟨j, _, rfl⟩ := hu
  rfl
theorem dmCs_succ : dmCs d m ++ [.int .i64 (d m).hig, .int .i64 (d m).smo] = dmCs d (m + 1) := by
  unfold dmCs
  rw [show (m + 1) * 2 = m * 2 + 1 + 1 from by omega, List.range_succ, List.range_succ, List.map_append, List.map_append, List.append_assoc]
  have e1 : m * 2 % 2 = 0 := by omega
  have e2 : ¬ (m * 2 + 1) % 2 = 0 := by omega
  have e3 : m * 2 / 2 = m := by omega
  have e4 : (m * 2 + 1) / 2 = m := by omega
  simp only [List.map_cons, List.map_nil, if_pos e1, if_neg e2, e3, e4, List.cons_append, List.nil_append]
theorem dm_at {w : World} {x : Addr} (h : DmR w (some x) m d) : ∀ j u, (dmCs d m)[j]? = some u → w.cell? (x.add j) = some u := by
  intro j u hj
  have hl : j < m * 2 := by
    by_cases c : j < m * 2
    · exact c
    · rw [List.getElem?_eq_none (by rw [dmCs_len]; omega)] at hj; cases hj
  obtain ⟨b, off, e, _, hc⟩ := h (by omega)
  cases e
  rw [Go.WideShapes.add_plain]
  obtain ⟨h0, h1⟩ := hc (j / 2) (by omega)
  rw [dmCs_get hl] at hj
  by_cases p : j % 2 = 0
  · rw [if_pos p] at hj
    rw [show off + j / 2 * 2 = off + j from by omega] at h0
    rw [h0]; exact hj
  · rw [if_neg p] at hj
    rw [show off + j / 2 * 2 + 1 = off + j from by omega] at h1
    rw [h1]; exact hj
end
/-- A block of m demands that may be written. -/
def OwnD (w : World) (g m : Nat) (d : Nat → Dm) : Prop := g < w.heap.size ∧ ∀ k, k < m → (w.cell? ⟨g, k * 2, none⟩ = some (.int .i64 (d k).hig) ∧ w.cell? ⟨g, k * 2 + 1, none⟩ = some (.int .i64 (d k).smo)) ∧ w.frozen? ⟨g, k * 2 + 1, none⟩ = false
theorem OwnD.owned {w : World} {base g m cap : Nat} {d : Nat → Dm} (h : w.ownsRow base 37 2 (.slice (some ⟨g, 0, none⟩) m cap) m (dmCs d m)) : OwnD w g m d :=
  ⟨(h.lt g rfl).2, fun k hk => ⟨⟨by rw [h.cellAt _ (by omega), dmCs_hig hk], by rw [h.cellAt _ (by omega), dmCs_smo hk]⟩, h.frozenAt _⟩⟩
theorem OwnD.read {w : World} {g m : Nat} {d : Nat → Dm} (h : OwnD w g m d) : DmR w (some ⟨g, 0, none⟩) m d :=
  fun _ => ⟨g, 0, rfl, h.1, fun k hk => by rw [Nat.zero_add]; exact (h.2 k hk).1⟩
def updD (d : Nat → Dm) (i : Nat) (x : Int) : Nat → Dm := fun j => if j = i then ⟨(d i).hig, x⟩ else d j
theorem cell_off {w : World} {b x y : Nat} (v : Value) (h : y ≠ x) : (w.setCell ⟨b, x, none⟩ v).cell? ⟨b, y, none⟩ = w.cell? ⟨b, y, none⟩ :=
  World.cell?_setCell_other _ _ _ _ (fun e => h (Addr.mk.inj e).2.1.symm)
theorem OwnD.put {w : World} {g m : Nat} {d : Nat → Dm} (h : OwnD w g m d) (i : Nat) (x : Int) (_hi : i < m) : OwnD (w.setCell ⟨g, i * 2 + 1, none⟩ (.int .i64 x)) g m (updD d i x) := by
  refine ⟨by simpa using h.1, fun k hk => ⟨?_, by simpa using (h.2 k hk).2⟩⟩
  obtain ⟨⟨h0, h1⟩, -⟩ := h.2 k hk
  by_cases c : k = i
  · subst c
    simp only [updD, if_pos]
    exact ⟨by rw [cell_off _ (by omega)]; exact h0, World.cell?_setCell_same _ _ _ h1⟩
  · simp only [updD, if_neg c]
    exact ⟨by rw [cell_off _ (by omega)]; exact h0, by rw [cell_off _ (by omega)]; exact h1⟩
theorem dm_owned {w : World} {base : Nat} {v : Value} {n : Nat} {d : Nat → Dm} (h : w.ownsRow base 37 2 v n (dmCs d n)) : ∃ a cap, v = .slice a n cap ∧ DmR w a n d := by
  rcases id h.2 with ⟨rfl, rfl⟩ | ⟨g, cap, cur, rfl, hb, hg, r⟩
  · exact ⟨none, 0, rfl, fun h => by omega⟩
  · exact ⟨some ⟨g, 0, none⟩, cap, rfl, (OwnD.owned h).read⟩
theorem Try.info37 : (Try.prog.info? 37).map (fun i => (i.zero, i.size, i.bytes)) = some (some (.agg #[.int .i64 0, .int .i64 0]), 2, 16) := by kernel_rfl
end Go.Proofs.Ytcombbkhdnipkaa
