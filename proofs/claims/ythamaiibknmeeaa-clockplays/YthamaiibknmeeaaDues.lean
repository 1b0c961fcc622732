/-
  Slices of dues: how they lie in memory, whoever laid them; slices of dues in memory of their own.
-/
import Derived.Test.YthamaiibknmeeaaWalkC
namespace Go.Proofs.Ythamaiibknmeeaa
open Go.RowKit Go.Lib Go.Sort Go.Maps

/-- A due of the moment x.1 and of the id x.2. -/
def vD (x : Int × Int) : Value := .agg #[.int .i64 x.2, .int .i64 x.1]

/-- The slice at a of n dues lies in memory, and they are f 0, f 1, .. -/
def DRow (w : World) (a : Option Addr) (n : Nat) (f : Nat → Int × Int) : Prop :=
  0 < n → ∃ b off, a = some ⟨b, off, none⟩ ∧ b < w.heap.size ∧ ∀ k, k < n → w.cell? ⟨b, off + k * 2, none⟩ = some (.int .i64 (f k).2) ∧ w.cell? ⟨b, off + k * 2 + 1, none⟩ = some (.int .i64 (f k).1)

theorem DRow.carry {w w' : World} {a : Option Addr} {n : Nat} {f : Nat → Int × Int} (h : DRow w a n f) (g : Below w.heap.size w w') : DRow w' a n f := by
  intro hn
  obtain ⟨b, off, e, hb, hc⟩ := h hn
  exact ⟨b, off, e, Nat.lt_of_lt_of_le hb g.size, fun k hk => ⟨(g.cell (p := ⟨b, off + k * 2, none⟩) hb).trans (hc k hk).1, (g.cell (p := ⟨b, off + k * 2 + 1, none⟩) hb).trans (hc k hk).2⟩⟩
theorem DRow.congr {w : World} {a : Option Addr} {n : Nat} {f g : Nat → Int × Int} (h : DRow w a n f) (e : ∀ k, k < n → f k = g k) : DRow w a n g := by
  intro hn
  obtain ⟨b, off, e', hb, hc⟩ := h hn
  exact ⟨b, off, e', hb, fun k hk => by rw [← e k hk]; exact hc k hk⟩

/-- The dues of a list, as cells. -/
def dcl : List (Int × Int) → List Value
  | [] => []
  | x :: L => .int .i64 x.2 :: .int .i64 x.1 :: dcl L
theorem dcl_len : ∀ L, (dcl L).length = L.length * 2
  | [] => rfl
  | x :: L => by simp [dcl, dcl_len L]; omega
theorem dcl_append : ∀ A B, dcl (A ++ B) = dcl A ++ dcl B
  | [], B => rfl
  | x :: A, B => by simp [dcl, dcl_append A B]
theorem dcl_one : ∀ L, ∀ u ∈ dcl L, u.oneCell' = true
  | [], u, h => by cases h
  | x :: L, u, h => by
    simp only [dcl, List.mem_cons] at h
    rcases h with rfl | rfl | h
    · rfl
    · rfl
    · exact dcl_one L u h
theorem dcl_at : ∀ L i, i < L.length → (dcl L)[i * 2]? = some (.int .i64 (L.getD i (0, 0)).2) ∧ (dcl L)[i * 2 + 1]? = some (.int .i64 (L.getD i (0, 0)).1)
  | [], i, h => by simp at h
  | x :: L, 0, _ => by simp [dcl]
  | x :: L, i + 1, h => by
    have := dcl_at L i (by simpa using h)
    simp only [dcl, List.getD_cons_succ]
    rw [show (i + 1) * 2 = i * 2 + 1 + 1 by omega, show i * 2 + 1 + 1 + 1 = (i * 2 + 1) + 1 + 1 by omega]
    simpa using this

/-- v is a slice of the dues of L, in memory of its own from base on. -/
def DOwn (base : Nat) (w : World) (v : Value) (L : List (Int × Int)) : Prop := w.ownsRow base 43 2 v L.length (dcl L)

section
variable {base : Nat} {w w' : World} {v : Value} {L : List (Int × Int)}
theorem DOwn.nil (base : Nat) (w : World) : DOwn base w (.slice none 0 0) [] := World.ownsRow_nil _ _ _ _
theorem DOwn.kept {T : Nat → Prop} (h : DOwn base w v L) (k : Kept T w w') (hT : ∀ g, v.ownBlock = some g → ¬ T g) : DOwn base w' v L := by
  have hl := h.lt
  obtain ⟨h1, h2⟩ := h
  refine ⟨h1, h2.imp id ?_⟩
  rintro ⟨g, cap, cur, rfl, hb, hg, r⟩
  exact ⟨g, cap, cur, rfl, hb, (k.block g (hl g rfl).2 (hT g rfl)).trans hg, r⟩
theorem DOwn.below (h : DOwn base w v L) (k : Below w.heap.size w w') : DOwn base w' v L := h.kept (Kept.of_below k (fun _ => False)) (fun _ _ => id)
theorem DOwn.mono {B : Nat} (h : DOwn base w v L) (e : B ≤ base) : DOwn B w v L := by
  obtain ⟨h1, h2⟩ := h
  refine ⟨h1, h2.imp id ?_⟩
  rintro ⟨g, cap, cur, rfl, hb, r⟩
  exact ⟨g, cap, cur, rfl, Nat.le_trans e hb, r⟩
theorem DOwn.form (h : DOwn base w v L) : ∃ a cap, v = .slice a L.length cap ∧ DRow w a L.length (fun i => L.getD i (0, 0)) ∧ (a = none → L.length = 0 ∧ cap = 0) ∧ L.length ≤ maxLen ∧ ∀ x, a = some x → ∀ j u, (dcl L)[j]? = some u → w.cell? (x.add j) = some u := by
  rcases id h.2 with ⟨rfl, e⟩ | ⟨g, cap, cur, rfl, hb, hg, hc, hm, r⟩
  · refine ⟨none, 0, by rw [e], fun h => by omega, fun _ => ⟨e, rfl⟩, by omega, fun x e => by cases e⟩
  · refine ⟨some ⟨g, 0, none⟩, cap, rfl, fun hn => ⟨g, 0, rfl, (h.lt g rfl).2, fun k hk => ?_⟩, fun e => (by cases e), by omega, fun x e => ?_⟩
    · obtain ⟨e1, e2⟩ := dcl_at L k hk
      have h' : w.ownsRow base 43 2 (.slice (some ⟨g, 0, none⟩) L.length cap) L.length (dcl L) := h
      rw [Nat.zero_add, h'.cellAt _ (by omega), h'.cellAt _ (by omega)]
      exact ⟨e1, e2⟩
    · cases e
      exact World.ownsRow.cells h rfl
end
theorem due_new (w : World) (x : Int × Int) : ∀ j u, (dcl [x])[j]? = some u → (w.alloc (.cells #[.int .i64 x.2, .int .i64 x.1] 43)).cell? ((⟨w.heap.size, 0, none⟩ : Addr).add j) = some u :=
  World.news_of_block (cs := #[.int .i64 x.2, .int .i64 x.1]) (t := 43) (fr := (0, 0)) (heap_alloc_new w _)
theorem Try.info43 : (Try.prog.info? 43).map (fun i => (i.zero, i.size, i.bytes)) = some (some (.agg #[.int .i64 0, .int .i64 0]), 2, 16) := by kernel_rfl
end Go.Proofs.Ythamaiibknmeeaa
