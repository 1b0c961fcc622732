/-
  Lanes that are made, and copied. Conditions: the lanes lie in memory, and are few.
-/
import Derived.Test.YtemmkkcfjhmomabFm
namespace Go.Proofs.Ytemmkkcfjhmomab
open Go.RowKit

theorem Try.info38 : (Try.prog.info? 38).map (fun i => (i.zero, i.size, i.bytes)) = some (some (.agg #[.int .u64 0, .slice none 0 0]), 2, 32) := by kernel_rfl
abbrev lzZ : Lz := (lnZ, .slice none 0 0)
theorem made2 (n : Nat) : (madeCells (Value.cells (.agg #[.int .u64 0, .slice none 0 0])) (n * 2)).toList = zCs (List.replicate n lzZ) := by
  apply List.ext_getElem?
  intro i
  have hz : Value.cells (.agg #[.int .u64 0, .slice none 0 0]) = #[.int .u64 0, .slice none 0 0] := by rfl
  rw [hz]
  rcases Nat.lt_or_ge i (n * 2) with h | h
  · have e1 : i / 2 * 2 + i % 2 = i := by omega
    have h2 : i / 2 < n := by omega
    have := zCs_at (List.replicate n lzZ) (i / 2) lzZ (by rw [List.getElem?_replicate, if_pos h2]) (i % 2) (by omega)
    rw [e1] at this
    rw [this]
    have h3 : i % 2 = 0 ∨ i % 2 = 1 := by omega
    rcases h3 with e | e <;> simp [madeCells, h, e, zC, lnZ]
  · rw [List.getElem?_eq_none (by simp [madeCells]; omega), List.getElem?_eq_none (by rw [zCs_len, List.length_replicate]; exact h)]
/-- Lanes that are new. -/
def nwF (n : Nat) : List Ln := List.replicate n lnZ
theorem nwF_len (n : Nat) : (nwF n).length = n := List.length_replicate
theorem OwL.made {w : World} {base n g : Nat} (h : w.ownsRow base 38 2 (.slice (some ⟨g, 0, none⟩) n n) n (madeCells (Value.cells (.agg #[.int .u64 0, .slice none 0 0])) (n * 2)).toList) : OwL w base (.slice (some ⟨g, 0, none⟩) n n) (nwF n) := by
  rw [made2] at h
  refine ⟨List.replicate n lzZ, by simp [nwF], by rw [nwF_len]; exact h, fun z hz => ?_⟩
  rw [(List.mem_replicate.1 hz).2]
  exact World.ownsRow_nil _ _ _ _
/-- While lanes are copied: the first k are there. -/
def CpI (w0 W : World) (g n k : Nat) (F : List Ln) : Prop := ∃ Z : List Lz, Z.map Prod.fst = F.take k ∧ (∀ z ∈ Z, OwnT W (g + 1) z.2 z.1.L) ∧ Blk W g 38 (zCs (Z ++ List.replicate (n - k) lzZ)).toArray ∧ Kept (fun j => j = g) w0 W
theorem Blk.of_row {w : World} {base n g : Nat} {cs : List Value} (h : w.ownsRow base 38 2 (.slice (some ⟨g, 0, none⟩) n n) n cs) : Blk w g 38 cs.toArray := by
  rcases h.2 with ⟨e, -⟩ | ⟨g', cap, cur, e, hb, hg, hc, hm, hs, ht⟩
  · cases e
  · obtain ⟨rfl, rfl⟩ : g = g' ∧ n = cap := by injection e with x1 x2 x3; injection x1 with x1; injection x1 with x1; exact ⟨x1, x3⟩
    unfold Blk
    rw [hg, ← ht, List.take_of_length_le (by simp; omega)]
theorem CpI.start {w : World} {base n g : Nat} {F : List Ln} (h : w.ownsRow base 38 2 (.slice (some ⟨g, 0, none⟩) n n) n (madeCells (Value.cells (.agg #[.int .u64 0, .slice none 0 0])) (n * 2)).toList) : CpI w w g n 0 F := by
  rw [made2] at h
  exact ⟨[], by simp, (fun _ h => by cases h), (by have := Blk.of_row h; simpa using this), Kept.refl _ _⟩
theorem CpI.next {w0 W W' : World} {g n k : Nat} {F : List Ln} (h : CpI w0 W g n k F) (hk : k < n) (hn : n = F.length) (b : Below W.heap.size W W') {v : Value} (o : OwnT W' (g + 1) v (gl F k).L) :
    (W'.cell? ⟨g, k * 2, none⟩ = some (.int .u64 0) ∧ W'.cell? ⟨g, k * 2 + 1, none⟩ = some (.slice none 0 0) ∧ W'.frozen? ⟨g, k * 2, none⟩ = false ∧ W'.frozen? ⟨g, k * 2 + 1, none⟩ = false ∧ g < W'.heap.size) ∧ CpI w0 ((W'.setCell ⟨g, k * 2, none⟩ (.int .u64 (gl F k).s)).setCell ⟨g, k * 2 + 1, none⟩ v) g n (k + 1) F := by
  obtain ⟨Z, hZ, hz, hb, hk0⟩ := h
  have hl : Z.length = k := by rw [← List.length_map (f := Prod.fst), hZ, List.length_take]; omega
  have hb' : Blk W' g 38 (zCs (Z ++ List.replicate (n - k) lzZ)).toArray := hb.kept (Kept.of_below b (fun _ => False)) id
  have hr : List.replicate (n - k) lzZ = lzZ :: List.replicate (n - (k + 1)) lzZ := by rw [show n - k = n - (k + 1) + 1 from by omega, List.replicate_succ]
  have hat : (Z ++ List.replicate (n - k) lzZ)[k]? = some lzZ := by rw [hr, List.getElem?_append_right (by omega), hl]; simp
  have hc : ∀ j, j < 2 → W'.cell? ⟨g, k * 2 + j, none⟩ = (zC lzZ)[j]? := fun j hj => by rw [hb'.cell, List.getElem?_toArray]; exact zCs_at _ k _ hat j hj
  have K2 : Kept (fun j => j = g) W' ((W'.setCell ⟨g, k * 2, none⟩ (.int .u64 (gl F k).s)).setCell ⟨g, k * 2 + 1, none⟩ v) := ((Kept.refl (fun j => j = g) W').setCell _ _ (.inl rfl)).setCell _ _ (.inl rfl)
  refine ⟨⟨hc 0 (by decide), hc 1 (by decide), hb'.frozen _, hb'.frozen _, hb'.lt⟩, Z ++ [(gl F k, v)], ?_, ?_, ?_, (hk0.trans (Kept.of_below b _)).trans K2⟩
  · rw [List.map_append, hZ, List.take_add_one, gl_get (by omega)]
    rfl
  · intro z hzm
    rcases List.mem_append.1 hzm with c | c
    · exact ((hz z c).kept (Kept.of_below b (fun _ => False)) (fun _ _ h => h)).kept K2 (fun j hj e => by omega)
    · rw [List.mem_singleton.1 c]
      exact o.kept K2 (fun j hj e => by omega)
  · have := (hb'.set (k * 2) (.int .u64 (gl F k).s)).set (k * 2 + 1) v
    rw [List.setIfInBounds_toArray, List.setIfInBounds_toArray, zCs_set _ k _ v (gl F k) rfl (by simp; omega)] at this
    rw [hr, List.set_append_right _ _ (by omega), hl, Nat.sub_self, List.set_cons_zero] at this
    rw [List.append_assoc]
    exact this
theorem CpI.fin {w0 W : World} {g n : Nat} {F : List Ln} (h : CpI w0 W g n n F) (hn : n = F.length) (hm : n ≤ maxLen) {B : Nat} (hB : B ≤ g) : OwL W B (.slice (some ⟨g, 0, none⟩) n n) F := by
  obtain ⟨Z, hZ, hz, hb, -⟩ := h
  rw [Nat.sub_self, List.replicate_zero, List.append_nil] at hb
  rw [hn, List.take_of_length_le (Nat.le_refl _)] at hZ
  have hl : Z.length = n := by rw [← List.length_map (f := Prod.fst), hZ, hn]
  refine ⟨Z, hZ, ⟨by rw [zCs_len, hl, hn], .inr ⟨g, n, _, by rw [← hn], hB, hb, by omega, hm, by simp [zCs_len, hl], ?_⟩⟩, fun z h => (hz z h).low (by omega)⟩
  rw [List.take_of_length_le (by simp [zCs_len]; omega)]
end Go.Proofs.Ytemmkkcfjhmomab
