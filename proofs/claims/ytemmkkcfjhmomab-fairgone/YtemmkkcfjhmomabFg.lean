/-
  Lanes that are shaped anew, by the program. Conditions: the lanes lie in memory, and are few.
-/
import Derived.Test.YtemmkkcfjhmomabFn
import Derived.Test.YtemmkkcfjhmomabFr
import Derived.Test.YtemmkkcfjhmomabFt
namespace Go.Proofs.Ytemmkkcfjhmomab
open Go.RowKit

/-- As many lanes as it takes. -/
def shF (F : List Ln) (m : Nat) : List Ln := F ++ List.replicate (m - F.length) lnZ
theorem shF_same {F : List Ln} {m : Nat} (h : m ≤ F.length) : shF F m = F := by
  unfold shF; rw [Nat.sub_eq_zero_of_le h]; simp
theorem shF_len (F : List Ln) (m : Nat) : (shF F m).length = max F.length m := by
  unfold shF; rw [List.length_append, List.length_replicate]; omega
theorem Few.sh {F : List Ln} (h : Few F) {m : Nat} (hm : m ≤ 64) : Few (shF F m) :=
  ⟨by rw [shF_len]; have := h.len; omega, fun l hl => by
    rcases List.mem_append.1 hl with c | c
    · exact h.each l c
    · rw [(List.mem_replicate.1 c).2]; exact ⟨⟨by decide, by decide⟩, by decide⟩⟩
/-- The last ones of a row of the call's own. -/
theorem OwL.drop {w : World} {B m c : Nat} {q : Option Addr} {F : List Ln} (h : OwL w B (.slice q m c) F) (hm : m = F.length) {n : Nat} (hn : n < m) :
    ∃ b : Nat, q = some ⟨b, 0, none⟩ ∧ m ≤ c ∧ ∃ M : List Lz, M.map Prod.fst = F.drop n ∧ M.length = m - n ∧ RowR w (some ⟨b, n * 2, none⟩) (zCs M) ∧ ∀ z ∈ M, OwnT w B z.2 z.1.L := by
  obtain ⟨Z, hZ, ho, hz⟩ := h
  have hl : Z.length = F.length := by rw [← hZ, List.length_map]
  rcases id ho.2 with ⟨e, e0⟩ | ⟨g, cap, cur, e, hb, hg, hc, r⟩
  · omega
  · obtain ⟨rfl, -, rfl⟩ : q = some ⟨g, 0, none⟩ ∧ True ∧ c = cap := by injection e with x1 x2 x3; exact ⟨x1, trivial, x3⟩
    refine ⟨g, rfl, by omega, Z.drop n, by rw [List.map_drop, hZ], by rw [List.length_drop]; omega, fun _ => ⟨g, n * 2, rfl, (ho.lt g (by rw [e]; rfl)).2, fun j u hj => ?_⟩, fun z hzm => hz z (List.mem_of_mem_drop hzm)⟩
    subst hm
    have hcells := ho.cells rfl (n * 2 + j) u (by
      have e1 : zCs Z = zCs (Z.take n) ++ zCs (Z.drop n) := by rw [← zCs_append, List.take_append_drop]
      rw [e1, List.getElem?_append_right (by rw [zCs_len, List.length_take]; omega), zCs_len, List.length_take, Nat.min_eq_left (by omega), Nat.add_sub_cancel_left]
      exact hj)
    rw [Go.WideShapes.add_plain, Nat.zero_add] at hcells
    exact hcells

theorem OwL.off {w : World} {B b : Nat} {v : Value} {F : List Ln} {x : Array Value} (h : OwL w B v F) (hb : Blk w b 25 x) : ¬ v.ownBlock = some b := fun e => by
  obtain ⟨Z, -, ho, -⟩ := h
  rcases ho.2 with ⟨rfl, -⟩ | ⟨g, cap, cur, rfl, -, hg, -⟩
  · cases e
  · injection e with e
    have e : g = b := e
    subst e
    exact hb.ne' hg (by decide) rfl

end Go.Proofs.Ytemmkkcfjhmomab
