/-
  Lanes that are read whatever becomes of some blocks. No condition.
-/
import Derived.Test.YtemmkkcfjhmomabFa
namespace Go.Proofs.Ytemmkkcfjhmomab
open Go.RowKit

theorem LsR.of_own {w : World} {B n : Nat} {v : Value} {Z : List Lz} (h : w.ownsRow B 38 2 v n (zCs Z)) (hz : ∀ z ∈ Z, LzR w z) (hn : Z.length = n) : ∃ a c, v = .slice a n c ∧ LsR w a c (Z.map Prod.fst) := by
  rcases id h.2 with ⟨rfl, e⟩ | ⟨g, cap, cur, rfl, hb, hg, hc, r⟩
  · subst e
    have : Z = [] := List.eq_nil_of_length_eq_zero hn
    subst this
    exact ⟨_, 0, rfl, LsR.nil w⟩
  · refine ⟨some ⟨g, 0, none⟩, cap, rfl, by rw [List.length_map, hn]; exact hc, (fun e => by cases e), Z, rfl, fun _ => ⟨g, 0, rfl, (h.lt g rfl).2, fun j u hj => ?_⟩, hz⟩
    have := h.cells rfl j u hj
    rw [Go.WideShapes.add_plain] at this
    exact this

/-- Lanes that are read, whatever becomes of the blocks of S. -/
def StR (S : Nat → Prop) (w : World) (a : Option Addr) (c : Nat) (F : List Ln) : Prop := F.length ≤ c ∧ (a = none → c = 0) ∧ ∃ Z : List Lz, Z.map Prod.fst = F ∧ ∀ W, Kept S w W → RowR W a (zCs Z) ∧ ∀ z ∈ Z, LzR W z
theorem StR.read {S : Nat → Prop} {w W : World} {a : Option Addr} {c : Nat} {F : List Ln} (h : StR S w a c F) (k : Kept S w W) : LsR W a c F := by
  obtain ⟨h1, h2, Z, h3, h4⟩ := h
  exact ⟨h1, h2, Z, h3, (h4 W k).1, (h4 W k).2⟩
theorem StR.next {S : Nat → Prop} {w W : World} {a : Option Addr} {c : Nat} {F : List Ln} (h : StR S w a c F) (k : Kept S w W) : StR S W a c F := by
  obtain ⟨h1, h2, Z, h3, h4⟩ := h
  exact ⟨h1, h2, Z, h3, fun W' k' => h4 W' (k.trans k')⟩
theorem LsR.st {S : Nat → Prop} {w w2 : World} {a : Option Addr} {c : Nat} {F : List Ln} (h : LsR w a c F) (b : Below w.heap.size w w2) (hS : ∀ j, S j → w.heap.size ≤ j) : StR S w2 a c F := by
  obtain ⟨h1, h2, Z, h3, h4, h5⟩ := h
  exact ⟨h1, h2, Z, h3, fun W k => ⟨h4.carry (b.trans (k.below b.size hS)), fun z hz => (h5 z hz).carry (b.trans (k.below b.size hS))⟩⟩
/-- The first ones, in a row of the call's own. -/
theorem StR.row {S : Nat → Prop} {w : World} {a : Option Addr} {c k : Nat} {F : List Ln} (h : StR S w a c F) (hk : k ≤ F.length) : ∃ M : List Lz, M.map Prod.fst = F.take k ∧ M.length = k ∧ RowR w a (zCs M) ∧ (∀ z ∈ M, LzR w z) ∧ ∀ (W : World) (B : Nat) (v : Value), W.ownsRow B 38 2 v (0 + k) (zCs ([] ++ M)) → Kept S w W → (∀ j, B ≤ j → ¬ S j) → ∃ a' c', v = .slice a' k c' ∧ StR S W a' c' (F.take k) := by
  obtain ⟨h1, h2, Z, h3, h4⟩ := h
  have hl : Z.length = F.length := by rw [← h3, List.length_map]
  have hm : (Z.take k).map Prod.fst = F.take k := by rw [List.map_take, h3]
  have hml : (Z.take k).length = k := by rw [List.length_take]; omega
  obtain ⟨r0, z0⟩ := h4 w (Kept.refl _ _)
  refine ⟨Z.take k, hm, hml, ?_, fun z hz => z0 z (List.mem_of_mem_take hz), fun W B v ho K hB => ?_⟩
  · intro hn
    rw [← zCs_take] at hn ⊢
    obtain ⟨b, off, e, hb, hc⟩ := r0 (by intro e; rw [e] at hn; simp at hn)
    refine ⟨b, off, e, hb, fun j u hj => hc j u ?_⟩
    rw [List.getElem?_take] at hj
    split at hj
    · exact hj
    · cases hj
  · rw [List.nil_append, Nat.zero_add] at ho
    obtain ⟨a', c', e, r⟩ := LsR.of_own ho (fun z hz => (h4 W K).2 z (List.mem_of_mem_take hz)) hml
    refine ⟨a', c', e, ?_, ?_, Z.take k, hm, fun W' K' => ?_⟩
    · rw [← hm]; exact r.1
    · exact r.2.1
    · have ho' := ownsRow_kept ho K' (fun j ej => hB j (ho.lt j ej).1)
      have hz' : ∀ z ∈ Z.take k, LzR W' z := fun z hz => (h4 W' (K.trans K')).2 z (List.mem_of_mem_take hz)
      refine ⟨fun hn => ?_, hz'⟩
      rcases id ho'.2 with ⟨e2, e3⟩ | ⟨q, cap, cur, e2, hb, hg, hc, -⟩
      · rw [e3] at hn; simp [zCs] at hn
      · rw [e] at e2
        injection e2 with e2 e4 e5
        subst e2
        subst e
        refine ⟨q, 0, rfl, (ho'.lt q rfl).2, fun j u hj => ?_⟩
        have := ho'.cells rfl j u hj
        rw [Go.WideShapes.add_plain] at this
        exact this

theorem StR.take {S : Nat → Prop} {w : World} {a : Option Addr} {c : Nat} {F : List Ln} (h : StR S w a c F) (k : Nat) : StR S w a c (F.take k) := by
  obtain ⟨h1, h2, Z, h3, h4⟩ := h
  refine ⟨Nat.le_trans (by rw [List.length_take]; omega) h1, h2, Z.take k, by rw [List.map_take, h3], fun W K => ⟨fun hn => ?_, fun z hz => (h4 W K).2 z (List.mem_of_mem_take hz)⟩⟩
  rw [← zCs_take] at hn ⊢
  obtain ⟨b, off, e, hb, hc⟩ := (h4 W K).1 (by intro e; rw [e] at hn; simp at hn)
  refine ⟨b, off, e, hb, fun j u hj => hc j u ?_⟩
  rw [List.getElem?_take] at hj
  split at hj
  · exact hj
  · cases hj
theorem StR.low {S T : Nat → Prop} {w : World} {a : Option Addr} {c : Nat} {F : List Ln} (h : StR S w a c F) (e : ∀ j, j < w.heap.size → T j → S j) : StR T w a c F := by
  obtain ⟨h1, h2, Z, h3, h4⟩ := h
  exact ⟨h1, h2, Z, h3, fun W k => h4 W (k.mono e)⟩
/-- More blocks may turn: those that are new. -/
theorem StR.high {S T : Nat → Prop} {w w2 : World} {a : Option Addr} {c : Nat} {F : List Ln} (h : StR S w a c F) (b : Below w.heap.size w w2) (e : ∀ j, j < w.heap.size → T j → S j) : StR T w2 a c F := by
  obtain ⟨h1, h2, Z, h3, h4⟩ := h
  exact ⟨h1, h2, Z, h3, fun W k => h4 W ((Kept.of_below b S).then k e)⟩
/-- Of the call's own. -/
theorem OwL.st {S : Nat → Prop} {w : World} {B : Nat} {v : Value} {F : List Ln} (h : OwL w B v F) (hS : ∀ j, B ≤ j → ¬ S j) : ∃ a c, v = .slice a F.length c ∧ StR S w a c F := by
  obtain ⟨Z, hZ, ho, hz⟩ := h
  rcases id ho.2 with ⟨rfl, e⟩ | ⟨g, cap, cur, rfl, hb, hg, hc, r⟩
  · have : F = [] := List.eq_nil_of_length_eq_zero e
    subst this
    exact ⟨_, 0, rfl, Nat.le_refl _, fun _ => rfl, [], rfl, fun W _ => ⟨fun h => absurd rfl h, fun _ h => by cases h⟩⟩
  · refine ⟨some ⟨g, 0, none⟩, cap, rfl, hc, (fun e => by cases e), Z, hZ, fun W k => ⟨fun _ => ?_, fun z h => ((hz z h).kept k hS).lz⟩⟩
    have ho' := ownsRow_kept ho k (fun j ej => hS j (ho.lt j ej).1)
    refine ⟨g, 0, rfl, (ho'.lt g rfl).2, fun j u hj => ?_⟩
    have := ho'.cells rfl j u hj
    rw [Go.WideShapes.add_plain] at this
    exact this
/-- A fair as it is answered, whatever becomes of the blocks of S. -/
def FaS (S : Nat → Prop) (w : World) (r g n o : Int) (F : List Ln) (v : Value) : Prop := ∃ a c, v = .agg #[.int .u64 r, .int .i64 g, .int .i64 n, .int .i64 o, .slice a F.length c] ∧ StR S w a c F
theorem FaS.read {S : Nat → Prop} {w W : World} {r g n o : Int} {F : List Ln} {v : Value} (h : FaS S w r g n o F v) (k : Kept S w W) : FaV W r g n o F v := by
  obtain ⟨a, c, e, s⟩ := h
  exact ⟨a, c, e, s.read k⟩
theorem FaO.st {S : Nat → Prop} {w : World} {B : Nat} {r g n o : Int} {F : List Ln} {v : Value} (h : FaO w B r g n o F v) (hS : ∀ j, B ≤ j → ¬ S j) : FaS S w r g n o F v := by
  obtain ⟨u, rfl, k⟩ := h
  obtain ⟨a, c, rfl, k'⟩ := k.st hS
  exact ⟨a, c, rfl, k'⟩
end Go.Proofs.Ytemmkkcfjhmomab
