/-
  A configuration with one more level, schema, rule, in memory.
-/
import Derived.Test.YtaodckojinbdfaaDoorRdE
import Derived.Deep.RegionLaw
namespace Go.Proofs.YtaodckojinbdfaaDoor
open Go.RowKit

theorem info39 : (Tryd.prog.info? 46).map (fun i => (i.zero, i.size, i.bytes)) = some (some (.agg #[.string ⟨#[]⟩, .int .i64 0, .int .i64 0, .int .i64 0, .int .i64 0, .int .i64 0, .int .i64 0, .int .i64 0, .int .i64 0, .int .i64 0]), 10, 88) := by kernel_rfl
theorem own_form {B e size n : Nat} {w : World} {v : Value} {xs : List Value} (h : w.ownsRow B e size v n xs) : ∃ a c, v = .slice a n c := by
  rcases h.2 with ⟨rfl, rfl⟩ | ⟨g, cap, cur, rfl, _⟩
  · exact ⟨none, 0, rfl⟩
  · exact ⟨_, _, rfl⟩

/-- No block of the type t is in S. -/
def Off (t : Nat) (S : Nat → Prop) (w : World) : Prop := ∀ (b : Nat) (cur : Array Value) (f : Nat × Nat), w.heap[b]? = some (.cells cur t f) → ¬ S b
theorem off_blk {w : World} {R t u : Nat} {cs : Array Value} (h : Blk w R t cs) (e : t ≠ u) : Off u (fun k => k = R) w := fun _ _ _ hb he => h.ne' hb e he.symm
theorem off_own {w : World} {B e size n u : Nat} {v : Value} {xs : List Value} (h : w.ownsRow B e size v n xs) (ne : e ≠ u) : Off u (fun k => v.ownBlock = some k) w := fun b _ _ hb he => by
  obtain ⟨cur, hc⟩ := owns_type h he
  exact hc.ne' hb ne rfl
section
variable {B : Nat} {S : Nat → Prop} {w w' : World} {v : Value}
theorem Blk.off {b t : Nat} {cs : Array Value} (h : Blk w b t cs) (k : Kept S w w') (o : Off t S w) : Blk w' b t cs := h.kept k (o b _ _ h)
theorem owns_off {e size n : Nat} {xs : List Value} (h : w.ownsRow B e size v n xs) (k : Kept S w w') (o : Off e S w) : w'.ownsRow B e size v n xs :=
  owns_kept h k (fun g hg => by obtain ⟨cur, hb⟩ := owns_type h hg; exact o g _ _ hb)
theorem RlOwn.off {rs : List Rl} (h : RlOwn B w v rs) (k : Kept S w w') (o9 : Off 9 S w) (o73 : Off 51 S w) : RlOwn B w' v rs := by
  obtain ⟨cs, ho, hr⟩ := h
  exact ⟨cs, owns_off ho k o73, RlsV.kept k o9 cs rs hr⟩
theorem ScOwn.off {ss : List Sc} {V : List Value} (h : ScOwn B w v ss V) (k : Kept S w w') (o9 : Off 9 S w) (o42 : Off 49 S w) (o73 : Off 51 S w) : ScOwn B w' v ss V :=
  ⟨h.len, owns_off h.own k o42, fun i hi hi' => (h.rls i hi hi').off k o9 o73⟩
theorem LvOwn.off {L : List Lv} (h : LvOwn B w v L) (k : Kept S w w') (o : Off 46 S w) : LvOwn B w' v L := owns_off h k o
theorem Rd.off {R A : Nat} {ws : List ByteArray} {e : Int} (h : Rd B w R A ws e) (k : Kept S w w') (o9 : Off 9 S w) (o48 : Off 58 S w) : Rd B w' R A ws e := by
  obtain ⟨a, c, hb, hr, hc⟩ := h.ex
  exact ⟨h.le, h.sh, a, c, hb.off k o48, hr.kept k o9, hc⟩
end
theorem grown_kept {w w8 : World} {o : Obj} {row : Option Nat} (h : (w.drew.alloc o).grownBy w8 row) : Kept (fun k => row = some k) w w8 :=
  ((Kept.refl (fun k => row = some k) w).drew.alloc o).trans (Kept.of_grown h (fun _ e => e))
theorem kt_set {B A : Nat} {w : World} {cs : Array Value} (h : Blk w A 30 cs) (hB : B ≤ A) (i : Nat) (v : Value) : KT B w (w.setCell ⟨A, i, none⟩ v) :=
  KT.of_kept ((Kept.refl (fun k => k = A) w).setCell ⟨A, i, none⟩ v (.inl rfl)) (Nat.le_trans hB (Nat.le_of_lt h.lt)) (fun j hj => by rw [hj]; exact hB) (off_blk h (by decide))
theorem kt_own {B e size n : Nat} {w w8 : World} {o : Obj} {v : Value} {xs : List Value} (hB : B ≤ w.heap.size) (h : w.ownsRow B e size v n xs) (ne : e ≠ 9) (hg : (w.drew.alloc o).grownBy w8 v.ownBlock) : KT B w w8 :=
  KT.of_kept (grown_kept hg) hB (fun j hj => (h.lt j hj).1) (off_own h ne)

/-- One more level. -/
theorem push_lv {B R A q cap : Nat} {w w7 w8 : World} {C : Cf} {ws : List ByteArray} {l : Lv} {o : Obj} {vL vS : Value} {V : List Value} (H : Rd B w7 R A ws 0) (hB : B ≤ A) (KW : KT B w w7)
    (hA : Blk w7 A 30 #[.int .i64 C.total, .int .i64 C.period, .int .i64 C.perSeat, .int .i64 C.most, vL, vS]) (hL : LvOwn B w7 vL C.levels) (hS : ScOwn B w7 vS C.schemas V) (hD : Dj V)
    (hown : w8.ownsRow B 46 10 (.slice (some ⟨q, 0, none⟩) (C.levels.length + 1) cap) (C.levels.length + 1) (lvCs C.levels ++ lvC l)) (hg : (w7.drew.alloc o).grownBy w8 vL.ownBlock) :
    Told B R A w (w8.setCell ⟨A, 4, none⟩ (.slice (some ⟨q, 0, none⟩) (C.levels.length + 1) cap)) 0 ⟨C.total, C.period, C.perSeat, C.most, C.levels ++ [l], C.schemas⟩ := by
  have k := grown_kept hg
  have H8 := H.off k (off_own hL (by decide)) (off_own hL (by decide))
  have A8 := hA.off k (off_own hL (by decide))
  have S8 := hS.off k (off_own hL (by decide)) (off_own hL (by decide)) (off_own hL (by decide))
  have k9 : Kept (fun k => k = A) w8 (w8.setCell ⟨A, 4, none⟩ (.slice (some ⟨q, 0, none⟩) (C.levels.length + 1) cap)) := (Kept.refl _ w8).setCell ⟨A, 4, none⟩ _ (.inl rfl)
  refine ⟨⟨ws, H8.other A8 (by decide) (by decide) 4 _⟩, fun _ => ⟨hB, .slice (some ⟨q, 0, none⟩) (C.levels.length + 1) cap, vS, V, A8.set 4 _, ?_, S8.off k9 (off_blk A8 (by decide)) (off_blk A8 (by decide)) (off_blk A8 (by decide)), hD⟩, KW.trans ((kt_own (Nat.le_trans hB (Nat.le_of_lt hA.lt)) hL (by decide) hg).trans (kt_set A8 hB 4 _))⟩
  have e : lvCs (C.levels ++ [l]) = lvCs C.levels ++ lvC l := by rw [lvCs_append]; simp [lvCs]
  unfold LvOwn
  dsimp only
  rw [e, List.length_append]
  exact owns_off hown k9 (off_blk A8 (by decide))

/-- One more schema. -/
theorem push_sc {B R A q cap : Nat} {w w7 w8 : World} {C : Cf} {ws : List ByteArray} {s : Sc} {o : Obj} {vL vS : Value} {V : List Value} (H : Rd B w7 R A ws 0) (hB : B ≤ A) (KW : KT B w w7) (hs : s.rules = [])
    (hA : Blk w7 A 30 #[.int .i64 C.total, .int .i64 C.period, .int .i64 C.perSeat, .int .i64 C.most, vL, vS]) (hL : LvOwn B w7 vL C.levels) (hS : ScOwn B w7 vS C.schemas V)
    (hown : w8.ownsRow B 49 5 (.slice (some ⟨q, 0, none⟩) (C.schemas.length + 1) cap) (C.schemas.length + 1) (scCs C.schemas V ++ scC s (.slice none 0 0))) (hg : (w7.drew.alloc o).grownBy w8 vS.ownBlock) :
    Told B R A w (w8.setCell ⟨A, 5, none⟩ (.slice (some ⟨q, 0, none⟩) (C.schemas.length + 1) cap)) 0 ⟨C.total, C.period, C.perSeat, C.most, C.levels, C.schemas ++ [s]⟩ := by
  have k := grown_kept hg
  have H8 := H.off k (off_own hS.own (by decide)) (off_own hS.own (by decide))
  have A8 := hA.off k (off_own hS.own (by decide))
  have L8 := hL.off k (off_own hS.own (by decide))
  have k9 : Kept (fun k => k = A) w8 (w8.setCell ⟨A, 5, none⟩ (.slice (some ⟨q, 0, none⟩) (C.schemas.length + 1) cap)) := (Kept.refl _ w8).setCell ⟨A, 5, none⟩ _ (.inl rfl)
  refine ⟨⟨ws, H8.other A8 (by decide) (by decide) 5 _⟩, fun _ => ⟨hB, vL, .slice (some ⟨q, 0, none⟩) (C.schemas.length + 1) cap, V ++ [.slice none 0 0], A8.set 5 _, L8.off k9 (off_blk A8 (by decide)), ⟨?_, ?_, ?_⟩, ?_⟩, KW.trans ((kt_own (Nat.le_trans hB (Nat.le_of_lt hA.lt)) hS.own (by decide) hg).trans (kt_set A8 hB 5 _))⟩
  · simp [hS.len]
  · dsimp only
    rw [scCs_append _ _ _ _ hS.len, List.length_append]
    exact owns_off hown k9 (off_blk A8 (by decide))
  · intro i hi hi'
    by_cases c : i < C.schemas.length
    · have cV : i < V.length := by rw [hS.len]; exact c
      dsimp only
      rw [List.getElem_append_left c, List.getElem_append_left cV]
      exact ((hS.rls i c cV).off k (off_own hS.own (by decide)) (off_own hS.own (by decide))).off k9 (off_blk A8 (by decide)) (off_blk A8 (by decide))
    · obtain rfl : i = C.schemas.length := by simp at hi; omega
      have e1 : (C.schemas ++ [s])[C.schemas.length] = s := by simp
      have e2 : (V ++ [(.slice none 0 0 : Value)])[C.schemas.length]'hi' = .slice none 0 0 := by
        rw [List.getElem_append_right (by rw [hS.len]; exact Nat.le_refl _)]
        simp
      dsimp only
      rw [e1, e2, hs]
      exact ⟨[], World.ownsRow_nil _ _ _ _, rfl⟩
  · intro v hv
    rw [List.getLast?_append] at hv
    simp at hv
    subst hv
    exact .inl rfl

end Go.Proofs.YtaodckojinbdfaaDoor
