/-
  Rows of levels and schemas that are written over, empty ones too; two neighbours exchanged. No condition.
-/
import Derived.Test.YthkdbphgiobcdaaGreatDoorB41
namespace Go.Proofs.YthkdbphgiobcdaaGreatDoor
open Go.RowKit

/-- A row of n elements of z cells in memory from B on, of which the first i are laid; nothing is said of an empty one. -/
def RowO (B : Nat) (w : World) (a : Option Addr) (t z n i : Nat) (F : Nat → List Value) : Prop := 0 < n → ∃ g, a = some ⟨g, 0, none⟩ ∧ B ≤ g ∧ Wr w g t z n i F
theorem RowO.kept {B : Nat} {w w' : World} {a : Option Addr} {t z n i : Nat} {F : Nat → List Value} {S : Nat → Prop} (h : RowO B w a t z n i F) (k : Kept S w w') (o : Off t S w) : RowO B w' a t z n i F := fun hn => by
  obtain ⟨g, e, hB, hW⟩ := h hn
  obtain ⟨cur, hb, h1, h2⟩ := hW
  exact ⟨g, e, hB, cur, hb.kept k (o g cur hb), h1, h2⟩
theorem owns_rowO {B t z n : Nat} {w : World} {v : Value} {xs : List Value} (h : w.ownsRow B t z v n xs) : ∃ a c, v = .slice a n c ∧ n ≤ c ∧ ∀ F, RowO B w a t z n 0 F := by
  obtain ⟨a, c, e, hc, hr⟩ := owns_read h
  refine ⟨a, c, e, hc, fun F hn => ?_⟩
  obtain ⟨g, cur, ea, hB, hb, hs, -⟩ := hr hn
  exact ⟨g, ea, hB, cur, hb, by rw [hs]; exact Nat.mul_le_mul_right _ hc, fun k hk => absurd hk (Nat.not_lt_zero _)⟩
theorem Wr.off {w : World} {g t t' z n i : Nat} {F : Nat → List Value} (h : Wr w g t z n i F) (e : t ≠ t') : Off t' (fun k => k = g) w := by
  obtain ⟨cur, hb, -, -⟩ := h
  exact off_blk hb e

/-- What stays while the copy's rows are written over. -/
structure InvO (w w2 wr : World) (gd : Nat) (d6 : Array Value) (aL aS : Option Addr) (p k r i : Nat) (FL FS : Nat → List Value) : Prop where
  b : Below w.heap.size w wr
  c : Below w2.heap.size w2 wr
  nd : Blk wr gd 25 d6
  l : RowO w2.heap.size wr aL 43 10 p k FL
  s : RowO w2.heap.size wr aS 47 5 r i FS
section
variable {w w2 wr W : World} {gd : Nat} {d6 : Array Value} {aL aS : Option Addr} {p k k' r i i' : Nat} {FL FL' FS : Nat → List Value}
theorem InvO.drew (h : InvO w w2 wr gd d6 aL aS p k r i FL FS) (n : Nat) : InvO w w2 (wr.drewN n) gd d6 aL aS p k r i FL FS :=
  ⟨h.b.trans ⟨rfl, rfl, rfl, Nat.le_refl _, fun _ _ => rfl⟩, h.c.trans ⟨rfl, rfl, rfl, Nat.le_refl _, fun _ _ => rfl⟩, h.nd, h.l, h.s⟩
theorem InvO.nextL (h : InvO w w2 wr gd d6 aL aS p k r i FL FS) (hw : w.heap.size ≤ w2.heap.size) {gL : Nat} (ha : aL = some ⟨gL, 0, none⟩) (hB : w2.heap.size ≤ gL) (hW : Wr wr gL 43 10 p k FL) (kp : Kept (fun b => b = gL) wr W) (wl : Wr W gL 43 10 p k' FL') : InvO w w2 W gd d6 aL aS p k' r i FL' FS :=
  ⟨h.b.trans (kp.below h.b.size (fun j hj => by rw [hj]; omega)), h.c.trans (kp.below h.c.size (fun j hj => by rw [hj]; exact hB)), h.nd.kept kp (hW.off (by decide) gd d6 h.nd), fun _ => ⟨gL, ha, hB, wl⟩, h.s.kept kp (hW.off (by decide))⟩
theorem InvO.nextS {FS' : Nat → List Value} (h : InvO w w2 wr gd d6 aL aS p k r i FL FS) (hw : w.heap.size ≤ w2.heap.size) {gS : Nat} (ha : aS = some ⟨gS, 0, none⟩) (hB : w2.heap.size ≤ gS) (hW : Wr wr gS 47 5 r i FS) (kp : Kept (fun b => b = gS) wr W) (wl : Wr W gS 47 5 r i' FS') : InvO w w2 W gd d6 aL aS p k r i' FL FS' :=
  ⟨h.b.trans (kp.below h.b.size (fun j hj => by rw [hj]; omega)), h.c.trans (kp.below h.c.size (fun j hj => by rw [hj]; exact hB)), h.nd.kept kp (hW.off (by decide) gd d6 h.nd), h.l.kept kp (hW.off (by decide)), fun _ => ⟨gS, ha, hB, wl⟩⟩
end
theorem RowO.lvr {B : Nat} {w : World} {a : Option Addr} {n : Nat} {L : List Lv} (h : RowO B w a 43 10 n n (lvF L)) (hn : n = L.length) : LvR w a L := fun hp => by
  obtain ⟨g, rfl, -, hW⟩ := h (by omega)
  exact hW.lvr hn hp
theorem RowO.scr {B : Nat} {w : World} {a : Option Addr} {n : Nat} {S : List Sc} {V : List Value} (h : RowO B w a 47 5 n n (scF S V)) (hn : n = S.length) : ScR w a S V := fun hp => by
  obtain ⟨g, rfl, -, hW⟩ := h (by omega)
  exact hW.scr hn hp

/-- One element is written over. -/
theorem Wr.at10 {w : World} {g t n i : Nat} {F F' : Nat → List Value} (h : Wr w g t 10 n n F) (hi : i < n) (v0 v1 v2 v3 v4 v5 v6 v7 v8 v9 : Value) (hF : F' i = [v0, v1, v2, v3, v4, v5, v6, v7, v8, v9]) (hF' : ∀ k, k ≠ i → F' k = F k) :
    Wr ((((((((((w.setCell ⟨g, i * 10, none⟩ v0).setCell ⟨g, i * 10 + 1, none⟩ v1).setCell ⟨g, i * 10 + 2, none⟩ v2).setCell ⟨g, i * 10 + 3, none⟩ v3).setCell ⟨g, i * 10 + 4, none⟩ v4).setCell ⟨g, i * 10 + 5, none⟩ v5).setCell ⟨g, i * 10 + 6, none⟩ v6).setCell ⟨g, i * 10 + 7, none⟩ v7).setCell ⟨g, i * 10 + 8, none⟩ v8).setCell ⟨g, i * 10 + 9, none⟩ v9) g t 10 n n F'
    ∧ Kept (fun k => k = g) w ((((((((((w.setCell ⟨g, i * 10, none⟩ v0).setCell ⟨g, i * 10 + 1, none⟩ v1).setCell ⟨g, i * 10 + 2, none⟩ v2).setCell ⟨g, i * 10 + 3, none⟩ v3).setCell ⟨g, i * 10 + 4, none⟩ v4).setCell ⟨g, i * 10 + 5, none⟩ v5).setCell ⟨g, i * 10 + 6, none⟩ v6).setCell ⟨g, i * 10 + 7, none⟩ v7).setCell ⟨g, i * 10 + 8, none⟩ v8).setCell ⟨g, i * 10 + 9, none⟩ v9) := by
  obtain ⟨cur, hb, hs, hc⟩ := h
  refine ⟨⟨_, (((((((((hb.set (i * 10) v0).set (i * 10 + 1) v1).set (i * 10 + 2) v2).set (i * 10 + 3) v3).set (i * 10 + 4) v4).set (i * 10 + 5) v5).set (i * 10 + 6) v6).set (i * 10 + 7) v7).set (i * 10 + 8) v8).set (i * 10 + 9) v9, by simpa using hs, fun k hk j hj => ?_⟩,
    ((((((((((Kept.refl (fun k => k = g) w).setCell _ _ (.inl rfl)).setCell _ _ (.inl rfl)).setCell _ _ (.inl rfl)).setCell _ _ (.inl rfl)).setCell _ _ (.inl rfl)).setCell _ _ (.inl rfl)).setCell _ _ (.inl rfl)).setCell _ _ (.inl rfl)).setCell _ _ (.inl rfl)).setCell _ _ (.inl rfl)⟩
  have hlt : i * 10 + 9 < cur.size := by omega
  by_cases h' : k = i
  · subst h'
    rw [hF]
    repeat rw [set_get (by first | omega | (simp only [Array.size_setIfInBounds]; omega))]
    match j, hj with
    | 0, _ => simp
    | 1, _ => simp
    | 2, _ => simp
    | 3, _ => simp
    | 4, _ => simp
    | 5, _ => simp
    | 6, _ => simp
    | 7, _ => simp
    | 8, _ => simp
    | 9, _ => simp
  · rw [hF' k h', ← hc k hk j hj]
    repeat rw [set_get (by first | omega | (simp only [Array.size_setIfInBounds]; omega))]
    repeat rw [if_neg (by omega)]

/-- The k-th and the next one exchanged. -/
def sw2 {α : Type} : List α → Nat → List α
  | a :: b :: r, 0 => b :: a :: r
  | a :: r, k + 1 => a :: sw2 r k
  | l, _ => l
theorem sw2_perm {α : Type} : ∀ (L : List α) (k : Nat), (sw2 L k).Perm L
  | [], 0 => List.Perm.refl _
  | [], _ + 1 => List.Perm.refl _
  | [_], 0 => List.Perm.refl _
  | a :: b :: r, 0 => List.Perm.swap a b r
  | a :: r, k + 1 => by
    have := sw2_perm r k
    cases r with
    | nil => exact this.cons a
    | cons b r => exact this.cons a
theorem sw2_at {α : Type} : ∀ (L : List α) (k j : Nat), k + 1 < L.length → (sw2 L k)[j]? = if j = k then L[k + 1]? else if j = k + 1 then L[k]? else L[j]?
  | a :: b :: r, 0, j, _ => by
    match j with
    | 0 => simp [sw2]
    | 1 => simp [sw2]
    | j + 2 => simp [sw2]
  | a :: r, k + 1, j, h => by
    have e : sw2 (a :: r) (k + 1) = a :: sw2 r k := by cases r <;> rfl
    rw [e]
    match j with
    | 0 => simp
    | j + 1 =>
      have := sw2_at r k j (by simpa using h)
      simp only [List.getElem?_cons_succ, Nat.add_right_cancel_iff]
      exact this
end Go.Proofs.YthkdbphgiobcdaaGreatDoor
