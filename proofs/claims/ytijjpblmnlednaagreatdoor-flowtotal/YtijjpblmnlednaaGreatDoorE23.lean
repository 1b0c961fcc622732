/-
  'filledLevels' of fill: the levels in memory of their own, and those that lack.
-/
import Derived.Test.YtijjpblmnlednaaGreatDoorE22
namespace Go.Proofs.YtijjpblmnlednaaGreatDoor
open Go.RowKit
/-- Levels that were filled. -/
structure FLv (w : World) (L : List Lv) (e : Ending) (w' : World) : Prop where
  ex : ∃ v', e = .returned v' ∧ LvW w.heap.size w' v' L
  bel : Below w.heap.size w w'
theorem lvC_one (l : Lv) : ∀ u ∈ lvC l, u.oneCell' = true := fun u hu => lvCs_one [l] u (by simpa [lvCs] using hu)
theorem putX_yes {α : Type} (L : List α) (x : α) : putX true L x = L := rfl
theorem putX_no {α : Type} (L : List α) (x : α) : putX false L x = L ++ [x] := rfl
set_option maxRecDepth 20000 in
set_option maxHeartbeats 4000000 in
theorem fillLv_ok (a : Option Addr) (c : Nat) (L : List Lv) (w : World) (hr : LvR w a L) (h8 : L.length ≤ 900) : Calls Tryz.prog 26 #[.slice a L.length c] w fun e w' => FLv w (fillL L) e w' := by
  obtain ⟨i0, hi, hz0, hz1, hz2⟩ := info_parts info37c
  have CP := cpLv_ok a L.length c (lvCs L) w (by rw [lvCs_len]) (fun hn => hr.news hn) (lvCs_one L) (by omega)
  have HR : Hd (LvR w a L) := ⟨hr⟩
  have HL : Hd (L.length ≤ 900) := ⟨h8⟩
  have QE : Hd (∀ W, Below w.heap.size w W → Calls Tryz.prog 53 #[.slice a L.length c, .string ⟨#[101, 120, 101, 109, 112, 116]⟩] W fun e w' => e = .returned (.bool (anyL L tExempt)) ∧ Below W.heap.size W w') := ⟨fun W b => hasLv_ok a c L tExempt W (HR.out.carry b) (by have := HL.out; omega)⟩
  have QC : Hd (∀ W, Below w.heap.size w W → Calls Tryz.prog 53 #[.slice a L.length c, .string ⟨#[99, 97, 116, 99, 104, 45, 97, 108, 108]⟩] W fun e w' => e = .returned (.bool (anyL L tCatch)) ∧ Below W.heap.size W w') := ⟨fun W b => hasLv_ok a c L tCatch W (HR.out.carry b) (by have := HL.out; omega)⟩
  have HF : Hd (fillL L = putX (anyL L tCatch) (putX (anyL L tExempt) L lvX) lvY) := ⟨rfl⟩
  generalize fillL L = R at *
  generalize anyL L tExempt = bE at *
  generalize anyL L tCatch = bC at *
  obtain ⟨n, hn⟩ : ∃ n, n = L.length := ⟨_, rfl⟩
  have HN : Hd (n = L.length) := ⟨hn⟩
  rw [← hn] at CP QE QC HL ⊢
  clear hr h8 HR hn

  cases bE <;> cases bC
  · have HF2 : Hd (R = (L ++ [lvX]) ++ [lvY]) := ⟨HF.out⟩
    clear HF
    go_enter Tryz.func26, Tryz.ntmps26
    go_wp2_with fail
    go_at_call 52
    refine CP.mono ?_
    rintro e w1 ⟨⟨v1, rfl, o1⟩, b1⟩
    clear CP
    rw [HN.out] at o1
    have P1 := QE.out w1 b1
    go_wp2_with fail
    go_at_call 53
    refine P1.mono ?_
    rintro e w2 ⟨rfl, b2⟩
    have O2 : LvW w.heap.size w2 v1 L := LvW.grown o1 b2
    have B2 : Below w.heap.size w w2 := b1.trans (b2.mono b1.size)
    clear P1 o1 b1 b2
    have AL3 := alloc_below w2 (.cells #[.string ⟨#[101, 120, 101, 109, 112, 116]⟩, .int .i64 1, .int .i64 0, .int .i64 0, .int .i64 0, .int .i64 0, .int .i64 0, .int .i64 0, .int .i64 0, .int .i64 0] 45)
    have OW3 : (w2.alloc (.cells #[.string ⟨#[101, 120, 101, 109, 112, 116]⟩, .int .i64 1, .int .i64 0, .int .i64 0, .int .i64 0, .int .i64 0, .int .i64 0, .int .i64 0, .int .i64 0, .int .i64 0] 45)).ownsRow w.heap.size 45 10 v1 (n) (lvCs L) := by have := LvW.grown O2 AL3; unfold LvW at this; rw [HN.out]; simpa using this
    have NW3 := World.news_of_block (Blk.new w2 45 #[.string ⟨#[101, 120, 101, 109, 112, 116]⟩, .int .i64 1, .int .i64 0, .int .i64 0, .int .i64 0, .int .i64 0, .int .i64 0, .int .i64 0, .int .i64 0, .int .i64 0])
    have ON3 : ∀ u ∈ (#[.string ⟨#[101, 120, 101, 109, 112, 116]⟩, .int .i64 1, .int .i64 0, .int .i64 0, .int .i64 0, .int .i64 0, .int .i64 0, .int .i64 0, .int .i64 0, .int .i64 0] : Array Value).toList, u.oneCell' = true := lvC_one lvX
    have BB3 : Hd (Below w.heap.size w (w2.alloc (.cells #[.string ⟨#[101, 120, 101, 109, 112, 116]⟩, .int .i64 1, .int .i64 0, .int .i64 0, .int .i64 0, .int .i64 0, .int .i64 0, .int .i64 0, .int .i64 0, .int .i64 0] 45))) := ⟨B2.trans (AL3.mono B2.size)⟩
    have SZ3 : w.heap.size ≤ (w2.alloc (.cells #[.string ⟨#[101, 120, 101, 109, 112, 116]⟩, .int .i64 1, .int .i64 0, .int .i64 0, .int .i64 0, .int .i64 0, .int .i64 0, .int .i64 0, .int .i64 0, .int .i64 0] 45)).heap.size := BB3.out.size
    clear AL3 O2
    go_wp2_with (at_builtin; go_loud (refine wpList_append_own _ rfl _ _ 22 rfl w.heap.size 45 i0 (.agg #[.string ByteArray.empty, .int .i64 0, .int .i64 0, .int .i64 0, .int .i64 0, .int .i64 0, .int .i64 0, .int .i64 0, .int .i64 0, .int .i64 0]) 10 88 Tryz.underlying22 hi hz0 hz1 hz2 rfl (by decide) _ _ _ rfl OW3 ⟨w2.heap.size, 0, none⟩ 1 1 (#[.string ⟨#[101, 120, 101, 109, 112, 116]⟩, .int .i64 1, .int .i64 0, .int .i64 0, .int .i64 0, .int .i64 0, .int .i64 0, .int .i64 0, .int .i64 0, .int .i64 0] : Array Value).toList rfl rfl NW3 ON3 (by have := HL.out; unfold maxLen; omega) (by have := HL.out; omega) SZ3 ?_; intro v3 w3 h3 g3 _))
    have O3 : LvW w.heap.size w3 v3 (L ++ [lvX]) := LvW.put (by rw [← HN.out]; exact h3)
    have B3 : Below w.heap.size w w3 := BB3.out.grown g3 SZ3 (fun x hx => (OW3.lt x hx).1)
    clear h3 g3 OW3 NW3 ON3 BB3 SZ3
    have P2 := QC.out w3 B3
    go_wp2_with fail
    go_at_call 53
    refine P2.mono ?_
    rintro e w4 ⟨rfl, b4⟩
    have O4 : LvW w.heap.size w4 v3 (L ++ [lvX]) := LvW.grown O3 b4
    have B4 : Below w.heap.size w w4 := B3.trans (b4.mono B3.size)
    clear P2 b4
    have AL5 := alloc_below w4 (.cells #[.string ⟨#[99, 97, 116, 99, 104, 45, 97, 108, 108]⟩, .int .i64 2, .int .i64 5, .int .i64 0, .int .i64 (-1), .int .i64 0, .int .i64 0, .int .i64 0, .int .i64 0, .int .i64 0] 45)
    have OW5 : (w4.alloc (.cells #[.string ⟨#[99, 97, 116, 99, 104, 45, 97, 108, 108]⟩, .int .i64 2, .int .i64 5, .int .i64 0, .int .i64 (-1), .int .i64 0, .int .i64 0, .int .i64 0, .int .i64 0, .int .i64 0] 45)).ownsRow w.heap.size 45 10 v3 (n + 1) (lvCs (L ++ [lvX])) := by have := LvW.grown O4 AL5; unfold LvW at this; rw [HN.out]; simpa using this
    have NW5 := World.news_of_block (Blk.new w4 45 #[.string ⟨#[99, 97, 116, 99, 104, 45, 97, 108, 108]⟩, .int .i64 2, .int .i64 5, .int .i64 0, .int .i64 (-1), .int .i64 0, .int .i64 0, .int .i64 0, .int .i64 0, .int .i64 0])
    have ON5 : ∀ u ∈ (#[.string ⟨#[99, 97, 116, 99, 104, 45, 97, 108, 108]⟩, .int .i64 2, .int .i64 5, .int .i64 0, .int .i64 (-1), .int .i64 0, .int .i64 0, .int .i64 0, .int .i64 0, .int .i64 0] : Array Value).toList, u.oneCell' = true := lvC_one lvY
    have BB5 : Hd (Below w.heap.size w (w4.alloc (.cells #[.string ⟨#[99, 97, 116, 99, 104, 45, 97, 108, 108]⟩, .int .i64 2, .int .i64 5, .int .i64 0, .int .i64 (-1), .int .i64 0, .int .i64 0, .int .i64 0, .int .i64 0, .int .i64 0] 45))) := ⟨B4.trans (AL5.mono B4.size)⟩
    have SZ5 : w.heap.size ≤ (w4.alloc (.cells #[.string ⟨#[99, 97, 116, 99, 104, 45, 97, 108, 108]⟩, .int .i64 2, .int .i64 5, .int .i64 0, .int .i64 (-1), .int .i64 0, .int .i64 0, .int .i64 0, .int .i64 0, .int .i64 0] 45)).heap.size := BB5.out.size
    clear AL5 O4
    go_wp2_with (at_builtin; go_loud (refine wpList_append_own _ rfl _ _ 22 rfl w.heap.size 45 i0 (.agg #[.string ByteArray.empty, .int .i64 0, .int .i64 0, .int .i64 0, .int .i64 0, .int .i64 0, .int .i64 0, .int .i64 0, .int .i64 0, .int .i64 0]) 10 88 Tryz.underlying22 hi hz0 hz1 hz2 rfl (by decide) _ _ _ rfl OW5 ⟨w4.heap.size, 0, none⟩ 1 1 (#[.string ⟨#[99, 97, 116, 99, 104, 45, 97, 108, 108]⟩, .int .i64 2, .int .i64 5, .int .i64 0, .int .i64 (-1), .int .i64 0, .int .i64 0, .int .i64 0, .int .i64 0, .int .i64 0] : Array Value).toList rfl rfl NW5 ON5 (by have := HL.out; unfold maxLen; omega) (by have := HL.out; omega) SZ5 ?_; intro v5 w5 h5 g5 _))
    have O5 : LvW w.heap.size w5 v5 ((L ++ [lvX]) ++ [lvY]) := LvW.put (by rw [List.length_append]; rw [← HN.out]; exact h5)
    have B5 : Below w.heap.size w w5 := BB5.out.grown g5 SZ5 (fun x hx => (OW5.lt x hx).1)
    clear h5 g5 OW5 NW5 ON5 BB5 SZ5
    go_wp2_with fail
    go_ret
    exact ⟨⟨_, rfl, by rw [HF2.out]; exact O5⟩, B5⟩
  · have HF2 : Hd (R = L ++ [lvX]) := ⟨HF.out⟩
    clear HF
    go_enter Tryz.func26, Tryz.ntmps26
    go_wp2_with fail
    go_at_call 52
    refine CP.mono ?_
    rintro e w1 ⟨⟨v1, rfl, o1⟩, b1⟩
    clear CP
    rw [HN.out] at o1
    have P1 := QE.out w1 b1
    go_wp2_with fail
    go_at_call 53
    refine P1.mono ?_
    rintro e w2 ⟨rfl, b2⟩
    have O2 : LvW w.heap.size w2 v1 L := LvW.grown o1 b2
    have B2 : Below w.heap.size w w2 := b1.trans (b2.mono b1.size)
    clear P1 o1 b1 b2
    have AL3 := alloc_below w2 (.cells #[.string ⟨#[101, 120, 101, 109, 112, 116]⟩, .int .i64 1, .int .i64 0, .int .i64 0, .int .i64 0, .int .i64 0, .int .i64 0, .int .i64 0, .int .i64 0, .int .i64 0] 45)
    have OW3 : (w2.alloc (.cells #[.string ⟨#[101, 120, 101, 109, 112, 116]⟩, .int .i64 1, .int .i64 0, .int .i64 0, .int .i64 0, .int .i64 0, .int .i64 0, .int .i64 0, .int .i64 0, .int .i64 0] 45)).ownsRow w.heap.size 45 10 v1 (n) (lvCs L) := by have := LvW.grown O2 AL3; unfold LvW at this; rw [HN.out]; simpa using this
    have NW3 := World.news_of_block (Blk.new w2 45 #[.string ⟨#[101, 120, 101, 109, 112, 116]⟩, .int .i64 1, .int .i64 0, .int .i64 0, .int .i64 0, .int .i64 0, .int .i64 0, .int .i64 0, .int .i64 0, .int .i64 0])
    have ON3 : ∀ u ∈ (#[.string ⟨#[101, 120, 101, 109, 112, 116]⟩, .int .i64 1, .int .i64 0, .int .i64 0, .int .i64 0, .int .i64 0, .int .i64 0, .int .i64 0, .int .i64 0, .int .i64 0] : Array Value).toList, u.oneCell' = true := lvC_one lvX
    have BB3 : Hd (Below w.heap.size w (w2.alloc (.cells #[.string ⟨#[101, 120, 101, 109, 112, 116]⟩, .int .i64 1, .int .i64 0, .int .i64 0, .int .i64 0, .int .i64 0, .int .i64 0, .int .i64 0, .int .i64 0, .int .i64 0] 45))) := ⟨B2.trans (AL3.mono B2.size)⟩
    have SZ3 : w.heap.size ≤ (w2.alloc (.cells #[.string ⟨#[101, 120, 101, 109, 112, 116]⟩, .int .i64 1, .int .i64 0, .int .i64 0, .int .i64 0, .int .i64 0, .int .i64 0, .int .i64 0, .int .i64 0, .int .i64 0] 45)).heap.size := BB3.out.size
    clear AL3 O2
    go_wp2_with (at_builtin; go_loud (refine wpList_append_own _ rfl _ _ 22 rfl w.heap.size 45 i0 (.agg #[.string ByteArray.empty, .int .i64 0, .int .i64 0, .int .i64 0, .int .i64 0, .int .i64 0, .int .i64 0, .int .i64 0, .int .i64 0, .int .i64 0]) 10 88 Tryz.underlying22 hi hz0 hz1 hz2 rfl (by decide) _ _ _ rfl OW3 ⟨w2.heap.size, 0, none⟩ 1 1 (#[.string ⟨#[101, 120, 101, 109, 112, 116]⟩, .int .i64 1, .int .i64 0, .int .i64 0, .int .i64 0, .int .i64 0, .int .i64 0, .int .i64 0, .int .i64 0, .int .i64 0] : Array Value).toList rfl rfl NW3 ON3 (by have := HL.out; unfold maxLen; omega) (by have := HL.out; omega) SZ3 ?_; intro v3 w3 h3 g3 _))
    have O3 : LvW w.heap.size w3 v3 (L ++ [lvX]) := LvW.put (by rw [← HN.out]; exact h3)
    have B3 : Below w.heap.size w w3 := BB3.out.grown g3 SZ3 (fun x hx => (OW3.lt x hx).1)
    clear h3 g3 OW3 NW3 ON3 BB3 SZ3
    have P2 := QC.out w3 B3
    go_wp2_with fail
    go_at_call 53
    refine P2.mono ?_
    rintro e w4 ⟨rfl, b4⟩
    have O4 : LvW w.heap.size w4 v3 (L ++ [lvX]) := LvW.grown O3 b4
    have B4 : Below w.heap.size w w4 := B3.trans (b4.mono B3.size)
    clear P2 b4
    go_wp2_with fail
    go_ret
    exact ⟨⟨_, rfl, by rw [HF2.out]; exact O4⟩, B4⟩
  · have HF2 : Hd (R = L ++ [lvY]) := ⟨HF.out⟩
    clear HF
    go_enter Tryz.func26, Tryz.ntmps26
    go_wp2_with fail
    go_at_call 52
    refine CP.mono ?_
    rintro e w1 ⟨⟨v1, rfl, o1⟩, b1⟩
    clear CP
    rw [HN.out] at o1
    have P1 := QE.out w1 b1
    go_wp2_with fail
    go_at_call 53
    refine P1.mono ?_
    rintro e w2 ⟨rfl, b2⟩
    have O2 : LvW w.heap.size w2 v1 L := LvW.grown o1 b2
    have B2 : Below w.heap.size w w2 := b1.trans (b2.mono b1.size)
    clear P1 o1 b1 b2
    have P2 := QC.out w2 B2
    go_wp2_with fail
    go_at_call 53
    refine P2.mono ?_
    rintro e w4 ⟨rfl, b4⟩
    have O4 : LvW w.heap.size w4 v1 L := LvW.grown O2 b4
    have B4 : Below w.heap.size w w4 := B2.trans (b4.mono B2.size)
    clear P2 b4
    have AL5 := alloc_below w4 (.cells #[.string ⟨#[99, 97, 116, 99, 104, 45, 97, 108, 108]⟩, .int .i64 2, .int .i64 5, .int .i64 0, .int .i64 (-1), .int .i64 0, .int .i64 0, .int .i64 0, .int .i64 0, .int .i64 0] 45)
    have OW5 : (w4.alloc (.cells #[.string ⟨#[99, 97, 116, 99, 104, 45, 97, 108, 108]⟩, .int .i64 2, .int .i64 5, .int .i64 0, .int .i64 (-1), .int .i64 0, .int .i64 0, .int .i64 0, .int .i64 0, .int .i64 0] 45)).ownsRow w.heap.size 45 10 v1 (n) (lvCs L) := by have := LvW.grown O4 AL5; unfold LvW at this; rw [HN.out]; simpa using this
    have NW5 := World.news_of_block (Blk.new w4 45 #[.string ⟨#[99, 97, 116, 99, 104, 45, 97, 108, 108]⟩, .int .i64 2, .int .i64 5, .int .i64 0, .int .i64 (-1), .int .i64 0, .int .i64 0, .int .i64 0, .int .i64 0, .int .i64 0])
    have ON5 : ∀ u ∈ (#[.string ⟨#[99, 97, 116, 99, 104, 45, 97, 108, 108]⟩, .int .i64 2, .int .i64 5, .int .i64 0, .int .i64 (-1), .int .i64 0, .int .i64 0, .int .i64 0, .int .i64 0, .int .i64 0] : Array Value).toList, u.oneCell' = true := lvC_one lvY
    have BB5 : Hd (Below w.heap.size w (w4.alloc (.cells #[.string ⟨#[99, 97, 116, 99, 104, 45, 97, 108, 108]⟩, .int .i64 2, .int .i64 5, .int .i64 0, .int .i64 (-1), .int .i64 0, .int .i64 0, .int .i64 0, .int .i64 0, .int .i64 0] 45))) := ⟨B4.trans (AL5.mono B4.size)⟩
    have SZ5 : w.heap.size ≤ (w4.alloc (.cells #[.string ⟨#[99, 97, 116, 99, 104, 45, 97, 108, 108]⟩, .int .i64 2, .int .i64 5, .int .i64 0, .int .i64 (-1), .int .i64 0, .int .i64 0, .int .i64 0, .int .i64 0, .int .i64 0] 45)).heap.size := BB5.out.size
    clear AL5 O4
    go_wp2_with (at_builtin; go_loud (refine wpList_append_own _ rfl _ _ 22 rfl w.heap.size 45 i0 (.agg #[.string ByteArray.empty, .int .i64 0, .int .i64 0, .int .i64 0, .int .i64 0, .int .i64 0, .int .i64 0, .int .i64 0, .int .i64 0, .int .i64 0]) 10 88 Tryz.underlying22 hi hz0 hz1 hz2 rfl (by decide) _ _ _ rfl OW5 ⟨w4.heap.size, 0, none⟩ 1 1 (#[.string ⟨#[99, 97, 116, 99, 104, 45, 97, 108, 108]⟩, .int .i64 2, .int .i64 5, .int .i64 0, .int .i64 (-1), .int .i64 0, .int .i64 0, .int .i64 0, .int .i64 0, .int .i64 0] : Array Value).toList rfl rfl NW5 ON5 (by have := HL.out; unfold maxLen; omega) (by have := HL.out; omega) SZ5 ?_; intro v5 w5 h5 g5 _))
    have O5 : LvW w.heap.size w5 v5 (L ++ [lvY]) := LvW.put (by rw [← HN.out]; exact h5)
    have B5 : Below w.heap.size w w5 := BB5.out.grown g5 SZ5 (fun x hx => (OW5.lt x hx).1)
    clear h5 g5 OW5 NW5 ON5 BB5 SZ5
    go_wp2_with fail
    go_ret
    exact ⟨⟨_, rfl, by rw [HF2.out]; exact O5⟩, B5⟩
  · have HF2 : Hd (R = L) := ⟨HF.out⟩
    clear HF
    go_enter Tryz.func26, Tryz.ntmps26
    go_wp2_with fail
    go_at_call 52
    refine CP.mono ?_
    rintro e w1 ⟨⟨v1, rfl, o1⟩, b1⟩
    clear CP
    rw [HN.out] at o1
    have P1 := QE.out w1 b1
    go_wp2_with fail
    go_at_call 53
    refine P1.mono ?_
    rintro e w2 ⟨rfl, b2⟩
    have O2 : LvW w.heap.size w2 v1 L := LvW.grown o1 b2
    have B2 : Below w.heap.size w w2 := b1.trans (b2.mono b1.size)
    clear P1 o1 b1 b2
    have P2 := QC.out w2 B2
    go_wp2_with fail
    go_at_call 53
    refine P2.mono ?_
    rintro e w4 ⟨rfl, b4⟩
    have O4 : LvW w.heap.size w4 v1 L := LvW.grown O2 b4
    have B4 : Below w.heap.size w w4 := B2.trans (b4.mono B2.size)
    clear P2 b4
    go_wp2_with fail
    go_ret
    exact ⟨⟨_, rfl, by rw [HF2.out]; exact O4⟩, B4⟩
end Go.Proofs.YtijjpblmnlednaaGreatDoor
