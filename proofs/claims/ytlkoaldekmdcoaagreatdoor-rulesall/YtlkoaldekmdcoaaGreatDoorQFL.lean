/-
  'filledLevels' of fill: the levels in memory of their own, and those that lack. Condition: they lie in memory, and are no more than 900.
  'copiedRules' of fill: rules in memory of their own. Condition: they lie in memory, and no list is longer than 1000.
-/
import Derived.Test.YtlkoaldekmdcoaaGreatDoorQFO
namespace Go.Proofs.YtlkoaldekmdcoaaGreatDoor
open Go.RowKit

/-- Levels that were filled. -/
structure FLv (w : World) (L : List Lv) (e : Ending) (w' : World) : Prop where
  ex : ∃ v', e = .returned v' ∧ LvW w.heap.size w' v' L
  bel : Below w.heap.size w w'
theorem lvC_one (l : Lv) : ∀ u ∈ lvC l, u.oneCell' = true := fun u hu => lvCs_one [l] u (by simpa [lvCs] using hu)
set_option maxRecDepth 20000 in
set_option maxHeartbeats 4000000 in
theorem fillLv_ok (a : Option Addr) (c : Nat) (L : List Lv) (w : World) (hr : LvR w a L) (h8 : L.length ≤ 900) : Calls Tryz.prog 17 #[.slice a L.length c] w fun e w' => FLv w (fillL L) e w' := by
  obtain ⟨i0, hi, hz0, hz1, hz2⟩ := info_parts info37c
  have CP := cpLv_ok a L.length c (lvCs L) w (by rw [lvCs_len]) (fun hn => hr.news hn) (lvCs_one L) (by omega)
  have HR : Hd (LvR w a L) := ⟨hr⟩
  have HL : Hd (L.length ≤ 900) := ⟨h8⟩
  have QE : Hd (∀ W, Below w.heap.size w W → Calls Tryz.prog 38 #[.slice a L.length c, .string ⟨#[101, 120, 101, 109, 112, 116]⟩] W fun e w' => e = .returned (.bool (anyL L tExempt)) ∧ Below W.heap.size W w') := ⟨fun W b => hasLv_ok a c L tExempt W (HR.out.carry b) (by have := HL.out; omega)⟩
  have QC : Hd (∀ W, Below w.heap.size w W → Calls Tryz.prog 38 #[.slice a L.length c, .string ⟨#[99, 97, 116, 99, 104, 45, 97, 108, 108]⟩] W fun e w' => e = .returned (.bool (anyL L tCatch)) ∧ Below W.heap.size W w') := ⟨fun W b => hasLv_ok a c L tCatch W (HR.out.carry b) (by have := HL.out; omega)⟩
  have HF : Hd (fillL L = putX (anyL L tCatch) (putX (anyL L tExempt) L lvX) lvY) := ⟨rfl⟩
  generalize fillL L = R at *
  generalize anyL L tExempt = bE at *
  generalize anyL L tCatch = bC at *
  obtain ⟨n, hn⟩ : ∃ n, n = L.length := ⟨_, rfl⟩
  have HN : Hd (n = L.length) := ⟨hn⟩
  rw [← hn] at CP QE QC HL ⊢
  clear hr h8 HR hn

  cases bE <;> cases bC
  · have HF2 : Hd (R = (L ++ [lvX]) ++ [lvY]) := ⟨HF.out⟩
    clear HF
    go_enter Tryz.func17, Tryz.ntmps17
    go_wp2_with fail
    go_at_call 37
    refine CP.mono ?_
    rintro e w1 ⟨⟨v1, rfl, o1⟩, b1⟩
    clear CP
    rw [HN.out] at o1
    have P1 := QE.out w1 b1
    go_wp2_with fail
    go_at_call 38
    refine P1.mono ?_
    rintro e w2 ⟨rfl, b2⟩
    have O2 : LvW w.heap.size w2 v1 L := LvW.grown o1 b2
    have B2 : Below w.heap.size w w2 := b1.trans (b2.mono b1.size)
    clear P1 o1 b1 b2
    have AL3 := alloc_below w2 (.cells #[.string ⟨#[101, 120, 101, 109, 112, 116]⟩, .int .i64 1, .int .i64 0, .int .i64 0, .int .i64 0, .int .i64 0, .int .i64 0, .int .i64 0, .int .i64 0, .int .i64 0] 40)
    have OW3 : (w2.alloc (.cells #[.string ⟨#[101, 120, 101, 109, 112, 116]⟩, .int .i64 1, .int .i64 0, .int .i64 0, .int .i64 0, .int .i64 0, .int .i64 0, .int .i64 0, .int .i64 0, .int .i64 0] 40)).ownsRow w.heap.size 40 10 v1 (n) (lvCs L) := by have := LvW.grown O2 AL3; unfold LvW at this; rw [HN.out]; simpa using this
    have NW3 := World.news_of_block (Blk.new w2 40 #[.string ⟨#[101, 120, 101, 109, 112, 116]⟩, .int .i64 1, .int .i64 0, .int .i64 0, .int .i64 0, .int .i64 0, .int .i64 0, .int .i64 0, .int .i64 0, .int .i64 0])
    have ON3 : ∀ u ∈ (#[.string ⟨#[101, 120, 101, 109, 112, 116]⟩, .int .i64 1, .int .i64 0, .int .i64 0, .int .i64 0, .int .i64 0, .int .i64 0, .int .i64 0, .int .i64 0, .int .i64 0] : Array Value).toList, u.oneCell' = true := lvC_one lvX
    have BB3 : Hd (Below w.heap.size w (w2.alloc (.cells #[.string ⟨#[101, 120, 101, 109, 112, 116]⟩, .int .i64 1, .int .i64 0, .int .i64 0, .int .i64 0, .int .i64 0, .int .i64 0, .int .i64 0, .int .i64 0, .int .i64 0] 40))) := ⟨B2.trans (AL3.mono B2.size)⟩
    have SZ3 : w.heap.size ≤ (w2.alloc (.cells #[.string ⟨#[101, 120, 101, 109, 112, 116]⟩, .int .i64 1, .int .i64 0, .int .i64 0, .int .i64 0, .int .i64 0, .int .i64 0, .int .i64 0, .int .i64 0, .int .i64 0] 40)).heap.size := BB3.out.size
    clear AL3 O2
    go_wp2_with (at_builtin; go_loud (refine wpList_append_own _ rfl _ _ 22 rfl w.heap.size 40 i0 (.agg #[.string ByteArray.empty, .int .i64 0, .int .i64 0, .int .i64 0, .int .i64 0, .int .i64 0, .int .i64 0, .int .i64 0, .int .i64 0, .int .i64 0]) 10 88 Tryz.underlying22 hi hz0 hz1 hz2 rfl (by decide) _ _ _ rfl OW3 ⟨w2.heap.size, 0, none⟩ 1 1 (#[.string ⟨#[101, 120, 101, 109, 112, 116]⟩, .int .i64 1, .int .i64 0, .int .i64 0, .int .i64 0, .int .i64 0, .int .i64 0, .int .i64 0, .int .i64 0, .int .i64 0] : Array Value).toList rfl rfl NW3 ON3 (by have := HL.out; unfold maxLen; omega) (by have := HL.out; omega) SZ3 ?_; intro v3 w3 h3 g3 _))
    have O3 : LvW w.heap.size w3 v3 (L ++ [lvX]) := LvW.put (by rw [← HN.out]; exact h3)
    have B3 : Below w.heap.size w w3 := BB3.out.grown g3 SZ3 (fun x hx => (OW3.lt x hx).1)
    clear h3 g3 OW3 NW3 ON3 BB3 SZ3
    have P2 := QC.out w3 B3
    go_wp2_with fail
    go_at_call 38
    refine P2.mono ?_
    rintro e w4 ⟨rfl, b4⟩
    have O4 : LvW w.heap.size w4 v3 (L ++ [lvX]) := LvW.grown O3 b4
    have B4 : Below w.heap.size w w4 := B3.trans (b4.mono B3.size)
    clear P2 b4
    have AL5 := alloc_below w4 (.cells #[.string ⟨#[99, 97, 116, 99, 104, 45, 97, 108, 108]⟩, .int .i64 2, .int .i64 5, .int .i64 0, .int .i64 (-1), .int .i64 0, .int .i64 0, .int .i64 0, .int .i64 0, .int .i64 0] 40)
    have OW5 : (w4.alloc (.cells #[.string ⟨#[99, 97, 116, 99, 104, 45, 97, 108, 108]⟩, .int .i64 2, .int .i64 5, .int .i64 0, .int .i64 (-1), .int .i64 0, .int .i64 0, .int .i64 0, .int .i64 0, .int .i64 0] 40)).ownsRow w.heap.size 40 10 v3 (n + 1) (lvCs (L ++ [lvX])) := by have := LvW.grown O4 AL5; unfold LvW at this; rw [HN.out]; simpa using this
    have NW5 := World.news_of_block (Blk.new w4 40 #[.string ⟨#[99, 97, 116, 99, 104, 45, 97, 108, 108]⟩, .int .i64 2, .int .i64 5, .int .i64 0, .int .i64 (-1), .int .i64 0, .int .i64 0, .int .i64 0, .int .i64 0, .int .i64 0])
    have ON5 : ∀ u ∈ (#[.string ⟨#[99, 97, 116, 99, 104, 45, 97, 108, 108]⟩, .int .i64 2, .int .i64 5, .int .i64 0, .int .i64 (-1), .int .i64 0, .int .i64 0, .int .i64 0, .int .i64 0, .int .i64 0] : Array Value).toList, u.oneCell' = true := lvC_one lvY
    have BB5 : Hd (Below w.heap.size w (w4.alloc (.cells #[.string ⟨#[99, 97, 116, 99, 104, 45, 97, 108, 108]⟩, .int .i64 2, .int .i64 5, .int .i64 0, .int .i64 (-1), .int .i64 0, .int .i64 0, .int .i64 0, .int .i64 0, .int .i64 0] 40))) := ⟨B4.trans (AL5.mono B4.size)⟩
    have SZ5 : w.heap.size ≤ (w4.alloc (.cells #[.string ⟨#[99, 97, 116, 99, 104, 45, 97, 108, 108]⟩, .int .i64 2, .int .i64 5, .int .i64 0, .int .i64 (-1), .int .i64 0, .int .i64 0, .int .i64 0, .int .i64 0, .int .i64 0] 40)).heap.size := BB5.out.size
    clear AL5 O4
    go_wp2_with (at_builtin; go_loud (refine wpList_append_own _ rfl _ _ 22 rfl w.heap.size 40 i0 (.agg #[.string ByteArray.empty, .int .i64 0, .int .i64 0, .int .i64 0, .int .i64 0, .int .i64 0, .int .i64 0, .int .i64 0, .int .i64 0, .int .i64 0]) 10 88 Tryz.underlying22 hi hz0 hz1 hz2 rfl (by decide) _ _ _ rfl OW5 ⟨w4.heap.size, 0, none⟩ 1 1 (#[.string ⟨#[99, 97, 116, 99, 104, 45, 97, 108, 108]⟩, .int .i64 2, .int .i64 5, .int .i64 0, .int .i64 (-1), .int .i64 0, .int .i64 0, .int .i64 0, .int .i64 0, .int .i64 0] : Array Value).toList rfl rfl NW5 ON5 (by have := HL.out; unfold maxLen; omega) (by have := HL.out; omega) SZ5 ?_; intro v5 w5 h5 g5 _))
    have O5 : LvW w.heap.size w5 v5 ((L ++ [lvX]) ++ [lvY]) := LvW.put (by rw [List.length_append]; rw [← HN.out]; exact h5)
    have B5 : Below w.heap.size w w5 := BB5.out.grown g5 SZ5 (fun x hx => (OW5.lt x hx).1)
    clear h5 g5 OW5 NW5 ON5 BB5 SZ5
    go_wp2_with fail
    go_ret
    exact ⟨⟨_, rfl, by rw [HF2.out]; exact O5⟩, B5⟩
  · have HF2 : Hd (R = L ++ [lvX]) := ⟨HF.out⟩
    clear HF
    go_enter Tryz.func17, Tryz.ntmps17
    go_wp2_with fail
    go_at_call 37
    refine CP.mono ?_
    rintro e w1 ⟨⟨v1, rfl, o1⟩, b1⟩
    clear CP
    rw [HN.out] at o1
    have P1 := QE.out w1 b1
    go_wp2_with fail
    go_at_call 38
    refine P1.mono ?_
    rintro e w2 ⟨rfl, b2⟩
    have O2 : LvW w.heap.size w2 v1 L := LvW.grown o1 b2
    have B2 : Below w.heap.size w w2 := b1.trans (b2.mono b1.size)
    clear P1 o1 b1 b2
    have AL3 := alloc_below w2 (.cells #[.string ⟨#[101, 120, 101, 109, 112, 116]⟩, .int .i64 1, .int .i64 0, .int .i64 0, .int .i64 0, .int .i64 0, .int .i64 0, .int .i64 0, .int .i64 0, .int .i64 0] 40)
    have OW3 : (w2.alloc (.cells #[.string ⟨#[101, 120, 101, 109, 112, 116]⟩, .int .i64 1, .int .i64 0, .int .i64 0, .int .i64 0, .int .i64 0, .int .i64 0, .int .i64 0, .int .i64 0, .int .i64 0] 40)).ownsRow w.heap.size 40 10 v1 (n) (lvCs L) := by have := LvW.grown O2 AL3; unfold LvW at this; rw [HN.out]; simpa using this
    have NW3 := World.news_of_block (Blk.new w2 40 #[.string ⟨#[101, 120, 101, 109, 112, 116]⟩, .int .i64 1, .int .i64 0, .int .i64 0, .int .i64 0, .int .i64 0, .int .i64 0, .int .i64 0, .int .i64 0, .int .i64 0])
    have ON3 : ∀ u ∈ (#[.string ⟨#[101, 120, 101, 109, 112, 116]⟩, .int .i64 1, .int .i64 0, .int .i64 0, .int .i64 0, .int .i64 0, .int .i64 0, .int .i64 0, .int .i64 0, .int .i64 0] : Array Value).toList, u.oneCell' = true := lvC_one lvX
    have BB3 : Hd (Below w.heap.size w (w2.alloc (.cells #[.string ⟨#[101, 120, 101, 109, 112, 116]⟩, .int .i64 1, .int .i64 0, .int .i64 0, .int .i64 0, .int .i64 0, .int .i64 0, .int .i64 0, .int .i64 0, .int .i64 0] 40))) := ⟨B2.trans (AL3.mono B2.size)⟩
    have SZ3 : w.heap.size ≤ (w2.alloc (.cells #[.string ⟨#[101, 120, 101, 109, 112, 116]⟩, .int .i64 1, .int .i64 0, .int .i64 0, .int .i64 0, .int .i64 0, .int .i64 0, .int .i64 0, .int .i64 0, .int .i64 0] 40)).heap.size := BB3.out.size
    clear AL3 O2
    go_wp2_with (at_builtin; go_loud (refine wpList_append_own _ rfl _ _ 22 rfl w.heap.size 40 i0 (.agg #[.string ByteArray.empty, .int .i64 0, .int .i64 0, .int .i64 0, .int .i64 0, .int .i64 0, .int .i64 0, .int .i64 0, .int .i64 0, .int .i64 0]) 10 88 Tryz.underlying22 hi hz0 hz1 hz2 rfl (by decide) _ _ _ rfl OW3 ⟨w2.heap.size, 0, none⟩ 1 1 (#[.string ⟨#[101, 120, 101, 109, 112, 116]⟩, .int .i64 1, .int .i64 0, .int .i64 0, .int .i64 0, .int .i64 0, .int .i64 0, .int .i64 0, .int .i64 0, .int .i64 0] : Array Value).toList rfl rfl NW3 ON3 (by have := HL.out; unfold maxLen; omega) (by have := HL.out; omega) SZ3 ?_; intro v3 w3 h3 g3 _))
    have O3 : LvW w.heap.size w3 v3 (L ++ [lvX]) := LvW.put (by rw [← HN.out]; exact h3)
    have B3 : Below w.heap.size w w3 := BB3.out.grown g3 SZ3 (fun x hx => (OW3.lt x hx).1)
    clear h3 g3 OW3 NW3 ON3 BB3 SZ3
    have P2 := QC.out w3 B3
    go_wp2_with fail
    go_at_call 38
    refine P2.mono ?_
    rintro e w4 ⟨rfl, b4⟩
    have O4 : LvW w.heap.size w4 v3 (L ++ [lvX]) := LvW.grown O3 b4
    have B4 : Below w.heap.size w w4 := B3.trans (b4.mono B3.size)
    clear P2 b4
    go_wp2_with fail
    go_ret
    exact ⟨⟨_, rfl, by rw [HF2.out]; exact O4⟩, B4⟩
  · have HF2 : Hd (R = L ++ [lvY]) := ⟨HF.out⟩
    clear HF
    go_enter Tryz.func17, Tryz.ntmps17
    go_wp2_with fail
    go_at_call 37
    refine CP.mono ?_
    rintro e w1 ⟨⟨v1, rfl, o1⟩, b1⟩
    clear CP
    rw [HN.out] at o1
    have P1 := QE.out w1 b1
    go_wp2_with fail
    go_at_call 38
    refine P1.mono ?_
    rintro e w2 ⟨rfl, b2⟩
    have O2 : LvW w.heap.size w2 v1 L := LvW.grown o1 b2
    have B2 : Below w.heap.size w w2 := b1.trans (b2.mono b1.size)
    clear P1 o1 b1 b2
    have P2 := QC.out w2 B2
    go_wp2_with fail
    go_at_call 38
    refine P2.mono ?_
    rintro e w4 ⟨rfl, b4⟩
    have O4 : LvW w.heap.size w4 v1 L := LvW.grown O2 b4
    have B4 : Below w.heap.size w w4 := B2.trans (b4.mono B2.size)
    clear P2 b4
    have AL5 := alloc_below w4 (.cells #[.string ⟨#[99, 97, 116, 99, 104, 45, 97, 108, 108]⟩, .int .i64 2, .int .i64 5, .int .i64 0, .int .i64 (-1), .int .i64 0, .int .i64 0, .int .i64 0, .int .i64 0, .int .i64 0] 40)
    have OW5 : (w4.alloc (.cells #[.string ⟨#[99, 97, 116, 99, 104, 45, 97, 108, 108]⟩, .int .i64 2, .int .i64 5, .int .i64 0, .int .i64 (-1), .int .i64 0, .int .i64 0, .int .i64 0, .int .i64 0, .int .i64 0] 40)).ownsRow w.heap.size 40 10 v1 (n) (lvCs L) := by have := LvW.grown O4 AL5; unfold LvW at this; rw [HN.out]; simpa using this
    have NW5 := World.news_of_block (Blk.new w4 40 #[.string ⟨#[99, 97, 116, 99, 104, 45, 97, 108, 108]⟩, .int .i64 2, .int .i64 5, .int .i64 0, .int .i64 (-1), .int .i64 0, .int .i64 0, .int .i64 0, .int .i64 0, .int .i64 0])
    have ON5 : ∀ u ∈ (#[.string ⟨#[99, 97, 116, 99, 104, 45, 97, 108, 108]⟩, .int .i64 2, .int .i64 5, .int .i64 0, .int .i64 (-1), .int .i64 0, .int .i64 0, .int .i64 0, .int .i64 0, .int .i64 0] : Array Value).toList, u.oneCell' = true := lvC_one lvY
    have BB5 : Hd (Below w.heap.size w (w4.alloc (.cells #[.string ⟨#[99, 97, 116, 99, 104, 45, 97, 108, 108]⟩, .int .i64 2, .int .i64 5, .int .i64 0, .int .i64 (-1), .int .i64 0, .int .i64 0, .int .i64 0, .int .i64 0, .int .i64 0] 40))) := ⟨B4.trans (AL5.mono B4.size)⟩
    have SZ5 : w.heap.size ≤ (w4.alloc (.cells #[.string ⟨#[99, 97, 116, 99, 104, 45, 97, 108, 108]⟩, .int .i64 2, .int .i64 5, .int .i64 0, .int .i64 (-1), .int .i64 0, .int .i64 0, .int .i64 0, .int .i64 0, .int .i64 0] 40)).heap.size := BB5.out.size
    clear AL5 O4
    go_wp2_with (at_builtin; go_loud (refine wpList_append_own _ rfl _ _ 22 rfl w.heap.size 40 i0 (.agg #[.string ByteArray.empty, .int .i64 0, .int .i64 0, .int .i64 0, .int .i64 0, .int .i64 0, .int .i64 0, .int .i64 0, .int .i64 0, .int .i64 0]) 10 88 Tryz.underlying22 hi hz0 hz1 hz2 rfl (by decide) _ _ _ rfl OW5 ⟨w4.heap.size, 0, none⟩ 1 1 (#[.string ⟨#[99, 97, 116, 99, 104, 45, 97, 108, 108]⟩, .int .i64 2, .int .i64 5, .int .i64 0, .int .i64 (-1), .int .i64 0, .int .i64 0, .int .i64 0, .int .i64 0, .int .i64 0] : Array Value).toList rfl rfl NW5 ON5 (by have := HL.out; unfold maxLen; omega) (by have := HL.out; omega) SZ5 ?_; intro v5 w5 h5 g5 _))
    have O5 : LvW w.heap.size w5 v5 (L ++ [lvY]) := LvW.put (by rw [← HN.out]; exact h5)
    have B5 : Below w.heap.size w w5 := BB5.out.grown g5 SZ5 (fun x hx => (OW5.lt x hx).1)
    clear h5 g5 OW5 NW5 ON5 BB5 SZ5
    go_wp2_with fail
    go_ret
    exact ⟨⟨_, rfl, by rw [HF2.out]; exact O5⟩, B5⟩
  · have HF2 : Hd (R = L) := ⟨HF.out⟩
    clear HF
    go_enter Tryz.func17, Tryz.ntmps17
    go_wp2_with fail
    go_at_call 37
    refine CP.mono ?_
    rintro e w1 ⟨⟨v1, rfl, o1⟩, b1⟩
    clear CP
    rw [HN.out] at o1
    have P1 := QE.out w1 b1
    go_wp2_with fail
    go_at_call 38
    refine P1.mono ?_
    rintro e w2 ⟨rfl, b2⟩
    have O2 : LvW w.heap.size w2 v1 L := LvW.grown o1 b2
    have B2 : Below w.heap.size w w2 := b1.trans (b2.mono b1.size)
    clear P1 o1 b1 b2
    have P2 := QC.out w2 B2
    go_wp2_with fail
    go_at_call 38
    refine P2.mono ?_
    rintro e w4 ⟨rfl, b4⟩
    have O4 : LvW w.heap.size w4 v1 L := LvW.grown O2 b4
    have B4 : Below w.heap.size w w4 := B2.trans (b4.mono B2.size)
    clear P2 b4
    go_wp2_with fail
    go_ret
    exact ⟨⟨_, rfl, by rw [HF2.out]; exact O4⟩, B4⟩
end Go.Proofs.YtlkoaldekmdcoaaGreatDoor

namespace Go.Proofs.YtlkoaldekmdcoaaGreatDoor
open Go.RowKit

structure FRl (w : World) (rs : List Rl) (e : Ending) (w' : World) : Prop where
  ex : ∃ v', e = .returned v' ∧ RlW w.heap.size w' v' rs
  bel : Below w.heap.size w w'
/-- Rules of which i are copied. -/
structure CR (w wr : World) (rs : List Rl) (v : Value) (Q : List Q5) (i : Nat) : Prop where
  bel : Below w.heap.size w wr
  ex : ∃ Q' : List Q5, Q'.length = rs.length ∧ wr.ownsRow w.heap.size 51 5 v rs.length (q5C Q') ∧ (∀ k (h : k < rs.length) (h' : k < Q'.length), k < i → RuW w.heap.size wr Q'[k] rs[k]) ∧ ∀ k, i ≤ k → Q'[k]? = Q[k]?
theorem CR.done {w wr : World} {rs : List Rl} {v : Value} {Q : List Q5} (h : CR w wr rs v Q rs.length) : FRl w rs (.returned v) wr := by
  obtain ⟨Q', hl, ho, hr, -⟩ := h.ex
  exact ⟨⟨v, rfl, Q', hl, ho, fun k h1 h2 => hr k h1 h2 h1⟩, h.bel⟩
/-- One more is written. -/
theorem CR.step {w wr w5 : World} {rs : List Rl} {g n c : Nat} {Q : List Q5} {i : Nat} (h : CR w wr rs (.slice (some ⟨g, 0, none⟩) n c) Q i) (hi : i < rs.length) (hn : n = rs.length) (b5 : Below wr.heap.size wr w5) (q : Q5) (hq : RuW w.heap.size w5 q rs[i]) :
    (∃ y0 y1 y2 y3 y4, w5.cell? ⟨g, i * 5, none⟩ = some y0 ∧ w5.cell? ⟨g, i * 5 + 1, none⟩ = some y1 ∧ w5.cell? ⟨g, i * 5 + 2, none⟩ = some y2 ∧ w5.cell? ⟨g, i * 5 + 3, none⟩ = some y3 ∧ w5.cell? ⟨g, i * 5 + 4, none⟩ = some y4) ∧ (∀ j, w5.frozen? ⟨g, j, none⟩ = false) ∧
    CR w (((((w5.setCell ⟨g, i * 5, none⟩ q.v0).setCell ⟨g, i * 5 + 1, none⟩ q.v1).setCell ⟨g, i * 5 + 2, none⟩ q.v2).setCell ⟨g, i * 5 + 3, none⟩ q.v3).setCell ⟨g, i * 5 + 4, none⟩ q.v4) rs (.slice (some ⟨g, 0, none⟩) n c) Q (i + 1) := by
  subst hn
  obtain ⟨Q', hl, ho, hr, hs⟩ := h.ex
  have K5 : Kept (fun _ => False) wr w5 := Kept.of_below b5 _
  have o5 := owns_off ho K5 (Off.none _ _)
  obtain ⟨a, c', e, -, hrow⟩ := owns_read o5
  injection e with e1 _ e3
  subst e3
  obtain ⟨g', cur, e4, hB, hg, hsz, hcs⟩ := hrow (by omega)
  rw [e4] at e1
  injection e1 with e1
  injection e1 with e1
  subst e1
  have at5 : ∀ j, j < 5 → ∃ y, w5.cell? ⟨g, i * 5 + j, none⟩ = some y := fun j hj => by
    have h1 := q5C_at Q' i j (by omega) hj
    have h2 : j < (q5L Q'[i]).length := hj
    rw [List.getElem?_eq_getElem h2] at h1
    exact ⟨_, hcs _ _ h1⟩
  obtain ⟨y0, z0⟩ := at5 0 (by decide)
  obtain ⟨y1, z1⟩ := at5 1 (by decide)
  obtain ⟨y2, z2⟩ := at5 2 (by decide)
  obtain ⟨y3, z3⟩ := at5 3 (by decide)
  obtain ⟨y4, z4⟩ := at5 4 (by decide)
  refine ⟨⟨y0, y1, y2, y3, y4, z0, z1, z2, z3, z4⟩, fun j => hg.frozen j, ?_⟩
  have KS : Kept (fun k => k = g) w5 (((((w5.setCell ⟨g, i * 5, none⟩ q.v0).setCell ⟨g, i * 5 + 1, none⟩ q.v1).setCell ⟨g, i * 5 + 2, none⟩ q.v2).setCell ⟨g, i * 5 + 3, none⟩ q.v3).setCell ⟨g, i * 5 + 4, none⟩ q.v4) := ((((((Kept.refl (fun k => k = g) w5).setCell _ _ (.inl rfl)).setCell _ _ (.inl rfl)).setCell _ _ (.inl rfl)).setCell _ _ (.inl rfl)).setCell _ _ (.inl rfl))
  have o9 := off_blk hg (by decide : 51 ≠ 9)
  have own := owns_set (owns_set (owns_set (owns_set (owns_set o5 (i * 5) q.v0) (i * 5 + 1) q.v1) (i * 5 + 2) q.v2) (i * 5 + 3) q.v3) (i * 5 + 4) q.v4
  rw [q5C_set Q' i q (by omega)] at own
  have b0 := h.bel
  have bs := b5.size
  have b1 := b0.size
  refine ⟨(b0.trans (b5.mono b1)).trans (KS.below (by omega) (fun k hk => by rw [hk]; exact hB)), Q'.set i q, by simpa using hl, own, fun k h1 h2 h3 => ?_, fun k hk => ?_⟩
  · by_cases e : k = i
    · subst e
      rw [List.getElem_set_self]
      exact hq.off KS o9
    · rw [List.getElem_set_ne (fun h => e h.symm)]
      exact ((hr k h1 (by simpa using h2) (by omega)).off K5 (Off.none _ _)).off KS o9
  · rw [List.getElem?_set_ne (by omega)]
    exact hs k (by omega)
set_option maxRecDepth 20000 in
set_option maxHeartbeats 4000000 in
theorem cpRules_ok (v : Value) (rs : List Rl) (w : World) (h : RlR w v rs) (h8 : rs.length ≤ 1000) (hN : ∀ r ∈ rs, RlN 1000 r) : Calls Tryz.prog 40 #[v] w fun e w' => FRl w rs e w' := by
  obtain ⟨a, c, Q, rfl, hQ, hn, hru⟩ := h.five
  have CP := cpRl_ok a rs.length c (q5C Q) w (by rw [q5C_len, hQ]) hn (q5C_one Q rs hQ hru) h8
  have HRU : Hd _ := ⟨And.intro hQ (And.intro hru hN)⟩
  obtain ⟨n, hnn⟩ : ∃ n, n = rs.length := ⟨_, rfl⟩
  have HN : Hd (n = rs.length) := ⟨hnn⟩
  rw [← hnn] at CP h8 ⊢
  clear h hQ hn hru hN hnn
  go_enter Tryz.func40, Tryz.ntmps40
  go_wp2_with fail
  go_at_call 64
  refine CP.mono ?_
  rintro e w1 ⟨⟨v1, rfl, o1⟩, b1⟩
  have C1 : Hd (CR w w1 rs v1 Q 0) := ⟨b1, Q, HRU.out.1, by rw [← HN.out]; exact o1, fun k _ _ h => absurd h (Nat.not_lt_zero _), fun _ _ => rfl⟩
  obtain ⟨a1, c1, rfl, hc1, -⟩ := owns_read o1
  clear CP o1 b1
  go_upto_region 3 with fail
  go_loopw [10] (fun i wr => ∃ k : Nat, k ≤ n ∧ i = .int .i64 k ∧ Hd (CR w wr rs (.slice a1 n c1) Q k)) (fun i _ => n - (intOf i).toNat)
  case atStart => exact ⟨0, Nat.zero_le _, rfl, C1⟩
  case round =>
    obtain ⟨k, hk, rfl, hC⟩ := hrel
    clear C1
    by_cases hlt : k < n
    · have hkr : k < rs.length := by rw [← HN.out]; exact hlt
      have hkQ : k < Q.length := by rw [HRU.out.1]; exact hkr
      obtain ⟨Q', hl', ho, hr', hs'⟩ := hC.out.ex
      obtain ⟨a2, c2, e2, -, hrow⟩ := owns_read ho
      injection e2 with q1 q2 q3
      subst q1 q3
      obtain ⟨g, cur, rfl, hB, hg, hsz, hcs⟩ := hrow (by omega)
      have Ek : Q'[k]'(by omega) = Q[k] := by
        have := hs' k (Nat.le_refl _)
        rw [List.getElem?_eq_getElem (by omega), List.getElem?_eq_getElem hkQ] at this
        exact Option.some.inj this
      have at5 : ∀ j (h : j < 5), wr.cell? ⟨g, k * 5 + j, none⟩ = some ((q5L Q[k])[j]'h) := fun j hj => by
        have h1 := q5C_at Q' k j (by omega) hj
        have h2 : j < (q5L Q'[k]).length := hj
        rw [List.getElem?_eq_getElem h2] at h1
        rw [hcs _ _ h1]
        congr 1
        simp only [Ek]
        rfl
      have z0 : wr.cell? ⟨g, k * 5, none⟩ = some Q[k].v0 := at5 0 (by decide)
      have z1 : wr.cell? ⟨g, k * 5 + 1, none⟩ = some Q[k].v1 := at5 1 (by decide)
      have z2 : wr.cell? ⟨g, k * 5 + 2, none⟩ = some Q[k].v2 := at5 2 (by decide)
      have z3 : wr.cell? ⟨g, k * 5 + 3, none⟩ = some Q[k].v3 := at5 3 (by decide)
      have z4 : wr.cell? ⟨g, k * 5 + 4, none⟩ = some Q[k].v4 := at5 4 (by decide)
      have RU : Hd _ := ⟨HRU.out.2.1 k hkr hkQ⟩
      have RN : Hd _ := ⟨HRU.out.2.2 rs[k] (List.getElem_mem hkr)⟩
      have STEP : Hd _ := ⟨fun w5 b5 q hq => hC.out.step (w5 := w5) hkr HN.out b5 q hq⟩
      have HBW : Hd (Below w.heap.size w wr) := ⟨hC.out.bel⟩
      obtain ⟨⟨a0, p0, e0, -⟩, ⟨a1', p1, e1, -⟩, ⟨a2', p2, e2, -⟩, ⟨a3, p3, e3, -⟩, ⟨a4, p4, e4, -⟩⟩ := id RU.out
      have HGL : Hd (g < wr.heap.size) := ⟨hg.lt⟩
      clear at5 hcs hrow ho hr' hs' hC Ek hl' hg hsz hB q2
      generalize Q[k] = q at *
      generalize rs[k] = r at *
      obtain ⟨qv0, qv1, qv2, qv3, qv4⟩ := q
      simp only at z0 z1 z2 z3 z4 RU e0 e1 e2 e3 e4
      generalize hn0 : r.users.length = m0 at e0
      generalize hn1 : r.groups.length = m1 at e1
      generalize hn2 : r.verbs.length = m2 at e2
      generalize hn3 : r.resources.length = m3 at e3
      generalize hn4 : r.spaces.length = m4 at e4
      clear hn0 hn1 hn2 hn3 hn4
      have HK : Hd (k < n) := ⟨hlt⟩
      have hgl := HGL.out
      have NB := Blk.new wr 51 #[qv0, qv1, qv2, qv3, qv4]
      have AL := alloc_below wr (.cells #[qv0, qv1, qv2, qv3, qv4] 51)
      subst e0 e1 e2 e3 e4
      go_upto_region 5 with fail
      clear z0 z1 z2 z3 z4
      generalize wr.alloc _ = w2 at *
      have DR : Below w2.heap.size w2 w2.drew := ⟨rfl, rfl, rfl, Nat.le_refl _, fun _ _ => rfl⟩
      have B0 : Below wr.heap.size wr w2.drew := AL.trans (DR.mono AL.size)
      have A0 := NB.kept (Kept.of_below DR (fun _ => False)) id
      refine AnyG.start (T := fun w' => Blk w' wr.heap.size 51 #[.slice a0 m0 p0, .slice a1' m1 p1, .slice a2' m2 p2, .slice a3 m3 p3, .slice a4 m4 p4]) (U := fun _ => True) (j0 := 100) (by kernel_rfl) ?_
      clear DR AL NB
      generalize w2.drew = w0 at *
      have HS := HBW.out.size
      refine .tk 0 15 rfl rfl (by kernel_rfl) (fun _ _ _ h => h) ⟨A0, fun _ => trivial⟩ (by rfl) (fun w hSw => by go_simp; rfl) ?_; simp only [tkA, tkB, tkC]
      refine .tk 1 16 rfl rfl (by kernel_rfl) (fun _ _ _ h => h) ⟨A0, fun _ => trivial⟩ (by rfl) (fun w hSw => by go_simp; rfl) ?_; simp only [tkA, tkB, tkC]
      refine .tk 2 17 rfl rfl (by kernel_rfl) (fun _ _ _ h => h) ⟨A0, fun _ => trivial⟩ (by rfl) (fun w hSw => by go_simp; rfl) ?_; simp only [tkA, tkB, tkC]
      refine .tk 3 18 rfl rfl (by kernel_rfl) (fun _ _ _ h => h) ⟨A0, fun _ => trivial⟩ (by rfl) (fun w hSw => by have s4 := hSw.cellv (v := .slice a0 m0 p0) 0 rfl; go_simp; rfl) ?_; simp only [tkA, tkB, tkC]
      refine .tk 5 20 rfl rfl (by kernel_rfl) (fun _ _ _ h => h) ⟨A0, fun _ => trivial⟩ (by rfl) (fun w hSw => by go_simp; rfl) ?_; simp only [tkA, tkB, tkC]
      refine .tk 6 21 rfl rfl (by kernel_rfl) (fun _ _ _ h => h) ⟨A0, fun _ => trivial⟩ (by rfl) (fun w hSw => by have s4 := hSw.cellv (v := .slice a1' m1 p1) 1 rfl; go_simp; rfl) ?_; simp only [tkA, tkB, tkC]
      refine .tk 8 23 rfl rfl (by kernel_rfl) (fun _ _ _ h => h) ⟨A0, fun _ => trivial⟩ (by rfl) (fun w hSw => by go_simp; rfl) ?_; simp only [tkA, tkB, tkC]
      refine .tk 9 24 rfl rfl (by kernel_rfl) (fun _ _ _ h => h) ⟨A0, fun _ => trivial⟩ (by rfl) (fun w hSw => by have s4 := hSw.cellv (v := .slice a2' m2 p2) 2 rfl; go_simp; rfl) ?_; simp only [tkA, tkB, tkC]
      refine .tk 11 26 rfl rfl (by kernel_rfl) (fun _ _ _ h => h) ⟨A0, fun _ => trivial⟩ (by rfl) (fun w hSw => by go_simp; rfl) ?_; simp only [tkA, tkB, tkC]
      refine .tk 12 27 rfl rfl (by kernel_rfl) (fun _ _ _ h => h) ⟨A0, fun _ => trivial⟩ (by rfl) (fun w hSw => by have s4 := hSw.cellv (v := .slice a3 m3 p3) 3 rfl; go_simp; rfl) ?_; simp only [tkA, tkB, tkC]
      refine .tk 14 29 rfl rfl (by kernel_rfl) (fun _ _ _ h => h) ⟨A0, fun _ => trivial⟩ (by rfl) (fun w hSw => by go_simp; rfl) ?_; simp only [tkA, tkB, tkC]
      refine .tk 15 30 rfl rfl (by kernel_rfl) (fun _ _ _ h => h) ⟨A0, fun _ => trivial⟩ (by rfl) (fun w hSw => by have s4 := hSw.cellv (v := .slice a4 m4 p4) 4 rfl; go_simp; rfl) ?_; simp only [tkA, tkB, tkC]
      refine AnyG.ready (rs := [4]) (by kernel_rfl) (by simp) ?_
      refine AllG.cons rfl (fun K hK => ?_) AllG.nil
      go_simp
      refine (cpT_ok _ _ w0 (RU.out.1.carry (HBW.out.trans (B0.mono HBW.out.size))) RN.out.1).mono ?_
      rintro e wk1 ⟨⟨u1, rfl, o1⟩, -, b1⟩
      obtain ⟨x1, d1, rfl, -⟩ := o1.shape
      have Ak1 := A0.kept (Kept.of_below b1 (fun _ => False)) id
      have Bk1 : Below wr.heap.size wr wk1 := B0.trans (b1.mono B0.size)
      replace o1 := OwnT.mono (B' := w.heap.size) o1 (Nat.le_trans HS B0.size)
      refine hK.out _ _ ⟨Ak1, fun _ => trivial⟩ ?_
      clear hK K b1 A0 B0
      refine AnyG.ready (rs := [7]) (by kernel_rfl) (by simp) ?_
      refine AllG.cons rfl (fun K hK => ?_) AllG.nil
      go_simp
      refine (cpT_ok _ _ wk1 (RU.out.2.1.carry (HBW.out.trans (Bk1.mono HBW.out.size))) RN.out.2.1).mono ?_
      rintro e wk2 ⟨⟨u2, rfl, o2⟩, -, b2⟩
      obtain ⟨x2, d2, rfl, -⟩ := o2.shape
      have Ak2 := Ak1.kept (Kept.of_below b2 (fun _ => False)) id
      have Bk2 : Below wr.heap.size wr wk2 := Bk1.trans (b2.mono Bk1.size)
      replace o1 := o1.off (Kept.of_below b2 (fun _ => False)) (Off.none _ _)
      replace o2 := OwnT.mono (B' := w.heap.size) o2 (Nat.le_trans HS Bk1.size)
      refine hK.out _ _ ⟨Ak2, fun _ => trivial⟩ ?_
      clear hK K b2 Ak1 Bk1
      refine AnyG.ready (rs := [10]) (by kernel_rfl) (by simp) ?_
      refine AllG.cons rfl (fun K hK => ?_) AllG.nil
      go_simp
      refine (cpT_ok _ _ wk2 (RU.out.2.2.1.carry (HBW.out.trans (Bk2.mono HBW.out.size))) RN.out.2.2.1).mono ?_
      rintro e wk3 ⟨⟨u3, rfl, o3⟩, -, b3⟩
      obtain ⟨x3, d3, rfl, -⟩ := o3.shape
      have Ak3 := Ak2.kept (Kept.of_below b3 (fun _ => False)) id
      have Bk3 : Below wr.heap.size wr wk3 := Bk2.trans (b3.mono Bk2.size)
      replace o1 := o1.off (Kept.of_below b3 (fun _ => False)) (Off.none _ _)
      replace o2 := o2.off (Kept.of_below b3 (fun _ => False)) (Off.none _ _)
      replace o3 := OwnT.mono (B' := w.heap.size) o3 (Nat.le_trans HS Bk2.size)
      refine hK.out _ _ ⟨Ak3, fun _ => trivial⟩ ?_
      clear hK K b3 Ak2 Bk2
      refine AnyG.ready (rs := [13]) (by kernel_rfl) (by simp) ?_
      refine AllG.cons rfl (fun K hK => ?_) AllG.nil
      go_simp
      refine (cpT_ok _ _ wk3 (RU.out.2.2.2.1.carry (HBW.out.trans (Bk3.mono HBW.out.size))) RN.out.2.2.2.1).mono ?_
      rintro e wk4 ⟨⟨u4, rfl, o4⟩, -, b4⟩
      obtain ⟨x4, d4, rfl, -⟩ := o4.shape
      have Ak4 := Ak3.kept (Kept.of_below b4 (fun _ => False)) id
      have Bk4 : Below wr.heap.size wr wk4 := Bk3.trans (b4.mono Bk3.size)
      replace o1 := o1.off (Kept.of_below b4 (fun _ => False)) (Off.none _ _)
      replace o2 := o2.off (Kept.of_below b4 (fun _ => False)) (Off.none _ _)
      replace o3 := o3.off (Kept.of_below b4 (fun _ => False)) (Off.none _ _)
      replace o4 := OwnT.mono (B' := w.heap.size) o4 (Nat.le_trans HS Bk3.size)
      refine hK.out _ _ ⟨Ak4, fun _ => trivial⟩ ?_
      clear hK K b4 Ak3 Bk3
      refine AnyG.ready (rs := [16]) (by kernel_rfl) (by simp) ?_
      refine AllG.cons rfl (fun K hK => ?_) AllG.nil
      go_simp
      refine (cpT_ok _ _ wk4 (RU.out.2.2.2.2.carry (HBW.out.trans (Bk4.mono HBW.out.size))) RN.out.2.2.2.2).mono ?_
      rintro e wk5 ⟨⟨u5, rfl, o5⟩, -, b5⟩
      obtain ⟨x5, d5, rfl, -⟩ := o5.shape
      have Ak5 := Ak4.kept (Kept.of_below b5 (fun _ => False)) id
      have Bk5 : Below wr.heap.size wr wk5 := Bk4.trans (b5.mono Bk4.size)
      replace o1 := o1.off (Kept.of_below b5 (fun _ => False)) (Off.none _ _)
      replace o2 := o2.off (Kept.of_below b5 (fun _ => False)) (Off.none _ _)
      replace o3 := o3.off (Kept.of_below b5 (fun _ => False)) (Off.none _ _)
      replace o4 := o4.off (Kept.of_below b5 (fun _ => False)) (Off.none _ _)
      replace o5 := OwnT.mono (B' := w.heap.size) o5 (Nat.le_trans HS Bk4.size)
      refine hK.out _ _ ⟨Ak5, fun _ => trivial⟩ ?_
      clear hK K b5 Ak4 Bk4
      refine .tk 17 32 rfl rfl (by kernel_rfl) (fun _ _ _ h => h) ⟨Ak5, fun _ => trivial⟩ (by rfl) (fun w hSw => by go_simp; rfl) ?_; simp only [tkA, tkB, tkC]
      refine .tk 18 33 rfl rfl (by kernel_rfl) (fun _ _ _ h => h) ⟨Ak5, fun _ => trivial⟩ (by rfl) (fun w hSw => by go_simp; rfl) ?_; simp only [tkA, tkB, tkC]
      obtain ⟨⟨y0, y1, y2, y3, y4, z0, z1, z2, z3, z4⟩, fz, NX⟩ := STEP.out wk5 Bk5 ⟨_, _, _, _, _⟩ ⟨o1, o2, o3, o4, o5⟩
      have f0 := fz (k * 5)
      have f1 := fz (k * 5 + 1)
      have f2 := fz (k * 5 + 2)
      have f3 := fz (k * 5 + 3)
      have f4 := fz (k * 5 + 4)
      have HX : Hd _ := ⟨NX⟩
      clear fz NX STEP o1 o2 o3 o4 o5
      refine AnyG.ready (rs := [19]) (by kernel_rfl) (by simp) ?_
      refine AllG.cons rfl (fun K hK => ?_) AllG.nil
      go_simp
      refine hK.out _ _ ⟨((((Ak5.other (by simp; omega) _).other (by simp; omega) _).other (by simp; omega) _).other (by simp; omega) _).other (by simp; omega) _, fun _ => trivial⟩ ?_
      clear hK K z0 z1 z2 z3 z4 f0 f1 f2 f3 f4
      refine AnyG.done (by kernel_rfl) ?_ _
      go_wp2_with fail
      go_roundw
      case rel => exact ⟨k + 1, HK.out, by go_num, HX⟩
      case measure => have := HK.out; simp [intOf]; omega
    · obtain rfl : k = n := by omega
      go_wp2_with fail
      go_ret
      have e := hC.out
      have e2 := HN.out
      subst e2
      exact e.done
end Go.Proofs.YtlkoaldekmdcoaaGreatDoor
