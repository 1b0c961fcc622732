/-
  Lanes that are shut, by the program and by the reference. Conditions: the lanes lie in memory, and are few.
-/
import Derived.Test.YtemmkkcfjhmomaaFh
import Derived.Test.YtemmkkcfjhmomaaFu
namespace Go.Proofs.Ytemmkkcfjhmomaa
open Go.RowKit

theorem resFa17 (tmps : Array Value) (w : World) (b : Nat) {r g n o : Int} {a : Option Addr} {l c : Nat} (ht : tmps[2]?.getD undef = .pointer (some ⟨b, 0, none⟩)) (h : Blk w b 25 (faA r g n o (.slice a l c))) :
    (results Try.f17 tmps).run Try.prog w = .ok (.agg #[.int .u64 r, .int .i64 g, .int .i64 n, .int .i64 o, .slice a l c]) w := by
  obtain ⟨⟨c0, c1, c2, c3, c4⟩, -⟩ := h.fair
  simp [results, Try.results17, go_sem, ht, c0, c1, c2, c3, c4]
theorem resFa18 (tmps : Array Value) (w : World) (b : Nat) {r g n o : Int} {a : Option Addr} {l c : Nat} (ht : tmps[2]?.getD undef = .pointer (some ⟨b, 0, none⟩)) (h : Blk w b 25 (faA r g n o (.slice a l c))) :
    (results Try.f18 tmps).run Try.prog w = .ok (.agg #[.int .u64 r, .int .i64 g, .int .i64 n, .int .i64 o, .slice a l c]) w := by
  obtain ⟨⟨c0, c1, c2, c3, c4⟩, -⟩ := h.fair
  simp [results, Try.results18, go_sem, ht, c0, c1, c2, c3, c4]

set_option maxRecDepth 20000 in
set_option maxHeartbeats 1000000 in
theorem shut_ok (r g nn o : Int) (a : Option Addr) (c : Nat) (F : List Ln) (w : World) (h : LsR w a c F) (hf : Few F) :
    Calls Try.prog 17 #[.agg #[.int .u64 r, .int .i64 g, .int .i64 nn, .int .i64 o, .slice a F.length c]] w fun e w' => (∃ v, e = .returned v ∧ FaS (fun j => j < w.heap.size) w' r g nn 0 (trm F 0) v) ∧ Below w.heap.size w w' := by
  obtain ⟨w2, hw2⟩ : ∃ w2, w2 = (w.alloc (.cells #[.int .u64 r, .int .i64 g, .int .i64 nn, .int .i64 o, .slice a F.length c] 25)).alloc (.cells #[.int .u64 0, .int .i64 0, .int .i64 0, .int .i64 0, .slice none 0 0] 25) := ⟨_, rfl⟩
  have BX := boxes w 25 25 #[.int .u64 r, .int .i64 g, .int .i64 nn, .int .i64 o, .slice a F.length c] #[.int .u64 0, .int .i64 0, .int .i64 0, .int .i64 0, .slice none 0 0]
  rw [← hw2] at BX
  obtain ⟨B, N1, N2⟩ := BX
  have HF : Hd (Few F) := ⟨hf⟩
  have hl := hf.len
  obtain ⟨⟨x0, x1, x2, x3, x4⟩, -⟩ := Blk.fair N1
  obtain ⟨n, hn⟩ : ∃ n, F.length = n := ⟨_, rfl⟩
  have HL : Hd (F.length = n) := ⟨hn⟩
  have HN : Hd (LsR w2 a c F ∧ Below w.heap.size w w2 ∧ Blk w2 w.heap.size 25 (faA r g nn o (.slice a n c)) ∧ Blk w2 (w.heap.size + 1) 25 (faA 0 0 0 0 (.slice none 0 0))) := ⟨h.carry B, B, by rw [← hn]; exact N1, N2⟩
  rw [hn] at hl hw2 x4 ⊢
  clear hn N1 N2 B h hf
  go_enter Try.func17, Try.ntmps17
  go_upto_region 1 with fail
  rw [← hw2]
  clear hw2
  have CP := fcopied_ok r g nn o a c F w2 HN.out.1 HF.out
  rw [HL.out] at CP
  obtain ⟨A, hA⟩ : ∃ A, A = w.heap.size := ⟨_, rfl⟩
  have HA : Hd (A = w.heap.size) := ⟨hA⟩
  rw [← hA] at HN x0 x1 x2 x3 x4 ⊢
  clear hA
  have h2A : A + 2 ≤ w2.heap.size := by have := HN.out.2.2.2.lt; omega
  go_wp2_with fail
  go_at_call 40
  refine CP.mono ?_
  rintro e w3 ⟨⟨v3, rfl, v, rfl, o3⟩, b3⟩
  obtain ⟨a3, c3, e3, r3⟩ := o3.st (S := fun j => j < A + 2) (fun j hj e => by have : j < A + 2 := e; omega)
  rw [HL.out] at e3
  subst e3
  clear x0 x1 x2 x3 x4 CP
  obtain ⟨w4, hw4⟩ : ∃ w4, w4 = w3.alloc (.cells #[.int .u64 r, .int .i64 g, .int .i64 nn, .int .i64 0, .slice a3 n c3] 25) := ⟨_, rfl⟩
  have B4 : Below w3.heap.size w3 w4 := by rw [hw4]; exact alloc_below _ _
  have TR := trimmed_ok (fun j => j < A + 2) r g nn 0 a3 c3 F w4 (r3.next (Kept.of_below B4 _))  HF.out
  rw [HL.out] at TR
  have H5 : Hd (Below A w w4 ∧ Blk w4 (A + 1) 25 (faA 0 0 0 0 (.slice none 0 0)) ∧ A + 1 < w4.heap.size) := by
    have b1 := HN.out.2.1.trans ((b3.mono (show A ≤ w2.heap.size by omega)).trans (B4.mono (show A ≤ w3.heap.size by have := b3.size; omega)))
    have b2 := (HN.out.2.2.2.kept (Kept.of_below b3 (fun _ => False)) id).kept (Kept.of_below B4 (fun _ => False)) id
    exact ⟨⟨b1, b2, b2.lt⟩⟩
  clear o3 r3 b3 B4 HN
  go_wp2_with fail
  rw [← hw4]
  clear hw4
  refine TR.mono ?_
  rintro e w5 ⟨⟨v5, rfl, a5, c5, rfl, r5⟩, b5⟩
  have NR := H5.out.2.1.kept (Kept.of_below b5 (fun _ => False)) id
  obtain ⟨⟨y0, y1, y2, y3, y4⟩, yf0, yf1, yf2, yf3, yf4⟩ := NR.fair
  obtain ⟨q2, k2⟩ := fair_set NR r g nn 0 (.slice a5 (trm F 0).length c5)
  have HE : Hd (_ ∧ _ ∧ _) := ⟨q2, (r5.next (k2.mono (T := fun j => j < A + 2) (fun j _ e => by have : j = A + 1 := e; omega))).low (T := fun j => j < A) (fun j _ h => by have : j < A := h; show j < A + 2; omega), (H5.out.1.trans (b5.mono (by have := H5.out.2.2; omega))).trans (k2.below (B := A) (by have := NR.lt; omega) (fun j e => by omega))⟩
  clear TR r5 b5 NR q2 k2
  go_wp2_with fail
  refine bodyPost_ret (resFa17 _ _ _ rfl HE.out.1) rfl ?_
  rw [← HA.out]
  exact ⟨⟨_, rfl, _, _, rfl, HE.out.2.1⟩, HE.out.2.2⟩

set_option maxRecDepth 20000 in
set_option maxHeartbeats 1000000 in
theorem rshut_ok (r g nn o : Int) (a : Option Addr) (c : Nat) (F : List Ln) (w : World) (h : LsR w a c F) (hf : Few F) :
    Calls Try.prog 18 #[.agg #[.int .u64 r, .int .i64 g, .int .i64 nn, .int .i64 o, .slice a F.length c]] w fun e w' => (∃ v, e = .returned v ∧ FaS (fun j => j < w.heap.size) w' r g nn 0 (trm F 0) v) ∧ Below w.heap.size w w' := by
  obtain ⟨w2, hw2⟩ : ∃ w2, w2 = (w.alloc (.cells #[.int .u64 r, .int .i64 g, .int .i64 nn, .int .i64 o, .slice a F.length c] 25)).alloc (.cells #[.int .u64 0, .int .i64 0, .int .i64 0, .int .i64 0, .slice none 0 0] 25) := ⟨_, rfl⟩
  have BX := boxes w 25 25 #[.int .u64 r, .int .i64 g, .int .i64 nn, .int .i64 o, .slice a F.length c] #[.int .u64 0, .int .i64 0, .int .i64 0, .int .i64 0, .slice none 0 0]
  rw [← hw2] at BX
  obtain ⟨B, N1, N2⟩ := BX
  have HF : Hd (Few F) := ⟨hf⟩
  have hl := hf.len
  obtain ⟨⟨x0, x1, x2, x3, x4⟩, -⟩ := Blk.fair N1
  obtain ⟨n, hn⟩ : ∃ n, F.length = n := ⟨_, rfl⟩
  have HL : Hd (F.length = n) := ⟨hn⟩
  have HN : Hd (LsR w2 a c F ∧ Below w.heap.size w w2 ∧ Blk w2 w.heap.size 25 (faA r g nn o (.slice a n c)) ∧ Blk w2 (w.heap.size + 1) 25 (faA 0 0 0 0 (.slice none 0 0))) := ⟨h.carry B, B, by rw [← hn]; exact N1, N2⟩
  rw [hn] at hl hw2 x4 ⊢
  clear hn N1 N2 B h hf
  go_enter Try.func18, Try.ntmps18
  go_upto_region 1 with fail
  rw [← hw2]
  clear hw2
  have CP := rcopy_ok r g nn o a c F w2 HN.out.1 HF.out
  rw [HL.out] at CP
  obtain ⟨A, hA⟩ : ∃ A, A = w.heap.size := ⟨_, rfl⟩
  have HA : Hd (A = w.heap.size) := ⟨hA⟩
  rw [← hA] at HN x0 x1 x2 x3 x4 ⊢
  clear hA
  have h2A : A + 2 ≤ w2.heap.size := by have := HN.out.2.2.2.lt; omega
  go_wp2_with fail
  go_at_call 11
  refine CP.mono ?_
  rintro e w3 ⟨⟨v3, rfl, v, rfl, o3⟩, b3⟩
  obtain ⟨a3, c3, e3, r3⟩ := o3.st (S := fun j => j < A + 2) (fun j hj e => by have : j < A + 2 := e; omega)
  rw [HL.out] at e3
  subst e3
  clear x0 x1 x2 x3 x4 CP
  obtain ⟨w4, hw4⟩ : ∃ w4, w4 = w3.alloc (.cells #[.int .u64 r, .int .i64 g, .int .i64 nn, .int .i64 0, .slice a3 n c3] 25) := ⟨_, rfl⟩
  have B4 : Below w3.heap.size w3 w4 := by rw [hw4]; exact alloc_below _ _
  have TR := rtrim_ok (fun j => j < A + 2) r g nn 0 a3 c3 F w4 (r3.next (Kept.of_below B4 _)) (fun j e => by have : j < A + 2 := e; have := B4.size; have := b3.size; omega) HF.out
  rw [HL.out] at TR
  have H5 : Hd (Below A w w4 ∧ Blk w4 (A + 1) 25 (faA 0 0 0 0 (.slice none 0 0)) ∧ A + 1 < w4.heap.size) := by
    have b1 := HN.out.2.1.trans ((b3.mono (show A ≤ w2.heap.size by omega)).trans (B4.mono (show A ≤ w3.heap.size by have := b3.size; omega)))
    have b2 := (HN.out.2.2.2.kept (Kept.of_below b3 (fun _ => False)) id).kept (Kept.of_below B4 (fun _ => False)) id
    exact ⟨⟨b1, b2, b2.lt⟩⟩
  clear o3 r3 b3 B4 HN
  go_wp2_with fail
  rw [← hw4]
  clear hw4
  refine TR.mono ?_
  rintro e w5 ⟨⟨v5, rfl, a5, c5, rfl, r5⟩, b5⟩
  have NR := H5.out.2.1.kept (Kept.of_below b5 (fun _ => False)) id
  obtain ⟨⟨y0, y1, y2, y3, y4⟩, yf0, yf1, yf2, yf3, yf4⟩ := NR.fair
  obtain ⟨q2, k2⟩ := fair_set NR r g nn 0 (.slice a5 (trm F 0).length c5)
  have HE : Hd (_ ∧ _ ∧ _) := ⟨q2, (r5.next (k2.mono (T := fun j => j < A + 2) (fun j _ e => by have : j = A + 1 := e; omega))).low (T := fun j => j < A) (fun j _ h => by have : j < A := h; show j < A + 2; omega), (H5.out.1.trans (b5.mono (by have := H5.out.2.2; omega))).trans (k2.below (B := A) (by have := NR.lt; omega) (fun j e => by omega))⟩
  clear TR r5 b5 NR q2 k2
  go_wp2_with fail
  refine bodyPost_ret (resFa18 _ _ _ rfl HE.out.1) rfl ?_
  rw [← HA.out]
  exact ⟨⟨_, rfl, _, _, rfl, HE.out.2.1⟩, HE.out.2.2⟩
end Go.Proofs.Ytemmkkcfjhmomaa
