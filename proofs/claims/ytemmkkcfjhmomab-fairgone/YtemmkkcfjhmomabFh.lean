/-
  Another lane in the place of one, by the program. Conditions: the lanes lie in memory, and are few.
-/
import Derived.Test.YtemmkkcfjhmomabFe
namespace Go.Proofs.Ytemmkkcfjhmomab
open Go.RowKit

theorem ownsRow_other {w w' : World} {B t m n b : Nat} {v : Value} {cs : List Value} {x : Array Value} (h : w.ownsRow B t m v n cs) (hb : Blk w b 25 x) (ht : t ≠ 25) (k : Kept (fun j => j = b) w w') : w'.ownsRow B t m v n cs := by
  refine ownsRow_kept h k fun j e he => ?_
  rcases h.2 with ⟨rfl, -⟩ | ⟨g, cap, cur, rfl, -, hg, -⟩
  · cases e
  · injection e with e
    have e : g = j := e
    subst e he
    exact hb.ne' hg (Ne.symm ht) rfl
/-- A row of lanes stays where a fair's block turns. -/
theorem OwL.other {w w' : World} {B b : Nat} {v : Value} {F : List Ln} {x : Array Value} (h : OwL w B v F) (hb : Blk w b 25 x) (k : Kept (fun j => j = b) w w') : OwL w' B v F := by
  obtain ⟨Z, hZ, hr, hz⟩ := h
  exact ⟨Z, hZ, ownsRow_other hr hb (by decide) k, fun z h => ownsRow_other (hz z h) hb (by decide) k⟩
/-- A lane is put into a row of the call's own. -/
theorem OwL.put {w : World} {B : Nat} {v u : Value} {F : List Ln} (h : OwL w B v F) {k : Nat} (hk : k < F.length) (l : Ln) (o : OwnT w B u l.L) :
    ∃ q cap x y, v = .slice (some ⟨q, 0, none⟩) F.length cap ∧ B ≤ q ∧ q < w.heap.size ∧ (w.cell? ⟨q, k * 2, none⟩ = some (.int .u64 x) ∧ w.cell? ⟨q, k * 2 + 1, none⟩ = some y ∧ w.frozen? ⟨q, k * 2, none⟩ = false ∧ w.frozen? ⟨q, k * 2 + 1, none⟩ = false)
      ∧ OwL ((w.setCell ⟨q, k * 2, none⟩ (.int .u64 l.s)).setCell ⟨q, k * 2 + 1, none⟩ u) B v (F.set k l) ∧ Kept (fun j => j = q) w ((w.setCell ⟨q, k * 2, none⟩ (.int .u64 l.s)).setCell ⟨q, k * 2 + 1, none⟩ u) := by
  obtain ⟨Z, hZ, hr, hz⟩ := h
  have hl : Z.length = F.length := by rw [← hZ, List.length_map]
  obtain ⟨vk, hv⟩ := map_fst_get hZ hk
  rcases id hr.2 with ⟨-, e⟩ | ⟨q, cap, cur, rfl, hb, hg, hc, hm, hs, ht⟩
  · omega
  · have hB : Blk w q 38 cur := hg
    have K2 : Kept (fun j => j = q) w ((w.setCell ⟨q, k * 2, none⟩ (.int .u64 l.s)).setCell ⟨q, k * 2 + 1, none⟩ u) := ((Kept.refl (fun j => j = q) w).setCell _ _ (.inl rfl)).setCell _ _ (.inl rfl)
    have hcat : ∀ j, j < 2 → w.cell? ⟨q, k * 2 + j, none⟩ = (zC (gl F k, vk))[j]? := fun j hj => by
      rw [hB.cell, ← zCs_at Z k _ hv j hj, ← ht, List.getElem?_take_of_lt (by omega), Array.getElem?_toList]
    refine ⟨q, cap, (gl F k).s, vk, rfl, hb, hB.lt, ⟨hcat 0 (by decide), hcat 1 (by decide), hB.frozen _, hB.frozen _⟩, ⟨Z.set k (l, u), by rw [List.map_set, hZ], ?_, fun z hzm => ?_⟩, K2⟩
    · refine ⟨by rw [zCs_len, List.length_set, List.length_set, hl], .inr ⟨q, cap, (cur.setIfInBounds (k * 2) (.int .u64 l.s)).setIfInBounds (k * 2 + 1) u, by rw [List.length_set], hb, (hB.set _ _).set _ _, by rw [List.length_set]; exact hc, hm, by simp [hs], ?_⟩⟩
      rw [List.length_set, Array.toList_setIfInBounds, Array.toList_setIfInBounds, List.take_set, List.take_set, ht]
      exact zCs_set Z k _ u l rfl (by omega)
    · rcases List.mem_or_eq_of_mem_set hzm with c | c
      · exact OwnT.turn (hz z c) hg K2
      · rw [c]; exact OwnT.turn o hg K2

set_option maxRecDepth 20000 in
set_option maxHeartbeats 1000000 in
theorem with_ok (r g nn o : Int) (a : Option Addr) (c k : Nat) (F : List Ln) (s : Int) (a1 : Option Addr) (c1 : Nat) (L : List Tk) (B0 : Nat) (w : World) (h : LsR w a c F) (hf : Few F) (hk : k < F.length) (hL : OwnT w B0 (.slice a1 L.length c1) L) (hB0 : B0 ≤ w.heap.size) :
    Calls Try.prog 16 #[.agg #[.int .u64 r, .int .i64 g, .int .i64 nn, .int .i64 o, .slice a F.length c], .int .i64 k, .agg #[.int .u64 s, .slice a1 L.length c1]] w fun e w' => (∃ v, e = .returned v ∧ FaO w' B0 r g nn o (F.set k ⟨s, L⟩) v) ∧ Below w.heap.size w w' := by
  obtain ⟨w2, hw2⟩ : ∃ w2, w2 = ((w.alloc (.cells #[.int .u64 r, .int .i64 g, .int .i64 nn, .int .i64 o, .slice a F.length c] 25)).alloc (.cells #[.int .u64 s, .slice a1 L.length c1] 38)).alloc (.cells #[.int .u64 0, .int .i64 0, .int .i64 0, .int .i64 0, .slice none 0 0] 25) := ⟨_, rfl⟩
  have BX := boxes3 w 25 38 25 #[.int .u64 r, .int .i64 g, .int .i64 nn, .int .i64 o, .slice a F.length c] #[.int .u64 s, .slice a1 L.length c1] #[.int .u64 0, .int .i64 0, .int .i64 0, .int .i64 0, .slice none 0 0]
  rw [← hw2] at BX
  obtain ⟨B, N1, N2, N3⟩ := BX
  have CP := fcopied_ok r g nn o a c F w2 (h.carry B) hf
  have hlen := hf.len
  obtain ⟨⟨x0, x1, x2, x3, x4⟩, xf0, xf1, xf2, xf3, xf4⟩ := Blk.fair N1
  obtain ⟨n, hn⟩ : ∃ n, F.length = n := ⟨_, rfl⟩
  have HL : Hd (F.length = n) := ⟨hn⟩
  have HN : Hd (Below w.heap.size w w2 ∧ Blk w2 w.heap.size 25 (faA r g nn o (.slice a n c)) ∧ Blk w2 (w.heap.size + 1) 38 (lnA s (.slice a1 L.length c1)) ∧ Blk w2 (w.heap.size + 1 + 1) 25 (faA 0 0 0 0 (.slice none 0 0)) ∧ OwnT w B0 (.slice a1 L.length c1) L) := ⟨B, by rw [← hn]; exact N1, N2, N3, hL⟩
  rw [hn] at hlen hk hw2 x4 CP ⊢
  clear hn N1 N2 N3 B h hf hL
  generalize L.length = m at *
  obtain ⟨A, hA⟩ : ∃ A, A = w.heap.size := ⟨_, rfl⟩
  have HA : Hd (A = w.heap.size) := ⟨hA⟩
  go_enter Try.func16, Try.ntmps16
  go_upto_region 1 with fail
  rw [← hw2]
  clear hw2
  rw [← hA] at HN x0 x1 x2 x3 x4 xf0 xf1 xf2 xf3 xf4 hB0 ⊢
  clear hA
  have h2A : A + 3 ≤ w2.heap.size := by have := HN.out.2.2.2.1.lt; omega
  go_wp2_with fail
  go_at_call 17
  refine CP.mono ?_
  rintro e w3 ⟨⟨v3, rfl, v, rfl, o3⟩, b3⟩
  have NA : Blk w3 A 25 (faA r g nn o (.slice a n c)) := HN.out.2.1.kept (Kept.of_below b3 (fun _ => False)) id
  have NL : Blk w3 (A + 1) 38 (lnA s (.slice a1 m c1)) := HN.out.2.2.1.kept (Kept.of_below b3 (fun _ => False)) id
  have NR : Blk w3 (A + 1 + 1) 25 (faA 0 0 0 0 (.slice none 0 0)) := HN.out.2.2.2.1.kept (Kept.of_below b3 (fun _ => False)) id
  have hs3 := b3.size
  clear x0 x1 x2 x3 x4 xf0 xf1 xf2 xf3 xf4 CP
  obtain ⟨a9, c9, e9, -⟩ := o3.read
  rw [HL.out] at e9
  obtain ⟨⟨x0, x1, x2, x3, x4⟩, xf0, xf1, xf2, xf3, xf4⟩ := NA.fair
  subst e9
  obtain ⟨q1, k1⟩ := fair_set NA r g nn o (.slice a9 n c9)
  have b4 : Below A w (((((w3.setCell ⟨A, 0, none⟩ (.int .u64 r)).setCell ⟨A, 1, none⟩ (.int .i64 g)).setCell ⟨A, 2, none⟩ (.int .i64 nn)).setCell ⟨A, 3, none⟩ (.int .i64 o)).setCell ⟨A, 4, none⟩ (.slice a9 n c9)) :=
    (HN.out.1.trans (b3.mono (by omega))).trans (k1.below (B := A) (by omega) (fun j e => by omega))
  have o4 := (o3.kept k1 (fun j hj e => by omega)).low (show B0 ≤ w2.heap.size by omega)
  have NL4 := NL.kept k1 (by omega)
  have NR4 := NR.kept k1 (by omega)
  have OL4 : OwnT _ B0 (.slice a1 m c1) L := HN.out.2.2.2.2.kept (Kept.of_below (by rw [← HA.out]; exact b4) (fun _ => False)) (fun _ _ h => h)
  obtain ⟨q, cap, x, y, e5, hq0, hq, ⟨y0, y1, yf0, yf1⟩, o5, k5⟩ := o4.put (k := k) (by rw [HL.out]; exact hk) ⟨s, L⟩ OL4
  rw [HL.out] at e5
  obtain ⟨rfl, rfl⟩ : a9 = some ⟨q, 0, none⟩ ∧ c9 = cap := by injection e5 with z1 z2 z3; exact ⟨z1, z3⟩
  have hqq : w2.heap.size ≤ q := (o3.lt q rfl).1
  obtain ⟨⟨z0, z1, z2, z3, z4⟩, -⟩ := q1.fair
  obtain ⟨⟨l0, l1⟩, -⟩ := NL4.lane
  have q1' := q1.kept k5 (by omega)
  have NR5 := NR4.kept k5 (by omega)
  obtain ⟨q6, k6⟩ := fair_set NR5 r g nn o (.slice (some ⟨q, 0, none⟩) n c9)
  obtain ⟨⟨t0, t1, t2, t3, t4⟩, -⟩ := q1'.fair
  obtain ⟨⟨r0, r1, r2, r3, r4⟩, rf0, rf1, rf2, rf3, rf4⟩ := NR5.fair
  have HE : Hd (_ ∧ _ ∧ _) := ⟨q6, o5.other NR5 k6, b4.trans ((k5.below (B := A) (by have := k1.size; omega) (fun j e => by omega)).trans (k6.below (B := A) (by have := k5.size; have := k1.size; omega) (fun j e => by omega)))⟩
  clear b4 NA NL NR NL4 NR4 OL4 o4 o3 o5 k1 k5 k6 q1 q1' q6 NR5 HN
  go_wp2_with fail
  refine bodyPost_ret (resFa44 _ _ _ rfl HE.out.1) rfl ?_
  rw [← HA.out]
  exact ⟨⟨_, rfl, _, rfl, HE.out.2.1⟩, HE.out.2.2⟩
end Go.Proofs.Ytemmkkcfjhmomab
