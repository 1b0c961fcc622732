/-
  'Same' of the reference at two configurations that are only read, where both are the same. Condition: they lie in memory.
-/
import Derived.Test.YtendblngcbknpaaPrE
import Derived.BigQuiet
import Derived.Deep.RegionHeld
namespace Go.Proofs.Ytendblngcbknpaa
open Go.RowKit

theorem below_drew (w : World) (n : Nat) : Below w.heap.size w (w.drewN n) := ⟨rfl, rfl, rfl, Nat.le_refl _, fun _ _ => rfl⟩

theorem sameR_q (a b : Option Addr) (c1 c2 : Nat) (L : List ByteArray) (w : World) (h1 : RowL w a L) (h2 : RowL w b L) (hn : L.length ≤ 9223372036854775807) :
    Calls Try.prog 31 #[.slice a L.length c1, .slice b L.length c2] w fun e w' => e = .returned (.bool true) ∧ ∃ m, w' = w.drewN m := by
  obtain ⟨n, hL⟩ : ∃ n, L.length = n := ⟨_, rfl⟩
  rw [hL] at hn ⊢
  have g1 : 0 < n → ∃ b off, a = some ⟨b, off, none⟩ ∧ b < w.heap.size ∧ ∀ k, k < n → w.cell? ⟨b, off + k, none⟩ = some (.string (gt L k)) := by rw [← hL]; exact h1
  have g2 : 0 < n → ∃ c off, b = some ⟨c, off, none⟩ ∧ c < w.heap.size ∧ ∀ k, k < n → w.cell? ⟨c, off + k, none⟩ = some (.string (gt L k)) := by rw [← hL]; exact h2
  clear h1 h2 hL
  go_enter Try.func31, Try.ntmps31
  go_wp2
  go_loopw [5] (fun i wr => ∃ k m : Nat, k ≤ n ∧ i = .int .i64 k ∧ wr = w.drewN m) (fun i _ => n - (intOf i).toNat)
  case atStart => exact ⟨0, 0, Nat.zero_le _, rfl, rfl⟩
  case round =>
    obtain ⟨k, m, hk, rfl, rfl⟩ := hrel
    by_cases hlt : k < n
    · obtain ⟨b1, o1, rfl, hb1, hc1⟩ := g1 (by omega)
      obtain ⟨b2, o2, rfl, hb2, hc2⟩ := g2 (by omega)
      have d1 := hc1 k hlt
      have d2 := hc2 k hlt
      have HK : Hd (k < n) := ⟨hlt⟩
      clear g1 g2 hc1 hc2
      generalize gt L k = x at *
      go_wp2
      go_quiet (fail)
      go_wp2
      go_roundw
      case rel => exact ⟨k + 1, _, HK.out, by go_num, rfl⟩
      case measure => have := HK.out; simp [intOf]; omega
    · obtain rfl : k = n := by omega
      clear g1 g2
      go_wp2
      go_ret
      exact ⟨rfl, m, rfl⟩

theorem lsr_q {w : World} {v v' : Value} {L : List ByteArray} (h : LsR w v L) (h' : LsR w v' L) (m : Nat) :
    Calls Try.prog 31 #[v, v'] (w.drewN m) fun e w' => e = .returned (.bool true) ∧ ∃ k, w' = (w.drewN m).drewN k := by
  obtain ⟨a, c, rfl, hr, -, hl, -⟩ := h
  obtain ⟨a', c', rfl, hr', -, -, -⟩ := h'
  exact sameR_q a a' c c' L (w.drewN m) (fun hn => hr hn) (fun hn => hr' hn) hl
theorem lsr_q2 {w : World} {v v' : Value} {L : List ByteArray} (h : LsR w v L) (h' : LsR w v' L) (m q : Nat) :
    Calls Try.prog 31 #[v, v'] ((w.drewN m).drewN q) fun e w' => e = .returned (.bool true) ∧ ∃ k, w' = ((w.drewN m).drewN q).drewN k := by
  rw [World.drewN_drewN]
  exact lsr_q h h' _

set_option maxRecDepth 20000 in
set_option maxHeartbeats 4000000 in
theorem samerR {w : World} {v v' : Value} {rs : List Rl} (h : RlR w v rs) (h' : RlR w v' rs) :
    Calls Try.prog 26 #[v, v'] w fun e w' => e = .returned (.bool true) ∧ ∃ m, w' = w.drewN m := by
  obtain ⟨a, c, rfl, hm, R⟩ := h
  obtain ⟨a', c', rfl, -, R'⟩ := h'
  obtain ⟨n, hn⟩ : ∃ n, n = rs.length := ⟨_, rfl⟩
  rw [← hn] at hm ⊢
  have hn9 : n ≤ 9223372036854775807 := hm
  have HN : Hd (n = rs.length) := ⟨hn⟩
  have HR : Hd _ := ⟨R⟩
  have HR' : Hd _ := ⟨R'⟩
  clear R R' hn hm
  go_enter Try.func26, Try.ntmps26
  go_wp2_with fail
  go_loopw [5] (fun i wr => ∃ k m : Nat, k ≤ n ∧ i = .int .i64 k ∧ wr = w.drewN m) (fun i _ => n - (intOf i).toNat)
  case atStart => exact ⟨0, 0, Nat.zero_le _, rfl, rfl⟩
  case round =>
    obtain ⟨k, m, hk, rfl, rfl⟩ := hrel
    by_cases hlt : k < n
    · have hkr : k < rs.length := by rw [← HN.out]; exact hlt
      obtain ⟨g, o1, rfl, hg, C⟩ := HR.out (by omega)
      obtain ⟨g', o2, rfl, hg', C'⟩ := HR'.out (by omega)
      obtain ⟨v0, v1, v2, v3, v4, ⟨x0, x1, x2, x3, x4⟩, l0, l1, l2, l3, l4⟩ := C k hkr
      obtain ⟨u0, u1, u2, u3, u4, ⟨y0, y1, y2, y3, y4⟩, m0, m1, m2, m3, m4⟩ := C' k hkr
      obtain ⟨W, hW⟩ : ∃ W, W = w.drewN m := ⟨_, rfl⟩
      replace x0 : W.cell? ⟨g, o1 + k * 5, none⟩ = some v0 := by rw [hW]; exact x0
      replace x1 : W.cell? ⟨g, o1 + k * 5 + 1, none⟩ = some v1 := by rw [hW]; exact x1
      replace x2 : W.cell? ⟨g, o1 + k * 5 + 2, none⟩ = some v2 := by rw [hW]; exact x2
      replace x3 : W.cell? ⟨g, o1 + k * 5 + 3, none⟩ = some v3 := by rw [hW]; exact x3
      replace x4 : W.cell? ⟨g, o1 + k * 5 + 4, none⟩ = some v4 := by rw [hW]; exact x4
      replace y0 : W.cell? ⟨g', o2 + k * 5, none⟩ = some u0 := by rw [hW]; exact y0
      replace y1 : W.cell? ⟨g', o2 + k * 5 + 1, none⟩ = some u1 := by rw [hW]; exact y1
      replace y2 : W.cell? ⟨g', o2 + k * 5 + 2, none⟩ = some u2 := by rw [hW]; exact y2
      replace y3 : W.cell? ⟨g', o2 + k * 5 + 3, none⟩ = some u3 := by rw [hW]; exact y3
      replace y4 : W.cell? ⟨g', o2 + k * 5 + 4, none⟩ = some u4 := by rw [hW]; exact y4
      have S0 : ∀ q, Calls Try.prog 31 #[v0, u0] (W.drewN q) fun e w' => e = .returned (.bool true) ∧ ∃ k, w' = (W.drewN q).drewN k := by rw [hW]; exact lsr_q2 l0 m0 m
      have S1 : ∀ q, Calls Try.prog 31 #[v1, u1] (W.drewN q) fun e w' => e = .returned (.bool true) ∧ ∃ k, w' = (W.drewN q).drewN k := by rw [hW]; exact lsr_q2 l1 m1 m
      have S2 : ∀ q, Calls Try.prog 31 #[v2, u2] (W.drewN q) fun e w' => e = .returned (.bool true) ∧ ∃ k, w' = (W.drewN q).drewN k := by rw [hW]; exact lsr_q2 l2 m2 m
      have S3 : ∀ q, Calls Try.prog 31 #[v3, u3] (W.drewN q) fun e w' => e = .returned (.bool true) ∧ ∃ k, w' = (W.drewN q).drewN k := by rw [hW]; exact lsr_q2 l3 m3 m
      have S4 : ∀ q, Calls Try.prog 31 #[v4, u4] (W.drewN q) fun e w' => e = .returned (.bool true) ∧ ∃ k, w' = (W.drewN q).drewN k := by rw [hW]; exact lsr_q2 l4 m4 m
      have HK : Hd (k < n) := ⟨hlt⟩
      have HT : Hd _ := ⟨And.intro S0 (And.intro S1 (And.intro S2 (And.intro S3 S4)))⟩
      have HW : Hd (W = w.drewN m) := ⟨hW⟩
      rw [← hW]
      clear C C' l0 l1 l2 l3 l4 m0 m1 m2 m3 m4 hkr HR HR' S0 S1 S2 S3 S4 hW
      go_wp2_with fail
      go_quiet (first
        | (go_at_call 31; with_reducible exact Calls.quiet_of (HT.out.1 _))
        | (go_at_call 31; with_reducible exact Calls.quiet_of (HT.out.2.1 _))
        | (go_at_call 31; with_reducible exact Calls.quiet_of (HT.out.2.2.1 _))
        | (go_at_call 31; with_reducible exact Calls.quiet_of (HT.out.2.2.2.1 _))
        | (go_at_call 31; with_reducible exact Calls.quiet_of (HT.out.2.2.2.2 _)))
      go_wp2
      go_roundw
      case rel => exact ⟨k + 1, _, HK.out, by go_num, by rw [HW.out, World.drewN_drewN]⟩
      case measure => have := HK.out; simp [intOf]; omega
    · obtain rfl : k = n := by omega
      clear HR HR'
      go_wp2
      go_ret
      exact ⟨rfl, m, rfl⟩

/-- The two configurations in the course of the comparison. -/
structure TwoR (w wr : World) (A1 A2 : Nat) (x0 x1 x2 x3 : Int) (a1 a2 s1 s2 : Option Addr) (c1 c2 d1 d2 : Nat) (L : List Lv) (S : List Sc) (V1 V2 : List Value) : Prop where
  bel : Below w.heap.size w wr
  b1 : Blk wr A1 32 #[.int .i64 x0, .int .i64 x1, .int .i64 x2, .int .i64 x3, .slice a1 L.length c1, .slice s1 S.length d1]
  b2 : Blk wr A2 32 #[.int .i64 x0, .int .i64 x1, .int .i64 x2, .int .i64 x3, .slice a2 L.length c2, .slice s2 S.length d2]
  l1 : LvR wr a1 L
  l2 : LvR wr a2 L
  o1 : ScR wr s1 S V1
  o2 : ScR wr s2 S V2
  r1 : ∀ k (h : k < S.length) (h' : k < V1.length), RlR wr V1[k] S[k].rules
  r2 : ∀ k (h : k < S.length) (h' : k < V2.length), RlR wr V2[k] S[k].rules
theorem TwoR.grown {w wr w' : World} {A1 A2 : Nat} {x0 x1 x2 x3 : Int} {a1 a2 s1 s2 : Option Addr} {c1 c2 d1 d2 : Nat} {L : List Lv} {S : List Sc} {V1 V2 : List Value} (h : TwoR w wr A1 A2 x0 x1 x2 x3 a1 a2 s1 s2 c1 c2 d1 d2 L S V1 V2) (b : Below wr.heap.size wr w') : TwoR w w' A1 A2 x0 x1 x2 x3 a1 a2 s1 s2 c1 c2 d1 d2 L S V1 V2 := by
  have k : Kept (fun _ => False) wr w' := Kept.of_below b _
  exact ⟨h.bel.trans (b.mono h.bel.size), h.b1.kept k id, h.b2.kept k id, h.l1.carry b, h.l2.carry b, h.o1.carry b, h.o2.carry b, fun k h1 h2 => (h.r1 k h1 h2).carry b, fun k h1 h2 => (h.r2 k h1 h2).carry b⟩

set_option maxRecDepth 20000 in
set_option maxHeartbeats 8000000 in
theorem same_cfr {w : World} {v v' : Value} {C : Cf} (h : CfR w v C) (h' : CfR w v' C) :
    Calls Try.prog 18 #[v, v'] w fun e w' => e = .returned (.bool true) ∧ Below w.heap.size w w' := by
  obtain ⟨nl, ns⟩ := h.sz
  obtain ⟨a1, c1, s1, d1, V1, rfl, -, -, hL, hV1, hS, hR⟩ := h.ex
  obtain ⟨a2, c2, s2, d2, V2, rfl, -, -, hL', hV2, hS', hR'⟩ := h'.ex
  clear h h'
  obtain ⟨x0, x1, x2, x3, L, S⟩ := C
  simp only at hL hL' hS hS' hR hR' hV1 hV2 nl ns ⊢
  have HV : Hd (V1.length = S.length ∧ V2.length = S.length) := ⟨hV1, hV2⟩
  obtain ⟨w0, hw0⟩ : ∃ w0, w0 = (w.alloc (.cells #[.int .i64 x0, .int .i64 x1, .int .i64 x2, .int .i64 x3, .slice a1 L.length c1, .slice s1 S.length d1] 32)).alloc (.cells #[.int .i64 x0, .int .i64 x1, .int .i64 x2, .int .i64 x3, .slice a2 L.length c2, .slice s2 S.length d2] 32) := ⟨_, rfl⟩
  have T0 : TwoR w w0 w.heap.size (w.heap.size + 1) x0 x1 x2 x3 a1 a2 s1 s2 c1 c2 d1 d2 L S V1 V2 := by
    have b0 : Below w.heap.size w w0 := by rw [hw0]; exact ((Below.refl _ _).alloc (Nat.le_refl _) _).alloc (by simp) _
    refine ⟨b0, ?_, ?_, hL.carry b0, hL'.carry b0, hS.carry b0, hS'.carry b0, fun k h1 h2 => (hR k h1 h2).carry b0, fun k h1 h2 => (hR' k h1 h2).carry b0⟩
    · rw [hw0]; exact (Blk.new w 32 _).kept (Kept.of_below ((Below.refl _ _).alloc (Nat.le_refl _) _) (fun _ => False)) id
    · have := Blk.new (w.alloc (.cells #[.int .i64 x0, .int .i64 x1, .int .i64 x2, .int .i64 x3, .slice a1 L.length c1, .slice s1 S.length d1] 32)) 32 #[.int .i64 x0, .int .i64 x1, .int .i64 x2, .int .i64 x3, .slice a2 L.length c2, .slice s2 S.length d2]
      rw [hw0]; simpa using this
  have HT : Hd _ := ⟨T0⟩
  obtain ⟨n, hn⟩ : ∃ n, n = L.length := ⟨_, rfl⟩
  obtain ⟨m, hm⟩ : ∃ m, m = S.length := ⟨_, rfl⟩
  rw [← hn] at nl
  rw [← hm] at ns
  have HN : Hd (n = L.length ∧ m = S.length) := ⟨hn, hm⟩
  rw [← hn, ← hm]
  rw [← hn, ← hm] at hw0
  clear T0 hL hL' hS hS' hR hR' hV1 hV2 hn hm
  go_enter Try.func18, Try.ntmps18
  go_wp2_with fail
  rw [← hw0]
  clear hw0
  generalize w.heap.size + 1 = A2 at *
  obtain ⟨A1, hA1⟩ : ∃ A1, A1 = w.heap.size := ⟨_, rfl⟩
  have HT' : Hd (TwoR w w0 A1 A2 x0 x1 x2 x3 a1 a2 s1 s2 c1 c2 d1 d2 L S V1 V2) := ⟨by rw [hA1]; exact HT.out⟩
  rw [← hA1]
  clear HT hA1
  go_loopw [5] (fun i wr => ∃ k : Nat, k ≤ n ∧ i = .int .i64 k ∧ Hd (TwoR w wr A1 A2 x0 x1 x2 x3 a1 a2 s1 s2 c1 c2 d1 d2 L S V1 V2)) (fun i _ => n - (intOf i).toNat)
  case atStart => exact ⟨0, Nat.zero_le _, rfl, HT'⟩
  case round =>
    obtain ⟨k, hk, rfl, hT⟩ := hrel
    clear HT'
    have e1 : wr.cell? ⟨A1, 4, none⟩ = some (.slice a1 n c1) := by rw [HN.out.1]; exact hT.out.b1.cellv 4 rfl
    have e2 : wr.cell? ⟨A2, 4, none⟩ = some (.slice a2 n c2) := by rw [HN.out.1]; exact hT.out.b2.cellv 4 rfl
    by_cases hlt : k < n
    · have hkL : k < L.length := by rw [← HN.out.1]; exact hlt
      obtain ⟨g1, f1, rfl, hg1, C1⟩ := hT.out.l1 (by omega)
      obtain ⟨g2, f2, rfl, hg2, C2⟩ := hT.out.l2 (by omega)
      have x0' : wr.cell? ⟨g1, f1 + k * 10, none⟩ = some (.string L[k].name) := C1 k hkL 0 (by decide)
      have x1' : wr.cell? ⟨g1, f1 + k * 10 + 1, none⟩ = some (.int .i64 L[k].kind) := C1 k hkL 1 (by decide)
      have x2' : wr.cell? ⟨g1, f1 + k * 10 + 2, none⟩ = some (.int .i64 L[k].shares) := C1 k hkL 2 (by decide)
      have x3' : wr.cell? ⟨g1, f1 + k * 10 + 3, none⟩ = some (.int .i64 L[k].lend) := C1 k hkL 3 (by decide)
      have x4' : wr.cell? ⟨g1, f1 + k * 10 + 4, none⟩ = some (.int .i64 L[k].borrow) := C1 k hkL 4 (by decide)
      have x5' : wr.cell? ⟨g1, f1 + k * 10 + 5, none⟩ = some (.int .i64 L[k].queues) := C1 k hkL 5 (by decide)
      have x6' : wr.cell? ⟨g1, f1 + k * 10 + 6, none⟩ = some (.int .i64 L[k].hand) := C1 k hkL 6 (by decide)
      have x7' : wr.cell? ⟨g1, f1 + k * 10 + 7, none⟩ = some (.int .i64 L[k].length) := C1 k hkL 7 (by decide)
      have x8' : wr.cell? ⟨g1, f1 + k * 10 + 8, none⟩ = some (.int .i64 L[k].wait) := C1 k hkL 8 (by decide)
      have x9' : wr.cell? ⟨g1, f1 + k * 10 + 9, none⟩ = some (.int .i64 L[k].guess) := C1 k hkL 9 (by decide)
      have y0' : wr.cell? ⟨g2, f2 + k * 10, none⟩ = some (.string L[k].name) := C2 k hkL 0 (by decide)
      have y1' : wr.cell? ⟨g2, f2 + k * 10 + 1, none⟩ = some (.int .i64 L[k].kind) := C2 k hkL 1 (by decide)
      have y2' : wr.cell? ⟨g2, f2 + k * 10 + 2, none⟩ = some (.int .i64 L[k].shares) := C2 k hkL 2 (by decide)
      have y3' : wr.cell? ⟨g2, f2 + k * 10 + 3, none⟩ = some (.int .i64 L[k].lend) := C2 k hkL 3 (by decide)
      have y4' : wr.cell? ⟨g2, f2 + k * 10 + 4, none⟩ = some (.int .i64 L[k].borrow) := C2 k hkL 4 (by decide)
      have y5' : wr.cell? ⟨g2, f2 + k * 10 + 5, none⟩ = some (.int .i64 L[k].queues) := C2 k hkL 5 (by decide)
      have y6' : wr.cell? ⟨g2, f2 + k * 10 + 6, none⟩ = some (.int .i64 L[k].hand) := C2 k hkL 6 (by decide)
      have y7' : wr.cell? ⟨g2, f2 + k * 10 + 7, none⟩ = some (.int .i64 L[k].length) := C2 k hkL 7 (by decide)
      have y8' : wr.cell? ⟨g2, f2 + k * 10 + 8, none⟩ = some (.int .i64 L[k].wait) := C2 k hkL 8 (by decide)
      have y9' : wr.cell? ⟨g2, f2 + k * 10 + 9, none⟩ = some (.int .i64 L[k].guess) := C2 k hkL 9 (by decide)
      have HK : Hd (k < n) := ⟨hlt⟩
      clear C1 C2
      generalize L[k] = l at *
      clear hkL
      obtain ⟨q0, q1, q2, q3, q4, q5, q6, q7, q8, q9⟩ := l
      go_wp2_with fail
      go_big_quiet (fail)
      go_wp2
      go_roundw
      case rel => exact ⟨k + 1, HK.out, by go_num, ⟨hT.out.grown (below_drew _ _)⟩⟩
      case measure => have := HK.out; simp [intOf]; omega
    · obtain rfl : k = n := by omega
      go_wp2_with fail
      go_loopw [6] (fun i wr => ∃ j : Nat, j ≤ m ∧ i = .int .i64 j ∧ Hd (TwoR w wr A1 A2 x0 x1 x2 x3 a1 a2 s1 s2 c1 c2 d1 d2 L S V1 V2)) (fun i _ => m - (intOf i).toNat)
      case atStart => exact ⟨0, Nat.zero_le _, rfl, hT⟩
      case round =>
        obtain ⟨j, hj, rfl, hU⟩ := hrel
        clear hT e1 e2
        have f1 : wr.cell? ⟨A1, 5, none⟩ = some (.slice s1 m d1) := by rw [HN.out.2]; exact hU.out.b1.cellv 5 rfl
        have f2 : wr.cell? ⟨A2, 5, none⟩ = some (.slice s2 m d2) := by rw [HN.out.2]; exact hU.out.b2.cellv 5 rfl
        by_cases hlt : j < m
        · have hjS : j < S.length := by rw [← HN.out.2]; exact hlt
          have hj1 : j < V1.length := by rw [HV.out.1]; exact hjS
          have hj2 : j < V2.length := by rw [HV.out.2]; exact hjS
          obtain ⟨g1, p1, rfl, hg1, C1⟩ := hU.out.o1 (by omega)
          obtain ⟨g2, p2, rfl, hg2, C2⟩ := hU.out.o2 (by omega)
          have R1 := hU.out.r1 j hjS hj1
          have R2 := hU.out.r2 j hjS hj2
          obtain ⟨ar, cr, er⟩ : ∃ a c, V1[j] = .slice a S[j].rules.length c := by obtain ⟨a, c, e, _⟩ := R1; exact ⟨a, c, e⟩
          obtain ⟨ar', cr', er'⟩ : ∃ a c, V2[j] = .slice a S[j].rules.length c := by obtain ⟨a, c, e, _⟩ := R2; exact ⟨a, c, e⟩
          rw [er] at R1
          rw [er'] at R2
          have x0' : wr.cell? ⟨g1, p1 + j * 5, none⟩ = some (.string S[j].name) := C1 j hjS hj1 0 (by decide)
          have x1' : wr.cell? ⟨g1, p1 + j * 5 + 1, none⟩ = some (.string S[j].level) := C1 j hjS hj1 1 (by decide)
          have x2' : wr.cell? ⟨g1, p1 + j * 5 + 2, none⟩ = some (.int .i64 S[j].rank) := C1 j hjS hj1 2 (by decide)
          have x3' : wr.cell? ⟨g1, p1 + j * 5 + 3, none⟩ = some (.int .i64 S[j].way) := C1 j hjS hj1 3 (by decide)
          have x4' : wr.cell? ⟨g1, p1 + j * 5 + 4, none⟩ = some (.slice ar S[j].rules.length cr) := (C1 j hjS hj1 4 (by decide)).trans (congrArg some er)
          have y0' : wr.cell? ⟨g2, p2 + j * 5, none⟩ = some (.string S[j].name) := C2 j hjS hj2 0 (by decide)
          have y1' : wr.cell? ⟨g2, p2 + j * 5 + 1, none⟩ = some (.string S[j].level) := C2 j hjS hj2 1 (by decide)
          have y2' : wr.cell? ⟨g2, p2 + j * 5 + 2, none⟩ = some (.int .i64 S[j].rank) := C2 j hjS hj2 2 (by decide)
          have y3' : wr.cell? ⟨g2, p2 + j * 5 + 3, none⟩ = some (.int .i64 S[j].way) := C2 j hjS hj2 3 (by decide)
          have y4' : wr.cell? ⟨g2, p2 + j * 5 + 4, none⟩ = some (.slice ar' S[j].rules.length cr') := (C2 j hjS hj2 4 (by decide)).trans (congrArg some er')
          have SR : Hd (∀ W, Below wr.heap.size wr W → Calls Try.prog 26 #[.slice ar S[j].rules.length cr, .slice ar' S[j].rules.length cr'] W fun e w' => e = .returned (.bool true) ∧ ∃ q, w' = W.drewN q) := ⟨fun W b => by
            exact samerR (R1.carry b) (R2.carry b)⟩
          have hA1 := hU.out.b1.lt
          have hA2 := hU.out.b2.lt
          have HJ : Hd (j < m) := ⟨hlt⟩
          have HU : Hd (∀ W, Below wr.heap.size wr W → TwoR w W A1 A2 x0 x1 x2 x3 a1 a2 (some ⟨g1, p1, none⟩) (some ⟨g2, p2, none⟩) c1 c2 d1 d2 L S V1 V2) := ⟨fun W b => hU.out.grown b⟩
          clear C1 C2 R1 R2 er er' hU
          generalize S[j] = s at *
          clear hjS hj1 hj2
          obtain ⟨q0, q1, q2, q3, q4⟩ := s
          simp only at SR x0' x1' x2' x3' x4' y0' y1' y2' y3' y4'
          generalize q4.length = nq4 at *
          have BX1 : Hd (Below wr.heap.size wr ((wr.alloc (.cells #[.string q0, .string q1, .int .i64 q2, .int .i64 q3, .slice ar nq4 cr] 24)).alloc (.cells #[.string q0, .string q1, .int .i64 q2, .int .i64 q3, .slice ar' nq4 cr'] 24)).drew) := ⟨(((Below.refl _ _).alloc (Nat.le_refl _) _).alloc (by simp) _).drew⟩
          have BX2 : Hd (Below wr.heap.size wr ((wr.alloc (.cells #[.string q0, .string q1, .int .i64 q2, .int .i64 q3, .slice ar' nq4 cr'] 24)).alloc (.cells #[.string q0, .string q1, .int .i64 q2, .int .i64 q3, .slice ar nq4 cr] 24)).drew) := ⟨(((Below.refl _ _).alloc (Nat.le_refl _) _).alloc (by simp) _).drew⟩
          have BY1 : Hd (∀ q, Below wr.heap.size wr (World.drewN _ q)) := ⟨fun q => BX1.out.trans ⟨rfl, rfl, rfl, Nat.le_refl _, fun _ _ => rfl⟩⟩
          have BY2 : Hd (∀ q, Below wr.heap.size wr (World.drewN _ q)) := ⟨fun q => BX2.out.trans ⟨rfl, rfl, rfl, Nat.le_refl _, fun _ _ => rfl⟩⟩
          go_wp2_with fail
          go_region_held (fun w' => (w'.cell? ⟨A1, 5, none⟩ = some (.slice (some ⟨g1, p1, none⟩) m d1) ∧ w'.cell? ⟨A2, 5, none⟩ = some (.slice (some ⟨g2, p2, none⟩) m d2)) ∧ (w'.cell? ⟨g1, p1 + j * 5, none⟩ = some (.string q0) ∧ w'.cell? ⟨g1, p1 + j * 5 + 1, none⟩ = some (.string q1) ∧ w'.cell? ⟨g1, p1 + j * 5 + 2, none⟩ = some (.int .i64 q2) ∧ w'.cell? ⟨g1, p1 + j * 5 + 3, none⟩ = some (.int .i64 q3) ∧ w'.cell? ⟨g1, p1 + j * 5 + 4, none⟩ = some (.slice ar nq4 cr)) ∧ (w'.cell? ⟨g2, p2 + j * 5, none⟩ = some (.string q0) ∧ w'.cell? ⟨g2, p2 + j * 5 + 1, none⟩ = some (.string q1) ∧ w'.cell? ⟨g2, p2 + j * 5 + 2, none⟩ = some (.int .i64 q2) ∧ w'.cell? ⟨g2, p2 + j * 5 + 3, none⟩ = some (.int .i64 q3) ∧ w'.cell? ⟨g2, p2 + j * 5 + 4, none⟩ = some (.slice ar' nq4 cr'))) (go_keep) (fail)
          all_goals
            go_wp2_with (go_at_call 26; refine (SR.out _ (by first | exact BX1.out | exact BX2.out)).mono ?_; rintro e w5 ⟨rfl, q, rfl⟩)
            go_roundw
            case rel => exact ⟨j + 1, HJ.out, by go_num, ⟨by first | exact HU.out _ (BY1.out _) | exact HU.out _ (BY2.out _)⟩⟩
            case measure => have := HJ.out; simp [intOf]; omega
        · obtain rfl : j = m := by omega
          have R : Hd (Below w.heap.size w wr) := ⟨hU.out.bel⟩
          clear hU
          go_wp2_with fail
          go_ret
          exact ⟨rfl, R.out⟩


end Go.Proofs.Ytendblngcbknpaa
