/-
  The walk of 'LaneOrder'. Conditions: the list lies in memory, the time is a word.
-/
import Derived.Test.YtbnjjckcnlfapaaLd
namespace Go.Proofs.Ytbnjjckcnlfapaa
open Go.RowKit

/-- Tickets do not lie where a lane does. -/
theorem SlR.lane {W W' : World} {g : Nat} {s : Int} {b : Option Addr} {n d : Nat} (k : Blk W g 25 (lnA s (.slice b n d))) (q : Kept (fun j => j = g) W W') {a : Option Addr} {c : Nat} {L : List Tk} (h : SlR W a c L) : SlR W' a c L := by
  refine h.keep q (fun b' off e hn hS => ?_)
  subst hS
  obtain ⟨b2, off2, e2, -, hc, -⟩ := h.2.2.at (len_pos hn)
  rw [e] at e2
  cases e2
  rw [Nat.zero_mul, Nat.add_zero, k.cell] at hc
  rcases off with _ | _ | off <;> simp [lnA] at hc
/-- A lane in a box that is written anew. -/
structure LX (w W : World) (A g : Nat) (s : Int) (X : List Tk) : Prop where
  ex : ∃ ax cx, Blk W g 25 (lnA s (.slice ax X.length cx)) ∧ SlR W ax cx X
  bel : Below A w W
  le : A ≤ g
theorem LX.put {w W W' : World} {A g : Nat} {s s' : Int} {X X' : List Tk} (h : LX w W A g s X) (b : Below W.heap.size W W') {a' : Option Addr} {c' : Nat} (l : SlR W' a' c' X') : LX w ((W'.setCell ⟨g, 0, none⟩ (.int .u64 s')).setCell ⟨g, 1, none⟩ (.slice a' X'.length c')) A g s' X' := by
  obtain ⟨ax, cx, k, r⟩ := h.ex
  have k' := Blk.kept k (Kept.of_below b (fun _ => False)) id
  obtain ⟨q1, q2⟩ := lane_set k' s' (.slice a' X'.length c')
  have hk := k.lt
  have hle := h.le
  exact ⟨⟨a', c', q1, l.lane k' q2⟩, (h.bel.trans (b.mono (by omega))).trans (q2.below (by have := b.size; omega) (fun j e => by omega)), h.le⟩
/-- The time that the first k take. -/
def sumT (s g : Int) (M : List Tk) : Nat → Int
  | 0 => s
  | k + 1 => sumT s g M k + min (max (gt M k).wid 1) 16 * min (max g 1) 1000
theorem sumT_lo {s g : Int} {M : List Tk} (h : 0 ≤ s) : ∀ k, 0 ≤ sumT s g M k
  | 0 => h
  | k + 1 => by have := sumT_lo (g := g) (M := M) h k; have := wrk_lo (gt M k).wid g; unfold wrk clW clG at this; simp only [sumT]; omega
theorem sumT_hi {s g : Int} {M : List Tk} : ∀ k : Nat, sumT s g M k ≤ s + 16000 * (k : Int)
  | 0 => by simp [sumT]
  | k + 1 => by have := sumT_hi (s := s) (g := g) (M := M) k; have := wrk_hi (gt M k).wid g; unfold wrk clW clG at this; simp only [sumT]; omega
theorem tkS_sum {s g : Int} {M : List Tk} {k : Nat} (hk : k < M.length) (h0 : 0 ≤ s) (h1 : s + 16000 * (k : Int) + 16000 ≤ 4611686018427387904) : tkS (sumT s g M k) (M.drop k) g = sumT s g M (k + 1) := by
  have hne : M.drop k ≠ [] := by
    intro e
    have : (M.drop k).length = 0 := by rw [e]; rfl
    simp at this; omega
  have l1 := sumT_lo (g := g) (M := M) h0 k
  have l2 := sumT_hi (s := s) (g := g) (M := M) k
  have w1 := wrk_lo (gt M k).wid g
  have w2 := wrk_hi (gt M k).wid g
  rw [tkS_some hne, finI_some hne, gt_drop _ _ _ (by omega), Nat.add_zero]
  show addI _ _ = sumT s g M k + wrk (gt M k).wid g
  unfold addI capI
  rw [if_pos (by omega : sumT s g M k ≤ 4611686018427387904), if_pos (by omega : wrk (gt M k).wid g ≤ 4611686018427387904), if_pos (by omega)]
theorem jnS_zero {s : Int} {L : List Tk} (h : 0 ≤ s) : jnS s 0 L = s := by unfold jnS; split <;> omega
theorem take_snoc {M : List Tk} {k : Nat} (h : k < M.length) : M.take k ++ [gt M k] = M.take (k + 1) := by
  rw [List.take_add_one, gt_get h]; rfl

set_option maxRecDepth 20000 in
set_option maxHeartbeats 4000000 in
theorem order_law (s : Int) (a : Option Addr) (c : Nat) (L : List Tk) (g : Int) (w : World) (hs : Word s) (h : SlR w a c L) :
    Calls Try.prog 5 #[.int .u64 s, .slice a L.length c, .int .i64 g] w fun e w' => e = .returned (.bool true) ∧ Below w.heap.size w w' := by
  have I := awake_ok w
  by_cases t1 : (2305843009213693952 : Int) < s
  · obtain ⟨n, hn⟩ : ∃ n, n = L.length := ⟨_, rfl⟩
    rw [← hn]
    clear hn h
    go_enter Try.func5, Try.ntmps5
    go_wp2_with (go_at_call 8; refine I.mono ?_; rintro e w3 ⟨rfl, b3⟩)
    go_ret
    exact ⟨rfl, b3⟩
  have hcap := h.1
  have HS : Hd (SlR w a c (L.take 100)) := ⟨h.take 100⟩
  have HM : (L.take 100).length = min L.length 100 := by simp; omega
  have hadd : (if c = 0 then a else a.map (·.add 0)) = a := by
    split
    · rfl
    · cases a with
      | none => rfl
      | some x => simp [Addr.add]
  obtain ⟨n, hn⟩ : ∃ n, n = L.length := ⟨_, rfl⟩
  rw [← hn] at HM hcap ⊢
  clear hn h
  generalize L.take 100 = M at *
  obtain ⟨K, hK⟩ : ∃ K, K = min n 100 := ⟨_, rfl⟩
  have hKn : min (n : Int) 100 = (K : Int) := by omega
  have hKc : K ≤ c := by omega
  have hK1 : K ≤ 100 := by omega
  rw [← hK] at HM
  have HK : Hd (M.length = K) := ⟨HM⟩
  clear HM hK hcap
  obtain ⟨s0, s1⟩ := id hs
  have JH : Hd (∀ W ax cx k, k < K → SlR W ax cx (M.take k) → Calls Try.prog 17 #[.agg #[.int .u64 s, .slice ax (M.take k).length cx], .int .u64 0, .agg #[.int .i64 (gt M k).id, .int .i64 (gt M k).wid, .int .i64 (gt M k).sts, .int .i64 (gt M k).sin, .int .i64 (gt M k).unt]] W fun e w' => (∃ v, e = .returned v ∧ LnV w' s (M.take (k + 1)) v) ∧ Below W.heap.size W w') := ⟨fun W ax cx k hk q => by
    have := join_ok s 0 ax cx (M.take k) (gt M k) W q (by simp; omega)
    rw [jnS_zero s0, take_snoc (by rw [HK.out]; exact hk)] at this
    exact this⟩
  have TH : Hd (∀ W ax cx k, k < K → SlR W ax cx (M.drop k) → Calls Try.prog 10 #[.agg #[.int .u64 (sumT s g M k), .slice ax (M.drop k).length cx], .int .i64 g] W fun e w' => (∃ v, e = .returned (.tuple #[v, .agg #[.int .i64 (gt M k).id, .int .i64 (gt M k).wid, .int .i64 (gt M k).sts, .int .i64 (gt M k).sin, .int .i64 (gt M k).unt], .bool true]) ∧ LnV w' (sumT s g M (k + 1)) (M.drop (k + 1)) v) ∧ Below W.heap.size W w') := ⟨fun W ax cx k hk q => by
    have l1 := sumT_lo (g := g) (M := M) s0 k
    have l2 := sumT_hi (s := s) (g := g) (M := M) k
    have := take_ok (sumT s g M k) ax cx (M.drop k) g W ⟨l1, by omega⟩ q (by have := HK.out; simp; omega)
    have hne : M.drop k ≠ [] := by
      intro e
      have : (M.drop k).length = 0 := by rw [e]; rfl
      have := HK.out
      simp at *; omega
    rw [tkS_sum (by rw [HK.out]; exact hk) s0 (by omega), hasI_some hne, gt_drop _ _ _ (by have := HK.out; omega), Nat.add_zero, List.tail_drop] at this
    exact this⟩
  have EH : Hd (∀ W ax cx, SlR W ax cx [] → (Calls Try.prog 10 #[.agg #[.int .u64 (sumT s g M K), .slice ax 0 cx], .int .i64 g] W fun e w' => (∃ v, e = .returned (.tuple #[v, .agg #[.int .i64 0, .int .i64 0, .int .i64 0, .int .i64 0, .int .i64 0], .bool false]) ∧ LnV w' (sumT s g M K) [] v) ∧ Below W.heap.size W w') ∧ (Calls Try.prog 22 #[.agg #[.int .u64 (sumT s g M K), .slice ax 0 cx]] W fun e w' => e = .returned (.int .i64 0) ∧ Below W.heap.size W w')) := ⟨fun W ax cx q => by
    have l1 := sumT_lo (g := g) (M := M) s0 K
    have l2 := sumT_hi (s := s) (g := g) (M := M) K
    exact ⟨take_ok (sumT s g M K) ax cx [] g W ⟨l1, by omega⟩ q (by simp), seats_ok (sumT s g M K) ax cx [] W q.2.2 (by simp)⟩⟩
  have SL : Hd (∀ k : Nat, k < K → 0 ≤ sumT s g M k ∧ sumT s g M k ≤ 4611686018427387904 ∧ sumT s g M (k + 1) = sumT s g M k + min (max (gt M k).wid 1) 16 * min (max g 1) 1000 ∧ 0 ≤ min (max (gt M k).wid 1) 16 * min (max g 1) 1000 ∧ min (max (gt M k).wid 1) 16 * min (max g 1) 1000 ≤ 16000) := ⟨fun k hk => by
    have l1 := sumT_lo (g := g) (M := M) s0 k
    have l2 := sumT_hi (s := s) (g := g) (M := M) k
    have w1 := wrk_lo (gt M k).wid g
    have w2 := wrk_hi (gt M k).wid g
    unfold wrk clW clG at w1 w2
    exact ⟨l1, by omega, rfl, by omega, w2⟩⟩
  go_enter Try.func5, Try.ntmps5
  go_upto_region 3 with (go_at_call 8; refine I.mono ?_; rintro e w3 ⟨rfl, b3⟩)
  obtain ⟨w4, hw4⟩ : ∃ w4, w4 = w3.alloc (.cells #[.int .u64 s, .slice none 0 0] 25) := ⟨_, rfl⟩
  have X4 : Hd (LX w w4 w.heap.size w3.heap.size s []) := ⟨⟨none, 0, by rw [hw4]; exact Blk.new _ _ _, Nat.le_refl _, fun _ => rfl, TkR.nil _ _⟩, by rw [hw4]; exact b3.alloc b3.size _, b3.size⟩
  clear b3 I
  go_upto_region 6 with fail
  rw [← hw4]
  clear hw4
  generalize w3.heap.size = g7 at *
  go_wp2_with fail
  clear hadd hKn hKc
  go_loopw [8] (fun i wr => ∃ k : Nat, k ≤ K ∧ i = .int .i64 k ∧ LX w wr w.heap.size g7 s (M.take k)) (fun i _ => K - (intOf i).toNat)
  case atStart => exact ⟨0, Nat.zero_le _, rfl, by rw [List.take_zero]; exact X4.out⟩
  case round =>
    obtain ⟨k, hk, rfl, x⟩ := hrel
    by_cases hlt : k < K
    · obtain ⟨ax, cx, n1, r1⟩ := x.ex
      obtain ⟨b, off, rfl, hb, -⟩ := HS.out.2.2.at (k := k) (by rw [HK.out]; exact hlt)
      have x' : LX w wr.drew w.heap.size g7 s (M.take k) := ⟨⟨ax, cx, n1, r1.carry (Below.refl _ _).drew⟩, x.bel.drew, x.le⟩
      obtain ⟨b', off', eb, -, d0, d1, d2, d3, d4⟩ := (HS.out.2.2.carry x'.bel).at (k := k) (by rw [HK.out]; exact hlt)
      cases eb
      have n1' : Blk wr.drew g7 25 (lnA s (.slice ax (M.take k).length cx)) := n1
      have J := JH.out wr.drew ax cx k hlt (r1.carry (Below.refl _ _).drew)
      have HX : Hd _ := ⟨x'⟩
      have hkI : (k : Int) < (K : Int) := by omega
      clear x x' n1 r1 hb
      generalize gt M k = z at *
      obtain ⟨z0, z1, z2, z3, z4⟩ := z
      simp only at d0 d1 d2 d3 d4 J
      obtain ⟨nx, hnx⟩ : ∃ nx, nx = (M.take k).length := ⟨_, rfl⟩
      rw [← hnx] at n1' J
      clear hnx
      go_upto_region 10 with fail
      refine region_tail 5 (by kernel_rfl) ?_
      simp only [List.take_succ_cons, List.take_zero, List.drop_succ_cons, List.drop_zero]
      generalize wr.drew = wd at *
      obtain ⟨⟨c0, c1⟩, -⟩ := n1'.lane
      clear n1'
      repeat still_step
      refine wpStill_nil ?_
      go_wp2_with fail
      go_at_call 17
      refine J.mono ?_
      rintro e w5 ⟨⟨v5, rfl, a5, c5, rfl, l5⟩, b5⟩
      have X5 := HX.out.put (s' := s) b5 l5
      obtain ⟨ax2, cx2, n2, -⟩ := HX.out.ex
      obtain ⟨-, f0, f1⟩ := (Blk.kept n2 (Kept.of_below b5 (fun _ => False)) id).lane
      obtain ⟨⟨e0, e1⟩, -⟩ := (Blk.kept n2 (Kept.of_below b5 (fun _ => False)) id).lane
      have R : Hd _ := ⟨X5⟩
      clear X5 n2 HX J l5 b5 c0 c1 d0 d1 d2 d3 d4
      generalize (M.take (k + 1)).length = nn at *
      go_wp2_with fail
      go_roundw
      case rel => exact ⟨k + 1, by omega, by go_num, R.out⟩
      case measure => simp [intOf]; omega
    · obtain rfl : k = K := by omega
      have x0 : LX w wr w.heap.size g7 (sumT s g M 0) (M.drop 0) := by
        have := x
        rw [List.take_of_length_le (by rw [HK.out]; exact Nat.le_refl _)] at this
        exact this
      have X0 : Hd _ := ⟨x0⟩
      clear x x0 X4 JH
      go_upto_region 11 with fail
      go_wp2_with fail
      go_loopw [10] (fun i wr => ∃ q : Nat, q ≤ k ∧ i = .int .i64 q ∧ LX w wr w.heap.size g7 (sumT s g M q) (M.drop q)) (fun i _ => k - (intOf i).toNat)
      case atStart => exact ⟨0, Nat.zero_le _, rfl, X0.out⟩
      case round =>
        obtain ⟨q, hq, rfl, x⟩ := hrel
        by_cases hlt : q < k
        · obtain ⟨ax, cx, n1, r1⟩ := x.ex
          have T := TH.out wr ax cx q hlt r1
          obtain ⟨l1, l2, l3, l4, l5⟩ := SL.out q hlt
          have HX : Hd _ := ⟨x⟩
          obtain ⟨⟨c0, c1⟩, -⟩ := n1.lane
          clear x n1 r1
          have HD : Hd ((M.drop (q + 1)).length = k - (q + 1)) := ⟨by have := HK.out; simp; omega⟩
          have HT : Hd (∀ W, Below w.heap.size w W → ∃ b off, a = some ⟨b, off, none⟩ ∧ W.cell? ⟨b, off + q * 5, none⟩ = some (.int .i64 (gt M q).id) ∧ W.cell? ⟨b, off + q * 5 + 1, none⟩ = some (.int .i64 (gt M q).wid) ∧ W.cell? ⟨b, off + q * 5 + 2, none⟩ = some (.int .i64 (gt M q).sts) ∧ W.cell? ⟨b, off + q * 5 + 3, none⟩ = some (.int .i64 (gt M q).sin) ∧ W.cell? ⟨b, off + q * 5 + 4, none⟩ = some (.int .i64 (gt M q).unt)) := ⟨fun W bb => by
            obtain ⟨b, off, e, -, y⟩ := (HS.out.2.2.carry bb).at (k := q) (by rw [HK.out]; exact hlt)
            exact ⟨b, off, e, y⟩⟩
          have HL3 : Hd (sumT s g M (q + 1) = sumT s g M q + min (max (gt M q).wid 1) 16 * min (max g 1) 1000) := ⟨l3⟩
          rw [l3] at T
          clear l3
          generalize gt M q = z at *
          obtain ⟨z0, z1, z2, z3, z4⟩ := z
          simp only at T HT l4 l5 HL3
          generalize (M.drop q).length = nx at *
          have HX' : Hd (LX w wr w.heap.size g7 (sumT s g M q) (M.drop q)) := HX
          generalize hsq : sumT s g M q = sq at *
          clear hsq
          go_upto_region 15 with fail
          go_wp2_with fail
          go_at_call 10
          refine T.mono ?_
          rintro e w5 ⟨⟨v5, rfl, a5, c5, rfl, r5⟩, b5⟩
          rw [HD.out]
          obtain ⟨m5, hm5⟩ : ∃ m5, m5 = k - (q + 1) := ⟨_, rfl⟩
          rw [← hm5] at HD ⊢
          have g4 : ((m5 : Int) != (k : Int) - 1 - (q : Int)) = false := by simp; omega
          clear hm5 T c0 c1
          obtain ⟨w6, hw6⟩ : ∃ w6, w6 = (w5.alloc (.cells #[.int .u64 (sq + min (max z1 1) 16 * min (max g 1) 1000), .slice a5 m5 c5] 25)).alloc (.cells #[.int .i64 z0, .int .i64 z1, .int .i64 z2, .int .i64 z3, .int .i64 z4] 27) := ⟨_, rfl⟩
          have BY := boxes w5 25 27 #[.int .u64 (sq + min (max z1 1) 16 * min (max g 1) 1000), .slice a5 m5 c5] #[.int .i64 z0, .int .i64 z1, .int .i64 z2, .int .i64 z3, .int .i64 z4]
          rw [← hw6] at BY
          obtain ⟨q6, N6, M6⟩ := BY
          have B6 : Below wr.heap.size wr w6 := b5.trans (q6.mono b5.size)
          obtain ⟨ax, cx, n1, r1⟩ := HX.out.ex
          have G6 := Blk.kept n1 (Kept.of_below B6 (fun _ => False)) id
          have l6 := r5.carry q6
          have x6 : Below w.heap.size w w6 := HX.out.bel.trans (B6.mono HX.out.bel.size)
          have hkI : (q : Int) < (k : Int) := by omega
          have HG : Hd (Blk w6 g7 25 (lnA sq (.slice ax (M.drop q).length cx)) ∧ Blk w6 w5.heap.size 25 (lnA (sq + min (max z1 1) 16 * min (max g 1) 1000) (.slice a5 m5 c5)) ∧ SlR w6 a5 c5 (M.drop (q + 1)) ∧ LX w w6 w.heap.size g7 sq (M.drop q)) := ⟨G6, N6, l6, ⟨ax, cx, G6, r1.carry B6⟩, x6, HX.out.le⟩
          obtain ⟨b, off, rfl, d0, d1, d2, d3, d4⟩ := HT.out w6 x6
          obtain ⟨⟨c0, c1⟩, -⟩ := G6.lane
          obtain ⟨⟨e0, e1⟩, -⟩ := Blk.lane N6
          obtain ⟨⟨f0, f1, f2, f3, f4⟩, -⟩ := Blk.five (t := ⟨z0, z1, z2, z3, z4⟩) M6
          simp only at f0 f1 f2 f3 f4
          clear q6 N6 M6 B6 n1 r1 G6 l6 x6 r5 b5 HX HX' HT
          go_upto_region 16 with fail
          rw [← hw6]
          clear hw6
          generalize w5.heap.size = g11 at *
          generalize (M.drop q).length = ny at *
          go_upto_region 17 with fail
          go_quiet (fail)
          go_upto_region 19 with fail
          clear c0 c1 d0 d1 d2 d3 d4 e0 e1 f0 f1 f2 f3 f4
          have BD : Below w6.heap.size w6 (w6.drewN nq) := ⟨rfl, rfl, rfl, Nat.le_refl _, fun _ _ => rfl⟩
          generalize w6.drewN nq = w7 at *
          have X7 := HG.out.2.2.2.put (s' := sq + min (max z1 1) 16 * min (max g 1) 1000) BD (HG.out.2.2.1.carry BD)
          rw [HD.out] at X7
          obtain ⟨⟨c0, c1⟩, f0, f1⟩ := (HG.out.1.kept (Kept.of_below BD (fun _ => False)) id).lane
          obtain ⟨⟨e0, e1⟩, -⟩ := (HG.out.2.1.kept (Kept.of_below BD (fun _ => False)) id).lane
          have R : Hd _ := ⟨X7⟩
          clear X7 HG BD
          go_wp2_with fail
          go_roundw
          case rel => exact ⟨q + 1, by omega, by go_num, by rw [HL3.out]; exact R.out⟩
          case measure => simp [intOf]; omega
        · obtain rfl : q = k := by omega
          have hd : M.drop q = [] := List.drop_eq_nil_of_le (by rw [HK.out]; exact Nat.le_refl _)
          rw [hd] at x
          obtain ⟨ax, cx, n1, r1⟩ := x.ex
          simp only [List.length_nil] at n1
          have T := (EH.out wr ax cx r1).1
          have HX : Hd (LX w wr w.heap.size g7 (sumT s g M q) []) := ⟨x⟩
          have HR : Hd (Blk wr g7 25 (lnA (sumT s g M q) (.slice ax 0 cx)) ∧ SlR wr ax cx []) := ⟨n1, r1⟩
          obtain ⟨⟨c0, c1⟩, -⟩ := n1.lane
          clear x n1 r1 hd TH SL
          generalize sumT s g M q = sq at *
          go_upto_region 20 with fail
          go_wp2_with fail
          go_at_call 10
          refine T.mono ?_
          rintro e w5 ⟨⟨v5, rfl, a5, c5, rfl, r5⟩, b5⟩
          simp only [List.length_nil]
          clear T c0 c1
          obtain ⟨w6, hw6⟩ : ∃ w6, w6 = (w5.alloc (.cells #[.int .u64 sq, .slice a5 0 c5] 25)).alloc (.cells #[.int .i64 0, .int .i64 0, .int .i64 0, .int .i64 0, .int .i64 0] 27) := ⟨_, rfl⟩
          have BY := boxes w5 25 27 #[.int .u64 sq, .slice a5 0 c5] #[.int .i64 0, .int .i64 0, .int .i64 0, .int .i64 0, .int .i64 0]
          rw [← hw6] at BY
          obtain ⟨q6, -, -⟩ := BY
          have B6 : Below wr.heap.size wr w6 := b5.trans (q6.mono b5.size)
          obtain ⟨⟨c0, c1⟩, -⟩ := (HR.out.1.kept (Kept.of_below B6 (fun _ => False)) id).lane
          have T := (EH.out w6 ax cx (HR.out.2.carry B6)).2
          have Q : Hd (Below w.heap.size w w6) := ⟨HX.out.bel.trans (B6.mono HX.out.bel.size)⟩
          clear q6 B6 r5 b5 HX HR EH
          go_upto_region 21 with fail
          rw [← hw6]
          clear hw6
          go_wp2_with (go_at_call 22; refine T.mono ?_; rintro e w8 ⟨rfl, b8⟩)
          go_ret
          exact ⟨rfl, Q.out.trans (b8.mono Q.out.size)⟩
end Go.Proofs.Ytbnjjckcnlfapaa
