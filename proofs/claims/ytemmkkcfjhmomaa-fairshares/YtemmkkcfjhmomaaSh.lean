/-
  Two lanes that stay full get the same work, but for twice the widest request's: the walk. Conditions: the turns lie in memory.
-/
import Derived.Test.YtemmkkcfjhmomaaRw
import Derived.Test.YtemmkkcfjhmomaaAw
namespace Go.Proofs.Ytemmkkcfjhmomaa
open Go.RowKit

/-- The widest of the first k turns. -/
def mo (H : Nat → Tn) : Nat → Int
  | 0 => 0
  | k + 1 => max (mo H k) (clW (H k).wi)
theorem mo_rng (H : Nat → Tn) : ∀ k, 0 ≤ mo H k ∧ mo H k ≤ 16
  | 0 => ⟨Int.le_refl _, by show (0 : Int) ≤ 16; decide⟩
  | k + 1 => by
    have := mo_rng H k
    have := clW_lo (H k).wi
    have := clW_hi (H k).wi
    simp only [mo]
    omega
theorem mo_le (H : Nat → Tn) : ∀ k i, i < k → clW (H i).wi ≤ mo H k
  | 0, _, h => absurd h (Nat.not_lt_zero _)
  | k + 1, i, h => by
    simp only [mo]
    rcases Nat.lt_or_eq_of_le (Nat.le_of_lt_succ h) with c | rfl
    · have := mo_le H k i c; omega
    · omega
/-- Where a lane stands behind q turns. -/
def sA (o g : Int) (H : Nat → Tn) (a q : Nat) : Int := (gl (rX o g H q).F a).s
def fullA (o g : Int) (H : Nat → Tn) (a q : Nat) : Prop := (gl (rX o g H q).F a).L ≠ []
/-- What the loop has gathered. -/
def Gth (o g : Int) (H : Nat → Tn) (a b bn q : Nat) (X Y : Int) : Prop :=
  (q = bn ∧ X = 0 ∧ Y = 0) ∨ (bn < q ∧ X = sA o g H a q - sA o g H a (bn + 1) ∧ Y = sA o g H b q - sA o g H b (bn + 1) ∧ fullA o g H a (bn + 1) ∧ fullA o g H b (bn + 1) ∧ fullA o g H a q ∧ fullA o g H b q)
theorem sA_rng {o g M : Int} {H : Nat → Tn} {k : Nat} (h : Iv g o M k (rX o g H k)) (hk : k ≤ 300) (a : Nat) : 0 ≤ sA o g H a k ∧ sA o g H a k ≤ 4800000 := by
  have L := h.ln a
  have h0 : sA o g H a k = (gl (rX o g H k).F a).s := rfl
  have := L.s0
  have := L.s1
  have := h.r1
  omega
theorem Gth.rng {o g M : Int} {H : Nat → Tn} {a b bn q : Nat} {X Y : Int} (h : Gth o g H a b bn q X Y) (iv : ∀ k, k ≤ 300 → k ≤ q → Iv g o M k (rX o g H k)) (hq : q ≤ 300) : (-4800000 ≤ X ∧ X ≤ 4800000) ∧ (-4800000 ≤ Y ∧ Y ≤ 4800000) := by
  rcases h with ⟨-, rfl, rfl⟩ | ⟨h1, rfl, rfl, -⟩
  · decide
  · have a1 := sA_rng (iv q hq (Nat.le_refl _)) hq a
    have a2 := sA_rng (iv q hq (Nat.le_refl _)) hq b
    have a3 := sA_rng (iv (bn + 1) (by omega) (by omega)) (by omega) a
    have a4 := sA_rng (iv (bn + 1) (by omega) (by omega)) (by omega) b
    omega
theorem Gth.next {o g M : Int} {H : Nat → Tn} {a b bn q : Nat} {X Y : Int} (h : Gth o g H a b bn q X Y) (iv : Iv g o M q (rX o g H q)) (hq : q ≤ 299) (fa : fullA o g H a (q + 1)) (fb : fullA o g H b (q + 1)) :
    Gth o g H a b bn (q + 1) (X + if bn < q ∧ rP o g H q = (a : Int) then rR o g H q * g else 0) (Y + if bn < q ∧ rP o g H q = (b : Int) then rR o g H q * g else 0) := by
  rcases h with ⟨rfl, rfl, rfl⟩ | ⟨h1, rfl, rfl, h4, h5, h6, h7⟩
  · rw [if_neg (fun c => absurd c.1 (Nat.lt_irrefl _)), if_neg (fun c => absurd c.1 (Nat.lt_irrefl _))]
    exact .inr ⟨Nat.lt_succ_self _, by omega, by omega, fa, fb, fa, fb⟩
  · have s1 : sA o g H a (q + 1) = sA o g H a q + (if rP o g H q = (a : Int) then rR o g H q * g else 0) := share_step iv hq a h6 (H q)
    have s2 : sA o g H b (q + 1) = sA o g H b q + (if rP o g H q = (b : Int) then rR o g H q * g else 0) := share_step iv hq b h7 (H q)
    refine .inr ⟨by omega, ?_, ?_, h4, h5, fa, fb⟩
    · rw [s1]
      by_cases c : rP o g H q = (a : Int)
      · rw [if_pos c, if_pos ⟨h1, c⟩]; omega
      · rw [if_neg c, if_neg (fun d => c d.2)]; omega
    · rw [s2]
      by_cases c : rP o g H q = (b : Int)
      · rw [if_pos c, if_pos ⟨h1, c⟩]; omega
      · rw [if_neg c, if_neg (fun d => c d.2)]; omega
theorem Gth.last {o g M : Int} {H : Nat → Tn} {a b bn q : Nat} {X Y : Int} (h : Gth o g H a b bn q X Y) (iv : ∀ k, k ≤ 300 → k ≤ q → Iv g o M k (rX o g H k)) (hq : q ≤ 300) (hb : bn < q) : X - Y ≤ 2 * (M * g) ∧ Y - X ≤ 2 * (M * g) := by
  rcases h with ⟨h0, -, -⟩ | ⟨h1, rfl, rfl, h4, h5, h6, h7⟩
  · omega
  · have i1 := iv q hq (Nat.le_refl _)
    have i2 := iv (bn + 1) (by omega) (by omega)
    have e1 := share_end i1 hq a h6
    have e2 := share_end i1 hq b h7
    have e3 := share_end i2 (by omega) a h4
    have e4 := share_end i2 (by omega) b h5
    unfold sA
    generalize M * g = P at *
    omega

set_option maxRecDepth 20000 in
set_option maxHeartbeats 1500000 in
theorem shares_law (o g : Int) (a : Option Addr) (n c : Nat) (H : Nat → Tn) (la lb bg en : Int) (w : World) (h : TnR w a n H) (hn : n ≤ 9223372036854775807) :
    Calls Try.prog 6 #[.int .i64 o, .int .i64 g, .slice a n c, .int .i64 la, .int .i64 lb, .int .i64 bg, .int .i64 en] w fun e w' => e = .returned (.bool true) ∧ Below w.heap.size w w' := by
  have I := awake_ok w
  by_cases hg : Good o g 64
  · obtain ⟨m, hm⟩ : ∃ m, m = min n 300 := ⟨_, rfl⟩
    have HM : Hd (m ≤ 300 ∧ m ≤ n ∧ m = min n 300) := ⟨by omega, by omega, hm⟩
    have RU : Hd (∀ W, Below w.heap.size w W → Calls Try.prog 33 #[.int .i64 o, .int .i64 g, .slice a n c] W fun e w' => RunA w' o g H m e ∧ Below W.heap.size W w') := ⟨fun W q => by rw [hm]; exact run_yes o g a n c H W (h.carry q) hn hg⟩
    have HIV : Hd (∀ k, k ≤ m → Iv g o (mo H m) k (rX o g H k)) := ⟨fun k hk => Iv.run hg (mo_rng H m).2 k (by have := HM.out; omega) (fun i hi => mo_le H m i (by omega))⟩
    have HO : Hd (TnR w a n H) := ⟨h⟩
    have HG : Hd (Good o g 64) := ⟨hg⟩
    clear h hg hm
    go_enter Try.func6, Try.ntmps6
    go_upto_region 3 with (go_at_call 9; refine I.mono ?_; rintro e w1 ⟨rfl, b1⟩)
    have R1 := RU.out w1 b1
    have HB1 : Hd (Below w.heap.size w w1) := ⟨b1⟩
    clear I RU b1
    go_wp2_with fail
    go_at_call 33
    refine R1.mono ?_
    rintro e w2 ⟨⟨aa, ca, af, cf, aw, cw, rfl, al, hf, hw⟩, b2⟩
    have H2 : Hd (AlR w2 aa m (fun k => rX o g H (k + 1)) ∧ HnR w2 af m (rP o g H) ∧ HnR w2 aw m (rR o g H) ∧ Below w.heap.size w w2) := ⟨al, hf, hw, HB1.out.trans (b2.mono HB1.out.size)⟩
    have HT : Hd (TnR w2 a n H) := ⟨HO.out.carry H2.out.2.2.2⟩
    clear R1 HB1 b2 al hf hw HO
    by_cases h1 : la < 0
    · have Q : Hd (Below w.heap.size w w2) := ⟨H2.out.2.2.2⟩
      go_wp2_with fail
      go_ret
      exact ⟨rfl, Q.out⟩
    by_cases h2 : lb < 0
    · have Q : Hd (Below w.heap.size w w2) := ⟨H2.out.2.2.2⟩
      go_wp2_with fail
      go_ret
      exact ⟨rfl, Q.out⟩
    by_cases h3 : o ≤ la
    · have Q : Hd (Below w.heap.size w w2) := ⟨H2.out.2.2.2⟩
      go_wp2_with fail
      go_ret
      exact ⟨rfl, Q.out⟩
    by_cases h4 : o ≤ lb
    · have Q : Hd (Below w.heap.size w w2) := ⟨H2.out.2.2.2⟩
      go_wp2_with fail
      go_ret
      exact ⟨rfl, Q.out⟩
    by_cases h5 : la = lb
    · subst h5
      have Q : Hd (Below w.heap.size w w2) := ⟨H2.out.2.2.2⟩
      go_wp2_with fail
      go_ret
      exact ⟨rfl, Q.out⟩
    by_cases h6 : bg < 0
    · have Q : Hd (Below w.heap.size w w2) := ⟨H2.out.2.2.2⟩
      go_wp2_with fail
      go_ret
      exact ⟨rfl, Q.out⟩
    by_cases h7 : (m : Int) < en
    · have Q : Hd (Below w.heap.size w w2) := ⟨H2.out.2.2.2⟩
      go_wp2_with fail
      go_ret
      exact ⟨rfl, Q.out⟩
    by_cases h8 : en ≤ bg
    · have Q : Hd (Below w.heap.size w w2) := ⟨H2.out.2.2.2⟩
      go_wp2_with fail
      go_ret
      exact ⟨rfl, Q.out⟩
    obtain ⟨ja, rfl⟩ : ∃ ja : Nat, la = ja := ⟨la.toNat, by omega⟩
    obtain ⟨jb, rfl⟩ : ∃ jb : Nat, lb = jb := ⟨lb.toNat, by omega⟩
    obtain ⟨bn, rfl⟩ : ∃ bn : Nat, bg = bn := ⟨bg.toNat, by omega⟩
    obtain ⟨eq, rfl⟩ : ∃ eq : Nat, en = eq := ⟨en.toNat, by omega⟩
    have hab : ((ja : Int) == (jb : Int)) = false := by simp only [beq_eq_false_iff_ne]; exact h5
    have hm3 := HM.out.1
    go_wp2_with fail
    go_loop [21, 22] (fun s i => ∃ k : Nat, k ≤ m ∧ i = .int .i64 k ∧ s = .int .i64 (mo H k)) (fun _ i => m - (intOf i).toNat)
    case atStart => exact ⟨0, Nat.zero_le _, rfl, rfl⟩
    case round =>
      obtain ⟨k, hk, rfl, rfl⟩ := hrel
      by_cases hlt : k < m
      · obtain ⟨b, off, rfl, -, hc⟩ := HT.out (by have := HM.out; omega)
        have t2 := hc k (by have := HM.out; omega) 2 (by decide)
        simp only [tnC, List.getElem?_cons_zero, List.getElem?_cons_succ, ← Nat.add_assoc] at t2
        have i1 : (k : Int) < (n : Int) := by have := HM.out; omega
        have i2 : (k : Int) < 300 := by omega
        have HMO : Hd (mo H (k + 1) = max (mo H k) (min (max (H k).wi 1) 16)) := ⟨rfl⟩
        clear hc
        obtain ⟨wi, hwi⟩ : ∃ wi, wi = (H k).wi := ⟨_, rfl⟩
        rw [← hwi] at t2 HMO
        clear hwi
        obtain ⟨mk, hmk⟩ : ∃ mk, mk = mo H k := ⟨_, rfl⟩
        rw [← hmk] at HMO ⊢
        clear hmk
        go_wp2_with fail
        go_round
        case rel => exact ⟨k + 1, by omega, by go_num, by rw [HMO.out]⟩
        case measure => simp [intOf]; omega
      · obtain rfl : k = m := by omega
        have hM := mo_rng H k
        obtain ⟨M, hMM⟩ : ∃ M, M = mo H k := ⟨_, rfl⟩
        have HMM : Hd (M = mo H k) := ⟨hMM⟩
        rw [← hMM] at hM ⊢
        clear hMM
        obtain ⟨hM1, hM2⟩ := hM
        have hg1 := HG.out.2.1.1
        have hg2 := HG.out.2.1.2
        have ho1 := HG.out.1.1
        have ho2 := HG.out.1.2
        have hx3 : (k : Int) < (n : Int) → ¬ (k : Int) < 300 := fun h1 h2 => by have := HM.out.2.2; omega
        have HX3 : Hd ((k : Int) < (n : Int) → ¬ (k : Int) < 300) := ⟨hx3⟩
        clear hx3
        by_cases hx : (k : Int) < (n : Int)
        case' pos => have hx2 := HX3.out hx
        all_goals
          go_wp2_with fail
          go_loop [23, 24, 25] (fun x y i => ∃ (q : Nat) (X Y : Int), bn ≤ q ∧ q ≤ eq ∧ i = .int .i64 q ∧ x = .int .i64 X ∧ y = .int .i64 Y ∧ Gth o g H ja jb bn q X Y) (fun _ _ i => eq - (intOf i).toNat)
          case atStart => exact ⟨bn, 0, 0, Nat.le_refl _, by omega, rfl, rfl, rfl, .inl ⟨rfl, rfl, rfl⟩⟩
          case round =>
            obtain ⟨q, X, Y, hq1, hq2, rfl, rfl, rfl, gth⟩ := hrel
            have G : Hd (Gth o g H ja jb bn q X Y) := ⟨gth⟩
            clear gth
            have hR := G.out.rng (fun k' _ h2 => HIV.out k' (by omega)) (by omega)
            obtain ⟨⟨hX1, hX2⟩, hY1, hY2⟩ := hR
            by_cases hl2 : q < eq
            · obtain ⟨b, off, rfl, -, hc⟩ := H2.out.1 (by omega)
              obtain ⟨a4, c4, ⟨-, -, -, -, y4⟩, l4⟩ := hc q (by omega)
              simp only at y4 l4
              have IV : Hd (Iv g o (mo H k) (q + 1) (rX o g H (q + 1))) := ⟨HIV.out (q + 1) (by omega)⟩
              have hfl := IV.out.len
              obtain ⟨b1, o1, a1, c1, rfl, -, -, d1, -⟩ := l4.at (k := ja) (by omega)
              obtain ⟨b1', o1', a2, c2, e1, -, -, d2, -⟩ := l4.at (k := jb) (by omega)
              obtain ⟨rfl, rfl⟩ : b1 = b1' ∧ o1 = o1' := by injection e1 with e1; injection e1 with e1 e2; exact ⟨e1, e2⟩
              clear e1 l4 hc
              obtain ⟨fl, hfl2⟩ : ∃ fl, fl = (rX o g H (q + 1)).F.length := ⟨_, rfl⟩
              rw [← hfl2] at y4 hfl
              have j1 : (ja : Int) < (fl : Int) := by omega
              have j2 : (jb : Int) < (fl : Int) := by omega
              have j3 : ¬ (fl : Int) ≤ max (ja : Int) (jb : Int) := by omega
              clear hfl hfl2
              obtain ⟨na, hna⟩ : ∃ na, na = (gl (rX o g H (q + 1)).F ja).L.length := ⟨_, rfl⟩
              obtain ⟨nb, hnb⟩ : ∃ nb, nb = (gl (rX o g H (q + 1)).F jb).L.length := ⟨_, rfl⟩
              have FA : Hd (0 < na → fullA o g H ja (q + 1)) := ⟨fun h e => by rw [hna, e] at h; exact absurd h (Nat.lt_irrefl 0)⟩
              have FB : Hd (0 < nb → fullA o g H jb (q + 1)) := ⟨fun h e => by rw [hnb, e] at h; exact absurd h (Nat.lt_irrefl 0)⟩
              rw [← hna] at d1
              rw [← hnb] at d2
              clear hna hnb
              have i1 : (q : Int) < (k : Int) := by omega
              have i2 : (q : Int) < (eq : Int) := by omega
              by_cases ha : na = 0
              · subst ha
                have Q : Hd (Below w.heap.size w w2) := ⟨H2.out.2.2.2⟩
                go_wp2_with fail
                go_ret
                exact ⟨rfl, Q.out⟩
              · have ha' : ((na : Int) == 0) = false := by simp only [beq_eq_false_iff_ne]; omega
                by_cases hb : nb = 0
                · subst hb
                  have Q : Hd (Below w.heap.size w w2) := ⟨H2.out.2.2.2⟩
                  go_wp2_with fail
                  go_ret
                  exact ⟨rfl, Q.out⟩
                · have hb' : ((nb : Int) == 0) = false := by simp only [beq_eq_false_iff_ne]; omega
                  have GN := G.out.next (HIV.out q (by omega)) (by omega) (FA.out (by omega)) (FB.out (by omega))
                  by_cases hq : bn < q
                  · obtain ⟨bf, of, rfl, -, hcf⟩ := H2.out.2.1 (by omega)
                    obtain ⟨bw, ow, rfl, -, hcw⟩ := H2.out.2.2.1 (by omega)
                    have ef := hcf q (by omega)
                    have ew := hcw q (by omega)
                    have hw := tuW_rng (HIV.out q (by omega)) (mo_rng H k).1 (H q)
                    have hrr : rR o g H q = tuW (rX o g H q) (H q) := rfl
                    rw [← hrr] at hw
                    have hw3 := (mo_rng H k).2
                    obtain ⟨pq, hpq⟩ : ∃ pq, pq = rP o g H q := ⟨_, rfl⟩
                    obtain ⟨rr, hrr2⟩ : ∃ rr, rr = rR o g H q := ⟨_, rfl⟩
                    rw [← hpq] at ef GN
                    rw [← hrr2] at ew GN hw
                    have hp1 : 0 ≤ rr * g := Int.mul_nonneg hw.1 (by omega)
                    have hp2 : rr * g ≤ 16000 := by
                      have := Int.mul_le_mul (show rr ≤ 16 by omega) (show g ≤ 1000 by omega) (by omega) (by decide)
                      omega
                    have i3 : (bn : Int) < (q : Int) := by omega
                    clear hcf hcw hrr hw hw3 hpq hrr2
                    by_cases hpa : pq = (ja : Int)
                    · rw [if_pos ⟨hq, hpa⟩, if_neg (fun c => by omega), Int.add_zero] at GN
                      have GG : Hd (Gth o g H ja jb bn (q + 1) (X + rr * g) Y) := ⟨GN⟩
                      clear GN
                      subst hpa
                      go_wp2_with fail
                      go_round
                      case rel => exact ⟨q + 1, X + rr * g, Y, by omega, by omega, by go_num, rfl, rfl, GG.out⟩
                      case measure => simp [intOf]; omega
                    · have hpa' : (pq == (ja : Int)) = false := by simp only [beq_eq_false_iff_ne]; exact hpa
                      by_cases hpb : pq = (jb : Int)
                      · rw [if_neg (fun c => hpa c.2), if_pos ⟨hq, hpb⟩, Int.add_zero] at GN
                        have GG : Hd (Gth o g H ja jb bn (q + 1) X (Y + rr * g)) := ⟨GN⟩
                        clear GN
                        subst hpb
                        go_wp2_with fail
                        go_round
                        case rel => exact ⟨q + 1, X, Y + rr * g, by omega, by omega, by go_num, rfl, rfl, GG.out⟩
                        case measure => simp [intOf]; omega
                      · have hpb' : (pq == (jb : Int)) = false := by simp only [beq_eq_false_iff_ne]; exact hpb
                        rw [if_neg (fun c => hpa c.2), if_neg (fun c => hpb c.2), Int.add_zero, Int.add_zero] at GN
                        have GG : Hd (Gth o g H ja jb bn (q + 1) X Y) := ⟨GN⟩
                        clear GN
                        go_wp2_with fail
                        go_round
                        case rel => exact ⟨q + 1, X, Y, by omega, by omega, by go_num, rfl, rfl, GG.out⟩
                        case measure => simp [intOf]; omega
                  · rw [if_neg (fun c => hq c.1), if_neg (fun c => hq c.1), Int.add_zero, Int.add_zero] at GN
                    have GG : Hd (Gth o g H ja jb bn (q + 1) X Y) := ⟨GN⟩
                    have i3 : ¬ (bn : Int) < (q : Int) := by omega
                    clear GN
                    go_wp2_with fail
                    go_round
                    case rel => exact ⟨q + 1, X, Y, by omega, by omega, by go_num, rfl, rfl, GG.out⟩
                    case measure => simp [intOf]; omega
            · obtain rfl : q = eq := by omega
              have hl := G.out.last (fun k' _ h2 => HIV.out k' (by omega)) (by omega) (by omega)
              rw [← HMM.out, ← Int.mul_assoc] at hl
              have hp1 : 0 ≤ 2 * M * g := Int.mul_nonneg (by omega) (by omega)
              have hp2 : 2 * M * g ≤ 32000 := by
                have := Int.mul_le_mul (show 2 * M ≤ 32 by omega) (show g ≤ 1000 by omega) (by omega) (by decide)
                omega
              have Q : Hd (Below w.heap.size w w2) := ⟨H2.out.2.2.2⟩
              obtain ⟨hl1, hl2'⟩ := hl
              go_wp2_with fail
              go_ret
              exact ⟨rfl, Q.out⟩
  · have RU : Hd (∀ W, Calls Try.prog 33 #[.int .i64 o, .int .i64 g, .slice a n c] W fun e w' => e = .returned (.tuple #[.slice none 0 0, .slice none 0 0, .slice none 0 0, .bool false]) ∧ Below W.heap.size W w') := ⟨fun W => run_no o g a n c W hg⟩
    have NW : Hd (∀ W, Calls Try.prog 12 #[.int .i64 o, .int .i64 g, .int .i64 64] W fun e w' => e = .returned (.tuple #[faZ, .int .i64 1]) ∧ Below W.heap.size W w') := ⟨fun W => new_no o g 64 W hg⟩
    clear h hg
    go_enter Try.func6, Try.ntmps6
    go_upto_region 3 with (go_at_call 9; refine I.mono ?_; rintro e w1 ⟨rfl, b1⟩)
    clear I
    go_wp2_with fail
    go_at_call 33
    refine (RU.out w1).mono ?_
    rintro e w2 ⟨rfl, b2⟩
    go_wp2_with fail
    go_at_call 12
    refine (NW.out w2).mono ?_
    rintro e w3 ⟨rfl, b3⟩
    have Q : Hd (Below w.heap.size w (w3.alloc (.cells #[.int .u64 0, .int .i64 0, .int .i64 0, .int .i64 0, .slice none 0 0] 25))) := ⟨((b1.trans (b2.mono b1.size)).trans (b3.mono (by have := b1.size; have := b2.size; omega))).trans ((alloc_below w3 _).mono (by have := b1.size; have := b2.size; have := b3.size; omega))⟩
    clear b1 b2 b3 RU NW
    go_wp2_with fail
    go_ret
    exact ⟨rfl, Q.out⟩
end Go.Proofs.Ytemmkkcfjhmomaa
