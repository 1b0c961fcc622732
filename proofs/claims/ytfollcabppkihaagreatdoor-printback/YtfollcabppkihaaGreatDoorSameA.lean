/-
  'Same' of the reference at lists of texts and at rules, where both are the same. Condition: they lie in memory.
-/
import Derived.Test.YtfollcabppkihaaGreatDoorCfT
import Derived.BigQuiet
namespace Go.Proofs.YtfollcabppkihaaGreatDoor
open Go.RowKit

theorem same_q (a b : Option Addr) (c1 c2 : Nat) (L : List ByteArray) (w : World) (h1 : RowL w a L) (h2 : RowL w b L) (hn : L.length ≤ 65536) :
    Calls Tryz.prog 44 #[.slice a L.length c1, .slice b L.length c2] w fun e w' => e = .returned (.bool true) ∧ ∃ m, w' = w.drewN m := by
  obtain ⟨n, hL⟩ : ∃ n, L.length = n := ⟨_, rfl⟩
  rw [hL] at hn ⊢
  have g1 : 0 < n → ∃ b off, a = some ⟨b, off, none⟩ ∧ b < w.heap.size ∧ ∀ k, k < n → w.cell? ⟨b, off + k, none⟩ = some (.string (gt L k)) := by rw [← hL]; exact h1
  have g2 : 0 < n → ∃ c off, b = some ⟨c, off, none⟩ ∧ c < w.heap.size ∧ ∀ k, k < n → w.cell? ⟨c, off + k, none⟩ = some (.string (gt L k)) := by rw [← hL]; exact h2
  clear h1 h2 hL
  go_enter Tryz.func44, Tryz.ntmps44
  go_wp2
  go_loopw [5] (fun i wr => ∃ k m : Nat, k ≤ n ∧ i = .int .i64 k ∧ wr = w.drewN m) (fun i _ => n - (intOf i).toNat)
  case atStart => exact ⟨0, 0, Nat.zero_le _, rfl, rfl⟩
  case round =>
    obtain ⟨k, m, hk, rfl, rfl⟩ := hrel
    by_cases hlt : k < n
    · obtain ⟨b1, o1, rfl, hb1, hc1⟩ := g1 (by omega)
      obtain ⟨b2, o2, rfl, hb2, hc2⟩ := g2 (by omega)
      have d1 := hc1 k hlt
      have d2 := hc2 k hlt
      have HK : Hd (k < n) := ⟨hlt⟩
      clear g1 g2 hc1 hc2
      generalize gt L k = x at *
      go_wp2
      go_quiet (fail)
      go_wp2
      go_roundw
      case rel => exact ⟨k + 1, _, HK.out, by go_num, rfl⟩
      case measure => have := HK.out; simp [intOf]; omega
    · obtain rfl : k = n := by omega
      clear g1 g2
      go_wp2
      go_ret
      exact ⟨rfl, m, rfl⟩

theorem lst_q {B B' : Nat} {w : World} {v v' : Value} {L : List ByteArray} (h : Lst B w v L) (h' : Lst B' w v' L) (m : Nat) :
    Calls Tryz.prog 44 #[v, v'] (w.drewN m) fun e w' => e = .returned (.bool true) ∧ ∃ k, w' = (w.drewN m).drewN k := by
  obtain ⟨a, c, rfl, hr, -, hl⟩ := h
  obtain ⟨a', c', rfl, hr', -, -⟩ := h'
  exact same_q a a' c c' L (w.drewN m) (fun hn => hr.row hn) (fun hn => hr'.row hn) hl

theorem lst_q2 {B B' : Nat} {w : World} {v v' : Value} {L : List ByteArray} (h : Lst B w v L) (h' : Lst B' w v' L) (m q : Nat) :
    Calls Tryz.prog 44 #[v, v'] ((w.drewN m).drewN q) fun e w' => e = .returned (.bool true) ∧ ∃ k, w' = ((w.drewN m).drewN q).drewN k := by
  rw [World.drewN_drewN]
  exact lst_q h h' _

/-- The k-th of the rules. -/
theorem rls_at {B : Nat} {w : World} : ∀ (cs : List Value) (rs : List Rl), RlsV B w cs rs → ∀ k (h : k < rs.length), ∃ v0 v1 v2 v3 v4, (cs[k * 5]? = some v0 ∧ cs[k * 5 + 1]? = some v1 ∧ cs[k * 5 + 2]? = some v2 ∧ cs[k * 5 + 3]? = some v3 ∧ cs[k * 5 + 4]? = some v4) ∧
    Lst B w v0 rs[k].users ∧ Lst B w v1 rs[k].groups ∧ Lst B w v2 rs[k].verbs ∧ Lst B w v3 rs[k].resources ∧ Lst B w v4 rs[k].spaces
  | _, [], _, k, h => by simp at h
  | _, r :: rs, ⟨c, cs', e, ⟨v0, v1, v2, v3, v4, ec, h0, h1, h2, h3, h4⟩, ht⟩, 0, _ => by
    subst e ec
    exact ⟨v0, v1, v2, v3, v4, ⟨rfl, rfl, rfl, rfl, rfl⟩, h0, h1, h2, h3, h4⟩
  | _, r :: rs, ⟨c, cs', e, ⟨v0, v1, v2, v3, v4, ec, _⟩, ht⟩, k + 1, h => by
    subst e ec
    obtain ⟨u0, u1, u2, u3, u4, ⟨e0, e1, e2, e3, e4⟩, r⟩ := rls_at cs' rs ht k (by simpa using h)
    refine ⟨u0, u1, u2, u3, u4, ⟨?_, ?_, ?_, ?_, ?_⟩, r⟩
    · rw [List.getElem?_append_right (by simp; omega), show (k + 1) * 5 - [v0, v1, v2, v3, v4].length = k * 5 by simp; omega]; exact e0
    · rw [List.getElem?_append_right (by simp; omega), show (k + 1) * 5 + 1 - [v0, v1, v2, v3, v4].length = k * 5 + 1 by simp; omega]; exact e1
    · rw [List.getElem?_append_right (by simp; omega), show (k + 1) * 5 + 2 - [v0, v1, v2, v3, v4].length = k * 5 + 2 by simp; omega]; exact e2
    · rw [List.getElem?_append_right (by simp; omega), show (k + 1) * 5 + 3 - [v0, v1, v2, v3, v4].length = k * 5 + 3 by simp; omega]; exact e3
    · rw [List.getElem?_append_right (by simp; omega), show (k + 1) * 5 + 4 - [v0, v1, v2, v3, v4].length = k * 5 + 4 by simp; omega]; exact e4
theorem rl_row {B : Nat} {w : World} {v : Value} {rs : List Rl} (h : RlOwn B w v rs) : ∃ a c, v = .slice a rs.length c ∧ rs.length ≤ maxLen ∧ (0 < rs.length → ∃ g, a = some ⟨g, 0, none⟩ ∧ g < w.heap.size ∧ ∀ k (hk : k < rs.length), ∃ v0 v1 v2 v3 v4,
    (w.cell? ⟨g, k * 5, none⟩ = some v0 ∧ w.cell? ⟨g, k * 5 + 1, none⟩ = some v1 ∧ w.cell? ⟨g, k * 5 + 2, none⟩ = some v2 ∧ w.cell? ⟨g, k * 5 + 3, none⟩ = some v3 ∧ w.cell? ⟨g, k * 5 + 4, none⟩ = some v4) ∧
    Lst B w v0 rs[k].users ∧ Lst B w v1 rs[k].groups ∧ Lst B w v2 rs[k].verbs ∧ Lst B w v3 rs[k].resources ∧ Lst B w v4 rs[k].spaces) := by
  obtain ⟨cs, ho, hr⟩ := h
  rcases id ho.2 with ⟨rfl, e⟩ | ⟨g, cap, cur, rfl, hb, hg, hc, hm, r⟩
  · refine ⟨none, 0, by rw [e], by unfold maxLen; omega, fun h => by omega⟩
  · refine ⟨some ⟨g, 0, none⟩, cap, rfl, by omega, fun _ => ⟨g, rfl, (ho.lt g rfl).2, fun k hk => ?_⟩⟩
    obtain ⟨v0, v1, v2, v3, v4, ⟨e0, e1, e2, e3, e4⟩, r⟩ := rls_at cs rs hr k hk
    exact ⟨v0, v1, v2, v3, v4, ⟨(ho.cellAt _ (by omega)).trans e0, (ho.cellAt _ (by omega)).trans e1, (ho.cellAt _ (by omega)).trans e2, (ho.cellAt _ (by omega)).trans e3, (ho.cellAt _ (by omega)).trans e4⟩, r⟩

set_option maxRecDepth 20000 in
set_option maxHeartbeats 4000000 in
theorem samer_q {B B' : Nat} {w : World} {v v' : Value} {rs : List Rl} (h : RlOwn B w v rs) (h' : RlOwn B' w v' rs) :
    Calls Tryz.prog 20 #[v, v'] w fun e w' => e = .returned (.bool true) ∧ ∃ m, w' = w.drewN m := by
  obtain ⟨a, c, rfl, hm, R⟩ := rl_row h
  obtain ⟨a', c', rfl, -, R'⟩ := rl_row h'
  clear h h'
  obtain ⟨n, hn⟩ : ∃ n, n = rs.length := ⟨_, rfl⟩
  rw [← hn] at hm ⊢
  have hn9 : n ≤ 9223372036854775807 := by unfold maxLen at hm; omega
  have HN : Hd (n = rs.length) := ⟨hn⟩
  have HR : Hd _ := ⟨R⟩
  have HR' : Hd _ := ⟨R'⟩
  clear R R' hn hm
  go_enter Tryz.func20, Tryz.ntmps20
  go_wp2_with fail
  go_loopw [5] (fun i wr => ∃ k m : Nat, k ≤ n ∧ i = .int .i64 k ∧ wr = w.drewN m) (fun i _ => n - (intOf i).toNat)
  case atStart => exact ⟨0, 0, Nat.zero_le _, rfl, rfl⟩
  case round =>
    obtain ⟨k, m, hk, rfl, rfl⟩ := hrel
    by_cases hlt : k < n
    · have hkr : k < rs.length := by rw [← HN.out]; exact hlt
      obtain ⟨g, rfl, hg, C⟩ := HR.out (by omega)
      obtain ⟨g', rfl, hg', C'⟩ := HR'.out (by omega)
      obtain ⟨v0, v1, v2, v3, v4, ⟨x0, x1, x2, x3, x4⟩, l0, l1, l2, l3, l4⟩ := C k hkr
      obtain ⟨u0, u1, u2, u3, u4, ⟨y0, y1, y2, y3, y4⟩, m0, m1, m2, m3, m4⟩ := C' k hkr
      obtain ⟨W, hW⟩ : ∃ W, W = w.drewN m := ⟨_, rfl⟩
      replace x0 : W.cell? ⟨g, k * 5, none⟩ = some v0 := by rw [hW]; exact x0
      replace x1 : W.cell? ⟨g, k * 5 + 1, none⟩ = some v1 := by rw [hW]; exact x1
      replace x2 : W.cell? ⟨g, k * 5 + 2, none⟩ = some v2 := by rw [hW]; exact x2
      replace x3 : W.cell? ⟨g, k * 5 + 3, none⟩ = some v3 := by rw [hW]; exact x3
      replace x4 : W.cell? ⟨g, k * 5 + 4, none⟩ = some v4 := by rw [hW]; exact x4
      replace y0 : W.cell? ⟨g', k * 5, none⟩ = some u0 := by rw [hW]; exact y0
      replace y1 : W.cell? ⟨g', k * 5 + 1, none⟩ = some u1 := by rw [hW]; exact y1
      replace y2 : W.cell? ⟨g', k * 5 + 2, none⟩ = some u2 := by rw [hW]; exact y2
      replace y3 : W.cell? ⟨g', k * 5 + 3, none⟩ = some u3 := by rw [hW]; exact y3
      replace y4 : W.cell? ⟨g', k * 5 + 4, none⟩ = some u4 := by rw [hW]; exact y4
      have S0 : ∀ q, Calls Tryz.prog 44 #[v0, u0] (W.drewN q) fun e w' => e = .returned (.bool true) ∧ ∃ k, w' = (W.drewN q).drewN k := by rw [hW]; exact lst_q2 l0 m0 m
      have S1 : ∀ q, Calls Tryz.prog 44 #[v1, u1] (W.drewN q) fun e w' => e = .returned (.bool true) ∧ ∃ k, w' = (W.drewN q).drewN k := by rw [hW]; exact lst_q2 l1 m1 m
      have S2 : ∀ q, Calls Tryz.prog 44 #[v2, u2] (W.drewN q) fun e w' => e = .returned (.bool true) ∧ ∃ k, w' = (W.drewN q).drewN k := by rw [hW]; exact lst_q2 l2 m2 m
      have S3 : ∀ q, Calls Tryz.prog 44 #[v3, u3] (W.drewN q) fun e w' => e = .returned (.bool true) ∧ ∃ k, w' = (W.drewN q).drewN k := by rw [hW]; exact lst_q2 l3 m3 m
      have S4 : ∀ q, Calls Tryz.prog 44 #[v4, u4] (W.drewN q) fun e w' => e = .returned (.bool true) ∧ ∃ k, w' = (W.drewN q).drewN k := by rw [hW]; exact lst_q2 l4 m4 m
      have HK : Hd (k < n) := ⟨hlt⟩
      have HT : Hd _ := ⟨And.intro S0 (And.intro S1 (And.intro S2 (And.intro S3 S4)))⟩
      have HW : Hd (W = w.drewN m) := ⟨hW⟩
      rw [← hW]
      clear C C' l0 l1 l2 l3 l4 m0 m1 m2 m3 m4 hkr HR HR' S0 S1 S2 S3 S4 hW
      go_wp2_with fail
      go_quiet (first
        | (go_at_call 44; with_reducible exact Calls.quiet_of (HT.out.1 _))
        | (go_at_call 44; with_reducible exact Calls.quiet_of (HT.out.2.1 _))
        | (go_at_call 44; with_reducible exact Calls.quiet_of (HT.out.2.2.1 _))
        | (go_at_call 44; with_reducible exact Calls.quiet_of (HT.out.2.2.2.1 _))
        | (go_at_call 44; with_reducible exact Calls.quiet_of (HT.out.2.2.2.2 _)))
      go_wp2
      go_roundw
      case rel => exact ⟨k + 1, _, HK.out, by go_num, by rw [HW.out, World.drewN_drewN]⟩
      case measure => have := HK.out; simp [intOf]; omega
    · obtain rfl : k = n := by omega
      clear HR HR'
      go_wp2
      go_ret
      exact ⟨rfl, m, rfl⟩

end Go.Proofs.YtfollcabppkihaaGreatDoor
