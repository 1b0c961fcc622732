/-
  What 'Limits' of the reference answers: what the program's does. Conditions: the lists lie in memory, and are short.
-/
import Derived.Test.YtcombbkhdnipkaaWm
import Derived.Deep.AppendLies
namespace Go.Proofs.Ytcombbkhdnipkaa
open Go.RowKit

theorem cellsOf_succ (f : Nat → Int) (n : Nat) : cellsOf f n ++ [.int .i64 (f n)] = cellsOf f (n + 1) := by simp [cellsOf, List.range_succ]
/-- A slice that was appended to: what it reads. -/
theorem row_owned {w : World} {base : Nat} {v : Value} {n : Nat} {f : Nat → Int} (h : w.ownsRow base 3 1 v n (cellsOf f n)) : ∃ a cap, v = .slice a n cap ∧ (a = none → n = 0 ∧ cap = 0) ∧ Row w a n f := by
  rcases id h.2 with ⟨rfl, rfl⟩ | ⟨g, cap, cur, rfl, hb, hg, r⟩
  · exact ⟨none, 0, rfl, fun _ => ⟨rfl, rfl⟩, fun h => by omega⟩
  · refine ⟨some ⟨g, 0, none⟩, cap, rfl, (fun h => by cases h), fun hn => ⟨g, 0, rfl, (h.lt g rfl).2, fun k hk => ?_⟩⟩
    rw [Nat.zero_add, h.cellAt k (by omega), cellsOf_get f n k hk]
theorem one_new (w : World) (x : Int) : ∀ j u, ([.int .i64 x] : List Value)[j]? = some u → (w.alloc (.cells #[.int .i64 x] 3)).cell? ((⟨w.heap.size, 0, none⟩ : Addr).add j) = some u := by
  intro j u hj
  match j, hj with
  | 0, hj => simp at hj; subst hj; simp [Addr.add]
theorem one_cell (x : Int) : ∀ u ∈ ([.int .i64 x] : List Value), u.oneCell' = true := by
  intro u hu; simp at hu; subst hu; rfl


/-- Two rows of the call's own that share no block. -/
def Apart (v u : Value) : Prop := v.ownBlock = none ∨ v.ownBlock ≠ u.ownBlock

/-- What the reference has gathered behind k shares. -/
def Both (w : World) (B k : Nat) (v u : Value) (p r : Nat → Int) : Prop :=
  w.ownsRow B 3 1 v k (cellsOf p k) ∧ w.ownsRow B 3 1 u k (cellsOf r k) ∧ Apart v u

theorem Apart.symm {v u : Value} (h : Apart v u) : Apart u v := by
  unfold Apart at *
  rcases h with h | h
  · by_cases c : u.ownBlock = none
    · exact .inl c
    · exact .inr (by rw [h]; exact c)
  · exact .inr (Ne.symm h)

theorem Both.step {wr w1 w2 : World} {B k g1 c1 g2 c2 : Nat} {v u : Value} {p r : Nat → Int} {o1 o2 : Obj} (h : Both wr B k v u p r)
    (hown1 : w1.ownsRow B 3 1 (.slice (some ⟨g1, 0, none⟩) (k + 1) c1) (k + 1) (cellsOf p (k + 1))) (hat1 : v.ownBlock = some g1 ∨ g1 = (wr.alloc o1).heap.size) (hlt1 : g1 < w1.heap.size)
    (hown2 : w2.ownsRow B 3 1 (.slice (some ⟨g2, 0, none⟩) (k + 1) c2) (k + 1) (cellsOf r (k + 1))) (hgrow2 : (w1.alloc o2).grownBy w2 u.ownBlock) (hat2 : u.ownBlock = some g2 ∨ g2 = (w1.alloc o2).heap.size) :
    Both w2 B (k + 1) (.slice (some ⟨g1, 0, none⟩) (k + 1) c1) (.slice (some ⟨g2, 0, none⟩) (k + 1) c2) p r := by
  obtain ⟨hv, hu, ha⟩ := h
  have hne : some g1 ≠ u.ownBlock := by
    rcases hat1 with e | e
    · rcases ha with c | c
      · rw [c] at e; cases e
      · rw [← e]; exact c
    · intro c
      have := (hu.lt g1 c.symm).2
      simp at e; omega
  refine ⟨(hown1.alloc _).kept hgrow2 (.inr hne), hown2, .inr ?_⟩
  show some g1 ≠ some g2
  rcases hat2 with e | e
  · rw [← e]; exact hne
  · intro c
    simp at c e; omega


set_option maxRecDepth 20000 in
set_option maxHeartbeats 2000000 in
theorem rlimits_ok (total : Int) (a b : Option Addr) (n m c1 c2 : Nat) (G : Nat → Bd) (d : Nat → Dm) (w : World) (hb : BdR w a n G) (hd : DmR w b m d) (hn : n ≤ 64) (hm : m ≤ 64) :
    Calls Try.prog 9 #[.int .i64 total, .slice a n c1, .slice b m c2] w fun e w' => LRes w total n m G d e w' := by
  obtain ⟨i0, hi, hz0, hz1, hz2⟩ := info_parts Try.info3
  have HB : Hd (BdR w a n G) := ⟨hb⟩
  have HD : Hd (DmR w b m d) := ⟨hd⟩
  clear hb hd
  go_enter Try.func9, Try.ntmps9
  go_wp2_with fail
  go_loopw [8, 9, 11] (fun v u i wr => ∃ j : Nat, j ≤ n ∧ i = .int .i64 j ∧ Both wr w.heap.size j v u (mns G) (mxs G) ∧ Below w.heap.size w wr) (fun _ _ i _ => n - (intOf i).toNat)
  case atStart => exact ⟨0, Nat.zero_le _, rfl, ⟨World.ownsRow_nil _ _ _ _, World.ownsRow_nil _ _ _ _, .inl rfl⟩, Below.refl _ _⟩
  case round =>
    obtain ⟨j, hj, rfl, hbo, hb4⟩ := hrel
    by_cases hlt2 : j < n
    · obtain ⟨sb, off, rfl, hsb, hc⟩ := HB.out (by omega)
      obtain ⟨hc0, hc1, hc2⟩ := hc j hlt2
      have hcw : Hd (w.cell? ⟨sb, off + j * 3 + 2, none⟩ = some (.int .i64 (G j).mx)) := ⟨hc2⟩
      have hcell := (hb4.cell (p := ⟨sb, off + j * 3 + 1, none⟩) hsb).trans hc1
      clear hc hc0 hc1 hc2
      have hsz := hb4.size
      obtain ⟨hv, hu, ha⟩ := id hbo
      have e1 := cellsOf_succ (mns G) j
      have e2 := cellsOf_succ (mxs G) j
      have E1 : Hd (cellsOf (mns G) j ++ [.int .i64 (G j).mn] = cellsOf (mns G) (j + 1)) := ⟨e1⟩
      have E2 : Hd (cellsOf (mxs G) j ++ [.int .i64 (G j).mx] = cellsOf (mxs G) (j + 1)) := ⟨e2⟩
      clear e1 e2
      generalize (G j).mn = x1 at *
      generalize (G j).mx = x2 at *
      go_wp2_with (first
        | (at_builtin; refine wpList_append_lies _ rfl (.tmp 19) (.tmp 25) 25 rfl w.heap.size 3 i0 (.int .i64 0) 1 8 Try.underlying25 hi hz0 hz1 hz2 rfl (by decide) _ _ _ rfl (hv.alloc _) ⟨wr.heap.size, 0, none⟩ 1 1 [.int .i64 x1] rfl rfl (one_new _ _) (one_cell _) (by decide) (by unfold maxLen; omega) (by omega) (by simp; omega) _ rfl ?_; intro g1 cap1 w1 hown1 hgrow1 hat1 hlt1; have hu1 := (hu.alloc _).kept hgrow1 ha.symm; have hsz1 := hgrow1.size; have hb5 : Below w.heap.size w w1 := (hb4.alloc hb4.size _).grown hgrow1 (by simp; omega) (fun q e => (hv.lt q e).1); have hcell1 := (hb5.cell (p := ⟨sb, off + j * 3 + 2, none⟩) hsb).trans hcw.out; have hsz2 := hb5.size)
        | (at_builtin; refine wpList_append_lies _ rfl (.tmp 27) (.tmp 33) 25 rfl w.heap.size 3 i0 (.int .i64 0) 1 8 Try.underlying25 hi hz0 hz1 hz2 rfl (by decide) _ _ _ rfl (hu1.alloc _) ⟨w1.heap.size, 0, none⟩ 1 1 [.int .i64 x2] rfl rfl (one_new _ _) (one_cell _) (by decide) (by unfold maxLen; omega) (by omega) (by simp; omega) _ rfl ?_; intro g2 cap2 w2 hown2 hgrow2 hat2 hlt2'))
      rw [E1.out] at hown1
      rw [E2.out] at hown2
      have hbo' := hbo.step hown1 hat1 hlt1 hown2 hgrow2 hat2
      have hb6 : Below w.heap.size w w2 := (hb5.alloc hb5.size _).grown hgrow2 (by simp; omega) (fun q e => (hu1.lt q e).1)
      have R : Hd (_ ∧ _) := ⟨hbo', hb6⟩
      clear hbo hv hu ha hown1 hgrow1 hat1 hu1 hown2 hgrow2 hat2 hb5 hb4 hcell hcell1 E1 E2 hbo' hb6
      go_wp2
      go_roundw
      case rel => exact ⟨j + 1, by omega, by go_num, R.out⟩
      case measure => simp [intOf]; omega
    · obtain rfl : j = n := by omega
      obtain ⟨hv, hu, -⟩ := hbo
      obtain ⟨a1, k1, rfl, hn1, r1⟩ := row_owned hv
      obtain ⟨a2, k2, rfl, -, r2⟩ := row_owned hu
      have R : Hd (Row wr a1 j (mns G) ∧ Row wr a2 j (mxs G) ∧ (a1 = none → j = 0 ∧ k1 = 0) ∧ Below w.heap.size w wr) := ⟨r1, r2, hn1, hb4⟩
      have HD2 : Hd (DmR wr b m d) := ⟨HD.out.carry hb4⟩
      clear hv hu r1 r2 hn1 hb4 HD HB
      obtain ⟨wo, ew⟩ : ∃ wo, wo = wr := ⟨_, rfl⟩
      subst ew
      go_wp2_with fail
      go_loopw [10, 12] (fun v i wr => ∃ k : Nat, k ≤ m ∧ i = .int .i64 k ∧ wr.ownsRow wo.heap.size 3 1 v k (cellsOf (sms d) k) ∧ Below wo.heap.size wo wr) (fun _ i _ => m - (intOf i).toNat)
      case atStart => exact ⟨0, Nat.zero_le _, rfl, World.ownsRow_nil _ _ _ _, Below.refl _ _⟩
      case round =>
        obtain ⟨k, hk, rfl, hv, hb4⟩ := hrel
        by_cases hlt2 : k < m
        · obtain ⟨sb, off, rfl, hsb, hc⟩ := HD2.out (by omega)
          have hcell := (hb4.cell (p := ⟨sb, off + k * 2 + 1, none⟩) hsb).trans (hc k hlt2).2
          clear hc
          have hsz := hb4.size
          have E1 : Hd (cellsOf (sms d) k ++ [.int .i64 (d k).smo] = cellsOf (sms d) (k + 1)) := ⟨cellsOf_succ (sms d) k⟩
          generalize (d k).smo = x1 at *
          go_wp2_with (at_builtin; refine wpList_append_lies _ rfl (.tmp 41) (.tmp 47) 25 rfl wo.heap.size 3 i0 (.int .i64 0) 1 8 Try.underlying25 hi hz0 hz1 hz2 rfl (by decide) _ _ _ rfl (hv.alloc _) ⟨wr.heap.size, 0, none⟩ 1 1 [.int .i64 x1] rfl rfl (one_new _ _) (one_cell _) (by decide) (by unfold maxLen; omega) (by omega) (by simp; omega) _ rfl ?_; intro g1 cap1 w1 hown1 hgrow1 hat1 hlt1)
          rw [E1.out] at hown1
          have hb5 : Below wo.heap.size wo w1 := (hb4.alloc hb4.size _).grown hgrow1 (by simp; omega) (fun q e => (hv.lt q e).1)
          have R2 : Hd (_ ∧ _) := ⟨hown1, hb5⟩
          clear hv hown1 hgrow1 hat1 hb5 hb4 hcell E1
          go_wp2
          go_roundw
          case rel => exact ⟨k + 1, by omega, by go_num, R2.out⟩
          case measure => simp [intOf]; omega
        · obtain rfl : k = m := by omega
          obtain ⟨a3, k3, rfl, -, r3⟩ := row_owned hv
          have r1 := R.out.1.carry hb4
          have r2 := R.out.2.1.carry hb4
          have B2 : Hd (Below w.heap.size w wr) := ⟨R.out.2.2.2.trans (hb4.mono R.out.2.2.2.size)⟩
          clear hv hb4 HD2
          by_cases z : refI total j j k (mns G) (mxs G) (sms d) = 0
          · obtain ⟨-, rfl, hf⟩ := refI_zero z
            have S := ref_yes total _ _ _ j k1 k2 k3 _ _ _ wr r1 r2 r3 R.out.2.2.1 hf
            have HF : Hd (Fits total j (mns G) (mxs G) (sms d)) := ⟨hf⟩
            clear r1 r2 r3 z hf R
            go_wp2_with fail
            go_at_call 16
            refine S.mono ?_
            rintro e w3 ⟨h, c, rfl, o4, b4⟩
            go_wp2_with fail
            go_ret2
            exact ⟨.inl ⟨rfl, HF.out, _, _, rfl, o4⟩, B2.out.trans (b4.mono B2.out.size)⟩
          · have z' : (refI total j j k (mns G) (mxs G) (sms d) == 0) = false := by simpa using z
            have S := ref_no total _ _ _ j j k k1 k2 k3 _ _ _ wr r1 r2 r3 z'
            have HZ : Hd ((refI total j j k (mns G) (mxs G) (sms d) == 0) = false) := ⟨z'⟩
            clear r1 r2 r3 z z' R
            go_wp2_with fail
            go_at_call 16
            refine S.mono ?_
            rintro e w3 ⟨rfl, b4⟩
            go_wp2_with fail
            go_ret2
            exact ⟨.inr ⟨HZ.out, rfl⟩, B2.out.trans (b4.mono B2.out.size)⟩
end Go.Proofs.Ytcombbkhdnipkaa
